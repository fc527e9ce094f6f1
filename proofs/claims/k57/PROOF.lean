import PyProof.Rows.All
import Wide.All
import OpenK.AllK
import Wide.FinOn
import Lean
import PyProof.EqAt
import PyProof.EqKinds
import PyProof.TupleCall
import PyProof.ZipIter
import PyProof.Rows.SetFrom
import PyProof.Rows.SortStr
import KE.KDictList
import PyProof.AttrMissHeap
import KE.KDictOf
import KE.KDictLaws
import KE.KRevIter
import PyProof.CollectIter
import PyProof.FactsAll.range_2
import PyProof.FactsAll.range_iterator_1
import PyProof.WalksEnum
import PyProof.EnumMake
import PyProof.Rows.Range3
import PySem.Challenge.RW_slackchain_k57_whole_none_is_fairer
set_option Elab.async false
set_option linter.all false
set_option maxRecDepth 100000
open List (mem_filter mem_cons_self mem_cons_of_mem mem_cons mem_append mem_append_right length_cons map_cons length_map append_nil nodup_cons length_take length_append size_toArray any_cons length_singleton map_nil cons_append length_nil not_mem_nil mem_singleton mem_map take_zero take_succ take_of_length_le map_append mem_flatMap nodup_append mem_of_mem_take nil_append filter_append map_map drop_eq_nil_of_le length_filter_le)
local macro_rules(kind:=Lean.Parser.Command.declaration)|s=>do
  let m:=s[0]
  if m.getArgs.all (·.getNumArgs==0)&&(s[1].isOfKind `Lean.Parser.Command.definition||s[1].isOfKind `Lean.Parser.Command.abbrev)&&s.getHeadInfo matches .original .. then return s.setArg 0 (m.setArg 4 (Lean.mkNullNode #[Lean.mkNode `Lean.Parser.Command.noncomputable #[Lean.mkAtom "noncomputable"]])) else Lean.Macro.throwUnsupported
local macro_rules(kind:=Lean.Parser.Tactic.tacticLet__)|s=>do
  let m x:=Lean.mkNode `Lean.Parser.Tactic.rcasesPatMed #[Lean.mkNullNode #[x]]
  let g(r:Lean.Syntax->Lean.Syntax)(x:Lean.Syntax):Lean.Syntax:=if x.isIdent then Lean.mkNode `Lean.Parser.Tactic.rcasesPat.one #[x] else if x.isOfKind `Lean.Parser.Term.tuple then Lean.mkNode `Lean.Parser.Tactic.rcasesPat.tuple #[Lean.mkAtom "⟨",Lean.mkNullNode ((#[x[1][0],x[1][1]]++x[1][2].getArgs).map λy=>if y.isAtom then y else Lean.mkNode `Lean.Parser.Tactic.rcasesPatLo #[m (r y),Lean.mkNullNode]),Lean.mkAtom "⟩"] else Lean.mkNode `Lean.Parser.Tactic.rcasesPat.ignore #[x[0]]
  let d:=s[2][0]
  if !d[0].isOfKind `Lean.Parser.Term.tuple then Lean.Macro.throwUnsupported
  let h p v:Lean.TSyntax `tactic:=⟨Lean.mkNode `Lean.Parser.Tactic.obtain #[Lean.mkAtom "obtain",Lean.mkNullNode #[m (g (g (g (g id))) p)],Lean.mkNullNode,Lean.mkNullNode #[Lean.mkAtom ":=",Lean.mkNullNode #[v]]]⟩
  let o:=h d[0] d[4]
  let e:Array Lean.Term:=((#[d[0][1][0]]++d[0][1][2].getArgs).filter (!·.isAtom)).map (⟨·⟩)
  let i(x:Lean.Term):=x.raw.isIdent&&x.raw.getId != `rfl||x.raw.isOfKind `Lean.Parser.Term.hole
  let w:=(e.takeWhile i).size
  if e.size<4 then return o
  let f(c:Lean.Name)(k:Nat):Lean.MacroM (Lean.TSyntax `tactic):=do
    if w<k&&k != 1||e.size<=k||e.size==k+1&&w<=k then return<-`(tactic|fail)
    let mut b:=e.extract 0 k
    let mut u:Lean.TSyntax `tactic<-`(tactic|skip)
    if w==0 then
      let x<-`(x)
      u:=h b[0]! x
      b:=#[x]
    let(r,t):Lean.Term×Lean.TSyntax `tactic<-if e.size==k+1 then pure (e[k]!,<-`(tactic|skip)) else pure (<-`(r),<-`(tactic|let ($(e[k]!),$(e.extract (k+1) e.size),*):=r))
    let v:Lean.Term:=⟨d[4]⟩
    if v.raw.isIdent then `(tactic|(revert $(⟨v.raw⟩):ident;refine fun q=>$(Lean.mkIdent c) q fun $b* $r=>?_;clear q;$u;$t)) else `(tactic|(refine $(Lean.mkIdent c) $v fun $b* $r=>?_;$u;$t))
  `(tactic|first|($(<-f `L2.ex6 6):tactic)|($(<-f `L2.an6 6):tactic)|($(<-f `L2.ex3 3):tactic)|($(<-f `L2.an3 3):tactic)|($(<-f `Exists.elim 1):tactic)|($(<-f `L2.an1 1):tactic)|($o:tactic))
local macro_rules|`(tactic|show $t:term)=>do
  let x:=t.raw
  if !x.isOfKind `Lean.Parser.Term.tuple then return<-`(tactic|first|refine $t|change $t)
  let a:=#[x[1][0],x[1][1]]++x[1][2].getArgs
  let c(a:Array Lean.Syntax):Lean.Term:=⟨Lean.mkNode `Lean.Parser.Term.anonymousCtor #[Lean.mkAtom "⟨",Lean.mkNullNode a,Lean.mkAtom "⟩"]⟩
  let f(n:Lean.Name)(k:Nat):Lean.MacroM (Lean.TSyntax `tactic):=if a.size<2*k+1 then `(tactic|fail) else
    let e:Array Lean.Term:=((Array.range k).map λi=>⟨a[2*i]!⟩).push (if a.size==2*k+1 then ⟨a[2*k]!⟩ else c (a.extract (2*k) a.size))
    `(tactic|refine $(Lean.mkIdent n) $e*)
  if a.size<6 then `(tactic|first|refine $(c a)|change $t) else `(tactic|first|($(<-f `L2.xi6 6):tactic)|($(<-f `L2.xi3 3):tactic)|refine $(c a)|change $t)
local macro_rules|`(tactic|ac_nf)=>`(tactic|first|lia|omega)
local macro_rules|`(⋯)=>`(by decide)
local macro_rules|`(∅)=>`(by ac_nf)
local macro_rules|`(tactic|subst_eqs)=>`(tactic|(intro _ _ _ _ h;(repeat obtain ⟨_,h⟩:=h);subst_vars;rfl))
local macro_rules|`(tactic|decreasing_tactic)=>`(tactic|first|exact $(Lean.mkIdent `L2.Jae) rfl|rfl|exact .inl rfl|exact .inr rfl|exact .inr (.inl rfl)|exact .inr (.inr rfl)|exact fun _=>rfl|exact fun _ _=>rfl|assumption|decide)
namespace L2
theorem xi3{α β γ:Sort _}{p:α->β->γ->Prop}(a b c)(h:p a b c):∃ a b c,p a b c:=⟨a,b,c,h⟩
theorem xi6{α β γ δ ε ζ:Sort _}{p:α->β->γ->δ->ε->ζ->Prop}(a b c d e f)(h:p a b c d e f):∃ a b c d e f,p a b c d e f:=⟨a,b,c,d,e,f,h⟩
theorem Au0(_:True:=by decreasing_tactic):True:=⟨⟩
@[reducible]def Au:=Au0._auto_1
theorem ex3{α β γ:Sort _}{p:α->β->γ->Prop}{r:Prop}:(∃ a b c,p a b c)->(∀ a b c,p a b c->r)->r:=λ⟨a,b,c,h⟩ k=>k a b c h
theorem ex6{α β γ δ ε ζ:Sort _}{p:α->β->γ->δ->ε->ζ->Prop}{r:Prop}:(∃ a b c d e f,p a b c d e f)->(∀ a b c d e f,p a b c d e f->r)->r:=λ⟨a,b,c,d,e,f,h⟩ k=>k a b c d e f h
theorem an1{a b r:Prop}(h:a/\b)(k:a->b->r):r:=k h.1 h.2
theorem an3{a b c d r:Prop}:a/\b/\c/\d->(a->b->c->d->r)->r:=λh k=>k h.1 h.2.1 h.2.2.1 h.2.2.2
theorem an6{a b c d e f g r:Prop}:a/\b/\c/\d/\e/\f/\g->(a->b->c->d->e->f->g->r)->r:=λh k=>an3 h λx y z h=>an3 h (k x y z)
open PySem PySem.Spec PyProof.Rows
abbrev Key:=Sum Bool Str
def isBoolOf:Bool->Value->Bool
 | b, .bool c=>b == c
 | _,_=>false
variable{b:Bool}
theorem JeR{v:Value}(h:isBoolOf b v=true):v=.bool b:=by
 cases v <;> simp_all [isBoolOf]
def keyIs:Key->Value->Bool
 | .inl k,v=>isBoolOf k v
 | .inr x,v=>Value.isStrOf x v
def keyH(w:World):Key->Int
 | .inl k=>hashInt (if k then 1 else 0)
 | .inr x=>hashStr w x
theorem JaT:∀{k:Key}{v:Value},keyIs k v=true->(∃ i,k=Sum.inl i/\v=Value.bool i)\/(∃ x t,k=Sum.inr x/\v=Value.str x t)
 | .inl i,v,h=>.inl ⟨i,rfl,JeR h⟩
 | .inr x,v,h=>by
  let(t,e):=Value.isStrOf_shape (x:=x) (v:=v) h;show .inr ⟨x,t,rfl,e⟩
theorem Jh1(i:Bool):keyIs (.inl i) (.bool i)=true:=by simp[keyIs,isBoolOf]
theorem JiO(x:Str)(t:Tok):keyIs (.inr x) (.str x t)=true:=by simp[keyIs,Value.isStrOf]
theorem Jmh(a b:Bool):decide ((Sum.inl a:Key)=Sum.inl b)=(a == b):=by cases a <;> cases b <;> rfl
theorem Jmk(a b:Str):decide ((Sum.inr a:Key)=Sum.inr b)=decide (a=b):=by
 by_cases e:a=b
 .subst e;simp
 .have h:¬(Sum.inr a:Key)=Sum.inr b:=λq=>e (Sum.inr.inj q);rw[decide_eq_false h,decide_eq_false e]
theorem Jmi(a:Bool)(b:Str):decide ((Sum.inl a:Key)=Sum.inr b)=false:=decide_eq_false (λq=>nomatch q)
theorem Jmj(a:Str)(b:Bool):decide ((Sum.inr a:Key)=Sum.inl b)=false:=decide_eq_false (λq=>nomatch q)
variable{prog:Program}{A:Around}{E:Value->Shared->Prop}
theorem Jg8{w:World}{s:Shared}{Q:Int->Shared->Prop}(h:Q (hashInt (if b then 1 else 0)) { s with toks:=s.toks+1 }) :
  wpAny (model prog w) A (pyHash (.bool b)) Q E s:=by
 have c:=rawHash_range (if b then 1 else 0);have a:s.TypeIs (.bool b) "bool":=rfl;unfold pyHash;have d:[Value.bool b].any Value.onHeap=false:=rfl;show wpAny_bind ?_;rw[cRoomFor,if_neg (by rw[d];show Bool.false_ne_true)];show wpAny_pure ?_;show wpAny_bind (wpAny_specialOf a F.slot_bool_hash.lookup ?_);show wpAny _ _ (if(some (Value.builtin "int.__hash__") == some Value.none)=true then _ else _) Q E s;rw[if_neg (by rw[beq_builtin_none];show Bool.false_ne_true)];show wpAny_bind (wpAny_specialOf a F.slot_bool_hash.lookup ?_);show wpAny _ _ (callSpecialIfBoundUnlessNone? (.bool b) "__hash__" _ >>= _) Q E s;show wpAny_bind (wpAny_callSpecialIfBoundUnlessNone?_slot a F.slot_bool_hash
  (wpAny_call_entry F.slot_bool_hash a entry_int_hash
   (show wpAny _ _ (do ret (<- mkInt (rawHash (if b then 1 else 0)))) _ _ s from wpAny_ret_mkInt ?_) (args_int_hash _)))
 show wpAny _ _ (if(decide (-(2:Int) ^ 63<=rawHash (if b then 1 else 0))&&decide (rawHash (if b then 1 else 0)<2 ^ 63))=true then _ else _) Q E _;rw[if_pos (by rw[decide_eq_true c.1,decide_eq_true c.2];rfl)];show wpAny_pure h
def Jax(prog:Program)(w:World):PySem.KeyKind prog w Key where
 is:=keyIs
 hash:=keyH w
 inj:=λv a b ha hb=>by
  rcases JaT ha with⟨i,rfl,rfl⟩ | ⟨x,t,rfl,rfl⟩
  .rcases JaT hb with⟨j,rfl,e⟩ | ⟨y,u,rfl,e⟩
   .injection e with e1;rw[e1]
   .show nomatch e
  .rcases JaT hb with⟨j,rfl,e⟩ | ⟨y,u,rfl,e⟩
   .show nomatch e
   .injection e with e1 _;rw[e1]
 byValue:=λk v h=>by
  rcases JaT h with⟨i,rfl,rfl⟩ | ⟨x,t,rfl,rfl⟩ <;> rfl
 pyHash:=λhv h=>by
  rcases JaT hv with⟨i,rfl,rfl⟩ | ⟨x,t,rfl,rfl⟩
  .show Jg8 h
  .show wpAny_pyHash_str h
 eqBool:=λhu hv h=>by
  rcases JaT hu with⟨i,rfl,rfl⟩ | ⟨x,t,rfl,rfl⟩
  .rcases JaT hv with⟨j,rfl,rfl⟩ | ⟨y,u,rfl,rfl⟩
   .rw[Jmh]at h;show SeqAt.EqAt.bool_bool i j _ _ _ _ h
   .rw[Jmi]at h;show SeqAt.EqAt.bool_str i y u _ _ _ _ h
  .rcases JaT hv with⟨j,rfl,rfl⟩ | ⟨y,u,rfl,rfl⟩
   .rw[Jmj]at h;show SeqAt.EqAt.str_bool x t j _ _ _ _ h
   .rw[Jmk]at h;show wpAny_eqBool_str h
 «strs»:=λk x t v h=>by
  rcases JaT h with⟨i,rfl,e⟩ | ⟨y,u,rfl,e⟩
  .show nomatch e
  .injection e with e1 _
   subst e1;cases v <;> rfl
theorem Jgd(prog:Program)(w:World)(i:Bool):(Jax prog w).is (.inl i) (.bool i)=true:=Jh1 i
theorem JgO(prog:Program)(w:World)(x:Str)(t:Tok):(Jax prog w).is (.inr x) (.str x t)=true:=JiO x t
inductive V where
 | non | bl (b:Bool) | int (i:Int) | str (x:Str) | byt (b:Array UInt8) | flt (b:UInt64) | ref (a:Addr) | ty (n:String)
 deriving DecidableEq
def RelV:V->Value->Prop
 | .non,u=>u=Value.none
 | .bl b,u=>u=Value.bool b
 | .int i,u=>∃ t,u=Value.int i t
 | .str x,u=>∃ t,u=Value.str x t
 | .byt b,u=>∃ t,u=Value.bytes b t
 | .flt b,u=>∃ t,u=Value.float b t
 | .ref a,u=>u=Value.ref a
 | .ty n,u=>u=Value.type n
abbrev Vals:List V->List Value->Prop:=Paired RelV
variable{xs:List V}{us:List Value}
theorem Vals.length(r:Vals xs us):xs.length=us.length:=Paired.length r
theorem Vals.get{i:Nat}{x:V}(h:Vals xs us):xs[i]?=some x->∃ u,us[i]?=some u/\RelV x u:=by
 induction h generalizing i with
 | nil=>showλe=>by cases e
 | cons r _ ih=>
  cases i with
  | zero=>showλe=>by cases e;show(_,rfl,r)
  | succ i=>showλe=>ih e
variable{ys:List V}
theorem Vals.append{ws:List Value}(h:Vals xs us)(s:Vals ys ws):Vals (xs++ys) (us++ws):=by
 induction h with
 | nil=>show s
 | cons r _ ih=>show .cons r ih
theorem Vals.take(n:Nat)(h:Vals xs us):Vals (xs.take n) (us.take n):=by
 induction h generalizing n with
 | nil=>cases n <;> show .nil
 | cons r _ ih=>
  cases n with
  | zero=>show .nil
  | succ n=>show .cons r (ih n)
theorem Vals.drop:∀{xs:List V}{us:List Value}(n:Nat),Vals xs us->Vals (xs.drop n) (us.drop n)
 | _,_,0,r=>r
 | _,_,_+1, .nil=>.nil
 | _,_,n+1, .cons _ t=>Vals.drop n t
def RelO:Option V->Option Value->Prop
 | some v,some u=>RelV v u
 | none,none=>True
 | _,_=>False
def KV{κ:Type}:List (κ × V)->List (κ × Value)->Prop:=Paired λ(p : κ × V)(q : κ × Value)=>p.1=q.1/\RelV p.2 q.2
def kV:Key->V
 | .inl i=>.bl i
 | .inr x=>.str x
inductive HO where
 | lst (xs:List V)
 | tup (xs:List V)
 | dK (kvs:List (Key × V)) | dT (kvs:List (List Key × V))
 | set (S:Int->Bool) (n:Nat)
 | ins (C dx:Addr) (fs:List (Str × V))
 | own (x:Addr)
 | xd (fs:List (Str × V))
 | met (f x:Addr)
 | rng (lo hi:Int)
 | frz (o:Obj) (u:HO)
 | tbl (ps:Array Value)
 | ext (φ : Heap->Prop)
abbrev Hp:=Addr->Option HO
def upd(H:Hp)(a:Addr)(o:HO):Hp:=λb=>if b=a then some o else H b
variable{H:Hp}{a:Addr}{o:HO}
theorem Jam:upd H a o a=some o:=by unfold upd;rw[if_pos rfl]
variable{b:Addr}
theorem Jai(h:b≠a):upd H a o b=H b:=by unfold upd;rw[if_neg h]
variable{u:HO}
theorem ne_of(h:H a=some o)(h':H b=some u)(d:o≠u):a≠b:=by
 intro e;subst e;rw[h]at h';show d (Option.some.inj h')
theorem Jah(h:H a=some o)(h':H b=none):a≠b:=by
 intro e;subst e;rw[h]at h';cases h'
section
variable(P:Program)(w:World)
def ObjOk(H:Hp)(h:Heap)(a:Addr):HO->Prop
 | .lst xs=>xs.length<=sizeLine/\∃(its:List Value)(n:Nat),Vals xs its/\h.get? a=some { cls:=.type "list",data:=.seq its.toArray n }
 | .tup xs=>xs.length<=sizeLine/\∃ its:List Value,Vals xs its/\IsTup h a its.toArray
 | .dK kvs=>kvs.length<=sizeLine/\(a == sysModules)=false/\∃ vs,KV kvs vs/\h.DictOf (Jax P w) a vs
 | .dT kvs=>kvs.length<=sizeLine/\(a == sysModules)=false/\∃ xs:List (List Key × Addr × Value),
   Paired (λ(p:List Key × V)(q:List Key × Addr × Value)=>p.1=q.1/\H q.2.1=some (.tup (p.1.map kV))/\RelV p.2 q.2.2) kvs xs /\
   ∃ o es ep,h.get? a=some o/\o.ExactDict/\o.data=.dict es ep/\es.toList=xs.map (entryOfKey (tupleKind (Jax P w)))/\(xs.map (·.1)).Nodup
 | .set S n=>h.SetOf (intKind P w) a S n
 | .ins C dx fs=>H dx=some (.own a)/\fs.length<=1000/\dx≠a/\h.get? a=some (W.instObj C dx) /\
   ∃ mA,h.Ns1 dx mA/\(∀ f,RelO (fs.lookup f) (mA f))/\PySem.Within mA (fs.map (·.1))
 | .own _=>∃ o,h.get? a=some o
 | .xd fs=>∃ mA,h.Ns1 a mA/\∀ f,RelO (fs.lookup f) (mA f)
 | .rng lo hi=>∃ t u v,h.get? a=some { cls:=.type "range",data:=.fields #[.int lo t, .int hi u, .int 1 v] }
 | .frz o u=>h.get? a=some o/\ObjOk H h a u
 | .tbl ps=>h.get? a=some { cls:=.none,data:=.fields ps }
 | .met f x=>h.get? a=some (W.methodObj (.ref f) (.ref x))
 | .ext φ=>φ h/\(∃ o,h.get? a=some o)/\∀ h1 h2:Heap,φ h1->(∀ o,h1.get? a=some o->h2.get? a=some o)->φ h2
def HOk(H:Hp)(h:Heap):Prop:=∀ a o,H a=some o->ObjOk P w H h a o
end
section
variable{P:Program}{H':Hp}{h h':Heap}{w:World}
theorem ObjOk.lt(x:ObjOk P w H h a o):a<h.objs.size:=by
 cases o with
 | lst xs=>let(_,_,_,_,e):=x;show Heap.lt_size e
 | tup xs=>let(_,_,_,p):=x;show p.lt
 | dK kvs=>let(_,_,_,_,o,_,_,e,_):=x;show Heap.lt_size e
 | dT kvs=>let(_,_,_,_,o,_,_,e,_):=x;show Heap.lt_size e
 | set S n=>let(o,_,_,_,e,_):=x;show Heap.lt_size e
 | ins C dx fs=>let(_,_,_,e,_):=x;show Heap.lt_size e
 | own y=>let(_,e):=x;show Heap.lt_size e
 | xd fs=>let(_,(_,_,_,e,_),_):=x;show Heap.lt_size e
 | rng lo hi=>let(_,_,_,e):=x;show Heap.lt_size e
 | frz ob u=>let(e,_):=x;show Heap.lt_size e
 | tbl ps=>show Heap.lt_size (show h.get? a=some _ from x)
 | met f y=>show Heap.lt_size (show h.get? a=some _ from x)
 | ext φ=>let(_,(_,e),_):=x;show Heap.lt_size e
variable{α:Type}
theorem Paired.mapP{β:Type}{F G : α->β->Prop}{l₁ : List α}{l₂ : List β}(h:Paired F l₁ l₂)(f:∀ a b,F a b->G a b):Paired G l₁ l₂:=by
 induction h with
 | nil=>show .nil
 | cons r _ ih=>show .cons (f _ _ r) ih
theorem ObjOk.stay(x:ObjOk P w H h a o)(k:∀ b u,(b=a\/H b=some (.own a))->h.get? b=some u->h'.get? b=some u)
  (ho:∀ b,H b=some (.own a)->H' b=some (.own a)) (ht:∀ b xs,H b=some (.tup xs)->H' b=some (.tup xs)):ObjOk P w H' h' a o:=by
 induction o with
 | lst xs=>let(z,l,n,r,e):=x;show(z,l,n,r,k _ _ (.inl rfl) e)
 | tup xs=>let(z,l,r,g,e,c):=x;show(z,l,r,g,k _ _ (.inl rfl) e,c)
 | dK kvs=>let(z,y,B,r,g,i,j,e,c):=x;show(z,y,B,r,g,i,j,k _ _ (.inl rfl) e,c)
 | dT kvs=>
  let(z,y,xs,r,g,i,j,e,c):=x;show(z,y,xs,Paired.mapP r λp q z=>⟨z.1,ht _ _ z.2.1,z.2.2⟩,g,i,j,k _ _ (.inl rfl) e,c)
 | set S n=>let(g,i,j,t,e,c):=x;show(g,i,j,t,k _ _ (.inl rfl) e,c)
 | ins C dx fs=>
  let(d,z,E,e,s,(m,i,j,D,c),r):=x;show(ho _ d,z,E,k _ _ (.inl rfl) e,s,⟨m,i,j,k _ _ (.inr d) D,c⟩,r)
 | own y=>let(g,e):=x;show(g,k _ _ (.inl rfl) e)
 | xd fs=>let(s,(m,i,j,e,c),r):=x;show(s,⟨m,i,j,k _ _ (.inl rfl) e,c⟩,r)
 | rng lo hi=>let(t,u,v,e):=x;show(t,u,v,k _ _ (.inl rfl) e)
 | frz g u ih=>let(e,q):=x;show(k _ _ (.inl rfl) e,ih q)
 | tbl ps=>
  have e:h.get? a=some { cls:=.none,data:=.fields ps }:=x;show h'.get? a=some { cls:=.none,data:=.fields ps };show k a _ (.inl rfl) e
 | met f y=>
  have e:h.get? a=some (W.methodObj (.ref f) (.ref y)):=x;show h'.get? a=some (W.methodObj (.ref f) (.ref y));show k a _ (.inl rfl) e
 | ext φ=>let(p,(o,e),A):=x;show(A _ _ p λo q=>k _ _ (.inl rfl) q,⟨o,k _ _ (.inl rfl) e⟩,A)
theorem HOk.lt(x:HOk P w H h)(e:H a=some o):a<h.objs.size:=(x a o e).lt
theorem HOk.fresh(x:HOk P w H h)(e:h.objs.size<=a):H a=none:=by
 cases q:H a with
 | none=>rfl
 | some u=>show absurd (Nat.lt_of_lt_of_le (x.lt q) e) (Nat.lt_irrefl _)
theorem HOk.kept(x:HOk P w H h)(k:∀ b u,h.get? b=some u->h'.get? b=some u):HOk P w H h':=λa o e=>
 (x a o e).stay (λb u _ q=>k b u q) (λ_ q=>q) λ_ _ q=>q
theorem HOk.laid(x:HOk P w H h)(k:∀ b u,h.get? b=some u->h'.get? b=some u)(hp:h.objs.size<=a)(new:ObjOk P w (upd H a o) h' a o):HOk P w (upd H a o) h':=λb u e=>by
 have f:=x.fresh hp;by_cases d:b=a
 .subst d;rw[Jam]at e;cases e;show new
 .rw[Jai d]at e;show(x b u e).stay (λc v _ q=>k c v q) (λc q=>by rw[Jai (Jah q f)];show q) λc g q=>by rw[Jai (Jah q f)];show q
end
def Rd(H:Hp)(a:Addr)(u:HO):Prop:=H a=some u\/∃ o,H a=some (.frz o u)
variable{P:Program}{h:Heap}
theorem Rd.ok{w:World}(r:Rd H a u)(x:HOk P w H h):ObjOk P w H h a u:=by
 rcases r with r | ⟨o,r⟩
 .show x a u r
 .let(_,q):=x a _ r;show q
def Mut:Option HO->Prop
 | some (.lst _)=>True
 | some (.dK _)=>True
 | some (.dT _)=>True
 | some (.set _ _)=>True
 | some (.ins _ _ _)=>True
 | some (.ext _)=>True
 | _=>False
section
variable{h':Heap}{x e:Addr}{o':HO}{w:World}
theorem HOk.write(ok:HOk P w H h)(mu:Mut (H x))(he:e=x\/H e=some (.own x))(k:∀ b u,b≠e->h.get? b=some u->h'.get? b=some u)(heo:∃ u,h'.get? e=some u)
  (new:ObjOk P w (upd H x o') h' x o'):HOk P w (upd H x o') h':=λb u q=>by
 have d:∀ c y,H c=some (.own y)->c≠x:=λc y r z=>by subst z;rw[r]at mu;show mu
 have f:∀ c g,H c=some (.tup g)->c≠x:=λc g r z=>by subst z;rw[r]at mu;show mu
 by_cases i:b=x
 .subst i;rw[Jam]at q;cases q;show new
 .rw[Jai i]at q;by_cases a:b=e
  .have l:H b=some (.own x):=by
    rcases he with z | z
    .show absurd (a.trans z) i
    .rw[a];show z
   rw[q]at l;cases l;let(v,m):=heo;show(v,by rw[a];show m)
  .show(ok b u q).stay (λc v j r=>k c v ?_ r) (λc r=>by rw[Jai (d c b r)];show r) λc g r=>by rw[Jai (f c g r)];show r
   rcases j with rfl | j
   .show a
   .rintro rfl;rcases he with z | z
    .show d c b j z
    .rw[j]at z;cases z;show i rfl
end
structure Un(fs ex:List Addr)(H H':Hp)(h h':Heap):Prop where
 keep:∀ b o,h.get? b=some o->H b=none->b∉fs->b∉ex->h'.get? b=some o
 slot:∀ b o,h.get? b=some o->H b=none->b∈fs->b∉ex->∃ sl,h'.get? b=some { o with slots:=sl }
 free:∀ b o,h.get? b=some o->H b=none->b∉ex->H' b=none
 there:∀ b o,h.get? b=some o->b∉ex->∃ o',h'.get? b=some o'
 tups:∀ b xs,H b=some (.tup xs)->H' b=some (.tup xs)
 frzs:∀ b o u,H b=some (.frz o u)->H' b=some (.frz o u)
 tbls:∀ b ps,H b=some (.tbl ps)->∃ more,H' b=some (.tbl (ps++more))
section
variable{fs' ex ex':List Addr}{H1 H2:Hp}{h1 h2 h':Heap}{x e:Addr}{fs:List Addr}
theorem Un.any(u:Un fs ex H H1 h h1){b:Addr}{ob:Obj}(q:h.get? b=some ob)(n:H b=none)(hx:b∉ex):∃ sl,h1.get? b=some { ob with slots:=sl }:=by
 by_cases a:b∈fs
 .show u.slot b ob q n a hx
 .show(ob.slots,u.keep b ob q n a hx)
theorem Un.kept(k:∀ b u,h.get? b=some u->h'.get? b=some u):Un fs ex H H h h' :=
 ⟨λb a q _ _ _=>k b a q,λb a q _ _ _=>⟨a.slots,k b a q⟩,λ_ _ _ n _=>n,λb a q _=>⟨a,k b a q⟩,λ_ _ q=>q,λ_ _ _ q=>q,λ_ c q=>⟨#[],by rw[q];simp⟩⟩
theorem Un.refl:Un fs ex H H h h:=Un.kept λ_ _ q=>q
theorem Un.laid(k:∀ b u,h.get? b=some u->h'.get? b=some u)(hp:h.objs.size<=a)(hn:H a=none):Un fs ex H (upd H a o) h h' where
 keep:=λb u q _ _ _=>k b u q
 slot:=λb u q _ _ _=>⟨u.slots,k b u q⟩
 free:=λb u q n _=>by rw[Jai (Nat.ne_of_lt (Nat.lt_of_lt_of_le (Heap.lt_size q) hp))];show n
 there:=λb u q _=>⟨u,k b u q⟩
 tups:=λb c q=>by rw[Jai (Jah q hn)];show q
 frzs:=λb u c q=>by rw[Jai (Jah q hn)];show q
 tbls:=λb d q=>⟨#[],by rw[Jai (Jah q hn),q];simp⟩
theorem Un.write(mu:Mut (H x))(he:e=x\/H e=some (.own x))(k:∀ b u,b≠e->h.get? b=some u->h'.get? b=some u)(heo:∃ u,h'.get? e=some u):Un fs ex H (upd H x o) h h':=by
 have f:∀ b,H b=none->b≠x:=λb n z=>by subst z;rw[n]at mu;show mu
 have d:∀ b,H b=none->b≠e:=λb n z=>by
  subst z;rcases he with r | r
  .show f b n r
  .rw[n]at r;cases r
 have c:∀ b u,H b=some u->¬ Mut (some u)->b≠x:=λb u q i z=>by subst z;rw[q]at mu;show i mu
 show(λb u q n _ _=>k b u (d b n) q,λb u q n _ _=>⟨u.slots,k b u (d b n) q⟩,λb u q n _=>by rw[Jai (f b n)];show n,λb u q _=>?_,
  λb g q=>by rw[Jai (c b _ q λz=>z)];show q,λb u g q=>by rw[Jai (c b _ q λz=>z)];show q,λb j q=>⟨#[],by rw[Jai (c b _ q λz=>z),q];simp⟩)
 by_cases a:b=e
 .subst a;show heo
 .show(u,k b u a q)
end
def trk(h:Heap)(H:Hp):List Addr:=(List.range h.objs.size).filter λa=>(H a).isSome
def hidT(h:Heap)(H:Hp):Heap:=W.hideAll h (trk h H)
theorem JiM(h:Heap)(H:Hp):(hidT h H).objs.size=h.objs.size:=W.hideAll_size _ _
variable{o:Obj}
theorem JjR(e:h.get? b=some o)(n:H b=none):(hidT h H).get? b=some o :=
 W.hideAll_get _ e λa=>by
  have q:(H b).isSome=true:=(mem_filter.mp a).2;rw[n]at q;simp at q
theorem JlC(e:(hidT h H).get? b=some o):h.get? b=some o/\H b=none:=by
 have a:h.get? b=some o:=W.of_hideAll (trk h H) e;show(a,?_);cases q:H b with
 | none=>rfl
 | some x=>
  have c:b∈trk h H:=mem_filter.mpr ⟨List.mem_range.mpr (Heap.lt_size a),by simp[q]⟩;have z:(hidT h H).get? b=none:=W.hideAll_none (trk h H) c;rw[z]at e;cases e
def Jk8(g h:Heap)(L:Addr):List (Addr × Obj):=(List.range h.objs.size).filterMap λa=>if a=L\/(g.get? a).isSome=true then none else(h.get? a).map λo=>(a,o)
def rest(g h:Heap)(L d:Addr):List (Addr × Obj):=(Jk8 g h L).filter λp=>decide (p.1≠d)
structure Mod(K:W.Frag)(mg:Str->Option Value)(base:Heap):Prop where
 kin:K.In base
 glob:base.Ns mainGlobals mg
 blt:∃ mb,base.Ns builtinsNs mb/\∀ x:Str,x≠"__name__"->mb x=bootBuiltins x
 nolimit:base.NoLimit
set_option genInjectivity false in
structure Cx where
 prog:Program
 w:World
 K:W.Frag
 mg:Str->Option Value
 base:Heap
 A:Around
 N:List Str
 s₀ : Shared
 H₀ : Hp
 env:Env
 outer:List Env
 stack:List Env
 ex:List Addr
 fn:Str->Bool
 calm:Bool
 pn:List (Addr × Obj)
 xe:Value->Shared->Prop
def frs(l:List Env):List Addr:=l.filterMap (·.frame)
abbrev Cx.fs(X:Cx):List Addr:=frs X.outer
def Vis(sc:Scope)(x:Str):Prop:=sc.names.lookup x=some .local\/sc.names.lookup x=some .cell\/sc.names.lookup x=some .free
def Loc(sc:Scope)(x:Str):Prop:=sc.names.lookup x=some .local\/sc.names.lookup x=some .cell
def Look(env:Env)(h:Heap)(m:Str->Option Value)(x:Str)(u:Value):Prop :=
 (env.kindOf x=some .local/\m x=some u)\/((env.kindOf x=some .cell\/env.kindOf x=some .free)/\∃ c,env.cells.lookup x=some c/\h.IsCell c (some u))
structure Cx.Ok(X:Cx):Prop where
 mod:Mod X.K X.mg X.base
 kind:X.env.scope.kind=.function
 glob:X.env.globals=mainGlobals
 blt:X.env.builtins=builtinsNs
 above:X.s₀.heap.objs.size<=X.env.locals
 inj:∀ x y c,X.env.cells.lookup x=some c->X.env.cells.lookup y=some c->x=y
 has:∀ x,(X.env.kindOf x=some .cell\/X.env.kindOf x=some .free)->∃ c,X.env.cells.lookup x=some c
 cab:∀ x c,X.fn x=true->X.env.cells.lookup x=some c->X.s₀.heap.objs.size<=c
 hd:X.calm=true->X.A.handled=none
 frames:X.A.frames=some X.stack
 stk:X.stack=X.outer\/(X.stack=X.env::X.outer/\X.env.frame=some X.env.locals)
 exf:∀ b∈X.ex,b≠X.env.locals/\∀ x c,X.env.cells.lookup x=some c->c≠b
 bs:∀ b o,X.base.get? b=some o->X.s₀.heap.get? b=some o/\X.H₀ b=none
 bsz:X.base.objs.size<=X.s₀.heap.objs.size
 noex:∀ b o,X.base.get? b=some o->b∉X.ex
 exfs:∀ b∈X.ex,b∉X.fs
 funs:X.s₀.heap.FunFrames X.base X.outer
 frf:∀ b∈X.fs,X.H₀ b=none
structure Inv(X:Cx)(pins:List (Addr × Obj))(σ : List (Option V))(H:Hp)(s:Shared):Prop where
 ok:X.Ok
 os:s.os=X.s₀.os
 bare:AllBare s.gens
 base:Un X.fs X.ex X.H₀ H X.s₀.heap s.heap
 loc:∃ m,s.heap.Ns X.env.locals m/\∀(i:Nat)(x:Str)(v:V),X.N[i]?=some x->σ[i]?=some (some v)->Vis X.env.scope x->∃ u,RelV v u/\Look X.env s.heap m x u
 cell:∀ x c,X.env.cells.lookup x=some c->∃ v,s.heap.IsCell c v
 free:H X.env.locals=none
 freeC:∀ x c,X.env.cells.lookup x=some c->H c=none
 pin:∀ p∈X.pn++pins,s.heap.get? p.1=some p.2/\H p.1=none/\p.1≠X.env.locals/\p.1∉X.fs/\∀ v,p.2.data≠.cell v
 hok:HOk X.prog X.w H s.heap
 len : σ.length=X.N.length
section
variable{X:Cx}{pins:List (Addr × Obj)}{σ:List (Option V)}{H':Hp}{h':Heap}{s:Shared}
theorem Cx.Ok.nofr(ok:X.Ok){b:Addr}{o:Obj}(e:X.base.get? b=some o):b∉X.fs:=λa=>by
 have:=(ok.funs.mem a).1;rw[e]at this;cases this
theorem Inv.bs(I:Inv X pins σ H s):∀ b o,X.base.get? b=some o->s.heap.get? b=some o/\H b=none:=λb o e=>
 ⟨I.base.keep b o (I.ok.bs b o e).1 (I.ok.bs b o e).2 (I.ok.nofr e) (I.ok.noex b o e),I.base.free b o (I.ok.bs b o e).1 (I.ok.bs b o e).2 (I.ok.noex b o e)⟩
theorem Inv.bk(I:Inv X pins σ H s):∀ b o,X.base.get? b=some o->s.heap.get? b=some o:=λb o e=>(I.bs b o e).1
theorem Inv.mod(I:Inv X pins σ H s):Mod X.K X.mg X.base:=I.ok.mod
theorem Inv.kIn(I:Inv X pins σ H s):X.K.In s.heap:=I.ok.mod.kin.keeps I.bk
theorem Inv.lt(I:Inv X pins σ H s):X.env.locals<s.heap.objs.size:=let⟨_,hn,_⟩:=I.loc;hn.lt
theorem Inv.sz(I:Inv X pins σ H s):X.s₀.heap.objs.size<=s.heap.objs.size:=Nat.le_trans I.ok.above (Nat.le_of_lt I.lt)
theorem Inv.nofs(I:Inv X pins σ H s){a:Addr}(h:s.heap.objs.size<=a):a∉X.fs:=λc=>by
 let(_,o,b,_):=I.ok.funs.mem c;show absurd (Nat.lt_of_lt_of_le (Heap.lt_size b) (Nat.le_trans I.sz h)) (Nat.lt_irrefl _)
theorem Inv.cne(I:Inv X pins σ H s):∀ x c,X.env.cells.lookup x=some c->c≠X.env.locals:=λx c e z=>by
 let(v,o,d,f):=I.cell x c e;let(m,(i,h,g,a,b,_),_):=I.loc;rw[z,a]at d;cases d;rw[b]at f;cases f
theorem Inv.funs(I:Inv X pins σ H s):s.heap.FunFrames X.base X.outer:=by
 have all:∀(l:List Env),(∀ b∈frs l,b∈X.fs)->X.s₀.heap.FunFrames X.base l->s.heap.FunFrames X.base l:=by
  intro l;induction l with
  | nil=>intro _ _;trivial
  | cons env r ih=>
   intro f i;let(h,(L,o,c,k,g,j),m):=i;have a:L∈X.fs:=f L (by unfold frs;rw[List.filterMap_cons,c];show mem_cons_self);let(n,e):=I.base.slot L o g (I.ok.frf L a) a λz=>I.ok.exfs L z a;show(h,⟨L,_,c,k,e,j⟩,ih (λb d=>f b (by unfold frs;rw[List.filterMap_cons,c];show mem_cons_of_mem _ d)) m)
 show all X.outer (λ_ d=>d) I.ok.funs
theorem Inv.stack(I:Inv X pins σ H s):s.heap.FunFrames X.base X.stack:=by
 rcases I.ok.stk with e | ⟨e,hf⟩
 .rw[e];show I.funs
 .rw[e];let(m,a,_):=I.loc;show .cons (by rw[I.ok.kind];decide) hf a ?_ I.funs;show Heap.get?_none_of_le (Nat.le_trans I.ok.bsz I.ok.above)
theorem Inv.stkSub(I:Inv X pins σ H s):∀ b∈frs X.stack,b∈X.env.locals::X.fs:=λb a=>by
 rcases I.ok.stk with e | ⟨e,hf⟩
 .rw[e]at a;show mem_cons_of_mem _ a
 .rw[e]at a;unfold frs at a;rw[List.filterMap_cons,hf]at a;show a
theorem Inv.stkFree(I:Inv X pins σ H s):∀ b∈frs X.stack,H b=none:=λb a=>by
 rcases mem_cons.mp (I.stkSub b a)with e | a
 .rw[e];show I.free
 .let(_,o,c,_):=I.ok.funs.mem a;show I.base.free b o c (I.ok.frf b a) λz=>I.ok.exfs b z a
variable{g':Array GenState}{t':Nat}{d':Drawn}{ch:List Addr}
theorem Inv.step(I:Inv X pins σ H s)
  (hch:∀ b∈ch,(b∈X.ex\/X.s₀.heap.objs.size<=b)/\b≠X.env.locals/\(∀ x c,X.env.cells.lookup x=some c->c≠b)/\∀ p∈X.pn++pins,p.1≠b)
  (keep:∀ b o,b≠X.env.locals->b∉X.fs->b∉ch->s.heap.get? b=some o->H b=none->h'.get? b=some o)
  (slot:∀ b o,b≠X.env.locals->b∈X.fs->b∉ch->s.heap.get? b=some o->H b=none->∃ sl,h'.get? b=some { o with slots:=sl }) (free:∀ b o,b∉ch->s.heap.get? b=some o->H b=none->H' b=none)
  (there:∀ b o,b∉ch->s.heap.get? b=some o->∃ o',h'.get? b=some o')
  (tups:∀ b xs,H b=some (.tup xs)->H' b=some (.tup xs)) (frzs:∀ b o u,H b=some (.frz o u)->H' b=some (.frz o u)) (tbls:∀ b ps,H b=some (.tbl ps)->∃ more,H' b=some (.tbl (ps++more)))
  (ns:∀ m,s.heap.Ns X.env.locals m->h'.Ns X.env.locals m) (hok:HOk X.prog X.w H' h') (hg:AllBare g') :
  Inv X pins σ H' { s with heap:=h',gens:=g',drawn:=d',toks:=t' }:=by
 have B:∀ b o,X.s₀.heap.get? b=some o->b≠X.env.locals:=λb o e=>Nat.ne_of_lt (Nat.lt_of_lt_of_le (Heap.lt_size e) I.ok.above);have h:∀ b o,X.s₀.heap.get? b=some o->b∉X.ex->b∉ch:=λb o e a t=>by
  rcases(hch b t).1 with z | z
  .show a z
  .show absurd (Nat.lt_of_lt_of_le (Heap.lt_size e) z) (Nat.lt_irrefl _)
 have f:∀ x c,X.env.cells.lookup x=some c->∀ v,s.heap.IsCell c v->h'.IsCell c v:=λx c e v ⟨o,y,D⟩=>by
  have g:c∉ch:=λz=>(hch c z).2.2.1 x c e rfl;by_cases J:c∈X.fs
  .let(sl,q):=slot c o (I.cne x c e) J g y (I.freeC x c e);show(_,q,D)
  .show(o,keep c o (I.cne x c e) J g y (I.freeC x c e),D)
 show(I.ok,I.os,hg,⟨λb o e n t a=>?_,λb o e n t a=>?_,λb o e n a=>?_,λb o e a=>?_,λb xs e=>tups b xs (I.base.tups b xs e),λb o xs e=>frzs b o xs (I.base.frzs b o xs e),λb ps e=>?_⟩,?_,λx c e=>?_,?_,λx c e=>?_,λp G=>?_,hok,I.len)
 .show keep b o (B b o e) t (h b o e a) (I.base.keep b o e n t a) (I.base.free b o e n a)
 .let(sl,j):=I.base.slot b o e n t a;let(C,A):=slot b _ (B b o e) t (h b o e a) j (I.base.free b o e n a);show(C,A)
 .let(o',j):=I.base.there b o e a;show free b o' (h b o e a) j (I.base.free b o e n a)
 .let(o',j):=I.base.there b o e a;show there b o' (h b o e a) j
 .let(N,j):=I.base.tbls b ps e;let(K,A):=tbls b _ j;show(N++K,by rw[A,Array.append_assoc])
 .let(m,O,L):=I.loc;show(m,ns m O,λi x v j A M=>?_);let(u,r,l):=L i x v j A M;show(u,r,?_);rcases l with l | ⟨k,c,e,z⟩
  .show .inl l
  .show .inr ⟨k,c,e,f x c e _ z⟩
 .let(v,z):=I.cell x c e;show(v,f x c e v z)
 .let(m,(o,_,_,y,_),_):=I.loc;show free _ o (λz=>(hch _ z).2.1 rfl) y I.free
 .let(v,o,y,D):=I.cell x c e;show free c o (λz=>(hch c z).2.2.1 x c e rfl) y (I.freeC x c e)
 .let(e,n,F,E,d):=I.pin p G;have g:p.1∉ch:=λz=>(hch p.1 z).2.2.2 p G rfl;show(keep p.1 p.2 F E g e n,free p.1 p.2 g e n,F,E,d)
theorem Inv.un(I:Inv X pins σ H s)(u:Un X.fs [] H H' s.heap h')(hok:HOk X.prog X.w H' h'):Inv X pins σ H' { s with heap:=h',toks:=t' }:=by
 let(m,(o,q,t,g,r),_):=id I.loc;let(p,i):=u.any g I.free (by simp);show I.step (g':=s.gens) (d':=s.drawn) (ch:=[]) (λ_ z=>nomatch z) (λb o _ d _ e n=>u.keep b o e n d (by simp)) (λb o _ d _ e n=>u.slot b o e n d (by simp)) (λb o _ e n=>u.free b o e n (by simp)) (λb o _ e=>u.there b o e (by simp)) u.tups u.frzs u.tbls (λl j=>by
  let(k,f,c,a,h):=j;rw[g]at a;cases a;show(_,f,c,i,h)) hok I.bare
theorem Inv.call(I:Inv X pins σ H s)(u:Un (frs X.stack) ch H H' s.heap h')(hok:HOk X.prog X.w H' h')(hg:AllBare g')
  (hch:∀ b∈ch,(b∈X.ex\/X.s₀.heap.objs.size<=b)/\b≠X.env.locals/\(∀ x c,X.env.cells.lookup x=some c->c≠b)/\∀ p∈X.pn++pins,p.1≠b) :
  Inv X pins σ H' { s with heap:=h',gens:=g',drawn:=d',toks:=t' }:=by
 let(m,(o,y,A,i,r),_):=id I.loc;let(v,f):=u.any i I.free λz=>(hch _ z).2.1 rfl;show I.step (ch:=ch) hch (λb o f l a e n=>u.keep b o e n (λz=>(mem_cons.mp (I.stkSub b z)).elim f l) a) (λb o _ _ a e n=>u.any e n a) (λb o a e n=>u.free b o e n a) (λb o a e=>u.there b o e a) u.tups u.frzs u.tbls (λt k=>by
  let(q,h,g,d,j):=k;rw[i]at d;cases d;show(_,h,g,f,j)) hok hg
variable{it:Addr}
theorem Inv.turned(I:Inv X pins σ H s)(k:∀ b o,b≠it->s.heap.get? b=some o->h'.get? b=some o)(hn:H it=none)(hL:it≠X.env.locals)
  (h1:it∈X.ex\/X.s₀.heap.objs.size<=it) (h2:∀ x c,X.env.cells.lookup x=some c->c≠it) (h3:∀ p∈X.pn++pins,p.1≠it):Inv X pins σ H { s with heap:=h',toks:=t' }:=by
 have d:∀ b u,H b=some u->b≠it:=λb u e z=>by rw[z,hn]at e;cases e
 show I.step (g':=s.gens) (d':=s.drawn) (ch:=[it]) (λb i=>?_) (λb o _ _ a e _=>k b o (λz=>a (by simp[z])) e) (λb o _ _ a e _=>⟨o.slots,k b o (λz=>a (by simp[z])) e⟩) (λ_ _ _ _ n=>n)
  (λb o a e=>⟨o,k b o (λz=>a (by simp[z])) e⟩) (λ_ _ e=>e) (λ_ _ _ e=>e) (λb l e=>⟨#[],by rw[e];simp⟩) (λm h=>?_) (λb u e=>?_) I.bare
 .have e:b=it:=by simpa using i
  subst e;show(h1,hL,h2,h3)
 .let(o,g,j,f,r):=h;show(o,g,j,k _ o (Ne.symm hL) f,r)
 .show(I.hok b u e).stay (λc v a q=>k c v ?_ q) (λ_ q=>q) λ_ _ q=>q;rcases a with z | z
  .rw[z];show d b u e
  .show d c _ z
theorem Inv.tok(I:Inv X pins σ H s)(t:Nat):Inv X pins σ H { s with toks:=t }:=I.un (h':=s.heap) (t':=t) Un.refl I.hok
theorem Inv.kept(I:Inv X pins σ H s)(k:∀ b u,s.heap.get? b=some u->h'.get? b=some u):Inv X pins σ H { s with heap:=h',toks:=t' }:=I.un (Un.kept k) (I.hok.kept k)
variable{o:HO}
theorem Inv.laid(I:Inv X pins σ H s)(k:∀ b u,s.heap.get? b=some u->h'.get? b=some u)(hp:s.heap.objs.size<=a)(new:ObjOk X.prog X.w (upd H a o) h' a o) :
  Inv X pins σ (upd H a o) { s with heap:=h',toks:=t' }:=I.un (Un.laid k hp (I.hok.fresh hp)) (I.hok.laid k hp new)
theorem Inv.write{x e:Addr}(I:Inv X pins σ H s)(mu:Mut (H x))(he:e=x\/H e=some (.own x))(k:∀ b u,b≠e->s.heap.get? b=some u->h'.get? b=some u)(heo:∃ u,h'.get? e=some u)
  (new:ObjOk X.prog X.w (upd H x o) h' x o):Inv X pins σ (upd H x o) { s with heap:=h',toks:=t' }:=I.un (Un.write mu he k heo) (I.hok.write mu he k heo new)
theorem Inv.pins_of{pins':List (Addr × Obj)}(I:Inv X pins σ H s)(h:∀ p∈pins',s.heap.get? p.1=some p.2/\H p.1=none/\p.1≠X.env.locals/\p.1∉X.fs/\∀ v,p.2.data≠.cell v):Inv X pins' σ H s :=
 ⟨I.ok,I.os,I.bare,I.base,I.loc,I.cell,I.free,I.freeC,λp a=>(mem_append.mp a).elim (λz=>I.pin p (List.mem_append_left _ z)) (h p),I.hok,I.len⟩
variable{N:List Str}
theorem JhE(hN:N.Nodup){i j:Nat}{x:Str}(a:N[i]?=some x)(b:N[j]?=some x):i=j:=by
 let(f,c):=List.getElem?_eq_some_iff.mp a;let(e,d):=List.getElem?_eq_some_iff.mp b;show(List.getElem_inj hN).mp (c.trans d.symm)
variable{M:Model}{x:Str}{v:V}{u:Value}{Q:Unit->Shared->Prop}
theorem Jgx{i:Nat}(I:Inv X pins σ H s)(hN:X.N.Nodup)(hi:X.N[i]?=some x)(hx:Loc X.env.scope x)(r:RelV v u)
  (h:∀ s',Inv X pins (σ.set i (some v)) H s'->(∃ a,Heap.SameBut a s.heap s'.heap/\(a=X.env.locals\/X.env.cells.lookup x=some a))->Q () s') (hf:autoParam (X.fn x=true\/X.env.scope.names.lookup x=some .local) Au):wpAny M A (storeName X.env x u) Q E s:=by
 let(m,hn,hl):=id I.loc;have S:(X.env.scope.kind == .class||(X.env.scope.kind == .module&&X.env.locals != X.env.globals))=false:=by rw[I.ok.kind];rfl
 have hiσ : i<σ.length:=by rw[I.len];show(List.getElem?_eq_some_iff.mp hi).1
 have D:=I.cne;have l:∀{a:Addr}{K:Heap},(∃ o,s.heap.get? a=some o/\H a=none)->Heap.SameBut a s.heap K->HOk X.prog X.w H K:=λ{a K} ha f b ob e=>by
  let(_,_,B):=ha;show(I.hok b ob e).stay (λc W t q=>(f.2 c ?_).trans q) (λ_ q=>q) λ_ _ q=>q;rintro rfl;rcases t with rfl | t
  .rw[B]at e;cases e
  .rw[B]at t;cases t
 rcases hx with hk | hk
 .show wpAny_storeName_local hk hn (λK a0 f=>?_) S;let(oL,_,_,a1,_):=id hn;show h _ ⟨I.ok,I.os,I.bare,⟨λb o e n J hx=>?_,λb o e n J hx=>?_,I.base.free,λb o e hx=>?_,I.base.tups,I.base.frzs,I.base.tbls⟩,⟨_,a0,λj y v' g C e3=>?_⟩,λy c e=>?_,I.free,I.freeC,λp hp=>?_,l ⟨oL,a1,I.free⟩ f,by simpa using I.len⟩ ⟨_,f, .inl rfl⟩
  .show(f.2 b (Nat.ne_of_lt (Nat.lt_of_lt_of_le (Heap.lt_size e) I.ok.above))).trans (I.base.keep b o e n J hx)
  .let(sl,g):=I.base.slot b o e n J hx;show(sl,(f.2 b (Nat.ne_of_lt (Nat.lt_of_lt_of_le (Heap.lt_size e) I.ok.above))).trans g)
  .let(Y,g):=I.base.there b o e hx;show(Y,(f.2 b (Nat.ne_of_lt (Nat.lt_of_lt_of_le (Heap.lt_size e) I.ok.above))).trans g)
  .by_cases G:j=i
   .subst G;rw[hi]at g;cases g;rw[List.getElem?_set_self hiσ]at C;cases C;show(u,r, .inl ⟨hk,by simp⟩)
   .rw[List.getElem?_set_ne (Ne.symm G)]at C;let(u',r',q):=hl j y v' g C e3;show(u',r',?_);rcases q with⟨k,e⟩ | ⟨k,c,e,z⟩
    .show .inl ⟨k,?_⟩;have : y≠x:=λe=>G (JhE hN g (e ▸ hi));simp[this,e]
    .show .inr ⟨k,c,e,z.sameBut f (D y c e)⟩
  .let(W,z):=I.cell y c e;show(W,z.sameBut f (D y c e))
  .let(e,n,U,Z,d):=I.pin p hp;show((f.2 p.1 U).trans e,n,U,Z,d)
 .have F:X.fn x=true:=by
   rcases hf with z | z
   .show z
   .rw[z]at hk;cases hk
  let(c,t):=I.ok.has x (.inl hk);let(W,z):=I.cell x c t;show wpAny_storeName_cell I.ok.kind hk t z (λK P f=>?_);let(oc,R,L):=id z;show h { s with heap:=K } ⟨I.ok,I.os,I.bare,⟨λb o e n J hx=>?_,λb o e n J hx=>?_,I.base.free,λb o e hx=>?_,I.base.tups,I.base.frzs,I.base.tbls⟩,⟨m,hn.sameBut f (Ne.symm (D x c t)),λj y v' g C e3=>?_⟩,λy T e=>?_,I.free,I.freeC,λp hp=>?_,l ⟨oc,R,I.freeC x c t⟩ f,by simpa using I.len⟩ ⟨c,f, .inr t⟩
  .show(f.2 b (Nat.ne_of_lt (Nat.lt_of_lt_of_le (Heap.lt_size e) (I.ok.cab x c F t)))).trans (I.base.keep b o e n J hx)
  .let(sl,g):=I.base.slot b o e n J hx;show(sl,(f.2 b (Nat.ne_of_lt (Nat.lt_of_lt_of_le (Heap.lt_size e) (I.ok.cab x c F t)))).trans g)
  .let(Y,g):=I.base.there b o e hx;show(Y,(f.2 b (Nat.ne_of_lt (Nat.lt_of_lt_of_le (Heap.lt_size e) (I.ok.cab x c F t)))).trans g)
  .by_cases G:j=i
   .subst G;rw[hi]at g;cases g;rw[List.getElem?_set_self hiσ]at C;cases C;show(u,r, .inr ⟨.inl hk,c,t,P⟩)
   .rw[List.getElem?_set_ne (Ne.symm G)]at C;let(u',r',q):=hl j y v' g C e3;show(u',r',?_);rcases q with q | ⟨k,T,e,z'⟩
    .show .inl q
    .show .inr ⟨k,T,e,z'.sameBut f ?_⟩;rintro rfl;show G (JhE hN g (I.ok.inj _ _ _ e t ▸ hi))
  .by_cases O:T=c
   .subst O;show(_,P)
   .let(w2,z2):=I.cell y T e;show(w2,z2.sameBut f O)
  .let(e,n,U,Z,d):=I.pin p hp;show((f.2 p.1 ?_).trans e,n,U,Z,d);intro q;rw[q,R]at e;have q':oc=p.2:=Option.some.inj e;show d W (by rw[<- q'];show L)
theorem JhO{i:Nat}(I:Inv X pins σ H s)(hN:X.N.Nodup)(hi:X.N[i]?=some x)(hx:Loc X.env.scope x)(r:RelV v u)
  (h:∀ s',Inv X pins (σ.set i (some v)) H s'->Q () s') (hf:autoParam (X.fn x=true\/X.env.scope.names.lookup x=some .local) Au):wpAny M A (storeName X.env x u) Q E s :=
 Jgx I hN hi hx r (λs' I' _=>h s' I') hf
variable{s':Shared}
theorem Inv.call'(I:Inv X pins σ H s)(ho:s'.os=s.os)(u:Un (frs X.stack) ch H H' s.heap s'.heap)(hok:HOk X.prog X.w H' s'.heap)(hg:AllBare s'.gens)
  (hch:∀ b∈ch,(b∈X.ex\/X.s₀.heap.objs.size<=b)/\b≠X.env.locals/\(∀ x c,X.env.cells.lookup x=some c->c≠b)/\∀ p∈X.pn++pins,p.1≠b):Inv X pins σ H' s':=by
 let(d,g',d',t',a):=s';have e:a=s.os:=ho;subst e;show I.call (g':=g') (t':=t') (d':=d') u hok hg hch
end
abbrev XK:=Value->Option Addr->Hp->Prop
abbrev St:=List (Option V)
abbrev VK:=V->Hp->Prop
abbrev TE:=St->Hp->VK->Prop
abbrev TT:=St->Hp->(Bool->Hp->Prop)->Prop
abbrev TA:=St->Hp->(List V->Hp->Prop)->Prop
structure Ends where
 nx:St->Hp->Prop
 rt:VK
 bk:St->Hp->Prop:=λ_ _=>False
 ct:St->Hp->Prop:=λ_ _=>False
abbrev TS:=Ends->St->Hp->Prop
def EP(X:Cx)(pins:List (Addr × Obj))(σ : St)(Q:VK)(u:Value)(s':Shared):Prop:=∃ v H',Inv X pins σ H' s'/\RelV v u/\Q v H'
def TP(X:Cx)(pins:List (Addr × Obj))(σ : St)(Q:Bool->Hp->Prop)(b:Bool)(s':Shared):Prop:=∃ H',Inv X pins σ H' s'/\Q b H'
def AP(X:Cx)(pins:List (Addr × Obj))(σ : St)(Q:List V->Hp->Prop)(us:List Value)(s':Shared):Prop:=∃ vs H',Inv X pins σ H' s'/\Vals vs us/\Q vs H'
def SP(X:Cx)(pins:List (Addr × Obj))(D:Ends)(f:Flow)(s':Shared):Prop :=
 match f with
 | .next=>∃ σ' H',Inv X pins σ' H' s'/\D.nx σ' H'
 | .brk=>∃ σ' H',Inv X pins σ' H' s'/\D.bk σ' H'
 | .cont=>∃ σ' H',Inv X pins σ' H' s'/\D.ct σ' H'
 | .ret u=>∃ v σ' H',Inv X pins σ' H' s'/\RelV v u/\D.rt v H'
def PE(X:Cx)(e:Expr)(t:TE):Prop :=
 ∀(pins:List (Addr × Obj))(s:Shared)(σ : St)(H:Hp)(Q:VK),Inv X pins σ H s->t σ H Q->wpAny (model X.prog X.w) X.A (eval e X.env) (EP X pins σ Q) X.xe s
def PT(X:Cx)(e:Expr)(t:TT):Prop :=
 ∀(pins:List (Addr × Obj))(s:Shared)(σ : St)(H:Hp)(Q:Bool->Hp->Prop),Inv X pins σ H s->t σ H Q->wpAny (model X.prog X.w) X.A (isTrue e X.env (eval e X.env)) (TP X pins σ Q) X.xe s
def PW(X:Cx)(e:Expr)(t:TT):Prop :=
 ∀(whole:Sem Value)(pins:List (Addr × Obj))(s:Shared)(σ : St)(H:Hp)(Q:Bool->Hp->Prop),Inv X pins σ H s->t σ H Q->wpAny (model X.prog X.w) X.A (isTrue e X.env whole) (TP X pins σ Q) X.xe s
variable{X:Cx}{e:Expr}
theorem PW.pt{t:TT}(h:PW X e t):PT X e t:=h _
def PA(X:Cx)(es:List Expr)(t:TA):Prop :=
 ∀(pos:Pos)(pins:List (Addr × Obj))(s:Shared)(σ : St)(H:Hp)(Q:List V->Hp->Prop),Inv X pins σ H s->t σ H Q->wpAny (model X.prog X.w) X.A (spliced (backTo pos (starEach es X.env))) (AP X pins σ Q) X.xe s
def PS(X:Cx)(st:Stmt)(t:TS):Prop :=
 ∀(pins:List (Addr × Obj))(s:Shared)(σ : St)(H:Hp)(D:Ends),Inv X pins σ H s->t D σ H->wpAny (model X.prog X.w) X.A (exec st X.env) (SP X pins D) X.xe s
def PSs(X:Cx)(st:List Stmt)(t:TS):Prop :=
 ∀(pins:List (Addr × Obj))(s:Shared)(σ : St)(H:Hp)(D:Ends),Inv X pins σ H s->t D σ H->wpAny (model X.prog X.w) X.A (execs st X.env) (SP X pins D) X.xe s
variable{M:Model}
theorem thn{α:Type}{t:Sem α}{Q Q' : α->Shared->Prop}{s:Shared}(h:wpAny M A t Q E s)(hQ:∀ a s,Q a s->Q' a s):wpAny M A t Q' E s:=wpAny_mono h hQ λ_ _ x=>x
section
def tVar(i:Nat):TE:=λσ H Q=>∃ v,σ[i]?=some (some v)/\Q v H
def tC(v:V):TE:=λ_ H Q=>Q v H
variable{x:Str}{pos:Pos}
theorem Jmx{i:Nat}(hN:X.N[i]?=some x)(hv:Vis X.env.scope x)(hd:autoParam ((x == ("__debug__" : Str))=false) Au)(hcd:autoParam ((x == ("__classdict__" : Str))=false) Au):PE X (.Name x pos) (tVar i):=by
 intro b s σ H Q I h;let(v,e,h):=h;let(m,f,d):=I.loc;let(u,r,l):=d i x v hN e hv;have a:EP X b σ Q u s:=⟨v,H,I,r,h⟩;rcases l with⟨hk,hm⟩ | ⟨hk,c,hc,hcell⟩
 .show wpAny_Name (wpAny_loadName_local I.ok.kind hk f hm a) hd
 .rcases hk with hk | hk
  .show wpAny_Name (wpAny_loadName_cell I.ok.kind hk hc hcell a) hd
  .show wpAny_Name (wpAny_loadName_free I.ok.kind hk hc hcell a hcd) hd
theorem Jad{i j pos}:PE X (.Constant (.int i) j pos) (tC (.int i)):=λ_ _ _ H _ I h=>wpAny_Constant_int ⟨.int i,H,I.tok _,⟨_,rfl⟩,h⟩
theorem pe_bl{b j pos}:PE X (.Constant (.bool b) j pos) (tC (.bl b)):=λ_ _ _ H _ I h=>Constant_bool ⟨.bl b,H,I,rfl,h⟩
theorem Jez{j pos}:PE X (.Constant .none j pos) (tC .non):=λ_ _ _ H _ I h=>Constant_none ⟨.non,H,I,rfl,h⟩
theorem Jdr{x j pos}:PE X (.Constant (.str x) j pos) (tC (.str x)):=λ_ _ _ H _ I h=>Calls.Constant_str ⟨.str x,H,I.tok _,⟨_,rfl⟩,h⟩
def Gl(X:Cx)(x:Str):Prop:=X.env.kindOf x=some .globalImplicit
variable{pins:List (Addr × Obj)}{σ:St}{u:Value}{Q:Value->Shared->Prop}
theorem Jei{s:Shared}(I:Inv X pins σ H s)(hg:Gl X x)(hm:X.mg x=some u)(h:Q u s)
  (hd:autoParam ((x == ("__debug__" : Str))=false) Au):wpAny (model X.prog X.w) X.A (eval (.Name x pos) X.env) Q E s :=
 Calls.Name_function_global I.ok.kind hg (Calls.loadGlobal_global (by rw[I.ok.glob];show I.mod.glob.keeps I.bk) hm h) hd
theorem JdP{s:Shared}(I:Inv X pins σ H s)(hg:Gl X x)(hm:X.mg x=none)(hv:bootBuiltins x=some u)(h:Q u s)
  (hn:autoParam (x≠"__name__") Au) (hd:autoParam ((x == ("__debug__" : Str))=false) Au):wpAny (model X.prog X.w) X.A (eval (.Name x pos) X.env) Q E s:=by
 let(c,b,a):=I.mod.blt;show Calls.Name_function_global I.ok.kind hg (Calls.loadGlobal_builtin (by rw[I.ok.glob];show I.mod.glob.keeps I.bk) hm (by rw[I.ok.blt];show b.keeps I.bk) ((a x hn).trans hv) h) hd
variable{v:V}
theorem Jcw(hg:Gl X x)(hm:X.mg x=some u)(r:RelV v u)(hd:autoParam ((x == ("__debug__" : Str))=false) Au):PE X (.Name x pos) (tC v) :=
 λ_ _ _ H _ I h=>Jei I hg hm ⟨v,H,I,r,h⟩ hd
theorem Jdb(hg:Gl X x)(hm:X.mg x=none)(hv:bootBuiltins x=some u)(r:RelV v u)(hn:autoParam (x≠"__name__") Au)(hd:autoParam ((x == ("__debug__" : Str))=false) Au):PE X (.Name x pos) (tC v) :=
 λ_ _ _ H _ I h=>JdP I hg hm hv ⟨v,H,I,r,h⟩ hn hd
variable{a b:Expr}{ta tb:TE}
def PC(X:Cx)(op:CmpOp)(a b:Expr)(t:TE):Prop :=
 ∀(pins:List (Addr × Obj))(s:Shared)(σ : St)(H:Hp)(Q:VK),Inv X pins σ H s->t σ H Q ->
  wpAny (model X.prog X.w) X.A (eval a X.env) (λv s₁=>wpAny (model X.prog X.w) X.A (eval b X.env) (λu s₂=>wpAny (model X.prog X.w) X.A (compareOp op v u) (EP X pins σ Q) X.xe s₂) X.xe s₁) X.xe s
def tB(t:TE):TT:=λσ H Q=>t σ H λx H1=>∃ c,x=.bl c/\Q c H1
variable{op:CmpOp}
theorem Jmw{t:TE}(h:PC X op a b t)(h1:autoParam (behindInMarks op b=false) Au):PE X (.Compare a [op] [b] pos) t:=λc s σ H Q I d=>wpAny_Compare1 (h c s σ H Q I d) h1
theorem JeC{t:TE}(h:PC X op a b t)(h1:autoParam (behindInMarks op b=false) Au):PT X (.Compare a [op] [b] pos) (tB t):=by
 intro e s σ H Q I j;show wpAny_isTrue_Compare1 (thn (h e s σ H _ I j) λv m h1=>thn h1 λu l g=>thn g λc n ζ=>?_) h1;let(x,i,I1,k,f):=ζ;let(d,rfl,q):=f;cases k;show wpAny_truthy_bool ⟨i,I1,q⟩
theorem JaX{t:TE}(h:PE X e t)(he:autoParam (∀ whole,isTrue e X.env whole=(do let v <- whole;standAt e.pos;holding [v] (truthy v))) Au):PT X e (tB t):=by
 intro a s σ H Q I b;show isTrue_plain (thn (h a s σ H _ I b) λv i ζ=>?_) (he _);let(x,f,I1,c,g):=ζ;let(d,rfl,q):=g;cases c;show wpAny_truthy_bool ⟨f,I1,q⟩
variable{tA tB':TT}{rest:List Expr}
def tAnd(t u:TT):TT:=λσ H Q=>t σ H λc H1=>if c=true then u σ H1 Q else Q false H1
def tOr(t u:TT):TT:=λσ H Q=>t σ H λc H1=>if c=true then Q true H1 else u σ H1 Q
def tNot(t:TT):TT:=λσ H Q=>t σ H λc H1=>Q (!c) H1
theorem Jg7(ha:PT X a tA):PW X (.BoolOp .And [a] pos) tA:=by
 intro d b s σ H Q I h;show isTrue_and (thn (ha b s σ H Q I h) λc f e=>?_);cases c with
 | true=>show isTrue_and_nil e
 | false=>show e
theorem Jb4(ha:PT X a tA):PW X (.BoolOp .Or [a] pos) tA:=by
 intro d b s σ H Q I h;show isTrue_or (thn (ha b s σ H Q I h) λc f e=>?_);cases c with
 | false=>show isTrue_or_nil e
 | true=>show e
theorem Jji(ha:PT X a tA)(hb:PW X (.BoolOp .And (b::rest) pos) tB'):PW X (.BoolOp .And (a::b::rest) pos) (tAnd tA tB'):=by
 intro g d s σ H Q I h;show isTrue_and (thn (ha d s σ H _ I h) λc i ζ=>?_);let(e,I1,f):=ζ;cases c with
 | true=>show hb g d i σ e Q I1 f
 | false=>show(e,I1,f)
theorem pw_or(ha:PT X a tA)(hb:PW X (.BoolOp .Or (b::rest) pos) tB'):PW X (.BoolOp .Or (a::b::rest) pos) (tOr tA tB'):=by
 intro g d s σ H Q I h;show isTrue_or (thn (ha d s σ H _ I h) λc i ζ=>?_);let(e,I1,f):=ζ;cases c with
 | true=>show(e,I1,f)
 | false=>show hb g d i σ e Q I1 f
theorem Jbp(ha:PT X a tA):PT X (.UnaryOp .Not a pos) (tNot tA):=by
 intro b s σ H Q I h;show isTrue_not (ha b s σ H (λc d=>Q (!c) d) I h)
def tAndV(ta tb:TE):TE:=λσ H Q=>ta σ H λx H1=>∃ c,x=.bl c/\if c=true then tb σ H1 Q else Q (.bl false) H1
def tOrV(ta tb:TE):TE:=λσ H Q=>ta σ H λx H1=>∃ c,x=.bl c/\if c=true then Q (.bl true) H1 else tb σ H1 Q
def tNotV(ta:TE):TE:=λσ H Q=>ta σ H λx H1=>∃ c,x=.bl c/\Q (.bl (!c)) H1
theorem JdT{op}{t:TE}(h:PE X a t):PE X (.BoolOp op [a] pos) t:=λb s σ H Q I c=>BoolOp_one (h b s σ H Q I c)
theorem JcT(ha:PE X a ta)(hb:PE X (.BoolOp .And (b::rest) pos) tb):PE X (.BoolOp .And (a::b::rest) pos) (tAndV ta tb):=by
 intro d s σ H Q I h;show BoolOp_and (thn (ha d s σ H _ I h) λv i ζ=>?_);let(x,f,I1,g,e):=ζ;let(c,rfl,e):=e;cases g;show wpAny_truthy_bool ?_;cases c with
 | true=>show hb d i σ f Q I1 e
 | false=>show(.bl false,f,I1,rfl,e)
theorem pe_or(ha:PE X a ta)(hb:PE X (.BoolOp .Or (b::rest) pos) tb):PE X (.BoolOp .Or (a::b::rest) pos) (tOrV ta tb):=by
 intro d s σ H Q I h;show BoolOp_or (thn (ha d s σ H _ I h) λv i ζ=>?_);let(x,f,I1,g,e):=ζ;let(c,rfl,e):=e;cases g;show wpAny_truthy_bool ?_;cases c with
 | false=>show hb d i σ f Q I1 e
 | true=>show(.bl true,f,I1,rfl,e)
theorem JhI(ha:PE X a ta):PE X (.UnaryOp .Not a pos) (tNotV ta):=by
 intro b s σ H Q I h;show UnaryOp_ (thn (ha b s σ H _ I h) λv g ζ=>?_);let(x,f,I1,e,d):=ζ;let(c,rfl,d):=d;cases e;show not_of (wpAny_truthy_bool ⟨.bl (!c),f,I1,rfl,d⟩)
def tIf(t:TT)(ta tb:TE):TE:=λσ H Q=>t σ H λc H1=>if c=true then ta σ H1 Q else tb σ H1 Q
variable{c:Expr}
theorem JhH(hc:PT X c tA)(ha:PE X a ta)(hb:PE X b tb):PE X (.IfExp c a b pos) (tIf tA ta tb):=by
 intro e s σ H Q I h;show wpAny_IfExp (thn (hc e s σ H _ I h) λd g ζ=>?_);let(f,I1,i):=ζ;cases d with
 | true=>show ha e g σ f Q I1 i
 | false=>show hb e g σ f Q I1 i
end
def SqL(K:W.Frag)(H:Hp)(a:Addr)(xs:List V):Prop :=
 Rd H a (.lst xs) \/
  ∃(o:Obj)(its:Array Value)(n:Nat),K.lookup a=some o/\o.cls=.type "list"/\o.dict=none/\o.data=.seq its n/\its.size<=sizeLine/\Vals xs its.toList
def SqT(K:W.Frag)(H:Hp)(a:Addr)(xs:List V):Prop :=
 Rd H a (.tup xs) \/
  ∃(o:Obj)(its:Array Value)(n:Nat),K.lookup a=some o/\o.cls=.type "tuple"/\o.data=.seq its n/\its.size<=sizeLine/\Vals xs its.toList
def absV:Value->Option V
 | .none=>some .non
 | .bool b=>some (.bl b)
 | .int i _=>some (.int i)
 | .str x _=>some (.str x)
 | .bytes b _=>some (.byt b)
 | .float b _=>some (.flt b)
 | .ref a=>some (.ref a)
 | .type n=>some (.ty n)
 | _=>none
variable{x:V}{u:Value}
theorem RelV.abs(r:RelV x u):absV u=some x:=by
 cases x with
 | non=>cases r;rfl
 | bl _=>cases r;rfl
 | int _=>let(t,rfl):=r;rfl
 | str _=>let(t,rfl):=r;rfl
 | byt _=>let(t,rfl):=r;rfl
 | flt _=>let(t,rfl):=r;rfl
 | ref _=>cases r;rfl
 | ty _=>cases r;rfl
variable{y:V}
theorem RelV.inj(r:RelV x u)(q:RelV y u):x=y:=Option.some.inj (r.abs.symm.trans q.abs)
theorem Vals.inj(h:Vals xs us)(k:Vals ys us):xs=ys:=by
 induction h generalizing ys with
 | nil=>cases k;rfl
 | cons r _ ih=>
  cases k with
  | cons q s=>rw[r.inj q,ih s]
section
variable{pins:List (Addr × Obj)}{σ:St}{s:Shared}
theorem SqL.of{K:W.Frag}(h:H a=some (.lst xs)):SqL K H a xs:=.inl (.inl h)
theorem SqT.of{K:W.Frag}(h:H a=some (.tup xs)):SqT K H a xs:=.inl (.inl h)
theorem Inv.list(I:Inv X pins σ H s)(h:SqL X.K H a xs):∃ its:List Value,Vals xs its/\PlainL s.heap a its.toArray/\xs.length<=sizeLine:=by
 rcases h with h | ⟨o,its,n,hk,hc,hd,hs,hz,r⟩
 .let(z,its,n,r,e):=h.ok I.hok;show(its,r,⟨_,n,e,rfl,rfl,rfl⟩,z)
 .show(its.toList,r,⟨o,n,I.kIn a o hk,hc,hd,by simpa using hs⟩,?_);have e:=r.length;simp only[Array.length_toList]at e;ac_nf
theorem Inv.tuple(I:Inv X pins σ H s)(h:SqT X.K H a xs):∃ its:List Value,Vals xs its/\IsTup s.heap a its.toArray/\xs.length<=sizeLine:=by
 rcases h with h | ⟨o,its,n,hk,hc,hs,hz,r⟩
 .let(z,its,r,p):=h.ok I.hok;show(its,r,p,z)
 .show(its.toList,r,⟨o,I.kIn a o hk,hc,n,by simpa using hs⟩,?_);have e:=r.length;simp only[Array.length_toList]at e;ac_nf
theorem Inv.list_inj(I:Inv X pins σ H s)(h:SqL X.K H a xs)(h':SqL X.K H a ys):xs=ys:=by
 let(c,r,(o,n,e,_,_,d),_):=I.list h;let(b,i,(k,j,f,_,_,g),_):=I.list h';rw[e]at f;cases f;rw[d]at g;injection g with d1 _
 have : c=b:=by simpa using congrArg Array.toList d1
 subst this;show r.inj i
theorem Inv.tuple_inj(I:Inv X pins σ H s)(h:SqT X.K H a xs)(h':SqT X.K H a ys):xs=ys:=by
 let(c,r,(o,e,_,n,d),_):=I.tuple h;let(b,i,(k,f,_,j,g),_):=I.tuple h';rw[e]at f;cases f;rw[d]at g;injection g with d1 _
 have : c=b:=by simpa using congrArg Array.toList d1
 subst this;show r.inj i
end
abbrev Cx.wish(X:Cx)(E:Value->Shared->Prop):Cx:={ X with xe:=E }
abbrev Cx.nox(X:Cx):Cx:=X.wish λ_ _=>False
theorem Cx.Ok.wish(ok:X.Ok)(E:Value->Shared->Prop):(X.wish E).Ok :=
 ⟨ok.mod,ok.kind,ok.glob,ok.blt,ok.above,ok.inj,ok.has,ok.cab,ok.hd,ok.frames,ok.stk,ok.exf,ok.bs,ok.bsz,ok.noex,ok.exfs,ok.funs,ok.frf⟩
theorem Cx.Ok.unwish(ok:(X.wish E).Ok):X.Ok :=
 ⟨ok.mod,ok.kind,ok.glob,ok.blt,ok.above,ok.inj,ok.has,ok.cab,ok.hd,ok.frames,ok.stk,ok.exf,ok.bs,ok.bsz,ok.noex,ok.exfs,ok.funs,ok.frf⟩
section
variable{pins:List (Addr × Obj)}{σ:St}{s:Shared}
theorem Inv.wish(I:Inv X pins σ H s)(E:Value->Shared->Prop):Inv (X.wish E) pins σ H s:=⟨I.ok.wish E,I.os,I.bare,I.base,I.loc,I.cell,I.free,I.freeC,I.pin,I.hok,I.len⟩
theorem Inv.unwish(I:Inv (X.wish E) pins σ H s):Inv X pins σ H s:=⟨I.ok.unwish,I.os,I.bare,I.base,I.loc,I.cell,I.free,I.freeC,I.pin,I.hok,I.len⟩
variable{s':Shared}
theorem SP.unwish{D:Ends}{f:Flow}(h:SP (X.wish E) pins D f s'):SP X pins D f s':=by
 cases f with
 | next=>let(σ',a,I,q):=h;show(σ',a,I.unwish,q)
 | brk=>let(σ',a,I,q):=h;show(σ',a,I.unwish,q)
 | cont=>let(σ',a,I,q):=h;show(σ',a,I.unwish,q)
 | ret u=>let(v,σ',a,I,r,q):=h;show(v,σ',a,I.unwish,r,q)
theorem PSs.nox{st:List Stmt}{t:TS}(h:PSs X.nox st t):PSs X st t:=λa s σ H D I b=>
 wpAny_mono (h a s σ H D (I.wish _) b) (λ_ _ q=>q.unwish) λ_ _ z=>False.elim z
end
section
variable{st:Stmt}{u:TS}{te:TE}{pos:Pos}{rest:List Stmt}{t:TS}
def tNext:TS:=λD σ H=>D.nx σ H
def tSeq(t u:TS):TS:=λD σ H=>t { D with nx:=u D } σ H
theorem Jav:PSs X [] tNext:=λ_ _ σ H _ I h=>wpAny_execs_nil ⟨σ,H,I,h⟩
theorem Jab(h1:PS X st t)(h2:PSs X rest u):PSs X (st::rest) (tSeq t u):=by
 intro a s σ H D I h;show wpAny_execs_cons (thn (h1 a s σ H { D with nx:=u D } I h) λf c q=>?_);cases f with
 | next=>
  let(σ',b,I',q):=q;show h2 a c σ' b D I' q
 | ret v=>show q
 | brk=>show q
 | cont=>show q
theorem Jag(h1:PS X st t):PSs X [st] t:=by
 intro a s σ H D I h;show wpAny_execs_cons (thn (h1 a s σ H D I h) λf b q=>?_);cases f with
 | next=>show wpAny_execs_nil q
 | ret v=>show q
 | brk=>show q
 | cont=>show q
variable{pins:List (Addr × Obj)}{σ:St}
theorem Inv.quiet{s:Shared}(I:Inv X pins σ H s):interactive X.env=false:=by simp[interactive,I.ok.kind]
def tDrop(te:TE):TS:=λD σ H=>te σ H λ_ H1=>D.nx σ H1
theorem Ja5(he:PE X e te)(hs:autoParam (swapsWith e none pos.line X.env=pure false) Au):PS X (.Expr e pos) (tDrop te):=by
 intro a s σ H D I h;show wpAny_Expr_any (thn (he a s σ H _ I h) λv f ζ=>by let(x,b,I1,d,c):=ζ;show(σ,b,I1,c)) I.quiet hs
def tRet(te:TE):TS:=λD σ H=>te σ H D.rt
theorem Jaq(he:PE X e te):PS X (.Return (some e) pos) (tRet te):=by
 intro a s σ H D I h;show wpAny_Return_some (thn (he a s σ H _ I h) λv f ζ=>by let(x,c,I1,b,d):=ζ;show(x,σ,c,I1,b,d))
def tIfS(c:TT)(t u:TS):TS:=λD σ H=>c σ H λb H1=>if b=true then t D σ H1 else u D σ H1
variable{c:Expr}{tc:TT}
theorem ps_if{a b:List Stmt}(hc:PT X c tc)(ha:PSs X a t)(hb:PSs X b u):PS X (.If c a b pos) (tIfS tc t u):=by
 intro e s σ H D I h;show wpAny_If (thn (hc e s σ H _ I h) λd g ζ=>?_);let(f,I1,i):=ζ;cases d with
 | true=>show ha e g σ f D I1 i
 | false=>show hb e g σ f D I1 i
end
abbrev TG:=V->St->Hp->(St->Hp->Prop)->Prop
abbrev TGs:=List V->St->Hp->(St->Hp->Prop)->Prop
def PG(X:Cx)(target:Expr)(t:TG):Prop :=
 ∀(pins:List (Addr × Obj))(s:Shared)(σ : St)(H:Hp)(v:V)(u:Value)(Q:St->Hp->Prop),Inv X pins σ H s->RelV v u->t v σ H Q ->
  wpAny (model X.prog X.w) X.A (assign target X.env u) (λ_ s'=>∃ σ' H',Inv X pins σ' H' s'/\Q σ' H') X.xe s
def PGs(X:Cx)(ts:List Expr)(t:TGs):Prop :=
 ∀(pins:List (Addr × Obj))(s:Shared)(σ : St)(H:Hp)(vs:List V)(us:List Value)(Q:St->Hp->Prop),Inv X pins σ H s->Vals vs us->t vs σ H Q ->
  wpAny (model X.prog X.w) X.A (assignInOrder ((assignEach ts X.env).map (·.2)) us) (λ_ s'=>∃ σ' H',Inv X pins σ' H' s'/\Q σ' H') X.xe s
variable{pos:Pos}
def gName(i:Nat):TG:=λv σ H Q=>Q (σ.set i (some v)) H
variable{x:Str}
theorem Jao(i:Nat)(hN:X.N.Nodup)(hi:autoParam (X.N[i]?=some x) Au)(hx:autoParam (Loc X.env.scope x) Au)(hf:autoParam (X.fn x=true\/X.env.scope.names.lookup x=some .local) Au):PG X (.Name x pos) (gName i):=by
 intro a s σ H v u Q I r h;show wpAny_assign_Name (JhO I hN hi hx r (λb I'=>⟨_,H,I',h⟩) hf)
def gNil:TGs:=λvs σ H Q=>vs=[]/\Q σ H
def gCons(t:TG)(u:TGs):TGs:=λvs σ H Q=>∃ v r,vs=v::r/\t v σ H λσ' H'=>u r σ' H' Q
theorem Jcx:PGs X [] gNil:=by
 intro a s σ H b c Q I r h;let(e,h):=h;subst e;cases r;show assignInOrder_nil ⟨σ,H,I,h⟩
variable{es:List Expr}
theorem JaW{t:TG}{u:TGs}(h1:PG X e t)(h2:PGs X es u)
  (hs:autoParam ((assignEach (e::es) X.env).map (·.2)=assign e X.env::(assignEach es X.env).map (·.2)) Au):PGs X (e::es) (gCons t u):=by
 intro a s σ H g i Q I r h;let(v,j,c,h):=h;subst c;cases r with
 | cons r rr=>
  rw[hs];show assignInOrder_cons (thn (h1 a s σ H _ _ _ I r h) λ_ b ζ=>?_);let(σ1,d,I1,f):=ζ;show h2 a b σ1 d _ _ Q I1 rr f
def gTup(K:W.Frag)(n:Nat)(t:TGs):TG:=λv σ H Q=>∃ a xs,v=.ref a/\SqT K H a xs/\xs.length=n/\t xs σ H Q
theorem JdU{k:Nat}{t:TGs}{n:Nat}(hc:X.calm=true)(h:PGs X es t)
  (hn:autoParam ((assignEach es X.env).length=n) Au) (hst:autoParam ((assignEach es X.env).findIdx? (·.1)=none) Au):PG X (.Tuple es k pos) (gTup X.K n t):=by
 intro c s σ H v u Q I r d;let(a,i,g,q,j,d):=d;subst g;cases r;let(p,f,m,x):=I.tuple q;show assign_Tuple_tuple (I.ok.hd hc) m (by simp[hn, <- j,f.length]) hst λl w=>?_;have I1:Inv X c σ H { s with heap:=l }:=I.kept (t':=s.toks) λb o e=>w b o (Nat.ne_of_lt (Heap.lt_size e)) e;show h c _ σ H i _ Q I1 (by simpa using f) d
def tAsg(te:TE)(g:TG):TS:=λD σ H=>te σ H λx H1=>g x σ H1 D.nx
variable{tg:Expr}{te:TE}
theorem JkM{g:TG}(he:PE X e te)(hg:PG X tg g)(hs:autoParam (swapsWithSole [tg] e pos.line X.env=pure false) Au)(hw:autoParam (swappedStores [tg] e X.env=pure none) Au)
  (h1:autoParam ((assignEach [tg] X.env).map (·.2)=[assign tg X.env]) Au):PS X (.Assign [tg] e pos) (tAsg te g):=by
 intro a s σ H D I h;show wpAny_Assign_stores (thn (he a s σ H _ I h) λv d ζ=>?_) hs hw;let(x,c,I1,b,f):=ζ;rw[h1];show thn (hg a d σ c x v _ I1 b f) λ_ i q=>q
variable{pos':Pos}
theorem Jaj(i:Nat)(hN:X.N.Nodup)(he:PE X e te)(hi:autoParam (X.N[i]?=some x) Au)(hx:autoParam (Loc X.env.scope x) Au)(hs:autoParam (swapsWith e (some (.Name x pos')) pos.line X.env=pure false) Au)(hf:autoParam (X.fn x=true\/X.env.scope.names.lookup x=some .local) Au) :
  PS X (.Assign [.Name x pos'] e pos) (tAsg te (gName i)):=by
 intro a s σ H D I h;show wpAny_Assign_Name (thn (he a s σ H _ I h) λv g ζ=>?_) hs;let(y,c,I1,b,d):=ζ;show JhO I1 hN hi hx b (λf I2=>⟨_,c,I2,d⟩) hf
def JmL(c:TT)(tb:TS):TS:=λD σ H=>∃ W:Nat->St->Hp->Prop,(∃ m,W m σ H)/\∀ m σ H,W m σ H ->
 c σ H λb H1=>if b=true then∃ N:St->Hp->Prop,(∀ σ' H',N σ' H'->∃ m',m'<m/\W m' σ' H')/\tb { D with nx:=N,ct:=N,bk:=D.nx } σ H1 else D.nx σ H1
variable{c:Expr}{body:List Stmt}{tb:TS}
theorem Jc8{tc:TT}(hp:PassesOwn (model X.prog X.w) X.A X.env X.xe)(hc:PT X c tc)(hb:PSs X body tb):PS X (.While c body [] pos) (JmL tc tb):=by
 intro a s σ H D I h;let(W,(z,u),d):=h;show wpAny_While (codeAny_whileLoop (λn y=>∃ σ' H',Inv X a σ' H' y/\W n σ' H') ?_ z ⟨σ,H,I,u⟩);rintro n t ⟨σ1,q,I1,x⟩;show wpAny_passesOwn hp (thn (hc a t σ1 q _ I1 (d n σ1 q x)) λb r ζ=>?_);let(o,I2,g):=ζ;cases b with
 | true=>
  let(N,p,g):=g;rw[if_pos rfl];show wpAny_passesOwn hp (thn (hb a r σ1 o _ I2 g) λf B i=>?_);cases f with
  | next=>
   let(σ3,e,I3,k):=i;let(l,m,j):=p σ3 e k;show(l,m,σ3,e,I3,j)
  | cont=>
   let(σ3,e,I3,k):=i;let(l,m,j):=p σ3 e k;show(l,m,σ3,e,I3,j)
  | brk=>show i
  | ret v=>show i
 | false=>
  rw[if_neg Bool.false_ne_true];show wpAny_execs_nil ⟨σ1,o,I2,g⟩
structure It where
 go:Nat->Hp->Prop
 yld:Nat->Hp->V->Hp->Prop
 stop:Nat->Hp->Prop
def FpOk(X:Cx)(pins:List (Addr × Obj))(H:Hp)(b:Addr):Prop :=
 H b=none/\b≠X.env.locals/\b∉X.fs/\(b∈X.ex\/X.s₀.heap.objs.size<=b)/\(∀ x c,X.env.cells.lookup x=some c->c≠b)/\∀ p∈X.pn++pins,p.1≠b
variable{pins:List (Addr × Obj)}{σ:St}{H':Hp}
theorem Inv.fpOk{s:Shared}(I:Inv X pins σ H s)(hb:s.heap.objs.size<=b)(hn:H' b=none):FpOk X pins H' b:=by
 show(hn,Nat.ne_of_gt (Nat.lt_of_lt_of_le I.lt hb),I.nofs hb, .inr (Nat.le_trans I.sz hb),λx c e z=>?_,λp a z=>?_)
 .let(v,q):=I.cell x c e;show absurd (Nat.lt_of_lt_of_le q.lt (by rw[z];show hb)) (Nat.lt_irrefl _)
 .show absurd (Nat.lt_of_lt_of_le (Heap.lt_size (I.pin p a).1) (by rw[z];show hb)) (Nat.lt_irrefl _)
structure Turn(P:Program)(w:World)(K:W.Frag)(tg:Expr)(J:It)(fp:List Addr)(it:Addr)(tn:Nat->Heap->Prop):Prop where
 mem:it∈fp
 obj:∀ i h,tn i h->∀ b∈fp, ∃ o,h.get? b=some o/\∀ v,o.data≠.cell v
 keep:∀ i h h',tn i h->(∀ b∈fp, ∀ o,h.get? b=some o->h'.get? b=some o)->tn i h'
 item:∀(X:Cx),X.prog=P->X.w=w->X.K=K->X.calm=true->∀(i:Nat)(pins:List (Addr × Obj))(s:Shared)(σ : St)(H:Hp)(E:Value->Shared->Prop),Inv X pins σ H s->(∀ b∈fp,FpOk X pins H b)->tn i s.heap->J.go i H ->
  wpAny (model P w) X.A (pyNext (.ref it)) (λr s1=>∃ u,r=some u /\
   wpAny (model P w) X.A (letOwnedTupleGo tg (.ref it) u) (λ_ s2=>∃ x H',Inv X pins σ H' s2/\RelV x u/\J.yld i H x H'/\tn (i+1) s2.heap/\∀ b∈fp,H' b=none) E s1) E s
 done:∀(X:Cx),X.prog=P->X.w=w->X.K=K->X.calm=true->∀(i:Nat)(pins:List (Addr × Obj))(s:Shared)(σ : St)(H:Hp)(E:Value->Shared->Prop),Inv X pins σ H s->(∀ b∈fp,FpOk X pins H b)->tn i s.heap->J.stop i H ->
  wpAny (model P w) X.A (pyNext (.ref it)) (λr s1=>r=none/\Inv X pins σ H s1) E s
 self:∀(A:Around)(i:Nat)(s:Shared)(Q:Value->Shared->Prop)(E:Value->Shared->Prop),tn i s.heap->Q (.ref it) s->wpAny (model P w) A (pyIter (.ref it)) Q E s
abbrev TI:=St->Hp->(It->Hp->Prop)->Prop
def PIE(X:Cx)(pins:List (Addr × Obj))(σ : St)(tg:Expr)(R:It->Hp->Prop)(itv:Value)(s2:Shared):Prop :=
 ∃(it:Addr)(fp:List Addr)(tn:Nat->Heap->Prop)(J:It)(H':Hp),itv=.ref it/\Inv X pins σ H' s2/\Turn X.prog X.w X.K tg J fp it tn/\tn 0 s2.heap/\(∀ b∈fp,FpOk X pins H' b)/\R J H'
def PI(X:Cx)(tg iter:Expr)(wi:TI):Prop :=
 ∀(pins:List (Addr × Obj))(s:Shared)(σ : St)(H:Hp)(R:It->Hp->Prop),Inv X pins σ H s->wi σ H R ->
  wpAny (model X.prog X.w) X.A (eval iter X.env) (λv s1=>wpAny (model X.prog X.w) X.A (pyIter v) (PIE X pins σ tg R) X.xe s1) X.xe s
theorem go_of{s:Shared}{it:Addr}{n:String}{vs:Array Value}{Q:Unit->Shared->Prop}(ho:s.heap.get? it=some o)(hc:o.cls=.type n)(hd:o.data=.fields vs)
    (hn:["enumerate","zip","dict_itemiterator","dict_reverseitemiterator","odict_iterator","itertools.zip_longest","itertools.pairwise"].contains n=false) (hQ:Q () s):wpAny M A (letOwnedTupleGo tg (.ref it) u) Q E s:=by
  unfold letOwnedTupleGo;cases tg <;> first
    | show wpAny_pure hQ
    | (cases u <;> first
        | show wpAny_pure hQ
        | (show wpAny_bind (wpAny_load ho ?_)
           rw[hc,hd];show wpAny M A (if(["enumerate","zip","dict_itemiterator","dict_reverseitemiterator","odict_iterator","itertools.zip_longest","itertools.pairwise"].contains n&&vs[0]? == some (rawInt _))=true then _ else _) Q E s;rw[if_neg (by intro h;rw[hn,Bool.false_and]at h;cases h)];show wpAny_pure hQ))
def Itl(K:W.Frag)(a:Addr):It :=
 ⟨λi H=>∃ xs x,SqL K H a xs/\xs[i]?=some x,λi H x H'=>H'=H/\∀ xs,SqL K H a xs->xs[i]?=some x,λi H=>∃ xs,SqL K H a xs/\xs.length<=i⟩
def Itt(K:W.Frag)(a:Addr):It :=
 ⟨λi H=>∃ xs x,SqT K H a xs/\xs[i]?=some x,λi H x H'=>H'=H/\∀ xs,SqT K H a xs->xs[i]?=some x,λi H=>∃ xs,SqT K H a xs/\xs.length<=i⟩
def Itr(lo:Int)(n:Nat):It:=⟨λi _=>i<n,λi H x H'=>H'=H/\x=.int (lo+i),λi _=>n<=i⟩
theorem JjD{w:World}{K:W.Frag}(a it:Addr):Turn P w K tg (Itl K a) [it] it (λi h=>h.IsListIter it a i) where
 mem:=by simp
 obj:=λi h f b j=>by
  have e:b=it:=by simpa using j
  subst e;let(o,e,c,d):=f;show(o,e,λv z=>by rw[d]at z;cases z)
 keep:=λi h q f k=>f.at λo e=>k it (by simp) o e
 item:=by
  intro X J L r N i g s σ H E I m f t;subst J L r;let(S,x,n,M):=t;let(F,G,p,V):=I.list n;let(u,T,R):=G.get M;let(A,y,O,B,D,C):=m it (by simp);show wpAny_pyNext_list_item f p.isList (x:=u) (by simpa using T) λq l U=>?_;have I1:Inv X g σ H { s with heap:=q }:=I.turned (t':=s.toks) (λb o j e=>(U.2 b j).trans e) A y B D C;let(o,e,c,d):=id l;show(u,rfl,go_of (s:={ s with heap:=q }) e c d ⋯ ⟨x,H,I1,R,⟨rfl,λys Q=>by rw[I.list_inj Q n];show M⟩,l,λb j=>(m b j).1⟩)
 done:=by
  intro X J L r N i g s σ H E I m f t;subst J L r;let(S,n,M):=t;let(F,G,p,V):=I.list n;let(A,y,O,B,D,C):=m it (by simp);have Z:=G.length;show wpAny_pyNext_list_end (I.ok.hd N) f p.isList (by simp;ac_nf) λq Y=>⟨rfl,I.turned (t':=s.toks) (λb o j e=>Y b o j e) A y B D C⟩
 self:=λ_ _ _ _ _ f h=>wpAny_pyIter_listiter f h
theorem Jij{w:World}{K:W.Frag}(a it:Addr):Turn P w K tg (Itt K a) [it] it (λi h=>h.IsTupleIter it a i) where
 mem:=by simp
 obj:=λi h f b l=>by
  have e:b=it:=by simpa using l
  subst e;let(o,e,c,d):=f;show(o,e,λv z=>by rw[d]at z;cases z)
 keep:=λi h r f k=>f.at λo e=>k it (by simp) o e
 item:=by
  intro X J L t N i g s σ H E I n f y;subst J L t;let(S,x,q,M):=y;let(j,G,p,V):=I.tuple q;let(u,T,R):=G.get M;let(B,A,O,C,F,D):=n it (by simp);show wpAny_pyNext_tuple_item f (show s.heap.IsTuple a j.toArray from p) (x:=u) (by simpa using T) λr m U=>?_;have I1:Inv X g σ H { s with heap:=r }:=I.turned (t':=s.toks) (λb o l e=>(U.2 b l).trans e) B A C F D;let(o,e,c,d):=id m;show(u,rfl,go_of (s:={ s with heap:=r }) e c d ⋯ ⟨x,H,I1,R,⟨rfl,λys Q=>by rw[I.tuple_inj Q q];show M⟩,m,λb l=>(n b l).1⟩)
 done:=by
  intro X J L t N i g s σ H E I n f y;subst J L t;let(S,q,M):=y;let(j,G,p,V):=I.tuple q;let(B,A,O,C,F,D):=n it (by simp);have Z:=G.length;show wpAny_pyNext_tuple_end (I.ok.hd N) f (show s.heap.IsTuple a j.toArray from p) (by simp;ac_nf) λr Y=>⟨rfl,I.turned (t':=s.toks) (λb o l e=>Y b o l e) B A C F D⟩
 self:=λ_ _ _ _ _ f h=>wpAny_pyIter_tupleiter f h
theorem Jii{w:World}{K:W.Frag}(it:Addr)(lo:Int)(n:Nat):Turn P w K tg (Itr lo n) [it] it (λi h=>IsRangeIter h it (lo+(i:Nat)*1) ((n:Int)-(i:Nat)) 1) where
 mem:=by simp
 obj:=λi h a b d=>by
  have e:b=it:=by simpa using d
  subst e;show(_,a,λv z=>by
   have J:Data.fields _=Data.cell v:=z;cases J)
 keep:=λi h j a k=>k it (by simp) _ a
 item:=by
  intro X y A l B i c s σ H E I g a m;subst y A l;let(q,p,F,r,x,u):=g it (by simp);have W:=Walks.range (prog:=X.prog) (w:=X.w) (I.ok.hd B) it lo 1 n;show W.item i s _ _ m a λv j C D f G=>?_;let(t,rfl):=D;have I1:Inv X c σ H { s with heap:=j,toks:=C }:=I.turned (λb o d e=>G b o (by simpa using d) e) q p r x u;show(_,rfl,go_of (s:={ s with heap:=j,toks:=C }) (n:="range_iterator") f rfl rfl ⋯ ⟨.int (lo+i),H,I1,⟨t,?_⟩,⟨rfl,rfl⟩,f,λb d=>(g b d).1⟩);rw[Int.mul_one]
 done:=by
  intro X y A l B i c s σ H E I g a m;subst y A l;let(q,p,F,r,x,u):=g it (by simp);show wpAny_pyNext_range_end (I.ok.hd B) a (by have : n<=i:=m;ac_nf) λj L=>⟨rfl,I.turned (t':=s.toks) (λb o d e=>L b o d e) q p r x u⟩
 self:=λ_ _ _ _ _ a h=>wpAny_pyIter_rangeiter a h
theorem JhM{s:Shared}{R:It->Hp->Prop}{lo hi:Int}{t u v:Tok}{tk:Nat}(I:Inv X pins σ H s)(h1 : -(2 ^ 62)<=lo)(h2:lo<2 ^ 62)(h3 : -(2 ^ 62)<=hi)(h4:hi<2 ^ 62)
  (q:R (Itr lo (hi-lo).toNat) H):wpAny (model X.prog X.w) X.A (pyIter (.ref s.heap.objs.size)) (PIE X pins σ tg R) E { s with heap:=s.heap.push { cls:=.type "range",data:=.fields #[.int lo t, .int hi u, .int 1 v] },toks:=tk }:=by
 show wpAny_pyIter_range (IsRange.new ..) (small_one h1 h2 h3 h4) ?_;have I1:Inv X pins σ H { s with heap:=s.heap.push { cls:=.type "range",data:=.fields #[.int lo t, .int hi u, .int 1 v] },toks:=tk }:=I.kept λb o e=>Heap.get?_push_of_some _ e;show((s.heap.push { cls:=.type "range",data:=.fields #[.int lo t, .int hi u, .int 1 v] }).objs.size,[(s.heap.push { cls:=.type "range",data:=.fields #[.int lo t, .int hi u, .int 1 v] }).objs.size],_,_,H,rfl,
  I1.kept (t':=tk) λb o e=>Heap.get?_push_of_some _ e,Jii _ lo (hi-lo).toNat,?_,λb a=>?_,q)
 .have c:lo+((0:Nat):Int)*1=lo:=by simp
  have d:(((hi-lo).toNat:Nat):Int)-((0:Nat):Int)=Builtin.Range.rangeSize lo hi 1:=by rw[rangeSize_one];split <;> ac_nf
  show IsRangeIter _ _ (lo+((0:Nat):Int)*1) ((((hi-lo).toNat:Nat):Int)-((0:Nat):Int)) 1;rw[c,d];show Heap.get?_push_size _ rfl
 .have e:b=(s.heap.push { cls:=.type "range",data:=.fields #[.int lo t, .int hi u, .int 1 v] }).objs.size:=by simpa using a
  subst e;show I1.fpOk (Nat.le_refl _) (I1.hok.fresh (Nat.le_refl _))
def iRng1(ta:TA):TI:=λσ H R=>ta σ H λvs H1=>∃ j:Int,vs=[.int j]/\-(2 ^ 62)<=j/\j<2 ^ 62/\R (Itr 0 j.toNat) H1
def iRng2(ta:TA):TI:=λσ H R=>ta σ H λvs H1=>∃ i j:Int,vs=[.int i, .int j]/\(-(2 ^ 62)<=i/\i<2 ^ 62/\-(2 ^ 62)<=j/\j<2 ^ 62)/\R (Itr i (j-i).toNat) H1
variable{a:Expr}{ta:TA}{p:Pos}
theorem JcU(hg:Gl X "range")(hm:X.mg "range"=none)(ha:PA X [a] ta)(hs:autoParam (starEach [a] X.env=[(false,eval a X.env)]) Au):PI X tg (.Call (.Name "range" p) [a] [] pos) (iRng1 ta):=by
 intro b s σ H R I h;show Call_ (JdP I hg hm boot_range (PyProof.Rows.callWith_type1 (thn (ha pos b s σ H _ I h) λk l ζ=>?_) hs rfl));let(i,g,I1,d,c):=ζ;let(j,e,c,f,q):=c;subst e;cases d with
 | cons r rr=>
  cases rr;let(t,rfl):=r;show call_range_1 (JhM I1 ∅ ∅ c f (by simpa using q))
theorem Jgs{b:Expr}(hg:Gl X "range")(hm:X.mg "range"=none)(ha:PA X [a,b] ta)(hs:autoParam (starEach [a,b] X.env=[(false,eval a X.env),(false,eval b X.env)]) Au)(hs2:autoParam (starEach [b] X.env=[(false,eval b X.env)]) Au) :
  PI X tg (.Call (.Name "range" p) [a,b] [] pos) (iRng2 ta):=by
 intro c s σ H R I h;show Call_ (JdP I hg hm boot_range (PyProof.Rows.callWith_type1 (thn (ha pos c s σ H _ I h) λo n ζ=>?_) (by rw[hs,hs2]) (by rw[hs2];rfl)));let(m,u,I1,k,d):=ζ;let(i,j,e,(d,f,l,g),q):=d;subst e;cases k with
 | cons r rr=>
  cases rr with
  | cons r' rr=>
   cases rr;let(t,rfl):=r;let(v,rfl):=r';show call_range_2 (JhM I1 d f l g q)
def tFor(wi:TI)(g:TG)(tb:TS):TS:=λD σ H=>wi σ H λJ H1=>∃ W:Nat->Nat->St->Hp->Prop,(∃ m,W 0 m σ H1)/\∀ i m σ H,W i m σ H ->
 (J.stop i H/\D.nx σ H)\/(J.go i H/\∃ N:St->Hp->Prop,(∀ σ' H',N σ' H'->∃ m',m'<m/\W (i+1) m' σ' H')/\∀ x H',J.yld i H x H'->g x σ H' λσ2 H2=>tb { D with nx:=N,ct:=N,bk:=D.nx } σ2 H2)
def JhJ(fp:List Addr)(h:Heap):List (Addr × Obj):=fp.filterMap λb=>(h.get? b).map λo=>(b,o)
variable{fp:List Addr}
theorem Jc3(hb:b∈fp)(e:h.get? b=some o):(b,o)∈JhJ fp h:=List.mem_filterMap.mpr ⟨b,hb,by rw[e];rfl⟩
theorem JiV{p:Addr × Obj}(hp:p∈JhJ fp h):p.1∈fp/\h.get? p.1=some p.2:=by
 let(b,c,e):=List.mem_filterMap.mp hp;cases q:h.get? b with
 | none=>rw[q]at e;cases e
 | some o=>
  rw[q]at e;have a:(b,o)=p:=Option.some.inj e;subst a;show(c,q)
theorem Inv.pinned{s:Shared}(I:Inv X pins σ H s)(hf:∀ b∈fp,FpOk X pins H b)(ho:∀ b∈fp, ∃ o,s.heap.get? b=some o/\∀ v,o.data≠.cell v):Inv X (pins++JhJ fp s.heap) σ H s :=
 I.pins_of λp i=>(mem_append.mp i).elim (λz=>I.pin p (mem_append_right _ z)) λz=>by
  let(c,e):=JiV z;let(h,f,g,_):=hf p.1 c;let(o,a,d):=ho p.1 c;rw[e]at a;cases a;show(e,h,f,g,d)
theorem Inv.unpinned{pl:List (Addr × Obj)}{s:Shared}(I:Inv X (pins++pl) σ H s):Inv X pins σ H s:=I.pins_of λp a=>I.pin p (mem_append_right _ (List.mem_append_left _ a))
theorem JaI{iter:Expr}{wi:TI}{g:TG}(hp:PassesOwn (model X.prog X.w) X.A X.env X.xe)(hc:X.calm=true)(hi:PI X tg iter wi)(hg:PG X tg g)(hb:PSs X body tb)
  (hs:autoParam (∀ x,foldedSetIterable iter X.env x=pure x) Au):PS X (.For tg iter body [] pos) (tFor wi g tb):=by
 intro a s σ H D I h;show wpAny_For (thn (hi a s σ H _ I h) λv s1 h1=>thn h1 λS s2 h2=>?_) hs;let(it,z,L,J,V,e,I2,T,K,M,W,(m0,w0),y):=h2;subst e;have j:∀{H':Hp},(∀ b∈z,H' b=none)->∀ b∈z,FpOk X a H' b:=λhn b hb=>⟨hn b hb,(M b hb).2⟩;show codeAny_forLoop_any (λn Q=>∃ i σ' H',Inv X a σ' H' Q/\L i Q.heap/\(∀ b∈z,H' b=none)/\W i n σ' H') ?_ m0 ⟨0,σ,V,I2,K,λb hb=>(M b hb).1,w0⟩;intro n R z_;let(i,σ3,C,I3,B,t,Z):=z_;rcases y i n σ3 C Z with⟨stop,qn⟩ | ⟨go,N,hN,step⟩
 .show wpAny_passesOwn hp (thn (T.done X rfl rfl rfl hc i a R σ3 C X.xe I3 (j t) B stop) λr s4 ⟨F,I4⟩=>?_);subst F;show wpAny_execs_nil ⟨σ3,C,I4,qn⟩
 .show wpAny_passesOwn hp (thn (T.item X rfl rfl rfl hc i a R σ3 C X.xe I3 (j t) B go) λr s4 ζ=>?_);let(u,F,U):=ζ;subst F;show wpAny_passesOwn hp (thn U λ_ O ζ=>?_);let(x,P,I5,r5,y5,p,G):=ζ;have I5':=I5.pinned (j G) (T.obj _ _ p);show wpAny_passesOwn hp (thn (hg _ O σ3 P x u _ I5' r5 (step x P y5)) λ_ s6 ζ=>?_);let(σ6,Y,I6,q6):=ζ;show wpAny_passesOwn hp (thn (hb _ s6 σ6 Y _ I6 q6) λf E l=>?_);have k:∀{σ7:St}{c:Hp},Inv X (a++JhJ z O.heap) σ7 c E->N σ7 c->∃ m,m<n/\∃ i σ' H',Inv X a σ' H' E/\L i E.heap/\(∀ b∈z,H' b=none)/\W i m σ' H':=λ{σ7 c} I7 q=>by
   let(m',hm,w7):=hN σ7 c q;show(m',hm,i+1,σ7,c,I7.unpinned,T.keep _ _ _ p λb hb o e=>(I7.pin (b,o) (mem_append_right _ (mem_append_right _ (Jc3 hb e)))).1,λb hb=>?_,w7);let(o,e,d):=T.obj _ _ p b hb;show(I7.pin (b,o) (mem_append_right _ (mem_append_right _ (Jc3 hb e)))).2.1
  cases f with
  | next=>let(σ7,c,I7,q):=l;show k I7 q
  | cont=>let(σ7,c,I7,q):=l;show k I7 q
  | brk=>let(σ7,c,I7,l):=l;show(σ7,c,I7.unpinned,l)
  | ret v=>let(x7,σ7,c,I7,r7,l):=l;show(x7,σ7,c,I7.unpinned,r7,l)
variable{n:Nat}
theorem JiH{lo:Int}{g:TG}{D:Ends}(Pv:Nat->St->Hp->Prop)(h0:Pv 0 σ H)
  (hs:∀ i σ H,i<n->Pv i σ H->g (.int (lo+i)) σ H λσ2 H2=>tb { D with nx:=Pv (i+1),ct:=Pv (i+1),bk:=D.nx } σ2 H2) (hd:∀ σ H,Pv n σ H->D.nx σ H) :
  ∃ W:Nat->Nat->St->Hp->Prop,(∃ m,W 0 m σ H)/\∀ i m σ H,W i m σ H ->
   ((Itr lo n).stop i H/\D.nx σ H)\/((Itr lo n).go i H/\∃ N:St->Hp->Prop,(∀ σ' H',N σ' H'->∃ m',m'<m/\W (i+1) m' σ' H')/\∀ x H',(Itr lo n).yld i H x H'->g x σ H' λσ2 H2=>tb { D with nx:=N,ct:=N,bk:=D.nx } σ2 H2):=by
 show(λi m σ H=>m=n-i/\i<=n/\Pv i σ H,⟨n,by simp,Nat.zero_le _,h0⟩,?_);rintro i m σ H ⟨rfl,c,p⟩;by_cases a:i<n
 .show .inr ⟨a,Pv (i+1),λσ' H' b=>⟨n-(i+1),by ac_nf,rfl,a,b⟩,λx H' y=>?_⟩;let(e,y):=y;subst e y;show hs i σ _ a p
 .have e:i=n:=by ac_nf
  subst e;show .inl ⟨Nat.le_refl _,hd σ H p⟩
abbrev R2:=V->V->Hp->VK->Prop
def OpR(X:Cx)(f:Value->Value->Sem Value)(r:R2):Prop :=
 ∀(pins:List (Addr × Obj))(s:Shared)(σ : St)(H:Hp)(x y:V)(v u:Value)(Q:VK),Inv X pins σ H s->RelV x v->RelV y u->r x y H Q ->
  wpAny (model X.prog X.w) X.A (f v u) (EP X pins σ Q) X.xe s
def UnR(X:Cx)(f:Value->Sem Value)(r:V->Hp->VK->Prop):Prop :=
 ∀(pins:List (Addr × Obj))(s:Shared)(σ : St)(H:Hp)(x:V)(v:Value)(Q:VK),Inv X pins σ H s->RelV x v->r x H Q ->
  wpAny (model X.prog X.w) X.A (f v) (EP X pins σ Q) X.xe s
def CallR(X:Cx)(f:Value)(r:List V->Hp->VK->Prop):Prop :=
 ∀(pins:List (Addr × Obj))(s:Shared)(σ : St)(H:Hp)(xs:List V)(us:List Value)(Q:VK),Inv X pins σ H s->Vals xs us->r xs H Q ->
  wpAny (model X.prog X.w) X.A (call f us) (EP X pins σ Q) X.xe s
def tOp(r:R2)(ta tb:TE):TE:=λσ H Q=>ta σ H λx H1=>tb σ H1 λy H2=>r x y H2 Q
def tUn(r:V->Hp->VK->Prop)(ta:TE):TE:=λσ H Q=>ta σ H λx H1=>r x H1 Q
def rI(C:Int->Int->Prop)(g:Int->Int->V):R2:=λx y H Q=>∃ i j,x=.int i/\y=.int j/\C i j/\Q (g i j) H
def rI0(g:Int->Int->V):R2:=λx y H Q=>∃ i j,x=.int i/\y=.int j/\Q (g i j) H
def rU(g:Int->V):V->Hp->VK->Prop:=λx H Q=>∃ i,x=.int i/\Q (g i) H
variable{b:Expr}{ta tb tc:TE}
theorem binT(ha:PE X a ta)(hb:PE X b tb){pins:List (Addr × Obj)}{s:Shared}{σ : St}{H:Hp}{R:V->V->Hp->Prop}(I:Inv X pins σ H s)
  (h:ta σ H λx H1=>tb σ H1 λy H2=>R x y H2) {Q:Value->Shared->Prop} {f:Value->Value->Sem Value}
  (hf:∀ v u s2 x y H2,Inv X pins σ H2 s2->RelV x v->RelV y u->R x y H2->wpAny (model X.prog X.w) X.A (f v u) Q X.xe s2) :
  wpAny (model X.prog X.w) X.A (eval a X.env) (λv s₁=>wpAny (model X.prog X.w) X.A (eval b X.env) (λu s₂=>wpAny (model X.prog X.w) X.A (f v u) Q X.xe s₂) X.xe s₁) X.xe s:=by
 show thn (ha pins s σ H _ I h) λv c ζ=>?_;let(x,H1,I1,e,d):=ζ;show thn (hb pins c σ H1 _ I1 d) λu s2 ζ=>?_;let(y,H2,I2,g,i):=ζ;show hf v u s2 x y H2 I2 e g i
theorem pe_op{op:Operator}{r:R2}(ho:OpR X (binaryOp op) r)(ha:PE X a ta)(hb:PE X b tb):PE X (.BinOp a op b pos) (tOp r ta tb):=by
 intro c s σ H Q I h;show wpAny_BinOp (binT ha hb I h λv u d x y g I2 f e q=>ho c d σ g x y v u Q I2 f e q)
theorem pe_un{op:UnaryOp}{r:V->Hp->VK->Prop}(ho:UnR X (unaryOp op) r)(ha:PE X a ta):PE X (.UnaryOp op a pos) (tUn r ta):=by
 intro b s σ H Q I h;show UnaryOp_ (thn (ha b s σ H _ I h) λv e ζ=>by let(x,d,I1,c,f):=ζ;show ho b e σ d x v Q I1 c f)
theorem opI{f:Value->Value->Sem Value}{C:Int->Int->Prop}{g:Int->Int->Int}
  (rule:∀(i j:Int)(t u:Tok)(s:Shared)(Q:Value->Shared->Prop)(E:Value->Shared->Prop),C i j->Q (.int (g i j) s.toks) { s with toks:=s.toks+1 }->wpAny (model X.prog X.w) X.A (f (.int i t) (.int j u)) Q E s) :
  OpR X f (rI C λi j=>.int (g i j)):=by
 intro a s σ H x y v u Q I d b h;let(i,j,rfl,rfl,e,q):=h;let(t,rfl):=d;let(c,rfl):=b;show rule i j t c s _ _ e ⟨.int (g i j),H,I.tok _,⟨_,rfl⟩,q⟩
theorem opI0{f:Value->Value->Sem Value}{g:Int->Int->Int}
  (rule:∀(i j:Int)(t u:Tok)(s:Shared)(Q:Value->Shared->Prop)(E:Value->Shared->Prop),Q (.int (g i j) s.toks) { s with toks:=s.toks+1 }->wpAny (model X.prog X.w) X.A (f (.int i t) (.int j u)) Q E s) :
  OpR X f (rI0 λi j=>.int (g i j)):=by
 intro a s σ H x y v u Q I d b h;let(i,j,rfl,rfl,q):=h;let(t,rfl):=d;let(c,rfl):=b;show rule i j t c s _ _ ⟨.int (g i j),H,I.tok _,⟨_,rfl⟩,q⟩
theorem opB0{f:Value->Value->Sem Value}{g:Int->Int->Bool}
  (rule:∀(i j:Int)(t u:Tok)(s:Shared)(Q:Value->Shared->Prop)(E:Value->Shared->Prop),Q (.bool (g i j)) s->wpAny (model X.prog X.w) X.A (f (.int i t) (.int j u)) Q E s) :
  OpR X f (rI0 λi j=>.bl (g i j)):=by
 intro a s σ H x y v u Q I d b h;let(i,j,rfl,rfl,q):=h;let(t,rfl):=d;let(c,rfl):=b;show rule i j t c s _ _ ⟨.bl (g i j),H,I,rfl,q⟩
def CPow(i j:Int):Prop:=0<=j/\j<=1000000/\i.natAbs<2 ^ 64
theorem Jmq:OpR X (binaryOp .Add) (rI0 λi j=>.int (i+j)):=opI0 λ_ _ _ _ _ _ _ q=>add_int q
theorem Jgq:OpR X (binaryOp .Sub) (rI0 λi j=>.int (i-j)):=opI0 λ_ _ _ _ _ _ _ q=>sub_int q
theorem JlH:OpR X (binaryOp .Mod) (rI (λ_ j=>j≠0) λi j=>.int (i.fmod j)):=opI λ_ _ _ _ _ _ _ a q=>mod_int' a q
theorem Jmv:OpR X (binaryOp .Pow) (rI CPow λi j=>.int (i ^ j.toNat)):=opI λ_ _ _ _ _ _ _ a q=>pow_int_small a.1 a.2.1 a.2.2 q
theorem unI{f:Value->Sem Value}{g:Int->Int}
  (rule:∀(i:Int)(t:Tok)(s:Shared)(Q:Value->Shared->Prop)(E:Value->Shared->Prop),Q (.int (g i) s.toks) { s with toks:=s.toks+1 }->wpAny (model X.prog X.w) X.A (f (.int i t)) Q E s) :
  UnR X f (rU λi=>.int (g i)):=by
 intro a s σ H x v Q I b h;let(i,rfl,q):=h;let(t,rfl):=b;show rule i t s _ _ ⟨.int (g i),H,I.tok _,⟨_,rfl⟩,q⟩
theorem Jfe:UnR X (unaryOp .USub) (rU λi=>.int (-i)):=unI λ_ _ _ _ _ q=>neg_int q
def scal:V->V->Bool
 | .non, .non=>true | .non, .int _=>true | .int _, .non=>true | .non, .bl _=>true | .bl _, .non=>true | .non, .str _=>true | .str _, .non=>true
 | .int _, .int _=>true | .bl _, .bl _=>true | .str _, .str _=>true | .byt _, .byt _=>true
 | .int _, .str _=>true | .str _, .int _=>true | .bl _, .str _=>true | .str _, .bl _=>true
 | _,_=>false
def rEq:R2:=λx y H Q=>scal x y=true/\Q (.bl (decide (x=y))) H
def rNe:R2:=λx y H Q=>scal x y=true/\Q (.bl (!decide (x=y))) H
theorem JiA{i j:Int}:decide (V.int i=V.int j)=(i == j):=by
 rw[Bool.eq_iff_iff];simp
theorem Jkv{i j:Bool}:decide (V.bl i=V.bl j)=(i == j):=by
 rw[Bool.eq_iff_iff];simp
theorem JiB{i j:Str}:decide (V.str i=V.str j)=(i == j):=by
 rw[Bool.eq_iff_iff];simp
theorem Jiz{i j:Array UInt8}:decide (V.byt i=V.byt j)=(i.toList == j.toList):=by
 rw[Bool.eq_iff_iff];cases i;cases j;simp
theorem JaV{s:Shared}{Q:VK}{k k':Bool}(I:Inv X pins σ H s)(q:Q (.bl k) H)(e:k=k'):EP X pins σ Q (.bool k') s:=by
 subst e;show(.bl k,H,I,rfl,q)
theorem op_eq:OpR X (compareOp .Eq) rEq:=by
 intro e s σ H x y v u Q I d a h;let(c,q):=h;cases x with
 | non=>
  cases d;cases y with
  | non=>cases a;show PySem.EqNone.eq_none_none (JaV I q (by simp))
  | bl j=>cases a;show PySem.EqNone.eq_none_bool (JaV I q (by simp))
  | int j=>let(b,rfl):=a;show PySem.EqNone.eq_none_int (JaV I q (by simp))
  | str j=>let(b,rfl):=a;show PySem.EqNone.eq_none_str (JaV I q (by simp))
  | _=>show absurd (show false=true from c) Bool.false_ne_true
 | bl i=>
  cases d;cases y with
  | non=>cases a;show PySem.EqNone.eq_bool_none (JaV I q (by simp))
  | bl j=>cases a;show eq_bool (JaV I q Jkv)
  | str j=>let(b,rfl):=a;show PySem.EqMixed.eq_bool_str (JaV I q (by simp))
  | _=>show absurd (show false=true from c) Bool.false_ne_true
 | int i=>
  let(t,rfl):=d;cases y with
  | non=>cases a;show PySem.EqNone.eq_int_none (JaV I q (by simp))
  | int j=>let(b,rfl):=a;show eq_int (JaV I q JiA)
  | str j=>let(b,rfl):=a;show PySem.EqMixed.eq_int_str (JaV I q (by simp))
  | _=>show absurd (show false=true from c) Bool.false_ne_true
 | str i=>
  let(t,rfl):=d;cases y with
  | non=>cases a;show PySem.EqNone.eq_str_none (JaV I q (by simp))
  | bl j=>cases a;show PySem.EqMixed.eq_str_bool (JaV I q (by simp))
  | int j=>let(b,rfl):=a;show PySem.EqMixed.eq_str_int (JaV I q (by simp))
  | str j=>let(b,rfl):=a;show eq_str (JaV I q JiB)
  | _=>show absurd (show false=true from c) Bool.false_ne_true
 | byt i=>
  let(t,rfl):=d;cases y with
  | byt j=>let(b,rfl):=a;show W.eq_bytes (JaV I q Jiz)
  | _=>show absurd (show false=true from c) Bool.false_ne_true
 | _=>cases y <;> show absurd (show false=true from c) Bool.false_ne_true
theorem op_ne:OpR X (compareOp .NotEq) rNe:=by
 intro e s σ H x y v u Q I d a h;let(c,q):=h;cases x with
 | non=>
  cases d;cases y with
  | non=>cases a;show PySem.EqNone.ne_none_none (JaV I q (by simp))
  | bl j=>cases a;show PySem.EqNone.ne_none_bool (JaV I q (by simp))
  | int j=>let(b,rfl):=a;show PySem.EqNone.ne_none_int (JaV I q (by simp))
  | str j=>let(b,rfl):=a;show PySem.EqNone.ne_none_str (JaV I q (by simp))
  | _=>show absurd (show false=true from c) Bool.false_ne_true
 | bl i=>
  cases d;cases y with
  | non=>cases a;show PySem.EqNone.ne_bool_none (JaV I q (by simp))
  | bl j=>cases a;show ne_bool (JaV I q (congrArg not Jkv))
  | str j=>let(b,rfl):=a;show PySem.EqMixed.ne_bool_str (JaV I q (by simp))
  | _=>show absurd (show false=true from c) Bool.false_ne_true
 | int i=>
  let(t,rfl):=d;cases y with
  | non=>cases a;show PySem.EqNone.ne_int_none (JaV I q (by simp))
  | int j=>let(b,rfl):=a;show ne_int (JaV I q (congrArg not JiA))
  | str j=>let(b,rfl):=a;show PySem.EqMixed.ne_int_str (JaV I q (by simp))
  | _=>show absurd (show false=true from c) Bool.false_ne_true
 | str i=>
  let(t,rfl):=d;cases y with
  | non=>cases a;show PySem.EqNone.ne_str_none (JaV I q (by simp))
  | bl j=>cases a;show PySem.EqMixed.ne_str_bool (JaV I q (by simp))
  | int j=>let(b,rfl):=a;show PySem.EqMixed.ne_str_int (JaV I q (by simp))
  | str j=>let(b,rfl):=a;show ne_str (JaV I q (congrArg not JiB))
  | _=>show absurd (show false=true from c) Bool.false_ne_true
 | byt i=>
  let(t,rfl):=d;cases y with
  | byt j=>let(b,rfl):=a;show W.ne_bytes (JaV I q (congrArg not Jiz))
  | _=>show absurd (show false=true from c) Bool.false_ne_true
 | _=>cases y <;> show absurd (show false=true from c) Bool.false_ne_true
theorem op_lt:OpR X (compareOp .Lt) (rI0 λi j=>.bl (decide (i<j))):=opB0 λ_ _ _ _ _ _ _ q=>lt_int q
theorem op_gt:OpR X (compareOp .Gt) (rI0 λi j=>.bl (decide (j<i))):=opB0 λ_ _ _ _ _ _ _ q=>gt_int q
theorem op_ge:OpR X (compareOp .GtE) (rI0 λi j=>.bl (decide (j<=i))):=opB0 λ_ _ _ _ _ _ _ q=>ge_int q
theorem Ji2:OpR X (compareOp .In) (λx y H Q=>∃ i j,x=.str i/\y=.str j/\Q (.bl (!(Builtin.Str.occurrences j i 0 j.length 1).isEmpty)) H):=by
 intro a s σ H x y v u Q I c b h;let(i,j,rfl,rfl,q):=h;let(t,rfl):=c;let(d,rfl):=b;show in_str (JaV I q rfl)
theorem Jmu:OpR X (compareOp .Is) (λx y H Q=>y=.non/\Q (.bl (decide (x=.non))) H):=by
 intro b s σ H x y v u Q I a c h;let(rfl,q):=h;cases c;show is_none_gen (JaV I q ?_);cases x <;> first
  | (cases a;rfl)
  | (let(t,rfl):=a;rfl)
theorem JlL:OpR X (compareOp .IsNot) (λx y H Q=>y=.non/\Q (.bl (!decide (x=.non))) H):=by
 intro b s σ H x y v u Q I a c h;let(rfl,q):=h;cases c;show isnot_none_gen (JaV I q ?_);cases x <;> first
  | (cases a;rfl)
  | (let(t,rfl):=a;rfl)
theorem JaB(b:Expr){op:CmpOp}(h:autoParam (op≠.In) Au)(h2:autoParam (op≠.NotIn) Au):behindInMarks op b=false:=by
 have a:(op == CmpOp.In)=false:=by cases op <;> first | rfl | show absurd rfl h
 have c:(op == CmpOp.NotIn)=false:=by cases op <;> first | rfl | show absurd rfl h2
 cases b <;> simp[behindInMarks,a,c]
variable{op:CmpOp}{r:R2}
theorem Jbx(ho:OpR X (compareOp op) r)(ha:PE X a ta)(hb:PE X b tb)(hm:behindInMarks op b=false):PE X (.Compare a [op] [b] pos) (tOp r ta tb):=by
 intro c s σ H Q I h;show wpAny_Compare1 (binT ha hb I h λv u d x y g I2 f e q=>ho c d σ g x y v u Q I2 f e q) hm
def tTest(t:TE):TT:=λσ H Q=>t σ H λx H'=>∃ k,x=.bl k/\Q k H'
theorem Jay(ho:OpR X (compareOp op) r)(ha:PE X a ta)(hb:PE X b tb)(hm:behindInMarks op b=false):PT X (.Compare a [op] [b] pos) (tTest (tOp r ta tb)):=by
 intro d s σ H Q I h;show wpAny_isTrue_Compare1 (thn (ha d s σ H _ I h) λv j ζ=>?_) hm;let(x,o,I1,p,l):=ζ;show thn (hb d j σ o _ I1 l) λu f ζ=>?_;let(y,i,I2,g,n):=ζ;show thn (ho d f σ i x y v u _ I2 p g n) λc w ζ=>?_;let(z,t,I3,m,k,e,q):=ζ
 subst e;cases m;show wpAny_truthy_bool ⟨t,I3,q⟩
theorem Jfa:(sizeLine:Nat)<2 ^ 63:=by rw[sizeLine_eq];decide
theorem Jib:OpR X (binaryOp .Add) (λx y H Q=>∃ i j,x=.str i/\y=.str j/\i.length+j.length<=sizeLine/\Q (.str (i++j)) H):=by
 intro a s σ H x y v u Q I d b h;let(i,j,rfl,rfl,c,q):=h;let(t,rfl):=d;let(e,rfl):=b;show add_str (λe f=>⟨.str (i++j),H,I.tok _,⟨_,rfl⟩,q⟩) c
variable{x:V}
theorem vals1(r:Vals [x] us):∃ u,us=[u]/\RelV x u:=by
 cases r with
 | cons r1 r2=>cases r2;show(_,rfl,r1)
theorem vals2(r:Vals [x,y] us):∃ u w',us=[u,w']/\RelV x u/\RelV y w':=by
 cases r with
 | cons r1 r2=>
  cases r2 with
  | cons r3 r4=>cases r4;show(_,_,rfl,r1,r3)
theorem JjM:CallR X (.builtin "abs") (λxs H Q=>∃ i,xs=[.int i]/\Q (.int (if i<0 then -i else i)) H):=by
 intro a s σ H xs b Q I r h;let(i,rfl,q):=h;let(u,rfl,t,rfl):=vals1 r;show call_abs_int λu c=>⟨.int (if i<0 then -i else i),H,I.tok _,⟨_,rfl⟩,q⟩
theorem Jir(hc:X.calm=true):CallR X (.builtin "min") (λxs H Q=>∃ i j,xs=[.int i, .int j]/\Q (.int (if j<i then j else i)) H):=by
 intro b s σ H xs d Q I r h;let(i,j,rfl,q):=h;let(u,f,rfl,(t,rfl),(g,rfl)):=vals2 r;show min_two_ints (I.ok.hd hc) λe c k=>⟨_,H,I.kept k,?_,q⟩;by_cases a:j<i
 .rw[if_pos a,if_pos a];show(_,rfl)
 .rw[if_neg a,if_neg a];show(_,rfl)
theorem Jf2:CallR X (.type "int") (λxs H Q=>(∃ i,xs=[.int i]/\Q (.int i) H)\/∃ k,xs=[.bl k]/\Q (.int (if k then 1 else 0)) H):=by
 intro a s σ H xs c Q I r h;rcases h with⟨i,rfl,q⟩ | ⟨k,rfl,q⟩
 .let(u,rfl,t,rfl):=vals1 r;show call_int_int ⟨.int i,H,I,⟨_,rfl⟩,q⟩
 .let(u,rfl,b):=vals1 r;cases b;show call_int_bool ⟨.int (if k then 1 else 0),H,I.tok _,⟨_,rfl⟩,q⟩
structure ObjM(h:Heap)(x dx C:Addr)(mA:Str->Option Value):Prop where
 obj:h.get? x=some (W.instObj C dx)
 ns:h.Ns1 dx mA
 ne:dx≠x
variable{dx:Addr}{mA:Str->Option Value}
theorem Jgc(n:h.Ns1 dx mA):∃ od,h.get? dx=some od/\∀ name,W.lookIn name od=some (mA name):=by
 let(o,c,l,d,j,f,_,k):=n;show(o,d,λname=>?_);have e:=k name;unfold nsFind findBy at e;rw[<- Array.find?_toList]at e;unfold W.lookIn;rw[j];dsimp only;split
 .rename_i y q;rw[q]at e;show congrArg some e
 .rename_i q;rw[q]at e;have a:c.toList.any (·.refKey)=false:=by
   rw[List.any_eq_false];intro y i;let(z,t,b):=f y (Array.mem_toList_iff.mp i);simp[DictEntry.refKey,b]
  have g:¬ c.toList.any (·.refKey)=true:=by rw[a];show Bool.false_ne_true
  rw[if_neg g];show congrArg some e
variable{x C:Addr}
theorem ObjM.look(I:ObjM h x dx C mA):∃ od,W.InstAt h x (W.instObj C dx) C (some od)/\∀ name,W.lookIn name od=some (mA name) :=
 let⟨od,ho,hl⟩:=Jgc I.ns
 ⟨od,⟨I.obj,rfl,rfl,ho⟩,hl⟩
section
variable{name:Str}{v:Value}{w:World}{s:Shared}{K:W.Frag}{f:Addr}
theorem get_map{expr:Bool}{Q:Value->Shared->Prop}(X:K.In s.heap)(I:ObjM s.heap x dx C mA)(hg:W.plainGet K C name=true)(hh:W.hasDictIn K C=true)
  (ha:W.findIn K (.ref C) name=some none) (hv:mA name=some v) (hv':W.handedIn v=true) (h:Q v { s with toks:=s.toks+1 }) :
  wpAny (model prog w) A (getAttr (.ref x) name expr) Q E s:=by
 let(b,J,a):=I.look;show W.get_value X J (W.plainGet_of hg).1 (W.findObj_own hh ha rfl (by rw[a,hv])) hv' h
variable{pl:Sem Bool}
theorem JjQ{Q:Value × List Value->Shared->Prop}(X:K.In s.heap)(I:ObjM s.heap x dx C mA)(hg:W.plainGet K C name=true)
  (hf:W.findIn K (.ref C) name=some (some (.ref f))) (ht:W.isFn K (.ref f)=true) (hv:mA name=none) (h:Q (.ref f,[.ref x]) s) :
  wpAny (model prog w) A (getMethod (.ref x) name pl) Q E s:=by
 let(b,J,a):=I.look;show W.method_fn X J (W.plainGet_of hg).1 (W.plainGet_of hg).2 hf (beq_iff_eq.mp ht) (by show(W.lookIn name b).map (·.isSome)=some false;rw[a,hv];rfl) h
theorem JlW{ns:List Str}{Q:Unit->Shared->Prop}(X:K.In s.heap)(I:ObjM s.heap x dx C mA)
  (hs:W.findIn K (.ref C) "__setattr__"=some (some (.builtin "object.__setattr__"))) (hp:W.plainOver K C=true) (ht:W.takerIn K C name=some none) (hh:W.hasDictIn K C=true)
  (hw:PySem.Within mA ns) (hsz:ns.length<=sizeLine)
  (h:∀ h',ObjM h' x dx C (λy=>if y=name then some v else mA y)->Heap.SameBut dx s.heap h'->Q () { s with heap:=h',toks:=s.toks+2 }) :
  wpAny (model prog w) A (setAttr (.ref x) name v) Q E s:=by
 let(p,J,n):=I.look;show W.set_plain X J hs (W.osa_open (s:={ s with toks:=s.toks+1 }) (r:=none) X J hp ht λb=>?_);let(q,l,i):=W.any_some hh;have m:s.heap.get? x=some ⟨.ref C,some dx, .plain, #[]⟩:=I.obj;show wpAny_bind (wpAny_pure (wpAny_bind (wpAny_bind (wpAny_loadPart m (wpAny_bind (W.Looks.here (s:={ s with toks:=s.toks+1 }) (W.looks_clsIn X l) ?_))))));rw[i];show wpAny_pure (a:=some dx) (wpAny_bind (wpAny_pure (wpAny_bind ?_)));show wpAny_nsSet1 (s:={ s with toks:=s.toks+1 }) I.ns λh' d c=>?_;let(o,j,k,e,g,f):=d.count (PySem.Within.cons name v hw);show wpAny_bind (wpAny_lookBehind e (by rw[g];show pastItsLine_dict (Nat.le_trans f (by rw[length_cons];ac_nf))) ?_);show wpAny_pure (h _ ⟨(c.2 _ (Ne.symm I.ne)).trans I.obj,d,I.ne⟩ c)
variable{kw:List (Str × Value)}
theorem JjX{R:Result->Shared->Prop}{vs:List Value}(X:K.In s.heap)(hm:W.makesIn K C=true)
  (hi:W.findIn K (.ref C) "__init__"=some (some (.ref f))) (hf:W.typeIn K (.ref f)=some (.type "function"))
  (h:codeAny (model prog w) (A.under (.builtin "type.__call__" ⟨.ref C::vs,kw⟩)) (.call (.ref f) ⟨.ref (s.heap.objs.size+1)::vs,kw⟩) (W.InitBack (s.heap.objs.size+1) R)
   { s with heap:=(s.heap.push W.emptyDict).push (W.instObj C s.heap.objs.size) }) :
  codeAny (model prog w) A (.call (.ref C) ⟨vs,kw⟩) R s:=by
 let(b,g,d,t,c):=s;show W.make_core (W.makes_of X hm) (W.looks_findIn X hi) (λa=>W.bind_fn X a hf) (.inl rfl) h
end
def putF(f:Str)(v:V):List (Str × V)->List (Str × V)
 | []=>[(f,v)]
 | (g,x)::r=>if g=f then(g,v)::r else(g,x)::putF f v r
theorem Jen(f g:Str)(v:V):∀ fs:List (Str × V),(putF f v fs).lookup g=if g=f then some v else fs.lookup g
 | []=>by
  show List.lookup g [(f,v)]=_;by_cases h:g=f
  .have hb:(g == f)=true:=beq_iff_eq.mpr h;simp only[List.lookup,hb,if_pos h]
  .have hb:(g == f)=false:=beq_eq_false_iff_ne.mpr h;simp only[List.lookup,hb,if_neg h]
 | (k,x)::r=>by
  have ih:=Jen f g v r;rw[show putF f v ((k,x)::r)=(if k=f then(k,v)::r else(k,x)::putF f v r)from rfl];by_cases hk:k=f
  .rw[if_pos hk];by_cases h:g=k
   .have hb:(g == k)=true:=beq_iff_eq.mpr h;simp only[List.lookup,hb,if_pos (h.trans hk)]
   .have hb:(g == k)=false:=beq_eq_false_iff_ne.mpr h;simp only[List.lookup,hb,if_neg (λe:g=f=>h (e.trans hk.symm))]
  .rw[if_neg hk];by_cases h:g=k
   .have hb:(g == k)=true:=beq_iff_eq.mpr h;simp only[List.lookup,hb,if_neg (λe:g=f=>hk (h.symm.trans e))]
   .have hb:(g == k)=false:=beq_eq_false_iff_ne.mpr h;simp only[List.lookup,hb];show ih
theorem Jeh(f:Str)(v:V):∀ fs:List (Str × V),f∈(putF f v fs).map (·.1)/\∀ g,g∈fs.map (·.1)->g∈(putF f v fs).map (·.1)
 | []=>⟨by simp[putF],λg h=>by simp at h⟩
 | (k,x)::r=>by
  let(i1,i2):=Jeh f v r;rw[show putF f v ((k,x)::r)=(if k=f then(k,v)::r else(k,x)::putF f v r)from rfl];by_cases hk:k=f
  .rw[if_pos hk];subst hk;show(by simp,λg h=>by simpa using h)
  .rw[if_neg hk];show(?_,λg h=>?_)
   .rw[map_cons];show mem_cons_of_mem _ i1
   .rw[map_cons]at h ⊢;rcases mem_cons.mp h with e | e
    .show mem_cons.mpr (.inl e)
    .show mem_cons_of_mem _ (i2 g e)
theorem Jel(f:Str)(v:V):∀ fs:List (Str × V),(putF f v fs).length<=fs.length+1
 | []=>by simp[putF]
 | (k,x)::r=>by
  have ih:=Jel f v r;rw[show putF f v ((k,x)::r)=(if k=f then(k,v)::r else(k,x)::putF f v r)from rfl];by_cases hk:k=f
  .rw[if_pos hk,length_cons,length_cons];ac_nf
  .rw[if_neg hk,length_cons,length_cons];ac_nf
variable{v:V}{o:Option Value}
theorem RelO.some_of(r:RelO (some v) o):∃ u,o=some u/\RelV v u:=by
 cases o with
 | none=>show(show False from r).elim
 | some u=>show(u,rfl,r)
theorem RelO.none_of(r:RelO none o):o=none:=by
 cases o with
 | none=>rfl
 | some u=>show(show False from r).elim
theorem JiL(r:RelV v u):W.handedIn u=true:=by
 cases v with
 | non=>cases(show u=Value.none from r);rfl
 | bl b=>cases(show u=Value.bool b from r);rfl
 | int i=>let(t,e):=(show∃ t,u=Value.int i t from r);cases e;rfl
 | str x=>let(t,e):=(show∃ t,u=Value.str x t from r);cases e;rfl
 | byt b=>let(t,e):=(show∃ t,u=Value.bytes b t from r);cases e;rfl
 | flt b=>let(t,e):=(show∃ t,u=Value.float b t from r);cases e;rfl
 | ref a=>cases(show u=Value.ref a from r);rfl
 | ty n=>cases(show u=Value.type n from r);rfl
section
variable{h':Heap}{a:Addr}{fs':List (Str × V)}{w:World}{fs:List (Str × V)}
theorem JgL(hok:HOk P w H h)(e:H a=some (.ins C dx fs)):∃ mA,ObjM h a dx C mA/\(∀ f,RelO (fs.lookup f) (mA f))/\PySem.Within mA (fs.map (·.1))/\fs.length<=1000/\H dx=some (.own a):=by
 let(d,z,b,c,mA,n,r,q):=(show ObjOk P w H h a (.ins C dx fs)from hok a _ e);show(mA,⟨c,n,b⟩,r,q,z,d)
end
structure Cls(K:W.Frag)(C:Addr):Prop where
 pg:W.plainGet K C Str.empty=true
 hd:W.hasDictIn K C=true
 po:W.plainOver K C=true
 sa:W.findIn K (.ref C) "__setattr__"=some (some (.builtin "object.__setattr__"))
theorem Cls.get{K:W.Frag}(c:Cls K C)(f:Str):W.plainGet K C f=true:=c.pg
def Ja4(K:W.Frag)(C:Addr)(f:Str):Prop:=W.findIn K (.ref C) f=some none
theorem Ja4.taker{K:W.Frag}{f:Str}(n:Ja4 K C f):W.takerIn K C f=some none:=by
 unfold W.takerIn;rw[show W.findIn K (.ref C) f=some none from n];rfl
structure Meth(K:W.Frag)(C:Addr)(m:Str)(f:Addr):Prop where
 at_:W.findIn K (.ref C) m=some (some (.ref f))
 fn:W.isFn K (.ref f)=true
 kp:W.keepIn K (.ref f)=true
section
variable{a:Addr}{s:Shared}{fs:List (Str × V)}{f:Str}{b:Bool}
theorem JhZ{Q:Value->Shared->Prop}(I:Inv X pins σ H s)(e:H a=some (.ins C dx fs))(c:Cls X.K C)(n:Ja4 X.K C f)(l:fs.lookup f=some v)
  (h:∀ u s',Inv X pins σ H s'->RelV v u->Q u s'):wpAny (model X.prog X.w) A (getAttr (.ref a) f b) Q E s:=by
 let(i,O,r,_,_,_):=JgL I.hok e;let(u,g,d):=RelO.some_of (v:=v) (o:=i f) (by rw[<- l];show r f);show get_map I.kIn O (c.get f) c.hd n g (JiL d) (h u _ (I.tok _) d)
theorem Je9{m:Str}{g:Addr}{pl:Sem Bool}{Q:Value × List Value->Shared->Prop}(I:Inv X pins σ H s)(e:H a=some (.ins C dx fs))(c:Cls X.K C)(k:Meth X.K C m g)(l:fs.lookup m=none)
  (h:Q (.ref g,[.ref a]) s):wpAny (model X.prog X.w) A (getMethod (.ref a) m pl) Q E s:=by
 let(b,O,r,_,_,_):=JgL I.hok e;have d:b m=none:=RelO.none_of (by rw[<- l];show r m);show JjQ I.kIn O (c.get m) k.at_ k.fn d h
theorem Jif{Q:Unit->Shared->Prop}(I:Inv X pins σ H s)(e:H a=some (.ins C dx fs))(c:Cls X.K C)(n:Ja4 X.K C f)(hl:fs.length<1000)(ry:RelV y u)
  (h:∀ s',Inv X pins σ (upd H a (.ins C dx (putF f y fs))) s'->Q () s'):wpAny (model X.prog X.w) A (setAttr (.ref a) f u) Q E s:=by
 let(j,O,r,i,_,d):=JgL I.hok e;have t:(fs.map (·.1)).length<=sizeLine:=by rw[length_map,sizeLine_eq];ac_nf
 show JlW I.kIn O c.sa c.po n.taker c.hd i t λv O' m=>h _ ?_;have l:∃ o,v.get? dx=some o:=let⟨o,_,_,e',_⟩:=O'.ns;⟨o,e'⟩;show I.write (x:=a) (e:=dx) (by rw[e];show True.intro) (.inr d) (λb q k z=>(m.2 b k).trans z) l ?_;show(by rw[Jai O.ne];show d,?_,O.ne,O'.obj,_,O'.ns,λg=>?_,λg p=>?_)
 .have:=Jel f y fs;ac_nf
 .show RelO ((putF f y fs).lookup g) (if g=f then some u else j g);rw[Jen];by_cases q:g=f
  .rw[if_pos q,if_pos q];show ry
  .rw[if_neg q,if_neg q];show r g
 .by_cases q:g=f
  .rw[q];show(Jeh f y fs).1
  .show(Jeh f y fs).2 g (i g λz=>p ?_);show(if g=f then some u else j g)=none;rw[if_neg q];show z
theorem Inv.made(I:Inv X pins σ H s):Inv X pins σ (upd (upd H s.heap.objs.size (.own (s.heap.objs.size+1))) (s.heap.objs.size+1) (.ins C s.heap.objs.size []))
  { s with heap:=(s.heap.push W.emptyDict).push (W.instObj C s.heap.objs.size) }:=by
 have d:(s.heap.push W.emptyDict).get? s.heap.objs.size=some W.emptyDict:=Heap.get?_push_size s.heap rfl;have i:((s.heap.push W.emptyDict).push (W.instObj C s.heap.objs.size)).get? (s.heap.objs.size+1)=some (W.instObj C s.heap.objs.size):=by
  have:=Heap.get?_push_size (s.heap.push W.emptyDict) (o:=W.instObj C s.heap.objs.size) rfl
  rwa [Heap.size_push]at this
 have g:(s.heap.push W.emptyDict).Ns s.heap.objs.size (λ_=>none):=⟨W.emptyDict, #[],_,d,rfl,(λe h=>absurd h (by simp)),λ_=>rfl⟩;have I1:=I.laid (a:=s.heap.objs.size) (o:=.own (s.heap.objs.size+1)) (h':=s.heap.push W.emptyDict) (t':=s.toks) (λb u q=>Heap.get?_push_of_some _ q) (Nat.le_refl _) ⟨_,d⟩;show I1.laid (a:=s.heap.objs.size+1) (o:=.ins C s.heap.objs.size []) (t':=s.toks) (λb u q=>Heap.get?_push_of_some _ q) (Nat.le_of_eq (Heap.size_push _ _)) ?_;have c:s.heap.objs.size≠s.heap.objs.size+1:=Nat.ne_of_lt (Nat.lt_succ_self _);show(by rw[Jai c,Jam],Nat.zero_le _,c,i,λ_=>none,(Heap.Ns1.of_empty g).at λo q=>Heap.get?_push_of_some _ q,λ_=>True.intro,λy f=>absurd rfl f)
variable{Q:Value->Shared->Prop}
theorem Jk9{w:World}{env:Env}{f:Str}{s:Shared}(hb:attributeBase e f env (eval e env)=eval e env)
  (h:wpAny (model prog w) A (eval e env) (λo s₁=>wpAny (model prog w) A (getAttr o f true) Q E s₁) E s):wpAny (model prog w) A (eval (.Attribute e f pos) env) Q E s :=
 Attribute_any_ h (by rw[arm_eval_Attribute,hb])
end
def tFld(K:W.Frag)(ta:TE)(f:Str):TE:=λσ H Q=>ta σ H λx H1=>∃ a C dx fs v,x=.ref a/\H1 a=some (.ins C dx fs)/\Cls K C/\Ja4 K C f/\fs.lookup f=some v/\Q v H1
def sFld(K:W.Frag)(ta tv:TE)(f:Str):TS:=λD σ H=>tv σ H λy H1=>ta σ H1 λx H2=>∃ a C dx fs,x=.ref a/\H2 a=some (.ins C dx fs)/\Cls K C/\Ja4 K C f/\fs.length<1000 /\
 D.nx σ (upd H2 a (.ins C dx (putF f y fs)))
section
variable{o value:Expr}{tpos:Pos}{tv:TE}{f:Str}
theorem Jas(he:PE X e ta)(hb:attributeBase e f X.env (eval e X.env)=eval e X.env):PE X (.Attribute e f pos) (tFld X.K ta f):=by
 intro b s σ H Q I h;show Jk9 hb (thn (he b s σ H _ I h) λu o ζ=>?_);let(x,j,I1,i,a,C,r,p,v,k,g,c,n,l,q):=ζ;subst k;obtain rfl:u=Value.ref a:=i;show JhZ I1 g c n l λt m I2 d=>⟨v,j,I2,d,q⟩
theorem Jbb(ha:PE X o ta)(hv:PE X value tv)(hs:swapsWith value (some (.Attribute o f pos')) pos.line X.env=pure false):PS X (.Assign [.Attribute o f pos'] value pos) (sFld X.K ta tv f):=by
 intro b s σ H D I h;show plainObj_wpAny_Assign_Attribute (thn (hv b s σ H _ I h) λu e ζ=>?_) hs;let(y,m,I1,d,q):=ζ;show thn (ha b e σ m _ I1 q) λg r ζ=>?_;let(x,t,I2,j,a,C,w,v,p,i,c,n,l,k):=ζ;subst p;obtain rfl:g=Value.ref a:=j;show Jif I2 i c n l d λz I3=>⟨σ,_,I3,k⟩
end
section
variable{Q:Value->Shared->Prop}{c:Value}{b:Bool}{s:Shared}
end
structure Room(k:Nat)(A:Around):Prop where
 hd:A.handled=none
 dp:A.depth+3*k+5<recursionLimit
 un:A.units+16*k+200<cLine
theorem Room.mono{j k:Nat}(r:Room k A)(h:j<=k):Room j A:=⟨r.hd,by have:=r.dp;ac_nf,by have:=r.un;ac_nf⟩
theorem Room.deeper{k:Nat}(r:Room (k+1) A)(env:Env):Room k (A.deeper env) :=
 ⟨r.hd,by have:=r.dp;show A.depth+1+3*k+5<_;ac_nf,by have:=r.un;show A.units+3+16*k+200<_;ac_nf⟩
variable{kw:List (Str × Value)}
theorem Jh3:(A.under (.builtin "type.__call__" ⟨.ref C::us,kw⟩)).depth=A.depth+1:=by
 first | rfl | simp[Around.under,Code.weight,Code.isCreation,Code.isGuard,Code.isCaller,Code.frames,Code.isFrame,guardIds]
theorem Jh4:(A.under (.builtin "type.__call__" ⟨.ref C::us,kw⟩)).units=A.units+1:=by
 first | rfl | simp[Around.under,Code.cUnits,Code.frames,Code.isFrame]
theorem Room.make{k:Nat}(r:Room (k+1) A)(C:Addr)(us:List Value)(kw:List (Str × Value)):Room k (A.under (.builtin "type.__call__" ⟨.ref C::us,kw⟩)) :=
 ⟨r.hd,by have:=r.dp;rw[Jh3];ac_nf,by have:=r.un;rw[Jh4];ac_nf⟩
theorem Room.depth{k:Nat}(r:Room k A):A.depth<recursionLimit:=by have:=r.dp;ac_nf
theorem Room.units{k:Nat}(r:Room k A):A.units+64<cLine:=by have:=r.un;ac_nf
def tNil:TA:=λ_ H Q=>Q [] H
def tCons(ta:TE)(tr:TA):TA:=λσ H Q=>ta σ H λx H1=>tr σ H1 λxs H2=>Q (x::xs) H2
section
variable{t:TA}
theorem Jac:PA X [] tNil:=λ_ _ _ _ H Q I h=>Calls.spliced_nil ⟨[],H,I, .nil,h⟩
theorem Ji6(ha:PE X e te)(hr:PA X es t)(hs:autoParam (starEach (e::es) X.env=(false,eval e X.env)::starEach es X.env) Au):PA X (e::es) (tCons te t):=by
 intro b a s σ H Q I h;rw[hs];show wpAny _ _ (spliced ((false,eval e X.env)::backTo b (starEach es X.env))) _ _ s;show Calls.spliced_cons (thn (ha a s σ H _ I h) λu g ζ=>?_);let(x,k,I1,l,f):=ζ;show thn (hr b a g σ k _ I1 f) λn m ζ=>by let(i,d,I2,c,j):=ζ;show(x::i,d,I2, .cons l c,j)
def tTup(t:TA):TE:=λσ H Q=>t σ H λxs H1=>xs.length<=sizeLine/\∀ p,H1 p=none->Q (.ref p) (upd H1 p (.tup xs))
def tLst(t:TA):TE:=λσ H Q=>t σ H λxs H1=>xs.length<=sizeLine/\∀ p,H1 p=none->Q (.ref p) (upd H1 p (.lst xs))
theorem JaJ{x1}(h:PA X es t):PE X (.Tuple es x1 pos) (tTup t):=by
 intro a s σ H Q I i;show wpAny_Tuple_spliced (thn (h pos a s σ H _ I i) λj c ζ=>?_);let(f,d,I1,r,z,q):=ζ;show(by rw[<- r.length];show z,?_);have g:d c.heap.objs.size=none:=I1.hok.fresh (Nat.le_refl _);show(.ref c.heap.objs.size,upd d c.heap.objs.size (.tup f),I1.laid (t':=c.toks) (λb u e=>Heap.get?_push_of_some _ e) (Nat.le_refl _) ?_,rfl,q _ g);show(z,j,r,⟨_,Heap.get?_push_size _ rfl,rfl,_,rfl⟩)
theorem Ja6(h:PA X es t):PE X (.List es pos) (tLst t):=by
 intro a s σ H Q I i;show wpAny_List_spliced (thn (h pos a s σ H _ I i) λj c ζ=>?_);let(f,d,I1,r,z,q):=ζ;show(by rw[<- r.length];show z,?_);have g:d c.heap.objs.size=none:=I1.hok.fresh (Nat.le_refl _);show(.ref c.heap.objs.size,upd d c.heap.objs.size (.lst f),I1.laid (t':=c.toks) (λb u e=>Heap.get?_push_of_some _ e) (Nat.le_refl _) ?_,rfl,q _ g);show(z,j,0,r,Heap.get?_push_size _ rfl)
end
abbrev Sp:=List V->Hp->VK->XK->Prop
abbrev CXT:=List Env->Hp->Shared->XK->Value->Shared->Prop
structure Env0(P:Program)(w:World)(K:W.Frag)(mg:Str->Option Value)(base:Heap)(A:Around)(outer:List Env)(s:Shared)(H:Hp):Prop where
 frames:A.frames=some outer
 mod:Mod K mg base
 bs:∀ b o,base.get? b=some o->s.heap.get? b=some o/\H b=none
 bsz:base.objs.size<=s.heap.objs.size
 funs:s.heap.FunFrames base outer
 frf:∀ b∈frs outer,H b=none
 hok:HOk P w H s.heap
 bare:AllBare s.gens
def CE(outer:List Env)(P:Program)(w:World)(H:Hp)(s:Shared)(Q:VK)(u:Value)(s':Shared):Prop :=
 ∃ v H',s'.os=s.os/\AllBare s'.gens/\Un (frs outer) [] H H' s.heap s'.heap/\HOk P w H' s'.heap/\RelV v u/\Q v H'
def CR(CX:CXT)(outer:List Env)(P:Program)(w:World)(H:Hp)(s:Shared)(Q:VK)(E:XK)(r:Result)(s':Shared):Prop :=
 match r with
 | .ok (.ret u)=>CE outer P w H s Q u s'
 | .ok _=>False
 | .error e=>CX outer H s E e s'
structure FnOk(P:Program)(w:World)(K:W.Frag)(mg:Str->Option Value)(base:Heap)(CX:CXT)(k:Nat)(f:Addr)(fd:FuncData)(ps:List Str)(sp:Sp):Prop where
 len:∀ vs H Q E,sp vs H Q E->vs.length=ps.length
 run:∀(A:Around)(outer:List Env)(s:Shared)(H:Hp)(args:Args)(us:List Value)(vs:List V)(Q:VK)(E:XK),Room k A->Env0 P w K mg base A outer s H->BindsTo s fd args (ps.zip us)->Vals vs us->sp vs H Q E ->
  codeAny (model P w) A (.call (.ref f) args) (CR CX outer P w H s Q E) s
variable{mg:Str->Option Value}{base:Heap}{outer:List Env}
theorem Env0.make{w:World}{K:W.Frag}{s:Shared}(e:Env0 P w K mg base A outer s H)(C:Addr)(us:List Value)(kw:List (Str × Value)) :
  Env0 P w K mg base (A.under (.builtin "type.__call__" ⟨.ref C::us,kw⟩)) outer s H:=⟨by first | show e.frames | (simpa[Around.under,Code.envs,Code.isFrame,pushEnvs]using e.frames),e.mod,e.bs,e.bsz,e.funs,e.frf,e.hok,e.bare⟩
section
variable{s':Shared}{s:Shared}
theorem Inv.env0(I:Inv X pins σ H s):Env0 X.prog X.w X.K X.mg X.base X.A X.stack s H :=
 ⟨I.ok.frames,I.ok.mod,I.bs,Nat.le_trans I.ok.bsz I.sz,I.stack,I.stkFree,I.hok,I.bare⟩
variable{Q:VK}
theorem Inv.after(I:Inv X pins σ H s)(h:CE X.stack X.prog X.w H s Q u s'):EP X pins σ Q u s':=by
 let(v,f,j,a,k,e,r,q):=h;let(i,g,d,t,c):=s';obtain rfl:c=s.os:=j;show(v,f,I.call (h':=i) (g':=g) (d':=d) (t':=t) (ch:=[]) k e a (λb z=>absurd z (by simp)),r,q)
end
def tCall(sp:Sp)(dvs:List V)(E:XK)(t:TA):TE:=λσ H Q=>t σ H λvs H1=>sp (vs++dvs) H1 Q E
def tMake(C:Addr)(sp:Sp)(dvs:List V)(E:XK)(t:TA):TE:=λσ H Q=>t σ H λvs H1=>∀ x dx,H1 x=none->H1 dx=none->dx≠x ->
 sp (.ref x::(vs++dvs)) (upd (upd H1 dx (.own x)) x (.ins C dx [])) (λv H2=>v=.non/\Q (.ref x) H2) E
def Binds(K:W.Frag)(fd:FuncData)(ps:List Str)(ds:List Value):Prop :=
 ∀(s:Shared)(us:List Value),K.In s.heap->(us++ds).length=ps.length->BindsTo s fd ⟨us,[]⟩ (ps.zip (us++ds))
variable{fd:FuncData}{ps:List Str}
theorem Binds.all{K:W.Frag}(h:∀ us:List Value,us.length=ps.length->bindArgs fd ⟨us,[]⟩=pure (ps.zip us)):Binds K fd ps []:=λs us _ a=>by
 rw[append_nil]at a ⊢;show .of_eq (h us a)
def JcM(CX:CXT)(X:Cx)(E:XK):Prop:=∀(pins:List (Addr × Obj))(σ : St)(H:Hp)(s:Shared)(e:Value)(s':Shared),Inv X pins σ H s->CX X.stack H s E e s'->X.xe e s'
section
variable{CX:CXT}{sp:Sp}{dvs:List V}{ds:List Value}{E:XK}{x:Str}{apos:Pos}{o:Expr}{k:Nat}{f:Addr}{m:Str}{t:TA}{Q:VK}{vs:List V}
theorem Jjl{s:Shared}(F:FnOk X.prog X.w X.K X.mg X.base CX k f fd ps sp)(hr:Room k X.A)(hb:Binds X.K fd ps ds)(hd:Vals dvs ds)(hx:JcM CX X E)
  (I:Inv X pins σ H s) (r:Vals vs us) (h:sp (vs++dvs) H Q E):wpAny (model X.prog X.w) X.A (call (.ref f) us) (EP X pins σ Q) X.xe s:=by
 have b:Vals (vs++dvs) (us++ds):=r.append hd;have c:(us++ds).length=ps.length:=by rw[<- b.length];show F.len _ _ _ _ h
 show wpAny_call (codeAny_mono (F.run X.A X.stack s H ⟨us,[]⟩ (us++ds) (vs++dvs) Q E hr I.env0 (hb s us I.kIn c) b h) λr d a=>?_);cases r with
 | error e=>show hx pins σ H s e d I a
 | ok fl=>
  cases fl with
  | ret u=>show I.after a
  | next=>show False.elim a
  | brk=>show False.elim a
  | cont=>show False.elim a
theorem JlM(F:FnOk X.prog X.w X.K X.mg X.base CX k f fd ps sp)(hr:Room k X.A)(hg:Gl X x)(hm:X.mg x=some (.ref f))(hk:W.keepIn X.K (.ref f)=true)(hb:Binds X.K fd ps ds)(hd:Vals dvs ds)(hx:JcM CX X E)
  (ha:PA X (e::es) t) (hdb:autoParam ((x == ("__debug__" : Str))=false) Au) (he:autoParam (starEach (e::es) X.env=(false,eval e X.env)::starEach es X.env) Au) (hpl:autoParam ((backTo pos (starEach es X.env)).any (·.1)=false) Au) :
  PE X (.Call (.Name x p) (e::es) [] pos) (tCall sp dvs E t):=by
 intro a s σ H Q I h;show wpAny_Call_Name_kw (Jei I hg hm ?_ hdb);show W.callWith_K (h₀:=X.base) I.ok.mod.kin hk (thn (ha pos a s σ H _ I h) λc g ζ=>?_) he hpl;let(b,d,I1,r,q):=ζ;show(I1.kIn,?_);show Jjl F hr hb hd hx I1 r q
structure Mk(K:W.Frag)(C f:Addr):Prop where
 makes:W.makesIn K C=true
 init:W.findIn K (.ref C) "__init__"=some (some (.ref f))
 fn:W.isFn K (.ref f)=true
 kp:W.keepIn K (.ref C)=true
theorem JhN{s:Shared}(M:Mk X.K C f)(F:FnOk X.prog X.w X.K X.mg X.base CX k f fd ps sp)(hr:Room (k+1) X.A)(hb:Binds X.K fd ps ds)(hd:Vals dvs ds)
  (hx:JcM CX X E) (I:Inv X pins σ H s) (r:Vals vs us)
  (h:∀ x dx,H x=none->H dx=none->dx≠x->sp (.ref x::(vs++dvs)) (upd (upd H dx (.own x)) x (.ins C dx [])) (λv H2=>v=.non/\Q (.ref x) H2) E) :
  wpAny (model X.prog X.w) X.A (call (.ref C) us) (EP X pins σ Q) X.xe s:=by
 have b:=h (s.heap.objs.size+1) s.heap.objs.size (I.hok.fresh (Nat.le_succ _)) (I.hok.fresh (Nat.le_refl _)) (Nat.ne_of_lt (Nat.lt_succ_self _));have I2:=Inv.made (C:=C) I;have c:Vals (V.ref (s.heap.objs.size+1)::(vs++dvs)) (Value.ref (s.heap.objs.size+1)::(us++ds)):=.cons rfl (r.append hd);have d:(Value.ref (s.heap.objs.size+1)::us++ds).length=ps.length:=by
  have e:=c.length;rw[F.len _ _ _ _ b]at e;show e.symm
 show wpAny_call (JjX (f:=f) I.kIn M.makes M.init (beq_iff_eq.mp M.fn) (codeAny_mono (F.run _ X.stack _ _ ⟨Value.ref (s.heap.objs.size+1)::us,[]⟩ (Value.ref (s.heap.objs.size+1)::(us++ds)) _ _ E (hr.make C us [])
  (I2.env0.make C us []) (hb _ (Value.ref (s.heap.objs.size+1)::us) I2.kIn d) c b) λr i a=>?_))
 cases r with
 | error e=>show hx pins σ _ _ e i I2 a
 | ok fl=>
  cases fl with
  | ret u=>
   let(v,g,I3,j,m,l):=I2.after a;subst m;show(j,⟨V.ref (s.heap.objs.size+1),g,I3,rfl,l⟩)
  | next=>show False.elim a
  | brk=>show False.elim a
  | cont=>show False.elim a
theorem JlP(M:Mk X.K C f)(F:FnOk X.prog X.w X.K X.mg X.base CX k f fd ps sp)(hr:Room (k+1) X.A)(hg:Gl X x)(hm:X.mg x=some (.ref C))(hb:Binds X.K fd ps ds)(hd:Vals dvs ds)(hx:JcM CX X E)
  (ha:PA X (e::es) t) (hdb:autoParam ((x == ("__debug__" : Str))=false) Au) (he:autoParam (starEach (e::es) X.env=(false,eval e X.env)::starEach es X.env) Au) (hpl:autoParam ((backTo pos (starEach es X.env)).any (·.1)=false) Au) :
  PE X (.Call (.Name x p) (e::es) [] pos) (tMake C sp dvs E t):=by
 intro a s σ H Q I h;show wpAny_Call_Name_kw (Jei I hg hm ?_ hdb);show W.callWith_K (h₀:=X.base) I.ok.mod.kin M.kp (thn (ha pos a s σ H _ I h) λc g ζ=>?_) he hpl;let(b,d,I1,r,q):=ζ;show(I1.kIn,?_);show JhN M F hr hb hd hx I1 r q
theorem Jj9(M:Mk X.K C f)(F:FnOk X.prog X.w X.K X.mg X.base CX k f fd ps sp)(hr:Room (k+1) X.A)(hg:Gl X x)(hm:X.mg x=some (.ref C))(hb:Binds X.K fd ps ds)(hd:Vals dvs ds)(hx:JcM CX X E)
  (hdb:autoParam ((x == ("__debug__" : Str))=false) Au):PE X (.Call (.Name x p) [] [] pos) (tMake C sp dvs E tNil):=by
 intro a s σ H Q I h;show wpAny_Call_Name_kw (Jei I hg hm ?_ hdb);show W.callWith_K0 I.kIn M.kp (JhN (us:=[]) M F hr hb hd hx I .nil h)
end
section
variable{CX:CXT}{ks:List Str}{sp:Sp}{E:XK}{x:Str}{apos kpos:Pos}{o:Expr}{kws:List Keyword}{tk:TA}{nm:Option Str}{k:Nat}{f:Addr}{m:Str}{t:TA}{gV:List V->List V->List V}{g:List Value->List Value->List Value}
end
structure Jan(N P:List Str)(sc:Scope):Prop where
 kind:sc.kind=.function
 co:sc.isCoroutine=false
 gen:sc.isGenerator=false
 nd:N.Nodup
 pre:N.take P.length=P
 par:∀ x∈P,sc.names.lookup x=some .local\/sc.names.lookup x=some .cell
 nofree:∀ y∈sc.names,y.2≠.free
variable{kindOf:Str->Option NameKind}{x:Str}
theorem Jf0:∀{binds:List (Str × Value)}{m:Str->Option Value},(∀ v,(x,v)∉binds)->bindL kindOf binds m x=m x
 | [],_,_=>rfl
 | (n,v)::r,m,h=>by
  unfold bindL;rw[Jf0 λw hw=>h w (mem_cons_of_mem _ hw)];split
  .have : x≠n:=by rintro rfl;show h v mem_cons_self
   simp[this]
  .rfl
theorem JfY:∀{binds:List (Str × Value)}{m:Str->Option Value},(∀ v,(x,v)∉binds)->bindC kindOf binds m x=m x
 | [],_,_=>rfl
 | (n,v)::r,m,h=>by
  unfold bindC;rw[JfY λw hw=>h w (mem_cons_of_mem _ hw)];split
  .rfl
  .have : x≠n:=by rintro rfl;show h v mem_cons_self
   simp[this]
variable{v:Value}
theorem JfZ:∀{P:List Str}{vs:List Value}{i:Nat}{m:Str->Option Value},P.Nodup->P[i]?=some x->vs[i]?=some v->kindOf x=some .local ->
  bindL kindOf (P.zip vs) m x=some v
 | [],_,_,_,_,h,_,_=>by simp at h
 | _::_,[],_,_,_,_,h,_=>by simp at h
 | p::P,w::vs,0,m,nd,h1,h2,hk=>by
  simp at h1 h2;subst h1;subst h2;show bindL kindOf ((p,w)::P.zip vs) m p=_;unfold bindL;rw[Jf0 λv hv=>(nodup_cons.mp nd).1 (List.of_mem_zip hv).1,if_pos hk];simp
 | p::P,w::vs,i+1,m,nd,h1,h2,hk=>by
  show bindL kindOf ((p,w)::P.zip vs) m x=_;unfold bindL;show JfZ (i:=i) (nodup_cons.mp nd).2 (by simpa using h1) (by simpa using h2) hk
theorem JfX:∀{P:List Str}{vs:List Value}{i:Nat}{m:Str->Option Value},P.Nodup->P[i]?=some x->vs[i]?=some v->kindOf x≠some .local ->
  bindC kindOf (P.zip vs) m x=some v
 | [],_,_,_,_,h,_,_=>by simp at h
 | _::_,[],_,_,_,_,h,_=>by simp at h
 | p::P,w::vs,0,m,nd,h1,h2,hk=>by
  simp at h1 h2;subst h1;subst h2;show bindC kindOf ((p,w)::P.zip vs) m p=_;unfold bindC;rw[JfY λv hv=>(nodup_cons.mp nd).1 (List.of_mem_zip hv).1,if_neg hk];simp
 | p::P,w::vs,i+1,m,nd,h1,h2,hk=>by
  show bindC kindOf ((p,w)::P.zip vs) m x=_;unfold bindC;show JfX (i:=i) (nodup_cons.mp nd).2 (by simpa using h1) (by simpa using h2) hk
def start(N:List Str)(vs:List V):St:=vs.map some++List.replicate (N.length-vs.length) none
def cxOf(CX:CXT)(P:Program)(w:World)(K:W.Frag)(mg:Str->Option Value)(base:Heap)(N:List Str)(qual:Str)(scope:Scope)(f:Addr)(cd:Value)(A:Around)(outer:List Env)(s:Shared)(H:Hp)(E:XK):Cx where
 prog:=P
 w:=w
 K:=K
 mg:=mg
 base:=base
 A:=A.deeper (envOfC qual scope s.heap.objs.size f cd)
 N:=N
 s₀:=s
 H₀:=H
 env:=envOfC qual scope s.heap.objs.size f cd
 outer:=outer
 stack:=envOfC qual scope s.heap.objs.size f cd::outer
 ex:=[]
 calm:=true
 fn:=λ_=>true
 pn:=[]
 xe:=λe s'=>wpAny (model P w) (A.deeper (envOfC qual scope s.heap.objs.size f cd)) (leaving (envOfC qual scope s.heap.objs.size f cd) e) (λ_ s''=>CX outer H s E e s'') (λe' s''=>CX outer H s E e' s'') s'
theorem Jhq{sc:Scope}(h:sc.names.lookup x=some .cell):∃ c,(cellsFrom n sc.names []).lookup x=some c:=by
 have q:=W.cellsFrom_some sc.names n [] (.inl h);show Option.isSome_iff_exists.mp q
variable{CX:CXT}{qual:Str}{scope:Scope}
theorem JiN{w:World}{K:W.Frag}{N:List Str}{f:Addr}{cd:Value}{s s1:Shared}{E:XK}{vs:List V}
  (S:Jan N ps scope) (hd:A.handled=none) (e0:Env0 P w K mg base A outer s H) (hl:vs.length=ps.length) (r:Vals vs us)
  (x:InCallC s s.heap.objs.size (bindL (envOfC qual scope s.heap.objs.size f cd).kindOf (ps.zip us) λ_=>none) (cellsFrom (s.heap.objs.size+1) scope.names []) (bindC (envOfC qual scope s.heap.objs.size f cd).kindOf (ps.zip us) λ_=>none) s1) :
  Inv (cxOf CX P w K mg base N qual scope f cd A outer s H E) [] (start N vs) H s1:=by
 have D:ps.length<=N.length:=by have:=congrArg List.length S.pre;rw[length_take]at this;ac_nf
 let(t,I,rfl,C):=x.done;have j:∀ b:Addr,b∉(cxOf CX P w K mg base N qual scope f cd A outer s H E).ex:=λb z=>absurd (show b∈([]:List Addr)from z) (by simp);show(⟨e0.mod,S.kind,rfl,rfl,Nat.le_refl _,λy z c t d=>?_,λy g=>?_,λy c _ h=>?_,λ_=>hd,Around.frames_deeper e0.frames, .inr ⟨rfl,rfl⟩,λb z=>absurd z (j b),e0.bs,e0.bsz,λb _ _=>j b,λb z=>absurd z (j b),e0.funs,e0.frf⟩,
  rfl,e0.bare,Un.kept C,⟨_,x.toInCall.ns,λi y v t d J=>?_⟩,λy c h=>⟨_,x.cell y c h⟩,e0.hok.fresh (Nat.le_refl _),λy c h=>?_,λp m=>absurd (show p∈([]:List (Addr × Obj))from m) (by simp),e0.hok.kept C,?_)
 .show name_of_addr x.apart (PySem.mem_of_lookup t) (PySem.mem_of_lookup d)
 .have g:scope.names.lookup y=some .cell\/scope.names.lookup y=some .free:=g;rcases g with g | g
  .show Jhq g
  .show absurd rfl (S.nofree _ (PySem.mem_of_lookup g))
 .show Nat.le_of_lt (x.above y c (PySem.mem_of_lookup h))
 .have o:i<vs.length:=by
   unfold start at d;by_cases o:i<vs.length
   .show o
   .rw[List.getElem?_append_right (by simpa using o)]at d;rw[List.getElem?_replicate]at d;split at d <;> cases d
  have F:vs[i]?=some v:=by
   unfold start at d;rw[List.getElem?_append_left (by simpa using o),List.getElem?_map]at d;cases e:vs[i]? with
   | none=>rw[e]at d;cases d
   | some a=>rw[e]at d;cases d;rfl
  let(u,B,G):=r.get F;have m:ps[i]?=some y:=by
   rw[<- S.pre,List.getElem?_take_of_lt ∅];show t
  have l:ps.Nodup:=by rw[<- S.pre];show S.nd.sublist (List.take_sublist _ _)
  show(u,G,?_);rcases S.par y (List.mem_of_getElem? m)with k | k
  .show .inl ⟨k,JfZ l m B k⟩
  .let(c,e):=Jhq (n:=s.heap.objs.size+1) k;show .inr ⟨.inl k,c,e,?_⟩;have q:=x.cell y c e;rw[JfX l m B (by show scope.names.lookup y≠_;rw[k];decide)]at q;show q
 .show e0.hok.fresh (Nat.le_of_lt (x.above y c (PySem.mem_of_lookup h)))
 .unfold start;show _=N.length;rw[length_append,length_map,List.length_replicate];ac_nf
theorem fn_of{w:World}{K:W.Frag}{k:Nat}{f:Addr}{name:Str}{params:Arguments}{dV kV doc pm cdv ct oc:Value}{an od:Option Addr}
  {osl:Array (Option Value)} {N ps:List Str} {sp:Sp} (lk:K.lookup f=some ⟨oc,od, .func (W.fnOf name qual params body scope dV kV doc pm an cdv ct),osl⟩) (hcd:W.codeIn K cdv qual=true) (S:Jan N ps scope)
  (len:∀ vs H Q E,sp vs H Q E->vs.length=ps.length)
  (hbody:∀(A:Around)(outer:List Env)(s:Shared)(H:Hp)(vs:List V)(Q:VK)(E:XK),Room k (A.deeper (envOfC qual scope s.heap.objs.size f cdv))->sp vs H Q E ->
   ∃ t,PSs (cxOf CX P w K mg base N qual scope f cdv A outer s H E) body t/\t { nx:=λ_ H'=>Q .non H',rt:=Q } (start N vs) H) :
  FnOk P w K mg base CX (k+1) f (W.fnOf name qual params body scope dV kV doc pm an cdv ct) ps sp:=by
 show(len,λA outer s H z F vs Q E i d M r g=>?_);have D:=len _ _ _ _ g;have KX:K.In s.heap:=d.mod.kin.keeps λb o e=>(d.bs b o e).1;have m:s.heap.NoLimit:=d.mod.nolimit.keeps λb o e=>(d.bs b o e).1;have a:∀ y∈ps.zip F,scope.names.lookup y.1=some .local\/(scope.names.lookup y.1=some .cell/\((cellsFrom (s.heap.objs.size+1) scope.names []).lookup y.1).isSome=true):=λ⟨n,v⟩ C=>by
  rcases S.par n (List.of_mem_zip C).1 with q | q
  .show .inl q
  .show .inr ⟨q,W.cellsFrom_some _ _ _ (.inl q)⟩
 show codeAny_call_function i.depth (KX _ _ lk) rfl S.co S.gen rfl (W.codeRec_of KX hcd) (M _ _ _ _ ?_);show wpAny_newFunctionEnv_cells S.kind a λB G p x=>?_;subst G;show(m.keeps x.toInCall.keep,codeAny_func ?_);let(t,L,O):=hbody A outer s H vs Q E (i.deeper _) g;have I:Inv (cxOf CX P w K mg base N qual scope f cdv A outer s H E) [] (start N vs) H p:=JiN S i.hd d D r x;show wpAny_mono (L [] p (start N vs) H _ I O) (λR l c=>?_) λe l c=>c;have h:∀{σ':St}{H':Hp}{v:V}{u:Value},Inv (cxOf CX P w K mg base N qual scope f cdv A outer s H E) [] σ' H' l->RelV v u->Q v H'->CE outer P w H s Q u l :=
  λ{σ' H' v u} J j q=>⟨v,H',J.os,J.bare,J.base,J.hok,j,q⟩
 cases R with
 | ret u=>
  let(v,σ',H',J,j,q):=c;show h J j q
 | next=>
  let(σ',H',J,q):=c;show h (v:=V.non) (u:=Value.none) J rfl q
 | brk=>
  let(_,_,_,q):=c;show False.elim q
 | cont=>
  let(_,_,_,q):=c;show False.elim q
section
variable{id T:String}{r:List V->Hp->VK->Prop}{t:TA}
def tCB(r:List V->Hp->VK->Prop)(t:TA):TE:=λσ H Q=>t σ H λvs H1=>r vs H1 Q
theorem Jar(hc:CallR X (.builtin id) r)(hg:Gl X x)(hm:X.mg x=none)(hv:bootBuiltins x=some (.builtin id))(ha:PA X (e::es) t)(hn:autoParam (x≠"__name__") Au)(hdb:autoParam ((x == ("__debug__" : Str))=false) Au)
  (he:autoParam (starEach (e::es) X.env=(false,eval e X.env)::starEach es X.env) Au) (hpl:autoParam ((backTo pos (starEach es X.env)).any (·.1)=false) Au):PE X (.Call (.Name x p) (e::es) [] pos) (tCB r t):=by
 intro a s σ H Q I h;show wpAny_Call_Name_kw (JdP I hg hm hv ?_ hn hdb);show PyProof.Rows.callWith_builtin1 (thn (ha pos a s σ H _ I h) λd g ζ=>by let(c,f,I1,b,i):=ζ;show hc a g σ f c d Q I1 b i) he hpl
theorem JbR(hc:CallR X (.type T) r)(hg:Gl X x)(hm:X.mg x=none)(hv:bootBuiltins x=some (.type T))(ha:PA X (e::es) t)(hn:autoParam (x≠"__name__") Au)(hdb:autoParam ((x == ("__debug__" : Str))=false) Au)
  (he:autoParam (starEach (e::es) X.env=(false,eval e X.env)::starEach es X.env) Au) (hpl:autoParam ((backTo pos (starEach es X.env)).any (·.1)=false) Au):PE X (.Call (.Name x p) (e::es) [] pos) (tCB r t):=by
 intro a s σ H Q I h;show wpAny_Call_Name_kw (JdP I hg hm hv ?_ hn hdb);show PyProof.Rows.callWith_type1 (thn (ha pos a s σ H _ I h) λd g ζ=>by let(c,f,I1,b,i):=ζ;show hc a g σ f c d Q I1 b i) he hpl
end
end L2
namespace HT
open PySem PyProof.Rows
section
open PySem.SeqAt
open PySem.AutoSeq1 (wpAny_loadPart')
open PySem.MeetsSeq PySem.MeetsSeq2 PySem.MeetsSeq3
end
section
variable{prog:Program}{A:Around}{E:Value->Shared->Prop}{w:World}{s:Shared}
theorem cat_tup{t b:Addr}{vs ws:List Value}{Q:Value->Shared->Prop}(ht:IsTup s.heap t vs.toArray)(hb:IsTup s.heap b ws.toArray)(hv:vs≠[])
  (h1:ws=[]->Q (.ref t) s) (h2:ws≠[]->Q (.ref s.heap.objs.size) { s with heap:=s.heap.push { cls:=.type "tuple",data:=.seq (vs++ws).toArray } })
  (hsz:vs.length+ws.length<=sizeLine):wpAny (model prog w) A (binaryOp .Add (.ref t) (.ref b)) Q E s:=by
 let((cls,k,data,l),h,p,n,m):=id ht;let((q,d,j,g),a,c,o,f):=id hb;simp only at p m c f;subst p m c f;have e:vs.toArray++ws.toArray=(vs++ws).toArray:=by simp
 by_cases i:ws=[]
 .show concat_meets ⟨_,h,rfl⟩ ⟨_,a,rfl⟩ noFill_tuple_add seq_tuple_add PySem.F.slot_tuple_add PySem.F.entry_tuple_add (PySem.F.args_tuple_add_2 _ _)
   (tuple_addW1 t b vs.toArray ws.toArray n o k d l g (by simpa using hv) (by simp[i])) ⟨h,a,h1 i⟩
 .show concat_meets ⟨_,h,rfl⟩ ⟨_,a,rfl⟩ noFill_tuple_add seq_tuple_add PySem.F.slot_tuple_add PySem.F.entry_tuple_add (PySem.F.args_tuple_add_2 _ _)
   (tuple_addW2 t b vs.toArray ws.toArray n o k d l g (by simpa using hv) (by simpa using i) (by rw[size_toArray,size_toArray];show hsz)) ⟨h,a,?_⟩
  rw[e];show h2 i
end
end HT
namespace L2
open PySem PySem.Spec PyProof.Rows
abbrev TO:=St->Hp->(Option Int->Hp->Prop)->Prop
def PO(X:Cx)(e:Option Expr)(t:TO):Prop :=
 ∀(pins:List (Addr × Obj))(s:Shared)(σ : St)(H:Hp)(Q:Option Int->Hp->Prop),Inv X pins σ H s->t σ H Q ->
  wpAny (model X.prog X.w) X.A (evalPart e X.env) (λu s'=>∃ o H',Inv X pins σ H' s'/\IsPart u o/\Q o H') X.xe s
def Jl2:TO:=λ_ H Q=>Q none H
def tPart(t:TE):TO:=λσ H Q=>t σ H λx H1=>∃ i,x=.int i/\Q (some i) H1
section
variable{X:Cx}{e:Expr}{te:TE}{hi:Option Expr}{tl th:TO}{pos p2:Pos}{lo:Option Expr}
def tSl(r:V->Option Int->Option Int->Hp->VK->Prop)(te:TE)(tl th:TO):TE:=λσ H Q=>te σ H λx H1=>tl σ H1 λl H2=>th σ H2 λu H3=>r x l u H3 Q
def rCatT(K:W.Frag):R2:=λx y H Q=>∃ a b xs ys,x=.ref a/\y=.ref b/\SqT K H a xs/\SqT K H b ys/\xs≠[]/\xs.length+ys.length<=sizeLine /\
 (ys=[]->Q (.ref a) H)/\(ys≠[]->∀ p,H p=none->Q (.ref p) (upd H p (.tup (xs++ys))))
variable{xs:List V}{us:List Value}
theorem Vals.nil_iff(r:Vals xs us):us=[]↔xs=[]:=by
 cases r with
 | nil=>simp
 | cons _ _=>simp
theorem JlG:OpR X (binaryOp .Add) (rCatT X.K):=by
 intro e s σ H x y v u Q I p j h;let(a,b,l,m,rfl,rfl,t,B,C,f,k,r):=h;cases p;cases j;let(A,d,i,_):=I.tuple t;let(g,c,n,_):=I.tuple B;show HT.cat_tup i n (λz=>C (d.nil_iff.mp z)) (λz=>⟨.ref a,H,I,rfl,k (c.nil_iff.mp z)⟩) (λz=>?_) (by rw[<- d.length, <- c.length];show f);show(.ref s.heap.objs.size,_,I.laid (t':=s.toks) (o:=.tup (l++m)) (λb D q=>Heap.get?_push_of_some _ q) (Nat.le_refl _) ?_,rfl,r (λw=>z (c.nil_iff.mpr w)) _ (I.hok.fresh (Nat.le_refl _)));show(by rw[length_append];show f,_,d.append c,IsTup.new _ _)
end
def ixN(n:Nat)(i:Int):Option Nat:=if 0<=i then(if i<n then some i.toNat else none)else if -(n:Int)<=i then some (i+n).toNat else none
variable{α:Type}
def atI(xs:List α)(i:Int):Option α:=(ixN xs.length i).bind λj=>xs[j]?
variable{n j:Nat}
theorem Jlp{i:Int}(h:ixN n i=some j):seqIndex? i n=some j/\j<n/\-(n:Int)<=i/\i<n:=by
 unfold ixN at h;by_cases b:0<=i
 .rw[if_pos b]at h;by_cases a:i<n
  .rw[if_pos a]at h;have e:i.toNat=j:=Option.some.inj h;show(by rw[seqIndex_of b a,e],by ac_nf,by ac_nf,a)
  .rw[if_neg a]at h;cases h
 .rw[if_neg b]at h;by_cases a : -(n:Int)<=i
  .rw[if_pos a]at h;have e:(i+n).toNat=j:=Option.some.inj h;show(by rw[seqIndex_neg ∅ a,e],by ac_nf,a,by ac_nf)
  .rw[if_neg a]at h;cases h
theorem JgE{xs:List α}{i:Int}{v : α}(h:atI xs i=some v):∃ j,seqIndex? i xs.length=some j/\xs[j]?=some v/\j<xs.length/\-(xs.length:Int)<=i/\i<xs.length:=by
 unfold atI at h;cases e:ixN xs.length i with
 | none=>rw[e]at h;cases h
 | some j=>
  rw[e]at h;let(b,a,d,c):=Jlp e;show(j,b,h,a,d,c)
theorem Jd9{xs:List α}{v : α}(h:xs[j]?=some v):atI xs (j:Int)=some v:=by
 have a:j<xs.length:=(List.getElem?_eq_some_iff.mp h).1;have e:ixN xs.length (j:Int)=some j:=by
  unfold ixN;rw[if_pos ∅,if_pos ∅];simp
 unfold atI;rw[e];show h
def Jk7(b:Expr):Prop:=∀ o i,subscripted b false o i=operate [o,i] (getItem o i)
def IxR(X:Cx)(r:R2):Prop :=
 ∀(value slice:Expr)(pins:List (Addr × Obj))(s:Shared)(σ : St)(H:Hp)(x y:V)(v u:Value)(Q:VK),Inv X pins σ H s->RelV x v->RelV y u->r x y H Q ->
  subscripted slice false v u=operate [v,u] (getItem v u)->wpAny (model X.prog X.w) X.A (subscriptTail value slice v u) (EP X pins σ Q) X.xe s
def MtR(X:Cx)(id:String)(r:V->List V->Hp->VK->Prop):Prop :=
 ∀(pins:List (Addr × Obj))(s:Shared)(σ : St)(H:Hp)(x:V)(xs:List V)(v:Value)(us:List Value)(Q:VK),Inv X pins σ H s->RelV x v->Vals xs us->r x xs H Q ->
  wpAny (model X.prog X.w) X.A (call (.builtin id) (v::us)) (EP X pins σ Q) X.xe s
section
variable{X:Cx}{a b:Expr}{ta tb:TE}{pos:Pos}
theorem pe_ix{r:R2}(hr:IxR X r)(ha:PE X a ta)(hb:PE X b tb)(hs:autoParam (Jk7 b) Au):PE X (.Subscript a b pos) (tOp r ta tb):=by
 intro c s σ H Q I h;show Subscript_ (binT ha hb I h λv u d x y g I2 f e q=>hr a b c d σ g x y v u Q I2 f e q (hs _ _))
def rIxL(K:W.Frag):R2:=λx y H Q=>∃ p xs i v,x=.ref p/\y=.int i/\SqL K H p xs/\atI xs i=some v/\Q v H
def rIxT(K:W.Frag):R2:=λx y H Q=>∃ p xs i v,x=.ref p/\y=.int i/\SqT K H p xs/\atI xs i=some v/\Q v H
def rIxS:R2:=λx y H Q=>∃ z i c,x=.str z/\y=.int i/\z.length<=sizeLine/\atI z.cps.toList i=some c/\Q (.str ⟨#[c]⟩) H
theorem Jlq:IxR X (rIxL X.K):=by
 intro d e a s σ H x y v u Q I D B h n;let(p,M,i,z,rfl,rfl,L,E,q):=h;cases D;let(t,rfl):=B;let(f,r,g,N):=I.list L;let(j,c,F,P,A,J):=JgE E;let(w,o,k):=r.get F;have C:=r.length;have O:=Jfa;have b:EP X a σ Q w s:=⟨z,H,I,k,q⟩;by_cases m:0<=i
 .have l:i.toNat=j:=by
   rw[seqIndex_of m J]at c;show Option.some.inj c
  show item_listR g.isList m ∅ (by rw[l];simpa using o) b n
 .have l:(i+(f.toArray.size:Int)).toNat=j:=by
   rw[seqIndex_neg ∅ A]at c;rw[size_toArray, <- C];show Option.some.inj c
  show subscriptTail_builtinR (x:=w) g.isList.typeIs slot_list_getitem.lookup
   (wpAny_getItem_list_neg (Q:=λr G=>r=w/\EP X a σ Q r G) g.isList ∅ (by rw[size_toArray] <;> ac_nf) ∅ (by rw[l];simpa using o) ⟨rfl,b⟩) n
theorem Jmg:IxR X (rIxT X.K):=by
 intro b c a s σ H x y v u Q I l g h m;let(p,J,i,z,rfl,rfl,E,o,q):=h;cases l;let(t,rfl):=g;let(C,r,f,L):=I.tuple E;let(j,B,A,G,F,M):=JgE o;let(w,n,d):=r.get A;have k:=r.length;have N:=Jfa;have e:EP X a σ Q w s:=⟨z,H,I,d,q⟩;show subscriptTail_builtinR (x:=w) f.typeIs slot_tuple_getitem.lookup
  (getItem_tuple (j:=j) (Q:=λr D=>r=w/\EP X a σ Q r D) f ∅ ∅ (by rw[size_toArray, <- k];show B) (by simpa using n) ⟨rfl,e⟩) m
theorem Jmf:IxR X rIxS:=by
 intro a b d s σ H x y v u Q I n g h o;let(z,i,c,rfl,rfl,B,p,q):=h;let(t,rfl):=n;let(C,rfl):=g;let(j,e,r,A,f,w):=JgE p;have m:z.cps.toList.length=z.length:=by simp[Str.length]
 rw[m]at e f w;have D:=Jfa;show tail_any (typeIs_str s z t) slot_str_getitem.lookup (getItem_str (c:=c) (by
  have k:decide (i < -(2 ^ 63:Int))=false:=decide_eq_false ∅;have l:decide (i ≥ 2 ^ 63)=false:=decide_eq_false ∅;rw[k,l,Bool.or_false]) (by rw[e];simpa using r) ⟨.str ⟨#[c]⟩,H,I.tok _,⟨_,rfl⟩,q⟩) o
def flatV:V->Bool
 | .non=>true
 | .bl _=>true
 | .int _=>true
 | .str _=>true
 | _=>false
def eqV:V->V->Bool
 | .non, .non=>true
 | .bl a, .bl b=>a == b
 | .bl a, .int b=>(if a then 1 else 0) == b
 | .int a, .bl b=>a == (if b then 1 else 0)
 | .int a, .int b=>a == b
 | .str a, .str b=>a == b
 | _,_=>false
variable{A:Around}{y x:V}{u v:Value}
theorem Jkz{s:Shared}(ry:RelV y u)(rx:RelV x v)(fy:flatV y=true)(fx:flatV x=true):SeqAt.EqAt A s u v (eqV y x):=by
 cases y with
 | non=>
  cases ry;cases x with
  | non=>cases rx;show SeqAt.EqAt.same _
  | bl b=>cases rx;show SeqAt.EqAt.none_bool b
  | int b=>let(t,rfl):=rx;show SeqAt.EqAt.none_int b t
  | str b=>let(t,rfl):=rx;show SeqAt.EqAt.none_str b t
  | _=>show absurd (show false=true from fx) Bool.false_ne_true
 | bl a=>
  cases ry;cases x with
  | non=>cases rx;show SeqAt.EqAt.bool_none a
  | bl b=>cases rx;show SeqAt.EqAt.bool_bool a b
  | int b=>let(t,rfl):=rx;show SeqAt.EqAt.bool_int a b t
  | str b=>let(t,rfl):=rx;show SeqAt.EqAt.bool_str a b t
  | _=>show absurd (show false=true from fx) Bool.false_ne_true
 | int a=>
  let(c,rfl):=ry;cases x with
  | non=>cases rx;show SeqAt.EqAt.int_none a c
  | bl b=>cases rx;show SeqAt.EqAt.int_bool a c b
  | int b=>let(t,rfl):=rx;show SeqAt.EqAt.int_int a c b t
  | str b=>let(t,rfl):=rx;show SeqAt.EqAt.int_str a c b t
  | _=>show absurd (show false=true from fx) Bool.false_ne_true
 | str a=>
  let(c,rfl):=ry;cases x with
  | non=>cases rx;show SeqAt.EqAt.str_none a c
  | bl b=>cases rx;show SeqAt.EqAt.str_bool a c b
  | int b=>let(t,rfl):=rx;show SeqAt.EqAt.str_int a c b t
  | str b=>let(t,rfl):=rx;show SeqAt.EqAt.str_str a c b t
  | _=>show absurd (show false=true from fx) Bool.false_ne_true
 | _=>show absurd (show false=true from fy) Bool.false_ne_true
def eqU(x:V)(u:Value):Bool:=match u with
 | .none=>eqV .non x
 | .bool b=>eqV (.bl b) x
 | .int i _=>eqV (.int i) x
 | .str z _=>eqV (.str z) x
 | _=>false
theorem JkA(r:RelV y u)(f:flatV y=true):eqU x u=eqV y x:=by
 cases y with
 | non=>cases r;rfl
 | bl b=>cases r;rfl
 | int i=>let(t,rfl):=r;rfl
 | str z=>let(t,rfl):=r;rfl
 | _=>show absurd (show false=true from f) Bool.false_ne_true
variable{xs:List V}{us:List Value}
theorem Jff(h:Vals xs us):xs.all flatV=true->us.any (eqU x)=xs.any λy=>eqV y x:=by
 induction h with
 | nil=>showλ_=>rfl
 | cons r _ ih=>
  intro f;rw[List.all_cons,Bool.and_eq_true]at f;rw[any_cons,any_cons,JkA r f.1,ih f.2]
theorem Jd5{s:Shared}(rx:RelV x v)(fx:flatV x=true){xs:List V}{us:List Value}(h:Vals xs us):xs.all flatV=true->∀ u∈us,SeqAt.EqAt A s u v (eqU x u):=by
 induction h with
 | nil=>showλ_ u a=>by cases a
 | cons r _ ih=>
  intro f b a;rw[List.all_cons,Bool.and_eq_true]at f;rcases mem_cons.mp a with rfl | a
  .rw[JkA r f.1];show Jkz r rx f.1 fx
  .show ih f.2 b a
def inV(x:V)(xs:List V):Bool:=xs.any λy=>eqV y x
def rIn(K:W.Frag)(neg:Bool):R2:=λx y H Q=>∃ p xs,y=.ref p/\(SqL K H p xs\/SqT K H p xs)/\flatV x=true/\xs.all flatV=true/\Q (.bl (if neg then !inV x xs else inV x xs)) H
theorem Ji1:OpR X (compareOp .In) (rIn X.K false):=by
 intro f s σ H x y v u Q I g j h;let(p,l,rfl,b,i,c,q):=h;cases j;rcases b with b | b
 .let(a,r,d,k):=I.list b;show SeqAt.in_listAt (eqU x) d.isList (λw e=>Jd5 g i r c w (by simpa using e)) ⟨.bl _,H,I,rfl,?_⟩;rw[show a.toArray.any (eqU x)=a.any (eqU x) by simp,Jff r c];show q
 .let(a,r,d,k):=I.tuple b;show SeqAt.in_tupleAt (eqU x) d (λw e=>Jd5 g i r c w (by simpa using e)) ⟨.bl _,H,I,rfl,?_⟩;rw[show a.toArray.any (eqU x)=a.any (eqU x) by simp,Jff r c];show q
theorem Jgo:OpR X (compareOp .NotIn) (rIn X.K true):=by
 intro f s σ H x y v u Q I g j h;let(p,l,rfl,b,i,c,q):=h;cases j;rcases b with b | b
 .let(a,r,d,k):=I.list b;show SeqAt.notIn_listAt (eqU x) d.isList (λw e=>Jd5 g i r c w (by simpa using e)) ⟨.bl _,H,I,rfl,?_⟩;rw[show a.toArray.any (eqU x)=a.any (eqU x) by simp,Jff r c];show q
 .let(a,r,d,k):=I.tuple b;show SeqAt.notIn_tupleAt (eqU x) d (λw e=>Jd5 g i r c w (by simpa using e)) ⟨.bl _,H,I,rfl,?_⟩;rw[show a.toArray.any (eqU x)=a.any (eqU x) by simp,Jff r c];show q
theorem Jf3:CallR X (.builtin "len") (λxs H Q=>∃ p ys,xs=[.ref p]/\(SqL X.K H p ys\/SqT X.K H p ys)/\Q (.int ys.length) H):=by
 intro f s σ H xs j Q I r h;let(p,ys,rfl,b,q):=h;let(u,rfl,i):=vals1 r;cases i;have k:=Jfa;rcases b with b | b
 .let(d,c,e,g):=I.list b;have a:=c.length;show Calls.call_len_list e.isList (by simp only[size_toArray] <;> ac_nf) ⟨.int ys.length,H,I.tok _,⟨s.toks+1,by rw[size_toArray,a]⟩,q⟩
 .let(d,c,e,g):=I.tuple b;have a:=c.length;show len_tuple e (by simp only[size_toArray] <;> ac_nf) ⟨.int ys.length,H,I.tok _,⟨s.toks+1,by rw[size_toArray,a]⟩,q⟩
theorem Jf4:CallR X (.builtin "len") (λxs H Q=>∃ z,xs=[.str z]/\z.length<=sizeLine/\Q (.int z.length) H):=by
 intro a s σ H xs c Q I r h;let(z,rfl,b,q):=h;let(u,rfl,t,rfl):=vals1 r;have d:=Jfa;show len_str ∅ ⟨.int z.length,H,I.tok _,⟨_,rfl⟩,q⟩
theorem Jf5:CallR X (.type "list") (λxs H Q=>∃ p ys,xs=[.ref p]/\(SqL X.K H p ys\/SqT X.K H p ys)/\∀ l,H l=none->Q (.ref l) (upd H l (.lst ys))):=by
 intro g s σ H xs B Q I r h;let(p,ys,rfl,m,q):=h;let(u,rfl,A):=vals1 r;cases A;have t:∀(a:List Value),Vals ys a->ys.length<=sizeLine->∀(c:Heap)(d:Nat),(∀ b o',s.heap.get? b=some o'->c.get? b=some o') ->
   c.get? s.heap.objs.size=some { cls:=.type "list",dict:=none,data:=.seq a.toArray d,slots:=#[] }->EP X g σ Q (.ref s.heap.objs.size) { s with heap:=c }:=λa f j c d k e=>
  ⟨.ref s.heap.objs.size,_,I.laid (t':=s.toks) k (Nat.le_refl _) (show ObjOk X.prog X.w _ c _ (.lst ys)from⟨j,a,d,f,e⟩),rfl,q _ (I.hok.fresh (Nat.le_refl _))⟩
 rcases m with m | m
 .let(a,f,x,j):=I.list m;have i:=f.length;let(o,v,z,n,y):=x.isList;show call_list_seq p (.inl rfl) v z y (λc d k e=>t a f j c d k e) (by simp only[size_toArray] <;> ac_nf)
 .let(a,f,x,j):=I.tuple m;have i:=f.length;let(o,v,z,n,y):=x;show call_list_seq p (.inr rfl) v z y (λc d k e=>t a f j c d k e) (by simp only[size_toArray] <;> ac_nf)
def tyV(K:W.Frag)(T:String)(x:V)(H:Hp):Prop:=match x with
 | .str _=>T="str"
 | .int _=>T="int"
 | .ref p=>(T="list"/\∃ xs,SqL K H p xs)\/(T="tuple"/\∃ o,K.lookup p=some o/\o.cls=.type "tuple"/\o.dict=none) \/
   (T="dict"/\((∃ kvs,H p=some (.dK kvs))\/∃ kvs,H p=some (.dT kvs)))\/(T="set"/\∃ S n,H p=some (.set S n))
 | _=>False
variable{pins:List (Addr × Obj)}{σ:St}{H:Hp}{T:String}
theorem Jk0{s:Shared}(I:Inv X pins σ H s)(r:RelV x v)(ty:tyV X.K T x H) :
  s.TypeIs v T/\∀ a,v=.ref a->∃ ob,s.heap.get? a=some ob/\ob.dict=none:=by
 cases x with
 | str z=>
  let(t,rfl):=r;cases(show T="str" from ty);show(typeIs_str s z t,λ_ e=>nomatch e)
 | int i=>
  let(t,rfl):=r;cases(show T="int" from ty);show(typeIs_int s i t,λ_ e=>nomatch e)
 | ref p=>
  cases r;rcases ty with⟨rfl,xs,hq⟩ | ⟨rfl,o,hk,hc,d⟩ | ⟨rfl,hk⟩ | ⟨rfl,S,n,hk⟩
  .let(h,_,g,_):=I.list hq;show(g.isList.typeIs,λa e=>?_);cases e;let(o,n,e,c,d,_):=g;show(o,e,d)
  .show(⟨o,I.kIn p o hk,hc⟩,λa e=>?_);cases e;show(o,I.kIn _ o hk,d)
  .have z:∃ o,s.heap.get? p=some o/\o.ExactDict:=by
    rcases hk with⟨kvs,hk⟩ | ⟨kvs,hk⟩
    .let(_,_,_,_,o,_,_,e,b,_):=I.hok p _ hk;show(o,e,b)
    .let(_,_,_,_,o,_,_,e,b,_):=I.hok p _ hk;show(o,e,b)
   let(o,e,b):=z;show(⟨o,e,b.1⟩,λa f=>?_);cases f;show(o,e,b.2.1)
  .let(o,_,_,_,e,b,_):=I.hok p _ hk;show(⟨o,e,b.1⟩,λa f=>?_);cases f;show(o,e,b.2.1)
 | _=>show False.elim ty
def tBM0(K:W.Frag)(T:String)(r:V->List V->Hp->VK->Prop)(to:TE):TE:=λσ H Q=>to σ H λx H1=>tyV K T x H1/\r x [] H1 Q
def tBM(K:W.Frag)(T:String)(r:V->List V->Hp->VK->Prop)(to:TE)(t:TA):TE:=λσ H Q=>to σ H λx H1=>tyV K T x H1/\t σ H1 λxs H2=>r x xs H2 Q
variable{o e:Expr}{es:List Expr}{to:TE}{name:Str}{apos cpos:Pos}{id:String}{r:V->List V->Hp->VK->Prop}{t:TA}
theorem JkJ(pa:PlainAttrs T)(slot:Slot T name id)(hty:typeOf (.builtin id)=pure (.type "method_descriptor"))(hm:MtR X id r)(ho:PE X o to)
  (hbase:autoParam (attributeBase o name X.env (eval o X.env)=eval o X.env) Au) (hline:autoParam ((apos.endLine == cpos.line)=true) Au):PE X (.Call (.Attribute o name apos) [] [] cpos) (tBM0 X.K T r to):=by
 intro a s σ H Q I h;show wpAny_Call_method0_late hbase hline (thn (ho a s σ H _ I h) λv d ζ=>?_);let(x,f,I1,b,g,i):=ζ;let(e,c):=Jk0 I1 b g;show(T,id,pa,slot,hty,e,c,Calls.callWith_builtin rfl (PySem.evalArgs_none (hm a d σ f x [] v [] Q I1 b .nil i)))
theorem pe_bm(pa:PlainAttrs T)(slot:Slot T name id)(hty:typeOf (.builtin id)=pure (.type "method_descriptor"))(hm:MtR X id r)(ho:PE X o to)(ha:PA X (e::es) t)
  (hbase:autoParam (attributeBase o name X.env (eval o X.env)=eval o X.env) Au)
  (hfew:autoParam (((backTo cpos (starEach (e::es) X.env)).all (λx=>!x.1)&&(backToKw cpos (keywordEach [] X.env)).all (λx=>x.1.isSome)
   && decide ((e::es).length+([]:List Keyword).length+(if([]:List Keyword).isEmpty then 0 else 1)<30))=true) Au)
  (hline:autoParam ((apos.endLine == cpos.line)=true) Au) (hs:autoParam (starEach (e::es) X.env=(false,eval e X.env)::starEach es X.env) Au) (hplain:autoParam ((backTo cpos (starEach es X.env)).any (·.1)=false) Au) :
  PE X (.Call (.Attribute o name apos) (e::es) [] cpos) (tBM X.K T r to t):=by
 intro a s σ H Q I h;show wpAny_Call_method_late hbase hfew hline rfl (thn (ho a s σ H _ I h) λv j ζ=>?_);let(x,q,I1,c,u,k):=ζ;let(p,n):=Jk0 I1 c u;show(T,id,pa,slot,hty,p,n,?_);have b:=ha cpos a j σ q _ I1 k;rw[hs]at b ⊢;show Calls.callWith_builtin (by show(false||(backTo cpos (starEach es X.env)).any (·.1))=false;rw[hplain] <;> rfl) (Calls.evalArgs_plain ?_);show thn b λl d ζ=>by let(g,i,I2,f,m):=ζ;show hm a d σ i x g v l Q I2 c f m
end
def MtM(X:Cx)(id:String)(r:V->List V->Hp->VK->Prop):Prop :=
 ∀(pins:List (Addr × Obj))(s:Shared)(σ : St)(H:Hp)(x:V)(xs:List V)(v:Value)(us:List Value)(Q:VK),Inv X pins σ H s->RelV x v->Vals xs us->r x xs H Q ->
  wpAny (model X.prog X.w) X.A (call (.builtin id) (v::us)) (EP X pins σ Q) X.xe s
variable{us:List Value}
theorem Vals.one{x:V}(h:Vals [x] us):∃ u,us=[u]/\RelV x u:=by
 cases h with
 | cons r t=>cases t;show(_,rfl,r)
theorem Vals.zero:∀{us:List Value},Vals [] us->us=[]
 | _, .nil=>rfl
variable{xs:List V}
theorem Vals.dropLast(h:Vals xs us):Vals xs.dropLast us.dropLast:=by
 induction h with
 | nil=>show .nil
 | cons r t ih=>
  cases t with
  | nil=>show .nil
  | cons q t'=>show .cons r ih
theorem Vals.reverse(h:Vals xs us):Vals xs.reverse us.reverse:=by
 induction h with
 | nil=>show .nil
 | cons r t ih=>rw[List.reverse_cons,List.reverse_cons];show Vals.append ih (.cons r .nil)
theorem JhY(l:List α):l.eraseIdx (l.length-1)=l.dropLast:=by
 induction l with
 | nil=>rfl
 | cons a r ih=>
  cases r with
  | nil=>rfl
  | cons b r=>
   have e:(a::b::r).length-1=((b::r).length-1)+1:=by
    have d:(a::b::r).length=r.length+2:=rfl;have c:(b::r).length=r.length+1:=rfl;ac_nf
   rw[e,List.eraseIdx_cons_succ,ih];all_goals rfl
section
variable{X:Cx}{pins:List (Addr × Obj)}{σ:St}{H:Hp}{l b:Addr}{ys zs:List V}{s:Shared}{its:List Value}{t':Nat}
theorem Inv.lset{its':List Value}{f:Array Value->Array Value}(I:Inv X pins σ H s)(hH:H l=some (.lst xs))
  (e:s.heap.get? l=some { cls:=.type "list",data:=.seq its.toArray n }) (hf:f its.toArray=its'.toArray) (hv:Vals ys its') (hz:ys.length<=sizeLine) :
  Inv X pins σ (upd H l (.lst ys)) { s with heap:=s.heap.update l (Obj.mapSeq f),toks:=t' }:=by
 have q:=PySem.IsL.update e f;rw[hf]at q;show I.write (x:=l) (e:=l) (by rw[hH];show trivial) (.inl rfl) (λc u b a=>(Heap.get?_update_other s.heap (Obj.mapSeq f) (Ne.symm b)).trans a) ⟨_,q⟩ ?_;show(hz,its',_,hv,q)
theorem Inv.lnew(I:Inv X pins σ H s)(hv:Vals ys its)(hz:ys.length<=sizeLine) :
  Inv X pins σ (upd H s.heap.objs.size (.lst ys)) { s with heap:=s.heap.push { cls:=.type "list",data:=.seq its.toArray },toks:=t' } :=
 I.laid (λ_ _ q=>Heap.get?_push_of_some _ q) (Nat.le_refl _) ⟨hz,its,0,hv,Heap.get?_push_size _ rfl⟩
theorem Inv.fresh(I:Inv X pins σ H s):H s.heap.objs.size=none:=I.hok.fresh (Nat.le_refl _)
theorem Inv.lstM(I:Inv X pins σ H s)(hH:H l=some (.lst xs)):xs.length<=sizeLine/\∃(its:List Value)(n:Nat),Vals xs its/\xs.length=its.length/\s.heap.get? l=some { cls:=.type "list",data:=.seq its.toArray n }:=by
 let(z,its,n,r,e):=I.hok l _ hH;show(z,its,n,r,r.length,e)
theorem JjZ(h:n<=sizeLine):Builtin.List.listTooLong n=false:=by
 unfold Builtin.List.listTooLong;show decide_eq_false ∅
end
variable{X:Cx}
def Jjj:V->List V->Hp->VK->Prop:=λx vs H Q=>∃ l xs y,x=.ref l/\vs=[y]/\H l=some (.lst xs)/\xs.length<sizeLine/\Q .non (upd H l (.lst (xs++[y])))
theorem Ja0:MtM X "list.append" Jjj:=by
 intro b s σ H x i v o Q I f g h;let(l,j,y,rfl,rfl,c,m,q):=h;cases f;let(u,rfl,d):=g.one;let(z,a,n,r,k,e):=I.lstM c;show call_meets F.slot_list_append ⟨_,e,rfl⟩ F.entry_list_append (F.args_list_append_2 _ _) (PySem.list_append l a.toArray n u (by rw[size_toArray];ac_nf)) ⟨e,?_⟩;show(.non,_,I.lset (its':=a++[u]) c e (by simp) (r.append (.cons d .nil)) ?_,rfl,q);rw[length_append,length_singleton];ac_nf
def JlU:V->List V->Hp->VK->Prop:=λx vs H Q=>∃ l b xs zs,x=.ref l/\vs=[.ref b]/\H l=some (.lst xs)/\H b=some (.lst zs)/\xs.length+zs.length<=sizeLine/\Q .non (upd H l (.lst (xs++zs)))
theorem Jge:MtM X "list.extend" JlU:=by
 intro g s σ H x A v E Q I t w h;let(l,b,B,G,rfl,rfl,i,p,D,q):=h;cases t;let(u,rfl,j):=w.one;cases j;let(z,c,n,r,C,e):=I.lstM i;let(J,a,y,k,m,o):=I.lstM p;have f:c.toArray.size+a.toArray.size<=sizeLine:=by rw[size_toArray,size_toArray];ac_nf
 have d:¬(!c.toArray.isEmpty&&Builtin.List.listTooLong (c.toArray.size+a.toArray.size))=true:=by
  rw[JjZ f,Bool.and_false];show Bool.false_ne_true
 show call_meets F.slot_list_extend ⟨_,e,rfl⟩ F.entry_list_extend (F.args_list_extend_2 _ _)
  (AutoSeq1.list_extend_list_list_0 l c.toArray n b a.toArray y d (by rw[size_toArray];ac_nf) ∅) ⟨e,o,?_⟩
 show(.non,_,I.lset (its':=c++a) i e (by simp) (r.append k) ?_,rfl,q);rw[length_append];ac_nf
def rPop:V->List V->Hp->VK->Prop:=λx vs H Q=>∃ l xs y,x=.ref l/\vs=[]/\H l=some (.lst xs)/\xs[xs.length-1]?=some y/\Q y (upd H l (.lst xs.dropLast))
theorem Jmo:MtM X "list.pop" rPop:=by
 intro d s σ H x p v w Q I m o h;let(l,t,y,rfl,rfl,f,g,q):=h;cases m;have c:=o.zero;subst c;let(z,a,n,r,k,e):=I.lstM f;let(u,j,i):=r.get g;have b:a.toArray[a.toArray.size-1]?=some u:=by
  show a.toArray[a.length-1]?=some u;rw[<- Array.getElem?_toList, <- k];show j
 show call_meets F.slot_list_pop ⟨_,e,rfl⟩ F.entry_list_pop (F.args_list_pop_1 _) (MeetsSeq.list_pop_last l a.toArray n u b (by rw[size_toArray];ac_nf)) ⟨e,?_⟩;show(y,_,I.lset (its':=a.dropLast) f e ?_ r.dropLast ?_,i,q)
 .show a.toArray.eraseIdxIfInBounds (a.toArray.size-1)=a.dropLast.toArray;rw[size_toArray,List.eraseIdxIfInBounds_toArray,JhY]
 .rw[List.length_dropLast];ac_nf
def Jkc:V->List V->Hp->VK->Prop:=λx vs H Q=>∃ l xs,x=.ref l/\vs=[]/\H l=some (.lst xs)/\Q .non (upd H l (.lst xs.reverse))
theorem Jh5:MtM X "list.reverse" Jkc:=by
 intro c s σ H x i v m Q I f g h;let(l,j,rfl,rfl,d,q):=h;cases f;have b:=g.zero;subst b;let(z,a,n,r,k,e):=I.lstM d;show call_meets F.slot_list_reverse ⟨_,e,rfl⟩ F.entry_list_reverse (F.args_list_reverse_1 _) (AutoSeq1.list_reverse_list_0 l a.toArray n (by rw[size_toArray];ac_nf)) ⟨e,?_⟩;show(.non,_,I.lset (its':=a.reverse) d e (by simp) r.reverse ?_,rfl,q);rw[List.length_reverse];ac_nf
def rCat:R2:=λx y H Q=>∃ l b xs zs,x=.ref l/\y=.ref b/\H l=some (.lst xs)/\H b=some (.lst zs)/\xs.length+zs.length<=sizeLine/\∀ p,H p=none->Q (.ref p) (upd H p (.lst (xs++zs)))
theorem Jmr:OpR X (binaryOp .Add) rCat:=by
 intro d s σ H x y v u Q I o f h;let(l,b,t,B,rfl,rfl,p,m,A,q):=h;cases o;cases f;let(z,c,n,r,w,e):=I.lstM p;let(D,a,C,g,i,j):=I.lstM m;show PySem.P.add_list e j ?_ (by rw[size_toArray,size_toArray];ac_nf);have k:c.toArray++a.toArray=(c++a).toArray:=by simp
 rw[k];show(.ref _,_,I.lnew (t':=s.toks) (r.append g) (by rw[length_append];ac_nf),rfl,q _ I.fresh)
section
variable{prog:Program}{A:Around}{E:Value->Shared->Prop}{w:World}{s:Shared}
end
end L2
namespace Att
open PySem PySem.W PySem.Calls PyProof.Rows
theorem Jef{P:Params}{h:Heap}:∀(ns:List Int)(vs:List Value),WellAll P h vs (ns.map WData.int)->IntsAre vs ns:=by
 intro ns;induction ns with
 | nil=>
  intro vs w;rw[map_nil]at w;cases w;show .nil
 | cons n ns ih=>
  intro vs w;rw[map_cons]at w;cases w with
  | cons a b=>
   cases a;show .cons _ _ (ih _ b)
variable{l:OpenLaw}{n:Nat}
theorem Jjp(hn:l.most=some n){P:Params}{h:Heap}{args:List WData}{vals:List Value}
  (hpre:l.row.toRowW.claim.pre args=true) (hwl:WellAll P h vals args) :
  ∃ a vs ns,vals=[Value.ref a]/\args=[WData.list (ns.map WData.int)]/\h.get? a=some { cls:=.type "list",data:=.seq vs.toArray }/\IntsAre vs ns/\ns.length<=n:=by
 have f:WShape.hasAll [] args [.list .int]=true:=(pre_splitW hpre).1;have g:l.pre.holds [] { args:=args }=true:=(pre_splitW hpre).2;let(d,r,rfl,j,i):=hasAllW_cons f;obtain rfl:=hasAllW_nil i;let(o,rfl,m):=hasW_list j;let(ns,rfl):=items_int m;have b:ns.length<=n:=by
  unfold OpenLaw.pre at g;have c:(WTm.not (.lt (.lit (.int (n:Int))) (.len (.arg 0)))).holds [] { args:=[.list (ns.map .int)] }=true:=by
   have c:=(holds_andW g).1;rw[hn]at c;show c
  have e:=condW_of c (w_not (w_lt w_lit (w_len_list (w_arg rfl))));rw[length_map]at e;show Nat.le_of_not_lt λq=>?_;have k:(n:Int)<((ns.length:Nat):Int):=by ac_nf
  first
   | (rw[decide_eq_true k]at e;show absurd e ⋯)
   | (simp at e;ac_nf)
 cases hwl with
 | cons w1 w2=>
  cases w2;cases w1 with
  | list ho hall=>show(_,_,ns,rfl,rfl,ho,Jef ns _ hall,b)
theorem Jje(l:OpenLaw)(args:List WData):l.row.toRowW.claim.post args (.bool true) args=true :=
 postW_of (r:=l.row.toRowW) (X:=(true == true))
  (show WShape.has [] (.bool true) .bool=true by first | rfl | decide | simp[WShape.has,WShape.arms,WShape.armsAll])
  (show(WTm.eq .res (.lit (.bool true))).value [] { args:=args,res:=some (.bool true),after:=args }=some (.bool (true == true))from w_eq_bool (w_res rfl) w_lit) rfl
theorem attach_call{q:Program}{loose:List Str}{XP:(Str->Option Value)->Heap->Prop}{YP:World->Heap->Prop}{d:DefRec}
  (hn:l.most=some n) (hdf:d.params.defaults=[])
  (call:∀(w:World)(s₀ s₁ : Shared)(mg mb:Str->Option Value)(fa:Addr)(o:Obj)(pm cd doc:Value)(a:Addr)(vs:List Value)(ns:List Int),
   Ground q loose [] XP w s₀ mg mb s₁.heap->YP w s₁.heap ->
   s₁.heap.get? fa=some o->o.data=.func (docDef d.name d.params d.body d.scope pm cd doc)->s₁.heap.CodeRec cd d.name->mg d.name=some (.ref fa) ->
   s₁.heap.get? a=some { cls:=.type "list",data:=.seq vs.toArray }->IntsAre vs ns->ns.length<=n->s₁.gens=#[] ->
   codeAny (model l.prog w) callerA (.call (.ref fa) ⟨[.ref a],[]⟩) (λr s'=>r=.ok (.ret (.bool true))/\OldK s₁.heap s'.heap/\s'.os=s₁.os/\AllBare s'.gens) s₁) :
  WalkO q loose XP YP l.row.toRowW d [] (λf vs=>PySem.call f vs):=by
 intro w s₀ s₁ mg mb G Y fa o pm cd doc A kV z D i t j v p k H e m F h x;obtain rfl:A=.none:=Dflts.none t hdf;obtain rfl:kV=.none:=Dflts.noKw t;let(a,vs,ns,rfl,rfl,g,b,c):=Jjp hn e h;show enter_call (codeAny_mono (call w s₀ s₁ mg mb fa o pm cd doc a vs ns G Y z (fd_plain D) i j g b c v) λr s' C=>?_);let(rfl,y,E,u):=C;show(.inl ⟨.bool true, .bool true,[],rfl,λ_=>rfl, .bool true,Jje l _,λ_=>⟨List.Pairwise.nil,λ_ B=>(nomatch B)⟩⟩,y,E,u)
section
variable{prog:Program}{A:Around}{E:Value->Shared->Prop}{K:Frag}{w:World}{s:Shared}
end
end Att
namespace L2
open PySem PySem.Spec PyProof.Rows
variable{vs:List Value}{ns:List Int}
theorem JjF(h:IntsAre vs ns):Vals (ns.map V.int) vs:=by
 induction h with
 | nil=>show .nil
 | cons n t _ ih=>show .cons ⟨t,rfl⟩ ih
def Only(H:Hp):Prop:=∀ b,H b=none\/∃ o xs,H b=some (.frz o (.lst xs))
variable{P:Program}{mg:Str->Option Value}{a:Addr}{fd:FuncData}{x:Str}
theorem JjV{w:World}{K:W.Frag}{mb:Str->Option Value}{CX:CXT}{k:Nat}{fa:Addr}{sp:Sp}{s₁:Shared}
  (KX:K.In s₁.heap) (hns:s₁.heap.Ns mainGlobals mg) (hb:s₁.heap.Ns builtinsNs mb) (hbb:∀ x:Str,x≠"__name__"->mb x=bootBuiltins x) (hlim:s₁.heap.NoLimit) (hg:s₁.gens=#[])
  (ha:s₁.heap.get? a=some { cls:=.type "list",data:=.seq vs.toArray }) (hi:IntsAre vs ns) (hl:ns.length<=sizeLine) (hr:Room k callerA)
  (F:∀ base:Heap,K.In base->base.Ns mainGlobals mg->FnOk P w K mg base CX k fa fd [x] sp) (hbind:∀(s:Shared)(u:Value),BindsTo s fd ⟨[u],[]⟩ [(x,u)])
  (hsp:∀ H:Hp,Only H->SqL K H a (ns.map V.int)->sp [.ref a] H (λv _=>v=.bl true) λ_ _ _=>False)
  (hCX:∀ H e s',CX [] H s₁ (λ_ _ _=>False) e s'->False) :
  codeAny (model P w) callerA (.call (.ref fa) ⟨[.ref a],[]⟩) (λr s'=>r=.ok (.ret (.bool true))/\OldK s₁.heap s'.heap/\s'.os=s₁.os/\AllBare s'.gens) s₁:=by
 have E:=JjF hi;have t:=hi.length;have g:∀ H:Hp,Only H->SqL K H a (ns.map V.int)->HOk P w H s₁.heap->(∀ b,H b≠none->b=a)->(H a≠none->K.lookup a=none) ->
   codeAny (model P w) callerA (.call (.ref fa) ⟨[.ref a],[]⟩) (λr s'=>r=.ok (.ret (.bool true))/\OldK s₁.heap s'.heap/\s'.os=s₁.os/\AllBare s'.gens) s₁:=by
  intro H G R i I J;have c:∀{b:Addr}{o:Obj},s₁.heap.get? b=some o->H b=none->(hidT s₁.heap H).get? b=some o:=λe n=>JjR e n;have B:∀{b:Addr}{o:Obj}{es:Array DictEntry}{ep:Nat},s₁.heap.get? b=some o->o.data=.dict es ep->H b=none:=λ{b o es ep} e d=>by
   cases q:H b with
   | none=>rfl
   | some u=>
    have A:b=a:=I b (by rw[q];simp);subst A;rw[ha]at e;cases e;have S:Data.seq vs.toArray _=Data.dict es ep:=d;cases S
  have f:∀{b:Addr}{m:Str->Option Value},s₁.heap.Ns b m->(hidT s₁.heap H).Ns b m:=λ{b m} ζ=>(by let(o,es,ep,e,d,r):=ζ;show(o,es,ep,c e (B e d),d,r));have p:K.In (hidT s₁.heap H):=λb o e=>c (KX b o e) (by
   cases q:H b with
   | none=>rfl
   | some u=>
    have A:b=a:=I b (by rw[q];simp);subst A;rw[J (by rw[q];simp)]at e;cases e)
  have Q:Mod K mg (hidT s₁.heap H):=⟨p,f hns,⟨mb,f hb,hbb⟩,let⟨mc,h1,h2⟩:=hlim;⟨mc,f h1,h2⟩⟩;have M:Env0 P w K mg (hidT s₁.heap H) callerA [] s₁ H:=⟨rfl,Q,λb o e=>JlC e,Nat.le_of_eq (JiM _ _),trivial,λb hb=>absurd (show b∈([]:List Addr)from hb) (by simp),i, .of_eq hg⟩;show codeAny_mono ((F _ p (f hns)).run callerA [] s₁ H ⟨[.ref a],[]⟩ [.ref a] [.ref a] _ _ hr M (hbind s₁ (.ref a)) (.cons rfl .nil) (hsp H G R)) λr s' h=>?_;cases r with
  | error e=>show(hCX H e s' h).elim
  | ok fl=>
   cases fl with
   | next=>show False.elim h
   | brk=>show False.elim h
   | cont=>show False.elim h
   | ret u=>
    let(v,U,os,l,D,j,O,q):=h;have N:v=.bl true:=q;subst N;obtain rfl:u=Value.bool true:=O;show(rfl,OldK.of_keep λb o e=>?_,os,l);cases q:H b with
    | none=>show D.keep b o e q (by intro z;show absurd (show b∈([]:List Addr)from z) (by simp)) (by simp)
    | some u=>
     rcases G b with z | ⟨ob,xs,z⟩
     .rw[q]at z;cases z
     .have T:=D.frzs b ob _ z;let(C,_):=i b _ z;let(L,_):=j b _ T;rw[e]at C;cases C;show L
 cases hk:K.lookup a with
 | some o=>
  have e:=KX a o hk;rw[ha]at e;cases e;show g (λ_=>none) (λ_=>.inl rfl) (.inr ⟨_,vs.toArray,_,hk,rfl,rfl,rfl,by rw[size_toArray,t];show hl,by simpa using E⟩) (λb u z=>by have y:(none:Option HO)=some u:=z;cases y) (λb z=>absurd rfl z) λz=>absurd rfl z
 | none=>
  show g (λb=>if b=a then some (.frz { cls:=.type "list",data:=.seq vs.toArray } (.lst (ns.map V.int)))else none) (λb=>?_) (.inl (.inr ⟨{ cls:=.type "list",data:=.seq vs.toArray },if_pos rfl⟩)) (λb u z=>?_) (λb z=>?_) λ_=>hk
  .by_cases hb:b=a
   .show .inr ⟨_,_,if_pos hb⟩
   .show .inl (if_neg hb)
  .by_cases hb:b=a
   .have y:=(if_pos hb).symm.trans z;cases y;subst hb;show(ha,by rw[length_map];show hl,vs,_,E,ha)
   .have y:=(if_neg hb).symm.trans z;cases y
  .by_cases hb:b=a
   .show hb
   .show absurd (if_neg hb) z
abbrev KOf{K:W.Frag}{h:Heap}(_:K.In h):W.Frag:=K
theorem JjH{l:W.OpenLaw}{n k:Nat}{q:Program}{loose:List Str}{XP:(Str->Option Value)->Heap->Prop}{YP:World->Heap->Prop}{d:DefRec}{K:Params->W.Frag}{CX:World->CXT}{sp:World->Sp}
  (hn:l.most=some n) (hn2:n<=sizeLine) (hdf:d.params.defaults=[]) (hr:Room k callerA)
  (hY:∀(w:World)(h:Heap),YP w h->(K w.params).In h)
  (F:∀(w:World)(mg:Str->Option Value)(fa:Addr)(h:Heap),(K w.params).In h->h.Ns mainGlobals mg->mg d.name=some (.ref fa) ->
   ∃ fd:FuncData,(∀(s:Shared)(u:Value),BindsTo s fd ⟨[u],[]⟩ [(x,u)]) /\
    ∀ base:Heap,(K w.params).In base->base.Ns mainGlobals mg->FnOk l.prog w (K w.params) mg base (CX w) k fa fd [x] (sp w))
  (hsp:∀(w:World)(H:Hp)(a:Addr)(ns:List Int),ns.length<=n->Only H->SqL (K w.params) H a (ns.map V.int)->sp w [.ref a] H (λv _=>v=.bl true) λ_ _ _=>False)
  (hCX:∀(w:World)(H:Hp)(s:Shared)(e:Value)(s':Shared),CX w [] H s (λ_ _ _=>False) e s'->False) :
  W.WalkO q loose XP YP l.row.toRowW d [] (λf vs=>PySem.call f vs):=by
 show Att.attach_call hn hdf λw s₀ s₁ mg C fa o E J z a vs ns G Y D I t m j i c r=>?_;have KX:=hY w _ Y;let(fd,B,p):=F w mg fa _ KX G.T.g m;show JjV KX G.T.g G.T.b G.T.builtins G.T.nolimit r j i (Nat.le_trans c hn2) hr p B (λH A y=>hsp w H a ns c A y) λH e s'=>hCX w H s₁ e s'
def inClass(s:Stmt)(j:Nat):Stmt:=match s with
 | .ClassDef _ _ _ body _ _ _ _ _ _ _=>body.getD j (.Pass ⟨0,0,0,0⟩)
 | _=>.Pass ⟨0,0,0,0⟩
def Jal(s:Stmt):Arguments:=match s with
 | .FunctionDef _ a _ _ _ _ _ _ _ _=>a
 | _=>{ posonlyargs:=[],args:=[],vararg:=none,kwonlyargs:=[],kw_defaults:=[],kwarg:=none,defaults:=[] }
def Jak(s:Stmt):List Stmt:=match s with
 | .FunctionDef _ _ b _ _ _ _ _ _ _=>b
 | _=>[]
def Jaf(s:Stmt):Scope:=match s with
 | .FunctionDef _ _ _ _ _ _ sc _ _ _=>sc
 | _=>{ kind:=.function,names:=[],isGenerator:=false,isCoroutine:=false }
abbrev E0:XK:=λ_ _ _=>False
structure Fun(K:W.Frag)(x qual:Str)(st:Stmt)(f:Addr)(fd:FuncData):Prop where
 ex:∃(oc:Value)(od:Option Addr)(kV doc pm:Value)(an:Option Addr)(cdv ct:Value)(osl:Array (Option Value)),
  fd=W.fnOf x qual (Jal st) (Jak st) (Jaf st) .none kV doc pm an cdv ct/\K.lookup f=some ⟨oc,od, .func fd,osl⟩/\W.codeIn K cdv qual=true
 kp:W.keepIn K (.ref f)=true
section
variable{base:Heap}{w:World}{K:W.Frag}
theorem Fun.binds{qual:Str}{st:Stmt}{f:Addr}{ps:List Str}(F:Fun K x qual st f fd)
  (h:∀(kV doc pm:Value)(an:Option Addr)(cdv ct:Value)(us:List Value),us.length=ps.length->bindArgs (W.fnOf x qual (Jal st) (Jak st) (Jaf st) .none kV doc pm an cdv ct) ⟨us,[]⟩=pure (ps.zip us)):Binds K fd ps []:=by
 let(e,d,kV,doc,pm,an,cdv,ct,a,rfl,c,b):=F.ex;show .all (h kV doc pm an cdv ct)
end
variable{X:Cx}
theorem pv(i:Nat){x:Str}{pos:Pos}(hN:autoParam (X.N[i]?=some x) Au)(hv:autoParam (Vis X.env.scope x) Au)(hd:autoParam ((x == ("__debug__" : Str))=false) Au)
  (hcd:autoParam ((x == ("__classdict__" : Str))=false) Au):PE X (.Name x pos) (tVar i):=Jmx hN hv hd hcd
def Same(H H':Hp):Prop:=∀ b o,H b=some o->H' b=some o
theorem Same.refl(H:Hp):Same H H:=λ_ _ h=>h
variable{H:Hp}
theorem Same.trans{H1 H2:Hp}(a:Same H H1)(b:Same H1 H2):Same H H2:=λc o h=>b c o (a c o h)
theorem Same.seq{K:W.Frag}{H':Hp}{xs:List V}(e:Same H H')(h:SqL K H a xs):SqL K H' a xs:=by
 rcases h with(h | ⟨o,h⟩) | h
 .show .inl (.inl (e _ _ h))
 .show .inl (.inr ⟨o,e _ _ h⟩)
 .show .inr h
end L2
set_option maxHeartbeats 4000000
namespace L2
open PySem PySem.Spec PyProof.Rows
section
variable{κ:Type}[DecidableEq κ]
def valV(kvs:List (κ × V))(k : κ):Option V:=(kvs.find? λkv=>decide (kv.1=k)).map (·.2)
def putK(kvs:List (κ × V))(k : κ)(v:V):List (κ × V) :=
 if(kvs.any λkv=>decide (kv.1=k))=true then kvs.map (λkv=>if kv.1=k then(kv.1,v)else kv)else kvs++[(k,v)]
theorem Jbm{p : κ × V}{r:List (κ × V)}{k : κ}(e:p.1=k):valV (p::r) k=some p.2:=by simp[valV,List.find?_cons,e]
theorem Jbr{p : κ × V}{r:List (κ × V)}{k : κ}(e:¬ p.1=k):valV (p::r) k=valV r k:=by simp[valV,List.find?_cons,e]
theorem JcL(k : κ):∀ kvs:List (κ × V),(kvs.any λkv=>decide (kv.1=k))=(valV kvs k).isSome
 | []=>rfl
 | p::r=>by
  rw[any_cons];by_cases e:p.1=k
  .simp only[Jbm e,decide_eq_true e,Bool.true_or,Option.isSome_some]
  .rw[Jbr e,decide_eq_false e,Bool.false_or];show JcL k r
theorem JhQ(k j : κ)(y:V):∀ kvs:List (κ × V),valV (kvs.map λkv=>if kv.1=k then(kv.1,y)else kv) j=(valV kvs j).map λx=>if j=k then y else x
 | []=>rfl
 | p::r=>by
  have ih:=JhQ k j y r;rw[map_cons];by_cases h:p.1=k
  .rw[if_pos h];by_cases e:p.1=j
   .rw[Jbm (p:=(p.1,y)) e,Jbm e,Option.map_some,if_pos (e.symm.trans h)]
   .rw[Jbr (p:=(p.1,y)) e,Jbr e,ih]
  .rw[if_neg h];by_cases e:p.1=j
   .rw[Jbm (p:=p) e,Jbm e,Option.map_some,if_neg (λz=>h (e.trans z))]
   .rw[Jbr (p:=p) e,Jbr e,ih]
theorem JgA(k j : κ)(y:V):∀ kvs:List (κ × V),valV kvs k=none->valV (kvs++[(k,y)]) j=if j=k then some y else valV kvs j
 | [],_=>by
  by_cases e:k=j
  .rw[if_pos e.symm];show Jbm (p:=(k,y)) e
  .rw[if_neg (λz=>e z.symm)];show Jbr (p:=(k,y)) e
 | p::r,hn=>by
  rw[cons_append];have hk:¬ p.1=k:=λz=>by rw[Jbm z]at hn;cases hn
  rw[Jbr hk]at hn;have ih:=JgA k j y r hn;by_cases e:p.1=j
  .rw[Jbm e,Jbm e,if_neg (λz=>hk (e.trans z))]
  .rw[Jbr e,Jbr e,ih]
theorem Jd8(kvs:List (κ × V))(k j : κ)(y:V):valV (putK kvs k y) j=if j=k then some y else valV kvs j:=by
 unfold putK;by_cases a:(kvs.any λb=>decide (b.1=k))=true
 .rw[if_pos a,JhQ];rw[JcL]at a;by_cases e:j=k
  .let(x,c):=Option.isSome_iff_exists.mp a;rw[if_pos e,e,c,Option.map_some,if_pos rfl]
  .rw[if_neg e];cases valV kvs j with
   | none=>rfl
   | some x=>rw[Option.map_some,if_neg e]
 .rw[if_neg a];show JgA k j y kvs ?_;rw[JcL]at a;cases q:valV kvs k with
  | none=>rfl
  | some x=>rw[q]at a;show(a rfl).elim
theorem Jbf(kvs:List (κ × V))(k : κ)(v:V):(putK kvs k v).length<=kvs.length+1:=by
 unfold putK;split
 .rw[length_map];ac_nf
 .rw[length_append,length_cons,length_nil];ac_nf
theorem Jkb{kvs:List (κ × V)}{k : κ}(v:V)(h:valV kvs k=none):putK kvs k v=kvs++[(k,v)]:=by
 unfold putK;rw[JcL,h];show if_neg ⋯
variable{o:Option V}{u:Option Value}
theorem RelO.isSome_eq(r:RelO o u):o.isSome=u.isSome:=by
 cases o with
 | none=>cases u with
  | none=>rfl
  | some _=>show(show False from r).elim
 | some _=>cases u with
  | none=>show(show False from r).elim
  | some _=>rfl
variable{d:V}
theorem RelO.getD{d':Value}(r:RelO o u)(rd:RelV d d'):RelV (o.getD d) (u.getD d'):=by
 cases o with
 | none=>cases u with
  | none=>show rd
  | some _=>show(show False from r).elim
 | some _=>cases u with
  | none=>show(show False from r).elim
  | some _=>show r
theorem KV.val{kvs:List (κ × V)}{vs:List (κ × Value)}(r:KV kvs vs)(k : κ):RelO (valV kvs k) (valueAt vs k):=by
 unfold KV at r;induction r with
 | nil=>show True.intro
 | @cons p q ps qs h t ih=>
  let(c,d):=h;by_cases e:p.1=k
  .have a:q.1=k:=c.symm.trans e;have b:valueAt (q::qs) k=some q.2:=by simp[valueAt,List.find?_cons,a]
   rw[Jbm e,b];show d
  .have a:¬ q.1=k:=λz=>e (c.trans z);have b:valueAt (q::qs) k=valueAt qs k:=by simp[valueAt,List.find?_cons,a]
   rw[Jbr e,b];show ih
theorem KV.any{kvs:List (κ × V)}{vs:List (κ × Value)}(r:KV kvs vs)(k : κ):(kvs.any λkv=>decide (kv.1=k))=vs.any λkv=>decide (kv.1=k):=by
 unfold KV at r;induction r with
 | nil=>rfl
 | cons h t ih=>rw[any_cons,any_cons,ih,h.1]
theorem KV.repl{kvs:List (κ × V)}{vs:List (κ × Value)}(r:KV kvs vs)(k : κ){y:V}{u:Value}(ry:RelV y u) :
  KV (kvs.map λkv=>if kv.1=k then(kv.1,y)else kv) (vs.map λkv=>if kv.1=k then(kv.1,u)else kv):=by
 unfold KV at r ⊢;induction r with
 | nil=>show .nil
 | @cons p q ps qs h t ih=>
  rw[map_cons,map_cons];show .cons ?_ ih;let(a,b):=h;by_cases e:p.1=k
  .rw[if_pos e,if_pos (a.symm.trans e)];show(a,ry)
  .rw[if_neg e,if_neg (λz=>e (a.trans z))];show(a,b)
theorem KV.put{kvs:List (κ × V)}{vs:List (κ × Value)}(r:KV kvs vs)(k : κ){y:V}{u:Value}(ry:RelV y u):KV (putK kvs k y) (stored vs k u):=by
 unfold putK stored;rw[r.any k];by_cases e:(vs.any λa=>decide (a.1=k))=true
 .rw[if_pos e,if_pos e];show r.repl k ry
 .rw[if_neg e,if_neg e];show Paired.snoc r ⟨rfl,ry⟩
theorem KV.length{kvs:List (κ × V)}{vs:List (κ × Value)}(r:KV kvs vs):kvs.length=vs.length:=Paired.length r
end
variable{P:Program}
theorem kV_is{w:World}{k:Key}{u:Value}(r:RelV (kV k) u):(Jax P w).is k u=true:=by
 cases k with
 | inl i=>have e:=(show u=Value.bool i from r);subst e;show Jgd P w i
 | inr x=>let(t,e):=(show∃ t,u=Value.str x t from r);subst e;show JgO P w x t
theorem Jgb{w:World}:∀{ks:List Key}{us:List Value},Vals (ks.map kV) us->ItemsAre (Jax P w) ks us
 | [],_,r=>by rw[map_nil]at r;cases r;show .nil
 | k::ks,_,r=>by
  rw[map_cons]at r;cases r with
  | cons h t=>show .cons (kV_is h) (Jgb t)
abbrev KT(H:Hp):List (List Key × V)->List (List Key × Addr × Value)->Prop:=Paired λp q=>p.1=q.1/\H q.2.1=some (.tup (p.1.map kV))/\RelV p.2 q.2.2
variable{H:Hp}{kvs:List (List Key × V)}{xs:List (List Key × Addr × Value)}
theorem KT.val(r:KT H kvs xs)(k:List Key):RelO (valV kvs k) ((atKey xs k).map (·.2)):=by
 induction r with
 | nil=>show True.intro
 | @cons p q ps qs h t ih=>
  let(c,_,d):=h;by_cases e:p.1=k
  .have a:q.1=k:=c.symm.trans e;have b:atKey (q::qs) k=some q.2:=by simp[atKey,List.find?_cons,a]
   rw[Jbm e,b];show d
  .have a:¬ q.1=k:=λz=>e (c.trans z);have b:atKey (q::qs) k=atKey qs k:=by simp[atKey,List.find?_cons,a]
   rw[Jbr e,b];show ih
theorem KT.repl(r:KT H kvs xs)(k:List Key){y:V}{u:Value}(ry:RelV y u) :
  KT H (kvs.map λkv=>if kv.1=k then(kv.1,y)else kv) (xs.map (putAt k u)):=by
 induction r with
 | nil=>show .nil
 | @cons p q ps qs h t ih=>
  rw[map_cons,map_cons];show .cons ?_ ih;let(a,b,c):=h;unfold putAt;by_cases e:p.1=k
  .rw[if_pos e,if_pos (a.symm.trans e)];show(a,b,ry)
  .rw[if_neg e,if_neg (λz=>e (a.trans z))];show(a,b,c)
theorem KT.put(r:KT H kvs xs)(k:List Key){b:Addr}{y:V}{u:Value}(hb:H b=some (.tup (k.map kV)))(ry:RelV y u) :
  KT H (putK kvs k y) (storedH xs k b u):=by
 have e:(kvs.any λa=>decide (a.1=k))=(atKey xs k).isSome:=by
  rw[JcL,(r.val k).isSome_eq,Option.isSome_map]
 unfold putK storedH;rw[e];by_cases q:(atKey xs k).isSome=true
 .rw[if_pos q,if_pos q];show r.repl k ry
 .rw[if_neg q,if_neg q];show Paired.snoc r ⟨rfl,hb,ry⟩
variable{H':Hp}
theorem KT.keeps(r:KT H kvs xs)(ht:∀ b ys,H b=some (.tup ys)->H' b=some (.tup ys)):KT H' kvs xs :=
 Paired.mapP r λ_ _ z=>⟨z.1,ht _ _ z.2.1,z.2.2⟩
section
variable{h:Heap}{a:Addr}{w:World}
theorem y79y{u:HO}(ok:HOk P w H h)(e:Rd H a u):ObjOk P w H h a u:=e.ok ok
variable{kvs:List (Key × V)}
theorem dk_rd(ok:HOk P w H h)(e:Rd H a (.dK kvs)):kvs.length<=sizeLine/\(a == sysModules)=false/\∃ vs,KV kvs vs/\h.DictOf (Jax P w) a vs :=
 show ObjOk P w H h a (.dK kvs)from y79y ok e
theorem dk_of(ok:HOk P w H h)(e:H a=some (.dK kvs)):kvs.length<=sizeLine/\(a == sysModules)=false/\∃ vs,KV kvs vs/\h.DictOf (Jax P w) a vs:=dk_rd ok (.inl e)
theorem Jeg{ks:List Key}(ok:HOk P w H h)(e:H a=some (.tup (ks.map kV))):(tupleKind (Jax P w)).is h ks a:=by
 let(_,b,r,o,d,c,n,f):=(show ObjOk P w H h a (.tup (ks.map kV))from ok a _ e);show(o,b.toArray,n,d,c,f,by simpa using Jgb r)
variable{kvs:List (List Key × V)}
theorem dt_rd(ok:HOk P w H h)(e:Rd H a (.dT kvs)):kvs.length<=sizeLine/\(a == sysModules)=false /\
  ∃ xs,KT H kvs xs/\h.DictOfH (tupleKind (Jax P w)) a xs:=by
 let(z,y,xs,r,o,i,g,d,c,k,f,j):=(show ObjOk P w H h a (.dT kvs)from y79y ok e);show(z,y,xs,r,o,i,g,d,c,k,f,λx b=>?_,j);have all:∀{l:List (List Key × V)}{m:List (List Key × Addr × Value)},KT H l m->∀ x∈m,(tupleKind (Jax P w)).is h x.1 x.2.1:=by
  intro l m q;induction q with
  | nil=>intro x b;show nomatch b
  | @cons p q ps qs hq t ih=>
   intro x b;rcases mem_cons.mp b with e | b
   .subst e;show Jeg ok (by rw[<- hq.1];show hq.2.1)
   .show ih x b
 show all r x b
theorem dt_of(ok:HOk P w H h)(e:H a=some (.dT kvs)):kvs.length<=sizeLine/\(a == sysModules)=false /\
  ∃ xs,KT H kvs xs/\h.DictOfH (tupleKind (Jax P w)) a xs:=dt_rd ok (.inl e)
end
def DGet(H:Hp)(a:Addr)(y:V)(r:Option V):Prop :=
 (∃ kvs k,Rd H a (.dK kvs)/\y=kV k/\r=valV kvs k)\/∃ kvs k b,Rd H a (.dT kvs)/\y=.ref b/\H b=some (.tup (k.map kV))/\r=valV kvs k
def DPut(H:Hp)(a:Addr)(y v:V)(H':Hp):Prop :=
 (∃ kvs k,H a=some (.dK kvs)/\y=kV k/\kvs.length<sizeLine/\H'=upd H a (.dK (putK kvs k v))) \/
 ∃ kvs k b,H a=some (.dT kvs)/\y=.ref b/\H b=some (.tup (k.map kV))/\kvs.length<sizeLine/\H'=upd H a (.dT (putK kvs k v))
variable{a:Addr}{kvs:List (Key × V)}
theorem DGet.k{k:Key}(e:H a=some (.dK kvs)):DGet H a (kV k) (valV kvs k):=.inl ⟨kvs,k, .inl e,rfl,rfl⟩
variable{v:V}
theorem DPut.k{k:Key}(e:H a=some (.dK kvs))(hl:kvs.length<sizeLine):DPut H a (kV k) v (upd H a (.dK (putK kvs k v))):=.inl ⟨kvs,k,e,rfl,hl,rfl⟩
section
variable{X:Cx}{pins:List (Addr × Obj)}{σ:St}{y:V}{u r:Value}{o:Option V}{A:Around}{E:Value->Shared->Prop}{s:Shared}
theorem Inv.big(I:Inv X pins σ H s):sysModules<s.heap.objs.size:=by
 have h:mainGlobals<s.heap.objs.size:=(I.mod.glob.keeps I.bk).lt;show Nat.lt_trans ⋯ h
variable{Q:Value->Shared->Prop}
theorem Jix(hu:A.units+1<cLine)(I:Inv X pins σ H s)(g:DGet H a y (some v))(ry:RelV y u)(h:∀ w' s',Inv X pins σ H s'->RelV v w'->Q w' s') :
  wpAny (model X.prog X.w) A (getItem (.ref a) u) Q E s:=by
 rcases g with⟨kvs,k,e,ey,l⟩ | ⟨kvs,k,b,e,ey,eb,l⟩
 .subst ey;let(z,n,r,d,f):=dk_rd I.hok e;let(w',j,c):=RelO.some_of (v:=v) (o:=valueAt r k) (by rw[l];show d.val k);show wpAny_getItem_of (kV_is ry) f.mapOf j (h w' _ (I.tok _) c)
 .subst ey;cases(show u=Value.ref b from ry);let(z,n,m,d,f):=dt_rd I.hok e;let(w',j,c):=RelO.some_of (v:=v) (o:=(atKey m k).map (·.2)) (by rw[l];show d.val k);let(p,q,i):=Option.map_eq_some_iff.mp j;show wpAny_getItem_heap (tupleKind_room_in1 hu) (Jeg I.hok eb) f q ?_;rw[i];show h w' _ (I.tok _) c
theorem d_in(hu:A.units+1<cLine)(I:Inv X pins σ H s)(g:DGet H a y o)(ry:RelV y u)(h:∀ s',Inv X pins σ H s'->Q (.bool o.isSome) s') :
  wpAny (model X.prog X.w) A (compareOp .In u (.ref a)) Q E s:=by
 rcases g with⟨kvs,k,e,ey,l⟩ | ⟨kvs,k,b,e,ey,eb,l⟩
 .subst ey;let(z,f,j,c,d):=dk_rd I.hok e;show wpAny_in_of (kV_is ry) f d.mapOf ?_;rw[<- (c.val k).isSome_eq, <- l];show h _ (I.tok _)
 .subst ey;cases(show u=Value.ref b from ry);let(z,f,i,c,d):=dt_rd I.hok e;show wpAny_in_heap (tupleKind_room_in1 hu) (Jeg I.hok eb) f d ?_;have q:=(c.val k).isSome_eq;rw[Option.isSome_map]at q;rw[<- q, <- l];show h _ (I.tok _)
theorem Jli(hu:A.units+1<cLine)(I:Inv X pins σ H s)(g:DGet H a y o)(ry:RelV y u)(h:∀ s',Inv X pins σ H s'->Q (.bool (!o.isSome)) s') :
  wpAny (model X.prog X.w) A (compareOp .NotIn u (.ref a)) Q E s:=by
 rcases g with⟨kvs,k,e,ey,l⟩ | ⟨kvs,k,b,e,ey,eb,l⟩
 .subst ey;let(z,f,j,c,d):=dk_rd I.hok e;show wpAny_notIn_of (kV_is ry) f d.mapOf ?_;rw[<- (c.val k).isSome_eq, <- l];show h _ (I.tok _)
 .subst ey;cases(show u=Value.ref b from ry);let(z,f,i,c,d):=dt_rd I.hok e;show wpAny_notIn_heap (tupleKind_room_in1 hu) (Jeg I.hok eb) f d ?_;have q:=(c.val k).isSome_eq;rw[Option.isSome_map]at q;rw[<- q, <- l];show h _ (I.tok _)
variable{h':Heap}
theorem Jfk{t':Nat}{ob:HO}(I:Inv X pins σ H s)(mu:Mut (H a))(hs:Heap.SameBut a s.heap h')(he:∃ q,h'.get? a=some q)(new:ObjOk X.prog X.w (upd H a ob) h' a ob) :
  Inv X pins σ (upd H a ob) { s with heap:=h',toks:=t' } :=
 I.write (x:=a) (e:=a) mu (.inl rfl) (λb q c z=>(hs.2 b c).trans z) he new
theorem Jhv{w:World}{vs:List (Key × Value)}(z:kvs.length<=sizeLine)(hd:(a == sysModules)=false)(rel:KV kvs vs)(dd:h'.DictOf (Jax P w) a vs) :
  ObjOk P w H' h' a (.dK kvs):=⟨z,hd,vs,rel,dd⟩
theorem Jiy{Q:Unit->Shared->Prop}(hu:A.units+1<cLine)(I:Inv X pins σ H s)(g:DPut H a y v H')(ry:RelV y u)(rv:RelV v r)(h:∀ s',Inv X pins σ H' s'->Q () s') :
  wpAny (model X.prog X.w) A (setItem (.ref a) u r) Q E s:=by
 rcases g with⟨kvs,k,e,ey,l,eH⟩ | ⟨kvs,k,b,e,ey,eb,l,eH⟩
 .subst ey eH;let(z,p,C,d,o):=dk_of I.hok e;have m:C.length<=sizeLine:=by rw[<- d.length];show z
  have j:(putK kvs k v).length<=sizeLine:=by have:=Jbf kvs k v;ac_nf
  show wpAny_setItem_pairs (hsz:=m) (kV_is ry) o λx f n=>h _ ?_;have G:∃ q,x.get? a=some q:=let⟨q,_,_,i,_⟩:=f;⟨q,i⟩;show Jfk I (by rw[e];show True.intro) n G (Jhv j p (d.put k rv) f)
 .subst ey eH;cases(show u=Value.ref b from ry);let(z,p,F,d,o):=dt_of I.hok e;have m:F.length<=sizeLine:=by rw[<- Paired.length d];show z
  have j:(putK kvs k v).length<=sizeLine:=by have:=Jbf kvs k v;ac_nf
  show wpAny_setItem_heap (hsz:=m) (tupleKind_room_in1 hu) (Jeg I.hok eb) o λx f n=>h _ ?_;let(q,K,M,i,J,D,B,_,L):=f;show Jfk I (by rw[e];show True.intro) n ⟨q,i⟩ ⟨j,p,_,(d.put k eb rv).keeps λc N t=>?_,q,K,M,i,J,D,B,L⟩;rw[Jai (ne_of t e (λz=>nomatch z))];show t
end
section
variable{X:Cx}{pins:List (Addr × Obj)}{σ:St}{u:Value}{A:Around}{E:Value->Shared->Prop}{s:Shared}{k:Key}
end
def NoSl(i:Expr):Prop:=∀ ov iv,subscripted i false ov iv=operate [ov,iv] (getItem ov iv)
variable{A:Around}{E Q:Value->Shared->Prop}{env:Env}{value:Expr}{pos:Pos}
theorem Jl0{prog:Program}{w:World}{s:Shared}{slice:Expr}{T id:String}
  (hl:typeLookup (.type T) "__getitem__"=pure (some (.builtin id))) (hs:NoSl slice)
  (h:wpAny (model prog w) A (eval value env) (λo s₁=>wpAny (model prog w) A (eval slice env) (λi s₂=>s₂.TypeIs o T/\wpAny (model prog w) A (getItem o i) Q E s₂) E s₁) E s) :
  wpAny (model prog w) A (eval (.Subscript value slice pos) env) Q E s:=by
 show Subscript_ (wpAny_mono h (λo s₁ h₁=>wpAny_mono h₁ (λi s₂ h₂=>?_) λ_ _ x=>x) λ_ _ x=>x);let(b,h₂):=h₂;unfold subscriptTail;show wpAny_bind ?_;rw[getitemInPython_of_ne b.not_modules];show wpAny_bind (wpAny_specialOf b hl ?_);have a:wpAny (model prog w) A (subscripted slice false o i) (λr s₃=>wpAny (model prog w) A (letTemporaryGo value o r >>= λ_=>pure r) Q E s₃) E s₂:=by
  rw[hs o i];show wpAny_operating (wpAny_mono h₂ (λr s₃ h₃=>wpAny_bind (wpAny_letTemporaryGo (wpAny_pure h₃))) λ_ _ x=>x)
 first
  | show wpAny_pure (wpAny_bind a)
  | show wpAny_bind (wpAny_pure (wpAny_bind a))
  | show wpAny_bind a
variable{X:Cx}{pins:List (Addr × Obj)}{σ:St}{y:V}
theorem JgI{s:Shared}{o:Option V}(I:Inv X pins σ H s)(g:DGet H a y o):s.TypeIs (.ref a) "dict":=by
 rcases g with⟨kvs,k,e,_,_⟩ | ⟨kvs,k,b,e,_,_,_⟩
 .let(_,_,f,_,c):=dk_rd I.hok e;show c.typeIs
 .let(_,_,d,_,c):=dt_rd I.hok e;show c.typeIs
def tDGet(td ty:TE):TE:=λσ H Q=>td σ H λx H1=>ty σ H1 λy H2=>∃ a v,x=.ref a/\DGet H2 a y (some v)/\Q v H2
def tDIn(ty td:TE):TE:=λσ H Q=>ty σ H λy H1=>td σ H1 λx H2=>∃ a o,x=.ref a/\DGet H2 a y o/\Q (.bl o.isSome) H2
def Jjx(ty td:TE):TE:=λσ H Q=>ty σ H λy H1=>td σ H1 λx H2=>∃ a o,x=.ref a/\DGet H2 a y o/\Q (.bl (!o.isSome)) H2
def sDPut(td ty tv:TE):TS:=λD σ H=>tv σ H λv H1=>td σ H1 λx H2=>ty σ H2 λy H3=>∃ a H4,x=.ref a/\DPut H3 a y v H4/\D.nx σ H4
section
variable{o e:Expr}{pos' tpos:Pos}{ty tv:TE}{i:Expr}{td:TE}
theorem JaN(hu:X.A.units+1<cLine)(ho:PE X o td)(hi:PE X i ty)(hs:NoSl i):PE X (.Subscript o i pos) (tDGet td ty):=by
 intro b s σ H Q I h;show Jl0 PySem.F.slot_dict_getitem.lookup hs (thn (ho b s σ H _ I h) λu j ζ=>?_);let(x,m,I1,k,f):=ζ;show thn (hi b j σ m _ I1 f) λr p ζ=>?_;let(y,e,I2,d,a,v,n,g,l):=ζ;subst n;obtain rfl:u=Value.ref a:=k;show(JgI I2 g,Jix hu I2 g d λq t I3 c=>⟨v,e,I3,c,l⟩)
theorem JhG(hu:X.A.units+1<cLine)(hi:PE X i ty)(ho:PE X o td):PC X .In i o (tDIn ty td):=by
 intro b s σ H Q I h;show thn (hi b s σ H _ I h) λq e ζ=>?_;let(y,m,I1,c,f):=ζ;show thn (ho b e σ m _ I1 f) λu p ζ=>?_;let(x,d,I2,k,a,j,n,g,l):=ζ;subst n;obtain rfl:u=Value.ref a:=k;show d_in hu I2 g c λr I3=>⟨.bl j.isSome,d,I3,rfl,l⟩
theorem Jdq(hu:X.A.units+1<cLine)(hi:PE X i ty)(ho:PE X o td):PC X .NotIn i o (Jjx ty td):=by
 intro b s σ H Q I h;show thn (hi b s σ H _ I h) λq e ζ=>?_;let(y,m,I1,c,f):=ζ;show thn (ho b e σ m _ I1 f) λu p ζ=>?_;let(x,d,I2,k,a,j,n,g,l):=ζ;subst n;obtain rfl:u=Value.ref a:=k;show Jli hu I2 g c λr I3=>⟨.bl (!j.isSome),d,I3,rfl,l⟩
theorem Jbn(hu:X.A.units+1<cLine)(ho:PE X o td)(hi:PE X i ty)(hv:PE X value tv)(hs:swapsWith value (some (.Subscript o i pos')) pos.line X.env=pure false) :
  PS X (.Assign [.Subscript o i pos'] value pos) (sDPut td ty tv):=by
 intro b s σ H D I h;show wpAny_Assign_Subscript (thn (hv b s σ H _ I h) λr f ζ=>?_) hs;let(v,n,I1,m,j):=ζ;show thn (ho b f σ n _ I1 j) λu c ζ=>?_;let(x,e,I2,k,l):=ζ;show thn (hi b c σ e _ I2 l) λz B ζ=>?_;let(y,C,I3,d,a,t,p,g,q):=ζ;subst p;obtain rfl:u=Value.ref a:=k;show Jiy hu I3 g d m λw I4=>⟨σ,t,I4,q⟩
end
theorem Jhu{w:World}(h:Heap)(hb:sysModules<h.objs.size):ObjOk P w H (h.push { cls:=.type "dict",data:=.dict #[] }) h.objs.size (.dK []) :=
 ⟨Nat.zero_le _,beq_eq_false_iff_ne.mpr (Ne.symm (Nat.ne_of_lt hb)),[], .nil,Heap.DictOf.new h⟩
def JkX:TE:=λ_ H Q=>∀ p,H p=none->Q (.ref p) (upd H p (.dK []))
theorem Jbq:PE X (.Dict [] [] pos) JkX:=λb s σ H Q I h=>
 wpAny_Dict_empty ⟨.ref s.heap.objs.size,_,I.laid (a:=s.heap.objs.size) (o:=.dK []) (t':=s.toks) (λ_ _ q=>Heap.get?_push_of_some _ q) (Nat.le_refl _) (Jhu s.heap I.big),rfl,h _ (I.hok.fresh (Nat.le_refl _))⟩
def Jgy:List (TE × TE)->St->Hp->(List (V × V)->Hp->Prop)->Prop
 | [],_,H,Q=>Q [] H
 | (tk,tv)::r,σ,H,Q=>tk σ H λx H1=>tv σ H1 λy H2=>Jgy r σ H2 λps H3=>Q ((x,y)::ps) H3
abbrev VV:List (V × V)->List (Value × Value)->Prop:=Paired λp q=>RelV p.1 q.1/\RelV p.2 q.2
def PPs(X:Cx)(pos:Pos)(keys:List (Option Expr))(values:List Expr)(trs:List (TE × TE)):Prop :=
 ∀(pins:List (Addr × Obj))(s:Shared)(σ : St)(H:Hp)(Q:List (V × V)->Hp->Prop),Inv X pins σ H s->Jgy trs σ H Q ->
  wpAny (model X.prog X.w) X.A (evalPairs (pairTrees keys values X.env pos)) (λvs s'=>∃ ps H',Inv X pins σ H' s'/\VV ps vs/\Q ps H') X.xe s
theorem JlS:PPs X pos [] [] []:=λa s σ H Q I h=>pairTrees_nil_walk ⟨[],H,I, .nil,h⟩
variable{trs:List (TE × TE)}
theorem Jka{k v:Expr}{ks:List (Option Expr)}{vs:List Expr}{tk tv:TE}(hk:PE X k tk)(hv:PE X v tv)(hr:PPs X pos ks vs trs) :
  PPs X pos (some k::ks) (v::vs) ((tk,tv)::trs):=λa s σ H Q I h=>
 pairTrees_cons_walk (thn (hk a s σ H _ I h) λu g ζ=>by let(x,m,I1,j,f):=ζ;show thn (hv a g σ m _ I1 f) λp c ζ=>by let(y,e,I2,d,l):=ζ;show thn (hr a c σ e _ I2 l) λr q ζ=>by let(i,o,I3,b,n):=ζ;show((x,y)::i,o,I3, .cons ⟨j,d⟩ b,n))
def Jfc(kvs more:List (Key × V)):List (Key × V):=more.foldl (λacc kv=>putK acc kv.1 kv.2) kvs
theorem KV.merge:∀{more:List (Key × V)}{rs:List (Key × Value)}{kvs:List (Key × V)}{vs:List (Key × Value)},KV more rs->KV kvs vs->KV (Jfc kvs more) (merged vs rs):=by
 intro more rs kvs vs r;unfold KV at r;induction r generalizing kvs vs with
 | nil=>intro q;show q
 | @cons p q ps qs h t ih=>
  intro a;have e:KV (putK kvs p.1 p.2) (stored vs q.1 q.2):=by
   have:=a.put p.1 h.2;rw[<- h.1];show this
  show ih e
theorem Jdn:∀(more kvs:List (Key × V)),(Jfc kvs more).length<=kvs.length+more.length
 | [],kvs=>by show kvs.length<=kvs.length+0;ac_nf
 | p::r,kvs=>by
  have h1:=Jdn r (putK kvs p.1 p.2);have h2:=Jbf kvs p.1 p.2;show(Jfc (putK kvs p.1 p.2) r).length<=_;rw[length_cons];ac_nf
theorem Je3{P:Program}{w:World}:∀{kvs:List (Key × V)}{ws:List (Value × Value)},VV (kvs.map λkv=>(kV kv.1,kv.2)) ws->∃ rs,Carries (Jax P w) ws rs/\KV kvs rs
 | [],_,r=>by rw[map_nil]at r;cases r;show([],True.intro, .nil)
 | p::kvs,_,r=>by
  rw[map_cons]at r;cases r with
  | @cons a b as bs h t=>
   let(rs,c,q):=Je3 (P:=P) (w:=w) t;let(b1,b2):=b;show((p.1,b2)::rs,⟨kV_is h.1,rfl,c⟩, .cons ⟨rfl,h.2⟩ q)
def tDisp(trs:List (TE × TE)):TE:=λσ H Q=>∀ p,H p=none->Jgy trs σ (upd H p (.dK [])) λps H2=>H2 p=some (.dK [])/\∃ kvs:List (Key × V),ps=kvs.map (λkv=>(kV kv.1,kv.2))/\kvs.length<=15/\Q (.ref p) (upd H2 p (.dK (Jfc [] kvs)))
theorem JlN{keys:List (Option Expr)}{values:List Expr}(h:PPs X pos keys values trs)(hall:keys.all (·.isSome)=true)(hl:keys.length=values.length)(h0:keys≠[])
  (h15:keys.length<=15):PE X (.Dict keys values pos) (tDisp trs):=by
 intro d s σ H Q I q;have y:=I.hok.fresh (Nat.le_refl s.heap.objs.size);have I1:=I.laid (a:=s.heap.objs.size) (o:=.dK []) (h':=s.heap.push { cls:=.type "dict",data:=.dict #[] }) (t':=s.toks) (λ_ _ q=>Heap.get?_push_of_some _ q) (Nat.le_refl _) (Jhu s.heap I.big);show wpAny_Dict_walk (knd:=Jax X.prog X.w) hall hl h0 h15 (thn (h d _ σ _ _ I1 (q _ y)) λE A ζ=>?_);let(C,B,I2,g,e,b,x,D,p):=ζ;subst x;let(k,c,i):=Je3 (P:=X.prog) (w:=X.w) g;let(z,v,j,l,u):=dk_of I2.hok e;cases l;show(k,c,u,λh' f n=>⟨.ref s.heap.objs.size,_,?_,rfl,p⟩);have m:(Jfc [] b).length<=sizeLine:=by
  have t:=Jdn b [];rw[length_nil]at t;rw[sizeLine_eq];ac_nf
 have r:∃ q,h'.get? s.heap.objs.size=some q:=let⟨q,_,_,hq,_⟩:=f;⟨q,hq⟩;show Jfk I2 (by rw[e];show True.intro) n r (Jhv m v (i.merge .nil) f)
structure M1(X:Cx)(o:Expr)(m:Str)(apos:Pos)(e:Expr)(cpos:Pos):Prop where
 base:attributeBase o m X.env (eval o X.env)=eval o X.env
 few:((backTo cpos (starEach [e] X.env)).all (λx=>!x.1)&&(backToKw cpos (keywordEach [] X.env)).all (λx=>x.1.isSome)
  && decide (([e]:List Expr).length+([]:List Keyword).length+(if([]:List Keyword).isEmpty then 0 else 1)<30))=true
 line:(apos.endLine == cpos.line)=true
 trees:backTo cpos (starEach [e] X.env)=[(false,eval e X.env)]
structure M2(X:Cx)(o:Expr)(m:Str)(apos:Pos)(e f:Expr)(cpos:Pos):Prop where
 base:attributeBase o m X.env (eval o X.env)=eval o X.env
 few:((backTo cpos (starEach [e,f] X.env)).all (λx=>!x.1)&&(backToKw cpos (keywordEach [] X.env)).all (λx=>x.1.isSome)
  && decide (([e,f]:List Expr).length+([]:List Keyword).length+(if([]:List Keyword).isEmpty then 0 else 1)<30))=true
 line:(apos.endLine == cpos.line)=true
 trees:backTo cpos (starEach [e,f] X.env)=[(false,eval e X.env),(false,eval f X.env)]
def IsD(H:Hp)(a:Addr):Prop:=(∃ kvs,Rd H a (.dK kvs))\/∃ kvs,Rd H a (.dT kvs)
theorem Jga{s:Shared}(I:Inv X pins σ H s)(d:IsD H a) :
  s.TypeIs (.ref a) "dict"/\(∀ b,Value.ref a=.ref b->∃ ob,s.heap.get? b=some ob/\ob.dict=none)/\(a == sysModules)=false:=by
 rcases d with⟨kvs,e⟩ | ⟨kvs,e⟩
 .let(_,h,j,_,c):=dk_rd I.hok e;show(c.typeIs,λb q=>?_,h);cases q;let(ob,_,_,g,f,_):=c;show(ob,g,f.2.1)
 .let(_,h,i,_,c):=dt_rd I.hok e;show(c.typeIs,λb q=>?_,h);cases q;let(ob,_,_,g,f,_):=c;show(ob,g,f.2.1)
section
variable{d:V}{u r:Value}{o:Option V}{s:Shared}
theorem Jl9(hu:A.units+1<cLine)(I:Inv X pins σ H s)(g:DGet H a y o)(ry:RelV y u)(h:∀ w' s',Inv X pins σ H s'->RelV (o.getD .non) w'->Q w' s') :
  wpAny (model X.prog X.w) A (call (.builtin "dict.get") [.ref a,u]) Q E s:=by
 rcases g with⟨kvs,k,e,ey,l⟩ | ⟨kvs,k,b,e,ey,eb,l⟩
 .subst ey;let(z,f,j,c,d):=dk_rd I.hok e;show call_meetsIn PySem.F.slot_dict_get d.typeIs PySem.F.entry_dict_get (PySem.F.args_dict_get_2 _ _) (meets_dict_get (Jax X.prog X.w) a (kV_is ry) f) ⟨_,d.mapOf,h _ _ (I.tok _) ?_⟩;rw[l];show(c.val k).getD rfl
 .subst ey;cases(show u=Value.ref b from ry);let(z,f,i,c,d):=dt_rd I.hok e;show call_meetsIn PySem.F.slot_dict_get d.typeIs PySem.F.entry_dict_get (PySem.F.args_dict_get_2 _ _) (meetsH_dict_get (tupleKind (Jax X.prog X.w)) a b f) ⟨tupleKind_room_in1 hu,k,i,Jeg I.hok eb,d,h _ _ (I.tok _) ?_⟩;rw[l];show(c.val k).getD rfl
theorem Jma(hu:A.units+1<cLine)(I:Inv X pins σ H s)(g:DGet H a y o)(ry:RelV y u)(rd:RelV d r)(h:∀ w' s',Inv X pins σ H s'->RelV (o.getD d) w'->Q w' s') :
  wpAny (model X.prog X.w) A (call (.builtin "dict.get") [.ref a,u,r]) Q E s:=by
 rcases g with⟨kvs,k,e,ey,l⟩ | ⟨kvs,k,b,e,ey,eb,l⟩
 .subst ey;let(z,i,m,c,f):=dk_rd I.hok e;show call_meetsIn PySem.F.slot_dict_get f.typeIs PySem.F.entry_dict_get (PySem.F.args_dict_get_3 _ _ _) (meets_dict_get_default (Jax X.prog X.w) a (kV_is ry) i r) ⟨_,f.mapOf,h _ _ (I.tok _) ?_⟩;rw[l];show(c.val k).getD rd
 .subst ey;cases(show u=Value.ref b from ry);let(z,i,j,c,f):=dt_rd I.hok e;show call_meetsIn PySem.F.slot_dict_get f.typeIs PySem.F.entry_dict_get (PySem.F.args_dict_get_3 _ _ _) (meetsH_dict_get_default (tupleKind (Jax X.prog X.w)) a b i r) ⟨tupleKind_room_in1 hu,k,j,Jeg I.hok eb,f,h _ _ (I.tok _) ?_⟩;rw[l];show(c.val k).getD rd
end
def JkV(td ty:TE):TE:=λσ H Q=>td σ H λx H1=>∃ a,x=.ref a/\IsD H1 a/\ty σ H1 λy H2=>∃ o,DGet H2 a y o/\Q (o.getD .non) H2
def JkW(td ty tx:TE):TE:=λσ H Q=>td σ H λx H1=>∃ a,x=.ref a/\IsD H1 a/\ty σ H1 λy H2=>tx σ H2 λz H3=>∃ o,DGet H3 a y o/\Q (o.getD z) H3
section
variable{o e:Expr}{apos cpos:Pos}{ty tx:TE}{f:Expr}{td:TE}
theorem Jj7(hu:X.A.units+1<cLine)(ho:PE X o td)(he:PE X e ty)(m:M1 X o "get" apos e cpos):PE X (.Call (.Attribute o "get" apos) [e] [] cpos) (JkV td ty):=by
 intro b s σ H Q I h;show wpAny_Call_method m.base m.few m.line PySem.F.plainAttrs_dict PySem.F.slot_dict_get PySem.F.type_dict_get (thn (ho b s σ H _ I h) λu k ζ=>?_);let(x,r,I1,n,a,t,d,l):=ζ;subst t;obtain rfl:u=Value.ref a:=n;let(f,q,_):=Jga I1 d;show(f,q,?_);rw[m.trees];show Calls.callWith_builtin rfl (Calls.evalArgs_plain (Calls.spliced_cons (thn (he b k σ r _ I1 l) λB v ζ=>?_)));let(y,j,I2,i,w,g,p):=ζ;show Calls.spliced_nil ?_;show Jl9 hu I2 g i λz C I3 c=>⟨_,j,I3,c,p⟩
theorem Jj8(hu:X.A.units+1<cLine)(ho:PE X o td)(he:PE X e ty)(hf:PE X f tx)(m:M2 X o "get" apos e f cpos):PE X (.Call (.Attribute o "get" apos) [e,f] [] cpos) (JkW td ty tx):=by
 intro b s σ H Q I h;show wpAny_Call_method m.base m.few m.line PySem.F.plainAttrs_dict PySem.F.slot_dict_get PySem.F.type_dict_get (thn (ho b s σ H _ I h) λu n ζ=>?_);let(x,v,I1,q,a,B,d,p):=ζ;subst B;obtain rfl:u=Value.ref a:=q;let(i,r,_):=Jga I1 d;show(i,r,?_);rw[m.trees];show Calls.callWith_builtin rfl (Calls.evalArgs_plain (Calls.spliced_cons (thn (he b n σ v _ I1 p) λL j ζ=>?_)));let(y,l,I2,k,t):=ζ;show Calls.spliced_cons (thn (hf b j σ l _ I2 t) λE M ζ=>?_);let(z,w,I3,C,G,g,D):=ζ;show Calls.spliced_nil ?_
 show Jma hu I3 g k C λK J I4 c=>⟨_,w,I4,c,D⟩
end
section
variable{s:Shared}
end
section
variable{u:Value}{s:Shared}
end
section
variable{κ:Type}[DecidableEq κ]
end
def DictAt(h:Heap)(e:Addr)(od:Option Addr):Prop:=∃ o,h.get? e=some o/\o.dict=od
theorem JiD(o:Obj)(f):(o.mapFields f).dict=o.dict:=by
 let(c,d,a,b):=o;cases a <;> rfl
section
variable{M:Model}{base:Heap}{outer l:List Env}{L e:Addr}{oe:Obj}{vs:Array Value}{head a0 cls fl:Value}{od:Option Addr}{Q:Unit->Shared->Prop}{s:Shared}
theorem Jky{hadNext:Bool}(hfr:A.frames=some (env::outer))(hl:s.heap.FunFrames base (env::outer))(hf:env.frame=some L)
  (he:s.heap.get? e=some oe) (hkb:base.StaysIn s.heap) (hen:base.get? e=none) (hd:oe.data=.fields vs) (hsz:1<vs.size) (h0:vs[0]?=some a0)
  (h:∀ h',Heap.NotedW base (env::outer) e oe.cls a0 (rawInt L) s.heap h'->DictAt h' e oe.dict->Q () { s with heap:=h' }) :
  wpAny M A (do let a <- frameOf env;let pl <- entryPlaceOf L hadNext;let b <- EntryCells.newEntry head a .none (rawInt L) .none pl;setField (.ref e) 1 b) Q E s:=by
 have C:e∉(env::outer).filterMap (·.frame):=λu=>by
  let(_,o,w,f):=hl.mem u;rw[he]at w;cases w;show f vs hd
 show wpAny_bind (wpAny_frameOf_fun hfr hl hf λh₁ r=>wpAny_bind (wpAny_entryPlaceOf λpl g=>?_));unfold EntryCells.newEntry newFields;show wpAny_bind (wpAny_newObj_type ?_ (g.sizeOk5 _ _ _ _ _));have i:h₁.get? e=some oe:=(r.2.1 e C).trans he;have k:base.StaysIn h₁:=λb o c=>(r.2.1 b λu=>by rw[(hl.mem u).1]at c;cases c).trans (hkb b o c);generalize B:({ cls:=.type "traceback",dict:=none,data:=.fields ([head, .ref L, .none,rawInt L, .none]++(if pl.isEmpty then List.replicate 6 Value.none else pl)).toArray }:Obj)=p;have m:=Heap.get?_push_of_some (h:=h₁) p i;show wpAny_setField m hd hsz ?_;have y:h₁.objs.size≠e:=Nat.ne_of_gt (Heap.lt_size i);have l:=Obj.data_mapFields hd (·.setIfInBounds 1 (Value.ref h₁.objs.size));have j:=Heap.get?_update_self (Obj.mapFields (·.setIfInBounds 1 (Value.ref h₁.objs.size))) m (Obj.isFreed_of_fields l);have t:=(Heap.get?_update_other (h₁.push p) (Obj.mapFields (·.setIfInBounds 1 (Value.ref h₁.objs.size))) (Ne.symm y)).trans (Heap.get?_push_size h₁ (by rw[<- B];rfl));have d:∀ b o,b≠e->h₁.get? b=some o->((h₁.push p).update e (Obj.mapFields (·.setIfInBounds 1 (Value.ref h₁.objs.size)))).get? b=some o:=λb o n c=>by
  rw[Heap.get?_update_other _ _ (Ne.symm n)];show Heap.get?_push_of_some _ c
 have v:∀ b o,s.heap.get? b=some o->(∀ vs,o.data≠.fields vs)->b≠e:=λb o c f q=>by
  rw[q,he]at c;cases c;show f vs hd
 show h _ ⟨λb o c=>d b o (λq=>by rw[q,hen]at c;cases c) (k b o c),hl.of_keeps λb o c f=>?_,?_,λb o c f=>?_⟩ ⟨_,j,JiD _ _⟩
 .let(x,z):=r.2.2 b o c;show(_,d b _ (v b o c f) z,rfl)
 .show(_,_,h₁.objs.size,p,_,j,⟨Obj.cls_mapFields _ _,by rw[Array.getElem?_setIfInBounds_ne ⋯];show h0⟩,l,by simp[hsz],k.fresh,y,t,by rw[<- B],?_);first | (simp;done) | (rcases g with rfl | ⟨_,_,_,_,_,_,_,rfl⟩ <;> simp)
 .let(x,z):=r.2.2 b o c;show(x,d b _ (v b o c f) z)
theorem noteD(hfr:A.frames=some (env::outer))(hf:env.frame=some L)(hfl:Heap.FlyingW base (env::outer) e cls a0 s.heap)(hdc:DictAt s.heap e od)
  (h:∀ h',Heap.HeldW base (env::outer) e cls a0 L h'->s.heap.UpToSlots h'->DictAt h' e od->Q () { s with heap:=h' }):wpAny M A (noteFrame (.ref e) env) Q E s:=by
 let(k,g,C,K,u,T,J,D,m,(i,y),w,v,n,l,r,d,x):=hfl;subst i;let(F,j,p):=hdc;rw[m]at j;cases j;unfold noteFrame;simp only[hf];show wpAny_bind (wpAny_field m w v ?_);rw[if_pos (show(Value.ref T != Value.none)=true from by simp)];show wpAny_bind (wpAny_field r d x ?_);rw[if_neg (show¬((Value.none == rawInt L)=true)from by simp[rawInt])];show wpAny_bind (wpAny_setField r d (Array.getElem?_eq_some_iff.mp x).1 ?_);have a:∀ b,b≠T->(s.heap.update T (Obj.mapFields (·.setIfInBounds 3 Value.none))).get? b=s.heap.get? b:=λb c=>Heap.get?_update_other _ _ (Ne.symm c);have t:∀ b o,s.heap.get? b=some o->(∀ u,o.data≠.fields u)->b≠T:=λb o c f q=>by
  rw[q,r]at c;cases c;show f D d
 show Jky hfr (C.of_keeps λb o c f=>⟨o,(a b (t b o c f)).trans c,rfl⟩) hf ((a e (Ne.symm l)).trans m)
  (λb o c=>(a b λq=>by rw[q,n]at c;cases c).trans (k b o c)) g w (Array.getElem?_eq_some_iff.mp v).1 y λh' ⟨B,G,I,z⟩ H=>?_
 show h h' ⟨B,g,G,I⟩ (λb o c f=>z b o ((a b (t b o c f)).trans c) f) (p ▸ H)
theorem JiG(hkb:base.StaysIn s.heap)(hl:s.heap.FunFrames base l)(ht:s.heap.TracedAtW base e cls a0 fl)(hdc:DictAt s.heap e od)
  (h:∀ h',base.StaysIn h'->h'.FunFrames base l->h'.TracedW base e cls a0->s.heap.UpToSlots h'->DictAt h' e od->Q () { s with heap:=h' }):wpAny M A (setFlight (.ref e) none) Q E s:=by
 let(y,p,T,B,x,u,j,v,n,i,g,r,d,z):=ht;have m:=(Array.getElem?_eq_some_iff.mp z).1;have a:∀ b,b≠T->(s.heap.update T (Obj.mapFields (·.setIfInBounds 3 ((none:Option Addr).elim Value.none λf=>rawInt f)))).get? b=s.heap.get? b:=λb c=>Heap.get?_update_other _ _ (Ne.symm c);have t:∀ b o,s.heap.get? b=some o->(∀ p,o.data≠.fields p)->b≠T:=λb o c k q=>by
  rw[q,r]at c;cases c;show k x d
 unfold setFlight;show wpAny_bind (wpAny_field u v n ?_);rw[if_pos (show(Value.ref T != Value.none)=true from by simp)];show wpAny_setField r d m (h _ (λb o c=>(a b λq=>by rw[q,i]at c;cases c).trans (hkb b o c)) (hl.of_keeps λb o c k=>⟨o,(a b (t b o c k)).trans c,rfl⟩) ?_ (λb o c k=>⟨o.slots,(a b (t b o c k)).trans c⟩) ?_)
 .show(y,p,T,_,_,(a e (Ne.symm g)).trans u,j,v,n,i,g,Heap.get?_update_self _ r (Obj.isFreed_of_fields (Obj.data_mapFields d _)),Obj.data_mapFields d _,by simp[m])
 .let(o,n,w):=hdc;show(o,(a e (Ne.symm g)).trans n,w)
theorem Jlu(hfr:A.frames=some (env::outer))(hf:env.frame=some L)(hfl:Heap.FlyingW base (env::outer) e cls a0 s.heap)(hdc:DictAt s.heap e od)
  (hQ:∀ h',Heap.FlyingW base outer e cls a0 h'->s.heap.UpToSlots h'->DictAt h' e od->Q () { s with heap:=h' }):wpAny M A (leaving env (.ref e)) Q E s:=by
 unfold leaving;show wpAny_bind (noteD hfr hf hfl hdc λc d l h=>?_);let(f,n,b,i):=d;show JiG (s:={ s with heap:=c }) f b i h λa g ⟨_,_,o⟩ m k j=>hQ a ⟨g,n,o,m⟩ (l.trans k) j
theorem Jmb(hfr:A.frames=some (env::outer))(hl:s.heap.FunFrames base (env::outer))(hf:env.frame=some L)(he:s.heap.get? e=some oe)(hkb:base.StaysIn s.heap)(hen:base.get? e=none)(hd:oe.data=.fields vs)(h1:vs[1]?=some .none)(h0:vs[0]?=some a0)
  (hQ:∀ h',Heap.FlyingW base outer e oe.cls a0 h'->s.heap.UpToSlots h'->DictAt h' e oe.dict->Q () { s with heap:=h' }):wpAny M A (leaving env (.ref e)) Q E s:=by
 unfold leaving noteFrame;simp only[hf];show wpAny_bind (wpAny_bind (wpAny_field he hd h1 ?_));rw[if_neg ⋯];show Jky hfr hl hf he hkb hen hd (Array.getElem?_eq_some_iff.mp h1).1 h0 λa ⟨i,d,g,c⟩ b=>?_;show JiG (s:={ s with heap:=a }) i d g b λj f ⟨_,_,m⟩ l k h=>hQ j ⟨f,hen,m,l⟩ (Heap.UpToSlots.trans c k) h
end
variable{h:Heap}
theorem ObjOk.is_there{w:World}{o:HO}(x:ObjOk P w H h a o):∃ ob,h.get? a=some ob:=by
 cases o with
 | lst xs=>let(_,_,_,_,e):=x;show(_,e)
 | tup xs=>let(_,_,_,p):=x;let(o,e,_):=p;show(_,e)
 | dK kvs=>let(_,_,_,_,o,_,_,e,_):=x;show(_,e)
 | dT kvs=>let(_,_,_,_,o,_,_,e,_):=x;show(_,e)
 | set S n=>
  let(o,_,_,_,e,_):=x;show(_,e)
 | ins C dx fs=>let(_,_,_,e,_):=x;show(_,e)
 | own y=>show x
 | xd fs=>let(c,n,_):=x;let(b,e,_):=Jgc n;show(_,e)
 | rng lo hi=>let(_,_,_,e):=x;show(_,e)
 | frz ob u=>show(_,x.1)
 | tbl ps=>show(_,x)
 | met f y=>show(_,x)
 | ext φ=>show x.2.1
theorem HOk.isnone{w:World}(x:HOk P w H h)(e:h.get? a=none):H a=none:=by
 cases q:H a with
 | none=>rfl
 | some u=>
  let(b,z):=(x a u q).is_there;rw[e]at z;cases z
structure Fly(l:List Env)(H':Hp)(h0:Heap)(ea:Addr)(od:Option Addr)(cls a0:Value)(B h:Heap):Prop where
 fly:Heap.FlyingW B l ea cls a0 h
 free:H' ea=none
 new:h0.get? ea=none
 dct:DictAt h ea od
 kept:∀ b o,h.get? b=some o->((∃ o',h0.get? b=some o')\/∃ u,H' b=some u)->b∉frs l->B.get? b=some o
def CX1(P:Program)(w:World):CXT:=λouter H s E e s'=>
 ∃(ea:Addr)(od:Option Addr)(cls a0:Value)(B:Heap)(H':Hp),e=.ref ea/\s'.os=s.os/\AllBare s'.gens/\Un (frs outer) [] H H' s.heap s'.heap/\HOk P w H' s'.heap /\
  Fly outer H' s.heap ea od cls a0 B s'.heap/\E cls od H'
section
variable{l l':List Env}{h0 h' B:Heap}{ea:Addr}{od:Option Addr}{cls a0:Value}{w:World}
theorem Fly.next(u:Un (frs l) [] H H' h0 h)(hok:HOk P w H' h)(F:Fly l H' h0 ea od cls a0 B h)(fr:∀ b∈frs l,H' b=none)(k:B.StaysIn h')(sl:h.UpToSlots h') :
  HOk P w H' h'/\Un (frs l) [] H H' h0 h'/\∀ b o,h.get? b=some o->((∃ o',h0.get? b=some o')\/∃ u,H' b=some u)->b∉frs l->h'.get? b=some o:=by
 have c:∀ b o,h.get? b=some o->((∃ o',h0.get? b=some o')\/∃ u,H' b=some u)->b∉frs l->h'.get? b=some o:=λb o q r n=>k b o (F.kept b o q r n);have d:∀ b o,b∈frs l->h.get? b=some o->∃ f,h'.get? b=some { o with slots:=f }:=λb o m q=>by
  let(_,o',t,x):=F.fly.2.2.1.mem m;rw[q]at t;cases t;show sl b o q x
 show(λa o e=>?_,⟨λb o q n p _=>?_,λb o q n m _=>?_,u.free,λb o q z=>?_,u.tups,u.frzs,u.tbls⟩,c)
 .have s:∀ b u,H' b=some u->b∉frs l:=λb u q m=>by
   rw[fr b m]at q;cases q
  show(hok a o e).stay (λb v i q=>?_) (λ_ r=>r) (λ_ _ r=>r);rcases i with rfl | i
  .show c _ _ q (.inr ⟨_,e⟩) (s _ _ e)
  .show c _ _ q (.inr ⟨_,i⟩) (s _ _ i)
 .show c b o (u.keep b o q n p (by simp)) (.inl ⟨o,q⟩) p
 .let(y,g):=u.slot b o q n m (by simp);let(f,j):=d b _ m g;show(f,j)
 .let(o',g):=u.there b o q (by simp);by_cases m:b∈frs l
  .let(f,j):=d b _ m g;show(_,j)
  .show(o',c b o' g (.inl ⟨o,q⟩) m)
end
section
variable{h' B:Heap}{ea:Addr}{od:Option Addr}{cls a0:Value}{s:Shared}
theorem Inv.out(I:Inv X pins σ H s)(hex:X.ex=[])(u:Un (frs X.stack) [] H H' s.heap h'):Un X.fs [] X.H₀ H' X.s₀.heap h':=by
 have J:=I.base;rw[hex]at J;have i:∀ b o,X.s₀.heap.get? b=some o->b≠X.env.locals:=λb o q z=>by
  have g:=Heap.lt_size q;have l:=I.ok.above;rw[z]at g;show absurd (Nat.lt_of_lt_of_le g l) (Nat.lt_irrefl _)
 have r:∀ b o,X.s₀.heap.get? b=some o->b∉X.fs->b∉frs X.stack:=λb o q c m=>by
  rcases mem_cons.mp (I.stkSub b m)with z | z
  .show i b o q z
  .show c z
 show(λb o q n c _=>?_,λb o q n m _=>?_,λb o q n _=>?_,λb o q _=>?_,λb f q=>u.tups b f (J.tups b f q),λb o v q=>u.frzs b o v (J.frzs b o v q),λb j q=>?_)
 .show u.keep b o (J.keep b o q n c (by simp)) (J.free b o q n (by simp)) (r b o q c) (by simp)
 .let(t,a):=J.slot b o q n m (by simp);let(h,e):=u.any a (J.free b o q n (by simp)) (by simp);show(h,e)
 .let(d,a):=J.there b o q (by simp);show u.free b d a (J.free b o q n (by simp)) (by simp)
 .let(d,a):=J.there b o q (by simp);show u.there b d a (by simp)
 .let(p,a):=J.tbls b j q;let(k,e):=u.tbls b _ a;show(p++k,by rw[e,Array.append_assoc])
theorem Inv.stkFree'(I:Inv X pins σ H s)(u:Un (frs X.stack) [] H H' s.heap h):∀ b∈frs X.stack,H' b=none:=λb m=>by
 let(_,o,q,_):=I.stack.mem m;show u.free b o q (I.stkFree b m) (by simp)
end
section
variable{mg:Str->Option Value}{base:Heap}{N:List Str}{qual:Str}{scope:Scope}{cdv:Value}{outer:List Env}{s0:Shared}{H0:Hp}{E:XK}{w:World}{K:W.Frag}{f:Addr}
theorem pass1:JcM (CX1 P w) (cxOf (CX1 P w) P w K mg base N qual scope f cdv A outer s0 H0 E) E:=by
 intro x σ H s e D I V;let(i,T,cls,a0,B,C,rfl,t,R,u,j,F,U):=V;have G:=I.stkFree' u;show wpAny (model P w) (A.deeper (envOfC qual scope s0.heap.objs.size f cdv)) (leaving (envOfC qual scope s0.heap.objs.size f cdv) (.ref i)) (λ_ h=>CX1 P w outer H0 s0 E (.ref i) h) (λL h=>CX1 P w outer H0 s0 E L h) D;show Jlu (base:=B) (cls:=cls) (a0:=a0) I.ok.frames rfl F.fly F.dct λY g p n=>?_;let(k,W,Z):=F.next u j G g.1 p;have l:s0.heap.get? i=none:=by
  cases q:s0.heap.get? i with
  | none=>rfl
  | some o=>
   let(a,Q):=I.base.there i o q (by intro z;cases z);have:=F.new;rw[Q]at this;cases this
 show(i,T,cls,a0,B,C,rfl,t.trans I.os,R,I.out rfl W,k,⟨g,F.free,l,n,λb o q r O=>?_⟩,U);have M:b≠s0.heap.objs.size:=λz=>by
  rcases r with⟨a,c⟩ | ⟨v,c⟩
  .have:=Heap.lt_size c;rw[z]at this;show absurd this (Nat.lt_irrefl _)
  .have S:=G s0.heap.objs.size (by
    show s0.heap.objs.size∈frs (envOfC qual scope s0.heap.objs.size f cdv::outer);show List.mem_filterMap.mpr ⟨_,mem_cons_self ..,rfl⟩)
   rw[z,S]at c;cases c
 have X:b∉frs (envOfC qual scope s0.heap.objs.size f cdv::outer):=λm=>by
  rcases mem_cons.mp (I.stkSub b m)with z | z
  .show M z
  .show O z
 have y:(∃ a,s.heap.get? b=some a)\/∃ v,C b=some v:=by
  rcases r with⟨a,c⟩ | r
  .show .inl (I.base.there b a c (by intro z;cases z))
  .show .inr r
 have d:∃ a,D.heap.get? b=some a:=by
  rcases y with⟨a,c⟩ | ⟨v,c⟩
  .show u.there b a c (by simp)
  .show(j b v c).is_there
 let(a,c):=d;have z:=F.kept b a c y X;have J:=g.1 b a z;rw[show Y.get? b=some o from q]at J;cases J;show z
end
theorem passF{w:World}:JcM (CX1 P w) X E0:=λ_ _ _ _ _ _ _ h=>by
 let(_,_,_,_,_,_,_,_,_,_,_,_,z):=h;show False.elim z
variable{C:Addr}{bmB:List Value}{newId:String}
theorem Jll{K:W.Frag}(X:K.In h)(q:W.excIn K C bmB newId=true) :
  ∃(bm:List Value)(N:Addr)(nm qn:Str)(bs:List Value)(hdct:Bool)(sn:List Str)(sub:List Value)(ab:Bool)(col:Option Bool)(dd:Option Addr)(k0 k1 k2 k3 k5:Option Value)(mN:Str->Option Value),
   h.get? C=some (excClassObj nm qn C N bs bm hdct sn sub ab col dd k0 k1 k2 k3 k5 newId)/\h.Ns N mN/\mN "__init__"=none/\OwnTail h bmB bm:=by
 unfold W.excIn at q;split at q
 next dd cd sl ho=>
  split at q
  next C' bm k0 k1 k2 k3 n k5 hm hs=>
   have m:((((C'=C/\n=newId)/\cd.hasDel=false)/\W.tailIn K bmB bm=true)/\W.nsOkIn K cd.ns=true)/\W.nsIn K cd.ns "__init__"=some none:=by simpa using q
   obtain⟨⟨⟨⟨⟨i,j⟩,o⟩,f⟩,e⟩,l⟩:=m;let(nm,bs,b,g,qn,p,sn,sub,ab,col,a):=cd;have k:sl=#[k0,k1,k2,k3,some (.builtin n),k5]:=by
    cases sl;show congrArg Array.mk hs
   subst i;subst j;subst k;have c:b=.ref C'::bm:=hm;subst c;have d:a=false:=o;subst d;show(bm,g,nm,qn,bs,p,sn,sub,ab,col,dd,k0,k1,k2,k3,k5,_,X _ _ ho, .of_isNs (W.isNs_of_in X e),W.nsMap_none_of_in X e l,W.tail_of_in X f)
  next=>cases q
 next=>cases q
section
variable{mg:Str->Option Value}{base:Heap}{N:List Str}{qual:Str}{scope:Scope}{cdv:Value}{outer:List Env}{s0:Shared}{H0:Hp}{E:XK}{w:World}{K:W.Frag}{f:Addr}{h':Heap}{cls:Value}
theorem Jml{s:Shared}{e:Addr}{us:List Value}
  (I:Inv (cxOf (CX1 P w) P w K mg base N qual scope f cdv A outer s0 H0 E) pins σ H s) (hm:Heap.MadeExcOf s.heap h' e cls us) (q:E cls none H) :
  (cxOf (CX1 P w) P w K mg base N qual scope f cdv A outer s0 H0 E).xe (.ref e) { s with heap:=h' }:=by
 show wpAny (model P w) (A.deeper (envOfC qual scope s0.heap.objs.size f cdv)) (leaving (envOfC qual scope s0.heap.objs.size f cdv) (.ref e)) (λ_ k=>CX1 P w outer H0 s0 E (.ref e) k) (λS k=>CX1 P w outer H0 s0 E S k) { s with heap:=h' };have Y:=I.stkFree;have F:∀ h∈(envOfC qual scope s0.heap.objs.size f cdv::outer), ∀ b,h.frame=some b->b∈frs (envOfC qual scope s0.heap.objs.size f cdv::outer):=λh M b i=>List.mem_filterMap.mpr ⟨h,M,i⟩;let(t,M,_,_):=hm.there;show Jmb (s:={ s with heap:=h' }) (base:=W.hideAll s.heap (frs (envOfC qual scope s0.heap.objs.size f cdv::outer))) I.ok.frames ((W.funFrames_hide I.stack F).of_keeps λb o i hn=>⟨o,hm.keeps b o i,rfl⟩) rfl M (λb o z=>hm.keeps b o (W.of_hideAll _ z)) ?_ rfl rfl rfl λC B l G=>?_
 .cases z:(W.hideAll s.heap (frs (envOfC qual scope s0.heap.objs.size f cdv::outer))).get? e with
  | none=>rfl
  | some o=>
   have O:=W.of_hideAll _ z;rw[hm.new]at O;cases O
 have j:H e=none:=I.hok.isnone hm.new;have c:∀ b o,s.heap.get? b=some o->b∉frs (envOfC qual scope s0.heap.objs.size f cdv::outer)->C.get? b=some o:=λb o z n=>B.1 b o (W.hideAll_get _ z n);have u:Un (frs (envOfC qual scope s0.heap.objs.size f cdv::outer)) [] H H s.heap C:=by
  show(λb o z _ n _=>c b o z n,λb o z _ m _=>?_,λ_ _ _ n _=>n,λb o z _=>?_,λ_ _ z=>z,λ_ _ _ z=>z,λ_ ps z=>⟨#[],by rw[z];simp⟩)
  .let(_,g,d,J):=I.stack.mem m;rw[z]at d;cases d;show l b o (hm.keeps b o z) J
  .by_cases m:b∈frs (envOfC qual scope s0.heap.objs.size f cdv::outer)
   .let(_,g,d,J):=I.stack.mem m;rw[z]at d;cases d;let(Z,V):=l b o (hm.keeps b o z) J;show(_,V)
   .show(o,c b o z m)
 have L:∀ b v,H b=some v->b∉frs (envOfC qual scope s0.heap.objs.size f cdv::outer):=λb v z m=>by
  rw[Y b m]at z;cases z
 have D:HOk P w H C:=λa o z=>by
  show(I.hok a o z).stay (λb v i p=>?_) (λ_ r=>r) (λ_ _ r=>r);rcases i with rfl | i
  .show c _ _ p (L _ _ z)
  .show c _ _ p (L _ _ i)
 have x:s0.heap.get? e=none:=by
  cases z:s0.heap.get? e with
  | none=>rfl
  | some o=>
   let(g,U):=I.base.there e o z (by intro z;cases z);have:=hm.new;rw[U]at this;cases this
 show(e,none,cls, .ref t,_,H,rfl,I.os,I.bare,I.out rfl u,D,⟨B,j,x,G,λb o z r T=>?_⟩,q);have X:∃ g,s.heap.get? b=some g:=by
  rcases r with⟨g,d⟩ | ⟨v,d⟩
  .show I.base.there b g d (by intro z;cases z)
  .show(I.hok b v d).is_there
 have R:b∉frs (envOfC qual scope s0.heap.objs.size f cdv::outer):=λm=>by
  rcases mem_cons.mp (I.stkSub b m)with y | y
  .rcases r with⟨g,d⟩ | ⟨v,d⟩
   .have Q:=Heap.lt_size d;rw[y]at Q;show absurd Q (Nat.lt_irrefl _)
   .show L b v d m
  .show T y
 let(g,d):=X;have p:=c b g d R;rw[show C.get? b=some o from z]at p;cases p;show W.hideAll_get _ d R
def JkY(E:XK)(C:Addr)(ta:TA):TS:=λ_ σ H=>ta σ H λvs H1=>vs.length<=sizeLine/\E (.ref C) none H1
variable{x:Str}{np:Pos}{e:Expr}{es:List Expr}
theorem JhL{cpos:Pos}{B initId:String}{ta:TA}(FB:ExcBaseFacts B newId initId bmB)(hx:W.excIn K C bmB newId=true)
  (hg:Gl (cxOf (CX1 P w) P w K mg base N qual scope f cdv A outer s0 H0 E) x) (hm:mg x=some (.ref C)) (ha:PA (cxOf (CX1 P w) P w K mg base N qual scope f cdv A outer s0 H0 E) (e::es) ta)
  (he:autoParam (starEach (e::es) (envOfC qual scope s0.heap.objs.size f cdv)=(false,eval e (envOfC qual scope s0.heap.objs.size f cdv))::starEach es (envOfC qual scope s0.heap.objs.size f cdv)) Au)
  (hpl:autoParam ((backTo cpos (starEach es (envOfC qual scope s0.heap.objs.size f cdv))).any (·.1)=false) Au) (hdb:autoParam ((x == ("__debug__" : Str))=false) Au) :
  PS (cxOf (CX1 P w) P w K mg base N qual scope f cdv A outer s0 H0 E) (.Raise (some (.Call (.Name x np) (e::es) [] cpos)) none pos) (JkY E C ta):=by
 intro a s σ H D I h;let(bm,l,nm,d,bs,hdct,sn,sub,ab,col,dd,k0,k1,k2,k3,k5,mN,m,j,b,T):=Jll I.mod.kin hx;have g:(A.deeper (envOfC qual scope s0.heap.objs.size f cdv)).handled=none:=I.ok.hd rfl;show wpAny_Raise_call_subT (C:=C) (nm:=nm) (q:=d) (N:=l) (bs:=bs) (bm:=bm) (hdct:=hdct) (sn:=sn) (sub:=sub) (ab:=ab) (col:=col) (dd:=dd) (k0:=k0) (k1:=k1) (k2:=k2) (k3:=k3) (k5:=k5)
  FB (mN:=mN) (T.hasType FB.hasBase) g ?_ b (Jei I hg hm ⟨rfl,?_⟩ hdb)
 .show(backTo cpos (starEach (e::es) (envOfC qual scope s0.heap.objs.size f cdv))).any (·.1)=false;rw[he];show(false||(backTo cpos (starEach es (envOfC qual scope s0.heap.objs.size f cdv))).any (·.1))=false;rw[hpl];rfl
 .have z:=ha cpos a s σ H _ I h;show wpAny _ _ (evalArgs (.ref C) true (backTo cpos (starEach (e::es) (envOfC qual scope s0.heap.objs.size f cdv))) []) _ _ _;have k:=he;rw[he];show Calls.evalArgs_plain ?_;have c:wpAny (model P w) (A.deeper (envOfC qual scope s0.heap.objs.size f cdv)) (spliced (backTo cpos (starEach (e::es) (envOfC qual scope s0.heap.objs.size f cdv)))) _ _ s:=z;rw[he]at c;show thn c λp n ζ=>?_;let(o,t,I1,r,i,q):=ζ;show(rfl,by rw[<- r.length];show i,I1.bk _ _ m,j.keeps I1.bk,T.keeps I1.bk,λu e hm=>Jml I1 hm q)
end
def xCall(sp:Sp)(dvs:List V)(t:TA):St->Hp->VK->XK->Prop:=λσ H Q E=>t σ H λvs H1=>sp (vs++dvs) H1 Q E
section
variable{fd:FuncData}{ps:List Str}{sp:Sp}{dvs:List V}{ds:List Value}{E:XK}{x:Str}{p apos:Pos}{e o:Expr}{es:List Expr}{ta:TE}{k:Nat}{f:Addr}{m:Str}{t:TA}
end
section
variable{s':Shared}{h' B:Heap}{ea:Addr}{od:Option Addr}{cls a0:Value}{s:Shared}
theorem Inv.track{o:HO}(I:Inv X pins σ H s)(hn:H a=none)(h1:X.s₀.heap.get? a=none)(h2:a≠X.env.locals)(h3:∀ x c,X.env.cells.lookup x=some c->c≠a)(h4:∀ p∈X.pn++pins,p.1≠a)
  (ok:ObjOk X.prog X.w (upd H a o) s.heap a o):Inv X pins σ (upd H a o) s:=by
 have d:∀ b u,H b=some u->b≠a:=λb u q=>Jah q hn;show(I.ok,I.os,I.bare,⟨I.base.keep,I.base.slot,λb f q n l=>?_,I.base.there,λb g q=>?_,λb f u q=>?_,λb j q=>?_⟩,I.loc,I.cell,?_,λx c e=>?_,λp i=>?_,λb u q=>?_,I.len)
 .have : b≠a:=λz=>by rw[z,h1]at q;cases q
  rw[Jai this];show I.base.free b f q n l
 .have z:=I.base.tups b g q;rw[Jai (d _ _ z)];show z
 .have z:=I.base.frzs b f u q;rw[Jai (d _ _ z)];show z
 .let(k,z):=I.base.tbls b j q;show(k,by rw[Jai (d _ _ z)];show z)
 .rw[Jai (Ne.symm h2)];show I.free
 .rw[Jai (h3 x c e)];show I.freeC x c e
 .let(e,n,r):=I.pin p i;show(e,by rw[Jai (h4 p i)];show n,r)
 .by_cases h:b=a
  .subst h;rw[Jam]at q;cases q;show ok
  .rw[Jai h]at q;show(I.hok b u q).stay (λ_ _ _ z=>z) (λc z=>by rw[Jai (d _ _ z)];show z) (λc g z=>by rw[Jai (d _ _ z)];show z)
def ExcO(e C:Addr)(od:Option Addr:=none):HO:=.ext λh=>∃ ox vs,h.get? e=some ox/\ox.cls=.ref C/\ox.data=.fields vs/\ox.dict=od
end
structure Jik(K:W.Frag)(C D:Addr):Prop where
 cl:W.hasDictIn K D=true
 ty:W.typeIn K (.ref D)=some (.type "type")
 ex:W.mroIn K D (.type "BaseException")=some true
 ab:W.mroIn K C (.ref D)=some true
section
variable{ce:Expr}{epos hpos np:Pos}{x n:Str}{b0:Stmt}{suite:List Stmt}{ts:TS}{D:Addr}{t:St->Hp->VK->XK->Prop}
def JmK(K:W.Frag)(D:Addr)(i:Nat)(t:St->Hp->VK->XK->Prop)(ts:TS):TS:=λDn σ H=>t σ H (λ_ H1=>Dn.nx σ H1) λcls od H1=>∃ C,cls=.ref C/\Jik K C D /\
 ∀ ea,H1 ea=none->ts { nx:=λσ' H'=>Dn.nx (σ'.set i none) H',rt:=Dn.rt,bk:=λσ' H'=>Dn.bk (σ'.set i none) H',ct:=λσ' H'=>Dn.ct (σ'.set i none) H' } (σ.set i (some (.ref ea))) (upd H1 ea (ExcO ea C od))
end
inductive D where
 | non | bl (b:Bool) | int (i:Int) | str (x:Str) | tup (xs:List D) | lst (xs:List D)
mutual
def Rep(K:W.Frag)(H:Hp):D->V->Prop
 | .non,v=>v=.non
 | .bl b,v=>v=.bl b
 | .int i,v=>v=.int i
 | .str x,v=>v=.str x
 | .tup ds,v=>∃ a xs,v=.ref a/\SqT K H a xs/\RepL K H ds xs
 | .lst ds,v=>∃ a xs,v=.ref a/\SqL K H a xs/\RepL K H ds xs
def RepL(K:W.Frag)(H:Hp):List D->List V->Prop
 | [],vs=>vs=[]
 | d::ds,vs=>∃ v r,vs=v::r/\Rep K H d v/\RepL K H ds r
end
mutual
def eqD:D->D->Bool
 | .non, .non=>true
 | .bl a, .bl b=>a == b
 | .int a, .int b=>a == b
 | .bl a, .int b=>(if a then 1 else 0) == b
 | .int a, .bl b=>a == (if b then 1 else 0)
 | .str a, .str b=>a == b
 | .tup xs, .tup ys=>eqL xs ys
 | .lst xs, .lst ys=>eqL xs ys
 | _,_=>false
def eqL:List D->List D->Bool
 | [],[]=>true
 | x::xs,y::ys=>eqD x y&&eqL xs ys
 | _,_=>false
end
mutual
def depD:D->Nat
 | .tup xs=>depL xs+1
 | .lst xs=>depL xs+1
 | _=>0
def depL:List D->Nat
 | []=>0
 | x::xs=>max (depD x) (depL xs)
end
theorem Je7:∀{xs ys:List D},eqL xs ys=true->xs.length=ys.length
 | [],[],_=>rfl
 | [],_::_,h=>by simp[eqL]at h
 | _::_,[],h=>by simp[eqL]at h
 | x::xs,y::ys,h=>by
  simp only[eqL,Bool.and_eq_true]at h;simp only[length_cons,Je7 h.2]
mutual
theorem Jfm:∀ d:D,eqD d d=true
 | .non=>by simp[eqD]
 | .bl b=>by simp[eqD]
 | .int i=>by simp[eqD]
 | .str x=>by simp[eqD]
 | .tup xs=>by simp only[eqD];show Jfn xs
 | .lst xs=>by simp only[eqD];show Jfn xs
theorem Jfn:∀ d:List D,eqL d d=true
 | []=>by simp[eqL]
 | x::xs=>by simp only[eqL,Bool.and_eq_true];show(Jfm x,Jfn xs)
end
theorem RepL.length{K:W.Frag}:∀{ds:List D}{vs:List V},RepL K H ds vs->ds.length=vs.length
 | [],vs,h=>by
  simp only[RepL]at h;rw[h];rfl
 | d::ds,vs,h=>by
  simp only[RepL]at h;let(v,r,rfl,_,h2):=h;simp only[length_cons,RepL.length h2]
theorem RepL.get{K:W.Frag}:∀{ds:List D}{vs:List V}{i:Nat}{d:D},RepL K H ds vs->ds[i]?=some d->∃ v,vs[i]?=some v/\Rep K H d v
 | [],_,_,_,_,e=>by simp at e
 | d::ds,vs,i,d',h,e=>by
  simp only[RepL]at h;let(v,r,rfl,h1,h2):=h;cases i with
  | zero=>simp at e;subst e;show(v,rfl,h1)
  | succ i=>
   let(v',e',h'):=RepL.get h2 (by simpa using e);show(v',by simpa using e',h')
variable{xs:List V}
theorem SqL.same{K:W.Frag}(e:Same H H')(h:SqL K H a xs):SqL K H' a xs:=e.seq h
theorem SqT.same{K:W.Frag}(e:Same H H')(h:SqT K H a xs):SqT K H' a xs:=by
 rcases h with(h | ⟨o,h⟩) | h
 .show .inl (.inl (e _ _ h))
 .show .inl (.inr ⟨o,e _ _ h⟩)
 .show .inr h
mutual
theorem Rep.same{K:W.Frag}(e:Same H H'):∀{d:D}{v:V},Rep K H d v->Rep K H' d v
 | .non,_,h=>by simpa only[Rep]using h
 | .bl _,_,h=>by simpa only[Rep]using h
 | .int _,_,h=>by simpa only[Rep]using h
 | .str _,_,h=>by simpa only[Rep]using h
 | .tup ds,_,h=>by
  simp only[Rep]at h ⊢;let(a,xs,h1,h2,h3):=h;show(a,xs,h1,h2.same e,RepL.same e h3)
 | .lst ds,_,h=>by
  simp only[Rep]at h ⊢;let(a,xs,h1,h2,h3):=h;show(a,xs,h1,h2.same e,RepL.same e h3)
theorem RepL.same{K:W.Frag}(e:Same H H'):∀{d:List D}{v:List V},RepL K H d v->RepL K H' d v
 | [],_,h=>by simpa only[RepL]using h
 | x::xs,_,h=>by
  simp only[RepL]at h ⊢;let(v,r,h1,h2,h3):=h;show(v,r,h1,Rep.same e h2,RepL.same e h3)
end
section
variable{s:Shared}
theorem Inv.list_tuple(I:Inv X pins σ H s){a:Addr}{xs ys:List V}(h:SqL X.K H a xs)(h':SqT X.K H a ys):False:=by
 let(_,_,p,_):=I.list h;let(_,_,q,_):=I.tuple h';let(o,_,d,e,_):=p;let(f,c,b,_):=q;rw[d]at c;cases c;rw[e]at b;show absurd b ⋯
mutual
theorem Inv.rep_inj(I:Inv X pins σ H s):∀{d e:D}{v:V},Rep X.K H d v->Rep X.K H e v->d=e
 | .non,e,v,h,h'=>by
  simp only[Rep]at h;subst h;cases e <;> simp[Rep]at h' ⊢
 | .bl _,e,v,h,h'=>by
  simp only[Rep]at h;subst h;cases e <;> simp[Rep]at h' ⊢
  show h'
 | .int _,e,v,h,h'=>by
  simp only[Rep]at h;subst h;cases e <;> simp[Rep]at h' ⊢
  show h'
 | .str _,e,v,h,h'=>by
  simp only[Rep]at h;subst h;cases e <;> simp[Rep]at h' ⊢
  show h'
 | .tup ds,e,v,h,h'=>by
  simp only[Rep]at h;let(a,xs,rfl,h2,h3):=h;cases e with
  | tup es=>
   simp only[Rep]at h';let(a',ys,q,g2,g3):=h';cases q;have:=I.tuple_inj h2 g2;subst this;rw[Inv.repL_inj I h3 g3]
  | lst es=>
   simp only[Rep]at h';let(a',ys,q,g2,g3):=h';cases q;show(I.list_tuple g2 h2).elim
  | _=>simp[Rep]at h'
 | .lst ds,e,v,h,h'=>by
  simp only[Rep]at h;let(a,xs,rfl,h2,h3):=h;cases e with
  | lst es=>
   simp only[Rep]at h';let(a',ys,q,g2,g3):=h';cases q;have:=I.list_inj h2 g2;subst this;rw[Inv.repL_inj I h3 g3]
  | tup es=>
   simp only[Rep]at h';let(a',ys,q,g2,g3):=h';cases q;show(I.list_tuple h2 g2).elim
  | _=>simp[Rep]at h'
theorem Inv.repL_inj(I:Inv X pins σ H s):∀{d e:List D}{v:List V},RepL X.K H d v->RepL X.K H e v->d=e
 | [],e,v,h,h'=>by
  simp only[RepL]at h;subst h;cases e <;> simp[RepL]at h' ⊢
 | x::xs,e,v,h,h'=>by
  simp only[RepL]at h;let(u,r,rfl,h1,h2):=h;cases e with
  | nil=>simp[RepL]at h'
  | cons y ys=>
   simp only[RepL]at h';let(u',r',q,g1,g2):=h';cases q;rw[Inv.rep_inj I h1 g1,Inv.repL_inj I h2 g2]
end
end
variable{α β:Type}
def Jc0(f : α->β->Bool):List α->List β->Bool
 | [],[]=>true
 | x::xs,y::ys=>f x y&&Jc0 f xs ys
 | _,_=>false
def atB(f : α->β->Bool)(xs:List α)(ys:List β)(j:Nat):Bool:=match xs[j]?,ys[j]? with
 | some x,some y=>f x y
 | _,_=>true
theorem Jc1(f : α->β->Bool):∀(xs:List α)(ys:List β),
  ((List.range (min xs.length ys.length)).all (atB f xs ys)&&(xs.length == ys.length))=Jc0 f xs ys
 | [],[]=>by simp[Jc0]
 | [],_::_=>by simp[Jc0]
 | _::_,[]=>by simp[Jc0]
 | x::xs,y::ys=>by
  have ih:=Jc1 f xs ys;simp only[Jc0,length_cons];rw[<- ih,Nat.succ_min_succ,List.range_succ_eq_map,List.all_cons,List.all_map];have e:((List.range (min xs.length ys.length)).all (atB f (x::xs) (y::ys) ∘ Nat.succ))=(List.range (min xs.length ys.length)).all (atB f xs ys):=by
   congr 1
  rw[e];have e0:atB f (x::xs) (y::ys) 0=f x y:=by unfold atB;simp
  rw[e0,Bool.and_assoc]
  congr 2
  simp
theorem JgK:∀ xs ys:List D,eqL xs ys=Jc0 eqD xs ys
 | [],[]=>by simp[eqL,Jc0]
 | [],_::_=>by simp[eqL,Jc0]
 | _::_,[]=>by simp[eqL,Jc0]
 | x::xs,y::ys=>by simp only[eqL,Jc0,JgK xs ys]
theorem Jhs:∀{ds:List D}{d:D},d∈ds->depD d<=depL ds
 | [],_,h=>by simp at h
 | x::xs,d,h=>by
  simp only[depL];rcases mem_cons.mp h with rfl | h
  .show Nat.le_max_left ..
  .show Nat.le_trans (Jhs h) (Nat.le_max_right ..)
def flatD:D->Bool
 | .tup _=>false
 | .lst _=>false
 | _=>true
def valD:D->V
 | .bl b=>.bl b
 | .int i=>.int i
 | .str x=>.str x
 | _=>.non
variable{d:D}
theorem JfH{K:W.Frag}(f:flatD d=true)(h:Rep K H d v):v=valD d:=by
 cases d <;> simp_all [flatD,Rep,valD]
theorem Jhw(f:flatD d=true):flatV (valD d)=true:=by
 cases d <;> simp_all [flatD,valD,flatV]
theorem Jlk{e:D}(f:flatD d=true)(g:flatD e=true):eqV (valD d) (valD e)=eqD d e:=by
 cases d <;> cases e <;> simp_all [flatD,valD,eqV,eqD]
section
variable{s:Shared}
theorem in1_units(A:Around):A.in1.units=A.units+1:=rfl
def EqP(X:Cx)(H:Hp)(s:Shared)(n:Nat):Prop:=∀(d e:D)(A:Around)(x y:V)(u v:Value),depD d<=n->Rep X.K H d x->Rep X.K H e y->RelV x u->RelV y v->A.units+n<cLine->SeqAt.EqAt A s u v (eqD d e)
variable{n:Nat}
theorem Jhz(ih:EqP X H s n){ds es:List D}{xs ys:List V}{its jts:List Value}(h3:RepL X.K H ds xs)(g3:RepL X.K H es ys)(vi:Vals xs its)(vj:Vals ys jts)(hds:depL ds<=n){A:Around}(hA:A.units+n<cLine) :
  ∀ j (p1:j<its.toArray.size) (p2:j<jts.toArray.size),SeqAt.EqAt A s its.toArray[j] jts.toArray[j] (atB eqD ds es j):=by
 intro j p1 p2;have h:its.length=ds.length:=by rw[h3.length,vi.length]
 have m:jts.length=es.length:=by rw[g3.length,vj.length]
 have a:j<ds.length:=by rw[<- h];simpa using p1
 have b:j<es.length:=by rw[<- m];simpa using p2
 let(v,g,o):=h3.get (List.getElem?_eq_getElem a);let(u,k,f):=g3.get (List.getElem?_eq_getElem b);let(r,l,i):=vi.get g;let(t,e,d):=vj.get k;have c:its.toArray[j]=r:=by
  have:=l;rw[List.getElem?_eq_getElem (by simpa using p1)]at this;simpa using this
 have p:jts.toArray[j]=t:=by
  have:=e;rw[List.getElem?_eq_getElem (by simpa using p2)]at this;simpa using this
 rw[c,p];have q:atB eqD ds es j=eqD ds[j] es[j]:=by
  unfold atB;rw[List.getElem?_eq_getElem a,List.getElem?_eq_getElem b]
 rw[q];show ih _ _ _ _ _ _ _ (Nat.le_trans (Jhs (List.getElem_mem a)) hds) o f i d hA
theorem JmN(I:Inv X pins σ H s){n:Nat}(ih:EqP X H s n){ds es:List D}{a b:Addr}{xs ys:List V}(h2:SqT X.K H a xs)(h3:RepL X.K H ds xs)(g2:SqT X.K H b ys)(g3:RepL X.K H es ys)(hds:depL ds<=n){A:Around}(hA:A.units+(n+1)<cLine) :
  SeqAt.RcAt A s (.ref a) (.ref b) (eqD (.tup ds) (.tup es))/\SeqAt.RcNeAt A s (.ref a) (.ref b) (!eqD (.tup ds) (.tup es)):=by
 let(d,g,f,_):=I.tuple h2;let(c,h,e,_):=I.tuple g2;have l:d.length=ds.length:=by rw[h3.length,g.length]
 have j:c.length=es.length:=by rw[g3.length,h.length]
 have i:=Jhz ih h3 g3 g h hds (A:=A.in1) (by rw[in1_units];ac_nf);have k:eqD (.tup ds) (.tup es)=((List.range (min d.toArray.size c.toArray.size)).all (atB eqD ds es)&&d.toArray.size == c.toArray.size):=by
  simp only[eqD,JgK];rw[<- Jc1];simp only[size_toArray,l,j]
 rw[k];show(SeqAt.RcAt.tuples f e ∅ i,SeqAt.RcNeAt.tuples f e ∅ i)
theorem Jmm(I:Inv X pins σ H s){n:Nat}(ih:EqP X H s n){ds es:List D}{a b:Addr}{xs ys:List V}(h2:SqL X.K H a xs)(h3:RepL X.K H ds xs)(g2:SqL X.K H b ys)(g3:RepL X.K H es ys)(hds:depL ds<=n){A:Around}(hA:A.units+(n+1)<cLine) :
  SeqAt.RcAt A s (.ref a) (.ref b) (eqD (.lst ds) (.lst es))/\SeqAt.RcNeAt A s (.ref a) (.ref b) (!eqD (.lst ds) (.lst es)):=by
 let(d,k,h,_):=I.list h2;let(i,l,f,_):=I.list g2;have e:d.length=ds.length:=by rw[h3.length,k.length]
 have g:i.length=es.length:=by rw[g3.length,l.length]
 have m:=Jhz ih h3 g3 k l hds (A:=A.in1) (by rw[in1_units];ac_nf);by_cases c:ds.length=es.length
 .have j:eqD (.lst ds) (.lst es)=(List.range d.toArray.size).all (atB eqD ds es):=by
   simp only[eqD,JgK];rw[<- Jc1];simp[e,c]
  rw[j];show(SeqAt.RcAt.lists h.isList f.isList (by simp[e,g,c]) ∅ m,SeqAt.RcNeAt.lists h.isList f.isList (by simp[e,g,c]) ∅ m)
 .have j:eqD (.lst ds) (.lst es)=false:=by
   cases q:eqD (.lst ds) (.lst es)with
   | false=>rfl
   | true=>simp only[eqD]at q;show absurd (Je7 q) c
  rw[j];show(SeqAt.RcAt.lists_lengths h.isList f.isList (by simp[e,g,c]) ∅,SeqAt.RcNeAt.lists_lengths h.isList f.isList (by simp[e,g,c]) ∅)
theorem Jdd{K:W.Frag}{x:V}(h:Rep K H d x):(flatD d=true/\x=valD d)\/(∃ ds a xs,d=.tup ds/\x=.ref a/\SqT K H a xs/\RepL K H ds xs)\/∃ ds a xs,d=.lst ds/\x=.ref a/\SqL K H a xs/\RepL K H ds xs:=by
 cases d with
 | tup ds=>simp only[Rep]at h;let(a,xs,c,b,e):=h;show .inr (.inl ⟨ds,a,xs,rfl,c,b,e⟩)
 | lst ds=>simp only[Rep]at h;let(a,xs,c,b,e):=h;show .inr (.inr ⟨ds,a,xs,rfl,c,b,e⟩)
 | _=>show .inl ⟨rfl,JfH rfl h⟩
theorem Jc4(I:Inv X pins σ H s){d e:D}{x y:V}{u v:Value}(hd:Rep X.K H d x)(he:Rep X.K H e y)(ru:RelV x u)(rv:RelV y v)(m:flatD d=!flatD e){A:Around}(hA:A.units<cLine) :
  eqD d e=false/\SeqAt.EqAt A s u v false/\SeqAt.RcAt A s u v false/\SeqAt.RcNeAt A s u v true:=by
 rcases Jdd hd with⟨fd,rfl⟩ | ⟨ds,a,xs,rfl,rfl,h2,h3⟩ | ⟨ds,a,xs,rfl,rfl,h2,h3⟩
 .rcases Jdd he with⟨fe,rfl⟩ | ⟨es,b,ys,rfl,rfl,g2,g3⟩ | ⟨es,b,ys,rfl,rfl,g2,g3⟩
  .rw[fd,fe]at m;cases m
  .obtain rfl:v=Value.ref b:=rv;let(f,g,c,_):=I.tuple g2;show(by cases d <;> simp[eqD,flatD]at fd ⊢,?_);cases d <;> simp only[valD,RelV]at ru <;> first | (simp[flatD]at fd;done) | skip
   .subst ru;show(SeqAt.EqAt.none_tuple c hA,SeqAt.RcAt.none_tuple c hA,SeqAt.RcNeAt.none_tuple c hA)
   .subst ru;show(SeqAt.EqAt.bool_tuple _ c hA,SeqAt.RcAt.bool_tuple _ c hA,SeqAt.RcNeAt.bool_tuple _ c hA)
   .let(t,rfl):=ru;show(SeqAt.EqAt.int_tuple _ _ c hA,SeqAt.RcAt.int_tuple _ _ c hA,SeqAt.RcNeAt.int_tuple _ _ c hA)
   .let(t,rfl):=ru;show(SeqAt.EqAt.str_tuple _ _ c hA,SeqAt.RcAt.str_tuple _ _ c hA,SeqAt.RcNeAt.str_tuple _ _ c hA)
  .obtain rfl:v=Value.ref b:=rv;let(f,g,c,_):=I.list g2;have c:=c.isList;show(by cases d <;> simp[eqD,flatD]at fd ⊢,?_);cases d <;> simp only[valD,RelV]at ru <;> first | (simp[flatD]at fd;done) | skip
   .subst ru;show(SeqAt.EqAt.none_list c hA,SeqAt.RcAt.none_list c hA,SeqAt.RcNeAt.none_list c hA)
   .subst ru;show(SeqAt.EqAt.bool_list _ c hA,SeqAt.RcAt.bool_list _ c hA,SeqAt.RcNeAt.bool_list _ c hA)
   .let(t,rfl):=ru;show(SeqAt.EqAt.int_list _ _ c hA,SeqAt.RcAt.int_list _ _ c hA,SeqAt.RcNeAt.int_list _ _ c hA)
   .let(t,rfl):=ru;show(SeqAt.EqAt.str_list _ _ c hA,SeqAt.RcAt.str_list _ _ c hA,SeqAt.RcNeAt.str_list _ _ c hA)
 .rcases Jdd he with⟨fe,rfl⟩ | ⟨es,b,ys,rfl,rfl,g2,g3⟩ | ⟨es,b,ys,rfl,rfl,g2,g3⟩
  .obtain rfl:u=Value.ref a:=ru;let(f,g,c,_):=I.tuple h2;show(by cases e <;> simp[eqD,flatD]at fe ⊢,?_);cases e <;> simp only[valD,RelV]at rv <;> first | (simp[flatD]at fe;done) | skip
   .subst rv;show(SeqAt.EqAt.tuple_none c hA,SeqAt.RcAt.tuple_none c hA,SeqAt.RcNeAt.tuple_none c hA)
   .subst rv;show(SeqAt.EqAt.tuple_bool _ c hA,SeqAt.RcAt.tuple_bool _ c hA,SeqAt.RcNeAt.tuple_bool _ c hA)
   .let(t,rfl):=rv;show(SeqAt.EqAt.tuple_int _ _ c hA,SeqAt.RcAt.tuple_int _ _ c hA,SeqAt.RcNeAt.tuple_int _ _ c hA)
   .let(t,rfl):=rv;show(SeqAt.EqAt.tuple_str _ _ c hA,SeqAt.RcAt.tuple_str _ _ c hA,SeqAt.RcNeAt.tuple_str _ _ c hA)
  .simp[flatD]at m
  .simp[flatD]at m
 .rcases Jdd he with⟨fe,rfl⟩ | ⟨es,b,ys,rfl,rfl,g2,g3⟩ | ⟨es,b,ys,rfl,rfl,g2,g3⟩
  .obtain rfl:u=Value.ref a:=ru;let(f,g,c,_):=I.list h2;have c:=c.isList;show(by cases e <;> simp[eqD,flatD]at fe ⊢,?_);cases e <;> simp only[valD,RelV]at rv <;> first | (simp[flatD]at fe;done) | skip
   .subst rv;show(SeqAt.EqAt.list_none c hA,SeqAt.RcAt.list_none c hA,SeqAt.RcNeAt.list_none c hA)
   .subst rv;show(SeqAt.EqAt.list_bool _ c hA,SeqAt.RcAt.list_bool _ c hA,SeqAt.RcNeAt.list_bool _ c hA)
   .let(t,rfl):=rv;show(SeqAt.EqAt.list_int _ _ c hA,SeqAt.RcAt.list_int _ _ c hA,SeqAt.RcNeAt.list_int _ _ c hA)
   .let(t,rfl):=rv;show(SeqAt.EqAt.list_str _ _ c hA,SeqAt.RcAt.list_str _ _ c hA,SeqAt.RcNeAt.list_str _ _ c hA)
  .simp[flatD]at m
  .simp[flatD]at m
theorem seq_eq(I:Inv X pins σ H s){n:Nat}(ih:EqP X H s n){d e:D}{x y:V}{u v:Value}(hn:depD d<=n+1)(hd:Rep X.K H d x)(he:Rep X.K H e y)(ru:RelV x u)(rv:RelV y v)(fd:flatD d=false)(fe:flatD e=false){A:Around}(hA:A.units+(n+1)<cLine) :
  SeqAt.EqAt A s u v (eqD d e)/\SeqAt.RcAt A s u v (eqD d e)/\SeqAt.RcNeAt A s u v (!eqD d e):=by
 have j:=hd;have k:=he;rcases Jdd hd with⟨f,_⟩ | ⟨ds,a,xs,rfl,rfl,h2,h3⟩ | ⟨ds,a,xs,rfl,rfl,h2,h3⟩
 .rw[f]at fd;cases fd
 .obtain rfl:u=Value.ref a:=ru;have i:depL ds<=n:=by simp only[depD]at hn;ac_nf
  rcases Jdd he with⟨f,_⟩ | ⟨es,b,ys,rfl,rfl,g2,g3⟩ | ⟨es,b,ys,rfl,rfl,g2,g3⟩
  .rw[f]at fe;cases fe
  .obtain rfl:v=Value.ref b:=rv;have R:=JmN I ih h2 h3 g2 g3 i hA;show(?_,R.1,R.2);by_cases c:a=b
   .subst c;rw[I.rep_inj j k,Jfm];show SeqAt.EqAt.same _
   .show SeqAt.EqAt.of_refs c R.1
  .obtain rfl:v=Value.ref b:=rv;let(m,_,h,_):=I.tuple h2;let(l,_,g,_):=I.list g2;show(SeqAt.EqAt.tuple_list h g.isList ∅,SeqAt.RcAt.tuple_list h g.isList ∅,SeqAt.RcNeAt.tuple_list h g.isList ∅)
 .obtain rfl:u=Value.ref a:=ru;have i:depL ds<=n:=by simp only[depD]at hn;ac_nf
  rcases Jdd he with⟨f,_⟩ | ⟨es,b,ys,rfl,rfl,g2,g3⟩ | ⟨es,b,ys,rfl,rfl,g2,g3⟩
  .rw[f]at fe;cases fe
  .obtain rfl:v=Value.ref b:=rv;let(m,_,h,_):=I.list h2;let(l,_,g,_):=I.tuple g2;show(SeqAt.EqAt.list_tuple h.isList g ∅,SeqAt.RcAt.list_tuple h.isList g ∅,SeqAt.RcNeAt.list_tuple h.isList g ∅)
  .obtain rfl:v=Value.ref b:=rv;have R:=Jmm I ih h2 h3 g2 g3 i hA;show(?_,R.1,R.2);by_cases c:a=b
   .subst c;rw[I.rep_inj j k,Jfm];show SeqAt.EqAt.same _
   .show SeqAt.EqAt.of_refs c R.1
theorem Inv.eqP(I:Inv X pins σ H s):∀ n,EqP X H s n
 | 0=>λd e A x y u v hn hd he ru rv hA=>by
  have fd:flatD d=true:=by
   cases d <;> simp[depD,flatD]at hn ⊢
  cases fe:flatD e with
  | true=>
   have ex:=JfH fd hd;have ey:=JfH fe he;subst ex ey;rw[<- Jlk fd fe];show Jkz ru rv (Jhw fd) (Jhw fe)
  | false=>
   let(e1,e2,_):=Jc4 I hd he ru rv (by rw[fd,fe];rfl) (A:=A) ∅;rw[e1];show e2
 | n+1=>λd e A x y u v hn hd he ru rv hA=>by
  cases fd:flatD d with
  | true=>
   have h0:depD d<=n:=by cases d <;> simp[depD,flatD]at fd ⊢
   show Inv.eqP I n d e A x y u v h0 hd he ru rv ∅
  | false=>
   cases fe:flatD e with
   | true=>
    let(e1,e2,_):=Jc4 I hd he ru rv (by rw[fd,fe];rfl) (A:=A) ∅;rw[e1];show e2
   | false=>show(seq_eq I (Inv.eqP I n) hn hd he ru rv fd fe hA).1
def rEqU(K:W.Frag):R2:=λx y H Q=>match x,y with
 | .int i, .int j=>Q (.bl (decide (i=j))) H
 | .str i, .str j=>Q (.bl (decide (i=j))) H
 | .bl i, .bl j=>Q (.bl (decide (i=j))) H
 | .non, .non=>Q (.bl true) H
 | x,y=>∃ d e,Rep K H d x/\Rep K H e y/\depD d<=50/\(flatD d&&flatD e)=false/\Q (.bl (eqD d e)) H
def rNeU(K:W.Frag):R2:=λx y H Q=>match x,y with
 | .int i, .int j=>Q (.bl (!decide (i=j))) H
 | .str i, .str j=>Q (.bl (!decide (i=j))) H
 | .bl i, .bl j=>Q (.bl (!decide (i=j))) H
 | .non, .non=>Q (.bl false) H
 | x,y=>∃ d e,Rep K H d x/\Rep K H e y/\depD d<=50/\(flatD d&&flatD e)=false/\Q (.bl (!eqD d e)) H
theorem Jch(hu:X.A.units+64<cLine):OpR X (compareOp .Eq) (rEqU X.K):=λa s σ H x y v u Q I c b q=>by
 unfold rEqU at q;split at q
 .rename_i i j;show op_eq a s σ H _ _ v u Q I c b ⟨rfl,by rw[show decide (V.int i=V.int j)=decide (i=j)from by simp];show q⟩
 .rename_i i j;show op_eq a s σ H _ _ v u Q I c b ⟨rfl,by rw[show decide (V.str i=V.str j)=decide (i=j)from by simp];show q⟩
 .rename_i i j;show op_eq a s σ H _ _ v u Q I c b ⟨rfl,by rw[show decide (V.bl i=V.bl j)=decide (i=j)from by simp];show q⟩
 .show op_eq a s σ H _ _ v u Q I c b ⟨rfl,by simpa using q⟩
 .let(d,e,k,g,m,l,q):=q;show wpAny (model X.prog X.w) X.A (richCompare .Eq v u) (EP X a σ Q) X.xe s;cases fd:flatD d with
  | true=>
   cases fe:flatD e with
   | true=>rw[fd,fe]at l;cases l
   | false=>
    let(f,_,h,_):=Jc4 I k g c b (by rw[fd,fe];rfl) (A:=X.A) ∅;rw[f]at q;show h _ _ _ _ ⟨V.bl _,H,I,rfl,q⟩
  | false=>
   cases fe:flatD e with
   | true=>
    let(f,_,h,_):=Jc4 I k g c b (by rw[fd,fe];rfl) (A:=X.A) ∅;rw[f]at q;show h _ _ _ _ ⟨V.bl _,H,I,rfl,q⟩
   | false=>show(seq_eq I (I.eqP 49) m k g c b fd fe ∅).2.1 _ _ _ _ ⟨V.bl _,H,I,rfl,q⟩
theorem JcP(hu:X.A.units+64<cLine):OpR X (compareOp .NotEq) (rNeU X.K):=λa s σ H x y v u Q I c b q=>by
 unfold rNeU at q;split at q
 .rename_i i j;show op_ne a s σ H _ _ v u Q I c b ⟨rfl,by rw[show decide (V.int i=V.int j)=decide (i=j)from by simp];show q⟩
 .rename_i i j;show op_ne a s σ H _ _ v u Q I c b ⟨rfl,by rw[show decide (V.str i=V.str j)=decide (i=j)from by simp];show q⟩
 .rename_i i j;show op_ne a s σ H _ _ v u Q I c b ⟨rfl,by rw[show decide (V.bl i=V.bl j)=decide (i=j)from by simp];show q⟩
 .show op_ne a s σ H _ _ v u Q I c b ⟨rfl,by simpa using q⟩
 .let(d,e,k,g,m,l,q):=q;show wpAny (model X.prog X.w) X.A (richCompare .NotEq v u) (EP X a σ Q) X.xe s;cases fd:flatD d with
  | true=>
   cases fe:flatD e with
   | true=>rw[fd,fe]at l;cases l
   | false=>
    let(f,_,_,h):=Jc4 I k g c b (by rw[fd,fe];rfl) (A:=X.A) ∅;rw[f]at q;show h _ _ _ _ ⟨V.bl _,H,I,rfl,q⟩
  | false=>
   cases fe:flatD e with
   | true=>
    let(f,_,_,h):=Jc4 I k g c b (by rw[fd,fe];rfl) (A:=X.A) ∅;rw[f]at q;show h _ _ _ _ ⟨V.bl _,H,I,rfl,q⟩
   | false=>show(seq_eq I (I.eqP 49) m k g c b fd fe ∅).2.2 _ _ _ _ ⟨V.bl _,H,I,rfl,q⟩
end
def DivOk(j:Int):Prop:=j≠0/\j.natAbs.log2<9000
def rAddU(K:W.Frag):R2:=λx y H Q=>match x,y with
 | .int i, .int j=>Q (.int (i+j)) H
 | .str i, .str j=>i.length+j.length<=sizeLine/\Q (.str (i++j)) H
 | .ref a, .ref b=>rCat (.ref a) (.ref b) H Q\/rCatT K (.ref a) (.ref b) H Q
 | _,_=>False
theorem Ja1:OpR X (binaryOp .Add) (rAddU X.K):=λa s σ H x y v u Q I c b q=>by
 unfold rAddU at q;split at q
 .show Jmq a s σ H _ _ v u Q I c b ⟨_,_,rfl,rfl,q⟩
 .show Jib a s σ H _ _ v u Q I c b ⟨_,_,rfl,rfl,q.1,q.2⟩
 .rcases q with q | q
  .show Jmr a s σ H _ _ v u Q I c b q
  .show JlG a s σ H _ _ v u Q I c b q
 .show q.elim
def rMulU:R2:=λx y H Q=>match x,y with
 | .int i, .int j=>IntMulOk i j/\Q (.int (i*j)) H
 | _,_=>False
theorem JlI:OpR X (binaryOp .Mult) (rI IntMulOk λi j=>.int (i*j)):=opI λ_ _ _ _ _ _ _ a q=>mul_int q a
theorem JlJ:OpR X (binaryOp .Mult) rMulU:=λa s σ H x y v u Q I c b q=>by
 unfold rMulU at q;split at q
 .show JlI a s σ H _ _ v u Q I c b ⟨_,_,rfl,rfl,q.1,q.2⟩
 .show q.elim
def Jjk:R2:=λx y H Q=>match x,y with
 | .int i, .int j=>DivOk j/\Q (.int (i.fdiv j)) H
 | _,_=>False
theorem Jj4:OpR X (binaryOp .FloorDiv) (rI (λ_ j=>DivOk j) λi j=>.int (i.fdiv j)):=opI λ_ _ _ _ _ _ _ a q=>floordiv_int a.1 q (.inl (PyProof.noPylong_of_log2 a.2))
theorem Jat:OpR X (binaryOp .FloorDiv) Jjk:=λa s σ H x y v u Q I c b q=>by
 unfold Jjk at q;split at q
 .show Jj4 a s σ H _ _ v u Q I c b ⟨_,_,rfl,rfl,q.1,q.2⟩
 .show q.elim
def rModU:R2:=λx y H Q=>match x,y with
 | .int i, .int j=>j≠0/\Q (.int (i.fmod j)) H
 | _,_=>False
theorem JaC:OpR X (binaryOp .Mod) rModU:=λa s σ H x y v u Q I c b q=>by
 unfold rModU at q;split at q
 .show JlH a s σ H _ _ v u Q I c b ⟨_,_,rfl,rfl,q.1,q.2⟩
 .show q.elim
def rPowU:R2:=λx y H Q=>match x,y with
 | .int i, .int j=>CPow i j/\Q (.int (i ^ j.toNat)) H
 | _,_=>False
theorem Jg3:OpR X (binaryOp .Pow) rPowU:=λa s σ H x y v u Q I c b q=>by
 unfold rPowU at q;split at q
 .show Jmv a s σ H _ _ v u Q I c b ⟨_,_,rfl,rfl,q.1,q.2⟩
 .show q.elim
def rCmpU(p:Int->Int->Bool):R2:=λx y H Q=>match x,y with
 | .int i, .int j=>Q (.bl (p i j)) H
 | _,_=>False
theorem Jg2{op:CmpOp}{p:Int->Int->Bool}(h:OpR X (compareOp op) (rI0 λi j=>.bl (p i j))):OpR X (compareOp op) (rCmpU p):=λa s σ H x y v u Q I c b q=>by
 unfold rCmpU at q;split at q
 .show h a s σ H _ _ v u Q I c b ⟨_,_,rfl,rfl,q⟩
 .show q.elim
theorem Jew:OpR X (compareOp .Lt) (rCmpU λi j=>decide (i<j)):=Jg2 op_lt
theorem Jgn:OpR X (compareOp .Gt) (rCmpU λi j=>decide (j<i)):=Jg2 op_gt
theorem JkG:OpR X (compareOp .GtE) (rCmpU λi j=>decide (j<=i)):=Jg2 op_ge
def SqA(K:W.Frag)(H:Hp)(a:Addr)(xs:List V):Prop:=SqL K H a xs\/SqT K H a xs
def rIxU(K:W.Frag):R2:=λx y H Q=>match x,y with
 | .ref p, .int i=>∃ xs v,SqA K H p xs/\atI xs i=some v/\Q v H
 | .str z, .int i=>∃ c,z.length<=sizeLine/\atI z.cps.toList i=some c/\Q (.str ⟨#[c]⟩) H
 | _,_=>False
theorem ix_U:IxR X (rIxU X.K):=λa b d s σ H x y v u Q I g f q i=>by
 unfold rIxU at q;split at q
 .obtain⟨l,w,h | h,e,q⟩:=q
  .show Jlq a b d s σ H _ _ v u Q I g f ⟨_,_,_,_,rfl,rfl,h,e,q⟩ i
  .show Jmg a b d s σ H _ _ v u Q I g f ⟨_,_,_,_,rfl,rfl,h,e,q⟩ i
 .let(c,k,j,q):=q;show Jmf a b d s σ H _ _ v u Q I g f ⟨_,_,_,rfl,rfl,k,j,q⟩ i
 .show q.elim
def rLen(K:W.Frag):List V->Hp->VK->Prop:=λxs H Q=>match xs with
 | [.ref p]=>∃ ys,SqA K H p ys/\Q (.int ys.length) H
 | [.str z]=>z.length<=sizeLine/\Q (.int z.length) H
 | _=>False
theorem JaP:CallR X (.builtin "len") (rLen X.K):=λa s σ H c b Q I r q=>by
 unfold rLen at q;split at q
 .let(d,h,q):=q;show Jf3 a s σ H _ b Q I r ⟨_,_,rfl,h,q⟩
 .show Jf4 a s σ H _ b Q I r ⟨_,rfl,q.1,q.2⟩
 .show q.elim
def rAbs:List V->Hp->VK->Prop:=λxs H Q=>match xs with
 | [.int i]=>Q (.int (if i<0 then -i else i)) H
 | _=>False
theorem Jdl:CallR X (.builtin "abs") rAbs:=λa s σ H c b Q I r q=>by
 unfold rAbs at q;split at q
 .show JjM a s σ H _ b Q I r ⟨_,rfl,q⟩
 .show q.elim
def rMin:List V->Hp->VK->Prop:=λxs H Q=>match xs with
 | [.int i, .int j]=>Q (.int (if j<i then j else i)) H
 | _=>False
theorem Jf6(hc:X.calm=true):CallR X (.builtin "min") rMin:=λa s σ H c b Q I r q=>by
 unfold rMin at q;split at q
 .show Jir hc a s σ H _ b Q I r ⟨_,_,rfl,q⟩
 .show q.elim
def isiB(t T:String):Bool:=t == T||(t == "bool"&&T == "int")
def tyN(K:W.Frag)(H:Hp)(x:V)(t:String):Prop:=match x with
 | .int _=>t="int"
 | .str _=>t="str"
 | .bl _=>t="bool"
 | .non=>t="NoneType"
 | .ref a=>(t="list"/\∃ xs,SqL K H a xs)\/(t="tuple"/\∃ xs,SqT K H a xs)
 | _=>False
theorem kit_b(K:W.Frag){t T:String}(ht:t∈["int","str","bool","NoneType","list","tuple"])(hT:T∈["int","str","bool","list","tuple"]):W.kitOne K (.type t) (.type T)=some (isiB t T):=by
 simp only[mem_cons,not_mem_nil,or_false]at ht hT;rcases ht with rfl | rfl | rfl | rfl | rfl | rfl <;> rcases hT with rfl | rfl | rfl | rfl | rfl <;> with_unfolding_all rfl
def rIsi(K:W.Frag):List V->Hp->VK->Prop:=λxs H Q=>match xs with
 | [x, .ty T]=>T∈["int","str","bool","list","tuple"]/\∃ t,tyN K H x t/\Q (.bl (isiB t T)) H
 | _=>False
theorem JaS:CallR X (.builtin "isinstance") (rIsi X.K):=λg s σ H n v Q I r q=>by
 unfold rIsi at q;split at q
 .rename_i x T;let(e,t,d,q):=q;let(u,c,rfl,f,m):=vals2 r;obtain rfl:c=Value.type T:=m;have b:∀ i,EP X g σ Q (.bool (isiB t T)) { s with toks:=i }:=λi=>⟨V.bl _,H,I.tok i,rfl,q⟩;unfold tyN at d;split at d
  .subst d;let(_,rfl):=f;show W.kia_one W.kitx_int I.kIn True.intro (kit_b _ ⋯ e) (λz=>nomatch z) b
  .subst d;let(_,rfl):=f;show W.kia_one W.kitx_str I.kIn True.intro (kit_b _ ⋯ e) (λz=>nomatch z) b
  .subst d;cases(show u=Value.bool _ from f);show W.kia_one W.kitx_bool I.kIn True.intro (kit_b _ ⋯ e) (λz=>nomatch z) b
  .subst d;cases(show u=Value.none from f);show W.kia_one W.kitx_none I.kIn True.intro (kit_b _ ⋯ e) (λz=>nomatch z) b
  .rename_i a;cases(show u=Value.ref a from f);rcases d with⟨rfl,ys,h⟩ | ⟨rfl,ys,h⟩
   .let(l,_,p,_):=I.list h;let(o,_,k,j,_):=p;show W.kia_one W.kitx_list I.kIn ⟨o,k,j⟩ (kit_b _ ⋯ e) (λz=>nomatch z) b
   .let(l,_,p,_):=I.tuple h;let(o,k,j,_):=p;show W.kia_one W.kitx_tuple I.kIn ⟨o,k,j⟩ (kit_b _ ⋯ e) (λz=>nomatch z) b
  .show d.elim
 .show q.elim
variable{tg:Expr}
def iAny(K:W.Frag)(tl:TE):TI:=λσ H R=>tl σ H λx H1=>∃ a,x=.ref a/\(((∃ xs,SqL K H1 a xs)/\R (Itl K a) H1)\/((∃ xs,SqT K H1 a xs)/\R (Itt K a) H1))
theorem pi_U{l:Expr}{tl:TE}(hl:PE X l tl):PI X tg l (iAny X.K tl):=λd s σ H R I h=>by
 show thn (hl d s σ H _ I h) λv c ζ=>?_;let(x,i,I1,m,a,n,q):=ζ;subst n;cases m;rcases q with⟨⟨xs,hq⟩,q⟩ | ⟨⟨xs,hq⟩,q⟩
 .let(f,k,p,j):=I1.list hq;show wpAny_pyIter_list p.isList ?_;show(c.heap.objs.size,[c.heap.objs.size],_,_,i,rfl,I1.kept (t':=c.toks) λb o e=>Heap.get?_push_of_some _ e,JjD a _,⟨_,Heap.get?_push_size _ rfl,rfl,rfl⟩,λb g=>?_,q);have e:b=c.heap.objs.size:=by simpa using g
  subst e;show I1.fpOk (Nat.le_refl _) (I1.hok.fresh (Nat.le_refl _))
 .let(f,k,p,j):=I1.tuple hq;show wpAny_pyIter_tuple (show c.heap.IsTuple a f.toArray from p) ?_;show(c.heap.objs.size,[c.heap.objs.size],_,_,i,rfl,I1.kept (t':=c.toks) λb o e=>Heap.get?_push_of_some _ e,Jij a _,⟨_,Heap.get?_push_size _ rfl,rfl,rfl⟩,λb g=>?_,q);have e:b=c.heap.objs.size:=by simpa using g
  subst e;show I1.fpOk (Nat.le_refl _) (I1.hok.fresh (Nat.le_refl _))
structure FunD(K:W.Frag)(x qual:Str)(st:Stmt)(dV:Value)(f:Addr)(fd:FuncData):Prop where
 ex:∃(oc:Value)(od:Option Addr)(kV doc pm:Value)(an:Option Addr)(cdv ct:Value)(osl:Array (Option Value)),
  fd=W.fnOf x qual (Jal st) (Jak st) (Jaf st) dV kV doc pm an cdv ct/\K.lookup f=some ⟨oc,od, .func fd,osl⟩/\W.codeIn K cdv qual=true
 kp:W.keepIn K (.ref f)=true
section
variable{mg:Str->Option Value}{base:Heap}{w:World}{K:W.Frag}{x qual:Str}{st:Stmt}{dV:Value}{fd:FuncData}{N ps:List Str}{sp:Sp}
theorem FunD.okn{f:Addr}{k:Nat}(F:FunD K x qual st dV f fd)(S:Jan N ps (Jaf st))(len:∀ vs H Q E,sp vs H Q E->vs.length=ps.length)
  (hbody:∀(cdv:Value)(A:Around)(outer:List Env)(s:Shared)(H:Hp)(vs:List V)(Q:VK)(E:XK),Room k (A.deeper (envOfC qual (Jaf st) s.heap.objs.size f cdv))->sp vs H Q E ->
   ∃ t,PSs (cxOf (CX1 P w) P w K mg base N qual (Jaf st) f cdv A outer s H E).nox (Jak st) t/\t { nx:=λ_ H'=>Q .non H',rt:=Q } (start N vs) H):FnOk P w K mg base (CX1 P w) (k+1) f fd ps sp:=by
 let(l,m,kV,e,n,j,cdv,i,d,rfl,g,b):=F.ex;show fn_of g b S len λA outer s H vs Q E c a=>?_;let(t,h,q):=hbody cdv A outer s H vs Q E c a;show(t,h.nox,q)
theorem FunD.okx{f:Addr}{k:Nat}(F:FunD K x qual st dV f fd)(S:Jan N ps (Jaf st))(len:∀ vs H Q E,sp vs H Q E->vs.length=ps.length)
  (hbody:∀(cdv:Value)(A:Around)(outer:List Env)(s:Shared)(H:Hp)(vs:List V)(Q:VK)(E:XK),Room k (A.deeper (envOfC qual (Jaf st) s.heap.objs.size f cdv))->sp vs H Q E ->
   ∃ t,PSs (cxOf (CX1 P w) P w K mg base N qual (Jaf st) f cdv A outer s H E) (Jak st) t/\t { nx:=λ_ H'=>Q .non H',rt:=Q } (start N vs) H):FnOk P w K mg base (CX1 P w) (k+1) f fd ps sp:=by
 let(j,l,kV,e,m,i,cdv,h,d,rfl,g,b):=F.ex;show fn_of g b S len λA outer s H vs Q E c a=>hbody cdv A outer s H vs Q E c a
theorem FunD.binds{f:Addr}(F:FunD K x qual st dV f fd)
  (h:∀(kV doc pm:Value)(an:Option Addr)(cdv ct:Value)(us:List Value),us.length=ps.length->bindArgs (W.fnOf x qual (Jal st) (Jak st) (Jaf st) dV kV doc pm an cdv ct) ⟨us,[]⟩=pure (ps.zip us)):Binds K fd ps []:=by
 let(e,d,kV,doc,pm,an,cdv,ct,a,rfl,c,b):=F.ex;show .all (h kV doc pm an cdv ct)
theorem FunD.bindsD{T:Addr}{f:Addr}{o:Obj}{items:Array Value}{n:Nat}(F:FunD K x qual st (.ref T) f fd)(hT:K.lookup T=some o)(hs:o.data=.seq items n)(ds:List Value)
  (h:∀(kV doc pm:Value)(an:Option Addr)(cdv ct:Value)(us:List Value),(us++ds).length=ps.length->∃ k,bindArgs (W.fnOf x qual (Jal st) (Jak st) (Jaf st) (.ref T) kV doc pm an cdv ct) ⟨us,[]⟩=seqItems? (.ref T) >>= k/\k (some items)=pure (ps.zip (us++ds))):Binds K fd ps ds:=by
 let(j,i,kV,doc,pm,an,cdv,ct,b,rfl,g,e):=F.ex;intro s us X d;let(k,c,a):=h kV doc pm an cdv ct us d;show BindsTo.of_defaults (T:=T) rfl (X _ _ hT) hs c a
theorem Jap{f:Addr}{oc:Value}{od an:Option Addr}{osl:Array (Option Value)}{kV doc pm cdv ct:Value}(l:K.lookup f=some ⟨oc,od, .func (W.fnOf x qual (Jal st) (Jak st) (Jaf st) dV kV doc pm an cdv ct),osl⟩)
  (c:W.codeIn K cdv qual=true) (k:W.keepIn K (.ref f)=true):FunD K x qual st dV f (W.fnOf x qual (Jal st) (Jak st) (Jaf st) dV kV doc pm an cdv ct):=⟨⟨oc,od,kV,doc,pm,an,cdv,ct,osl,rfl,l,c⟩,k⟩
end
structure Cal(P:Program)(w:World)(K:W.Frag)(mg:Str->Option Value)(base:Heap)(k:Nat)(x:Str)(ps:List Str)(dvs:List V)(sp:Sp):Prop where
 ex:∃(f:Addr)(fd:FuncData)(ds:List Value),FnOk P w K mg base (CX1 P w) k f fd ps sp/\mg x=some (.ref f)/\W.keepIn K (.ref f)=true/\Binds K fd ps ds/\Vals dvs ds
section
variable{k':Nat}{x:Str}{ps:List Str}{dvs:List V}{sp:Sp}{E:XK}{p:Pos}{e:Expr}{es:List Expr}{k:Nat}{t:TA}
theorem Cal.ev(G:Cal X.prog X.w X.K X.mg X.base k x ps dvs sp)(hr:Room k' X.A)(hk:k<=k')(hg:Gl X x)(hx:JcM (CX1 X.prog X.w) X E)(ha:PA X (e::es) t)
  (hdb:autoParam ((x == ("__debug__" : Str))=false) Au) (he:autoParam (starEach (e::es) X.env=(false,eval e X.env)::starEach es X.env) Au) (hpl:autoParam ((backTo pos (starEach es X.env)).any (·.1)=false) Au) :
  PE X (.Call (.Name x p) (e::es) [] pos) (tCall sp dvs E t):=by
 let(f,h,g,F,d,b,a,c):=G.ex;show JlM F (hr.mono hk) hg d b a c hx ha hdb he hpl
end
end L2
namespace Mth
def g(a b:Int):Int:=(Int.gcd a b:Nat)
theorem JkD(a:Int):g a 0=(a.natAbs:Int):=by unfold g;rw[Int.gcd_zero_right]
theorem g_pos{a b:Int}(h:b≠0):0<g a b:=by
 unfold g;show Int.natCast_pos.mpr (Int.gcd_pos_of_ne_zero_right a h)
theorem JcO(a b:Int):g a b∣a:=Int.gcd_dvd_left ..
theorem JbW(a b:Int):g a b∣b:=Int.gcd_dvd_right ..
theorem Jmd(a b:Int):g b (a % b)=g a b:=by
 unfold g;rw[Int.gcd_comm b (a % b)];first
  | rw[Int.gcd_emod_left]
  | (rw[Int.emod_def];simp[Int.gcd_comm])
theorem Bd8(a b:Int):g (if a<0 then -a else a) (if b<0 then -b else b)=g a b:=by
 unfold g;split <;> split <;> simp[Int.neg_gcd,Int.gcd_neg]
theorem Jkp(a:Int):0<=(if a<0 then -a else a):=by split <;> ac_nf
theorem g_le{a b:Int}(h:b≠0):g a b<=(b.natAbs:Int):=by
 unfold g;show Int.ofNat_le.mpr (Nat.le_of_dvd ∅ (Int.natAbs_dvd_natAbs.mpr (by simpa using Int.gcd_dvd_right (a:=a) (b:=b)) |> λz=>by simpa using z))
theorem fm{x y:Int}(h:0<y):0<=x.fmod y/\x.fmod y<y:=by
 rw[Int.fmod_eq_emod_of_nonneg _ ∅];show(Int.emod_nonneg _ ∅,Int.emod_lt_of_pos _ h)
theorem JiJ{x y:Int}(h:0<y):g y (x.fmod y)=g x y:=by
 rw[Int.fmod_eq_emod_of_nonneg _ ∅];show Jmd x y
def by_(t b:Int):Int:=if b<0 then -(g t b)else g t b
def top(t b:Int):Int:=t.fdiv (by_ t b)
def bot(t b:Int):Int:=b.fdiv (by_ t b)
theorem by_ne{t b:Int}(h:b≠0):by_ t b≠0:=by
 have:=g_pos (a:=t) h;unfold by_;split <;> ac_nf
theorem Jlf(t b:Int):by_ t b∣t:=by
 unfold by_;split
 .show Int.neg_dvd.mpr (JcO t b)
 .show JcO t b
theorem Jlg(t b:Int):by_ t b∣b:=by
 unfold by_;split
 .show Int.neg_dvd.mpr (JbW t b)
 .show JbW t b
theorem JaR{a d:Int}(h:d∣a)(hd:d≠0):a.fdiv d*d=a:=by
 let(k,rfl):=h;rw[Int.mul_comm d k,Int.mul_fdiv_cancel _ hd]
theorem JeP{t b:Int}(h:b≠0):top t b*by_ t b=t:=JaR (Jlf t b) (by_ne h)
theorem Jea{t b:Int}(h:b≠0):bot t b*by_ t b=b:=JaR (Jlg t b) (by_ne h)
theorem Jct{t b:Int}(h:b≠0):1<=bot t b:=by
 have c:=Jea (t:=t) h;have d:=g_pos (a:=t) h;by_cases f:b<0
 .have e:by_ t b = -(g t b):=by unfold by_;rw[if_pos f]
  rw[e]at c;have i:bot t b*g t b = -b:=by rw[Int.mul_neg]at c;ac_nf
  rcases Int.lt_trichotomy (bot t b) 0 with z | z | z
  .have:=Int.mul_neg_of_neg_of_pos z d;ac_nf
  .rw[z]at i;ac_nf
  .ac_nf
 .have e:by_ t b=g t b:=by unfold by_;rw[if_neg f]
  rw[e]at c;rcases Int.lt_trichotomy (bot t b) 0 with z | z | z
  .have:=Int.mul_neg_of_neg_of_pos z d;ac_nf
  .rw[z]at c;ac_nf
  .ac_nf
theorem cross{t b:Int}(h:b≠0):top t b*b=t*bot t b:=by
 have c:=JeP (t:=t) h;have a:=Jea (t:=t) h
 calc top t b*b=top t b*(bot t b*by_ t b):=by rw[a]
  _=(top t b*by_ t b)*bot t b:=by rw[Int.mul_comm (bot t b),Int.mul_assoc]
  _=t*bot t b:=by rw[c]
theorem JiU(t b:Int):(by_ t b).natAbs=Int.gcd t b:=by
 unfold by_ g;split <;> simp
theorem g_low{t b:Int}(h:b≠0):g (top t b) (bot t b)=1:=by
 have a:0<Int.gcd t b:=Int.gcd_pos_of_ne_zero_right t h;have e:Int.gcd (top t b*by_ t b) (bot t b*by_ t b)=Int.gcd (top t b) (bot t b)*(by_ t b).natAbs:=Int.gcd_mul_right ..;rw[JeP h,Jea h,JiU]at e;have : Int.gcd (top t b) (bot t b)=1:=by
  rcases Nat.lt_trichotomy (Int.gcd (top t b) (bot t b)) 1 with z | z | z
  .have : Int.gcd (top t b) (bot t b)=0:=by ac_nf
   rw[this]at e;ac_nf
  .show z
  .have:=Nat.mul_le_mul_right (Int.gcd t b) z;ac_nf
 unfold g;rw[this];rfl
theorem JdD{a b d:Int}(g1:Int.gcd a b=1)(h:b∣a*d):b∣d:=by
 have e:b.natAbs∣a.natAbs*d.natAbs:=by rw[<- Int.natAbs_mul];show Int.natAbs_dvd_natAbs.mpr h
 have c:Nat.Coprime b.natAbs a.natAbs:=by
  unfold Nat.Coprime;rw[Nat.gcd_comm];show g1
 show Int.natAbs_dvd_natAbs.mp (c.dvd_of_dvd_mul_left e)
theorem JdE{a b c d:Int}(hb:1<=b)(hd:1<=d)(h1:g a b=1)(h2:g c d=1)(e:a*d=c*b):a=c/\b=d:=by
 have i:Int.gcd a b=1:=by unfold g at h1;ac_nf
 have k:Int.gcd c d=1:=by unfold g at h2;ac_nf
 have j:b∣d:=by
  have : b∣a*d:=⟨c,by rw[e,Int.mul_comm]⟩;show JdD i this
 have f:d∣b:=by
  have : d∣c*b:=⟨a,by rw[<- e,Int.mul_comm]⟩;show JdD k this
 have h:b=d:=Int.dvd_antisymm ∅ ∅ j f;subst h;show(?_,rfl);show Int.eq_of_mul_eq_mul_right ∅ e
theorem JmM{t b:Int}(h:b≠0):(top t b).natAbs<=t.natAbs:=by
 have c:=JeP (t:=t) h;have d:(by_ t b).natAbs≠0:=by have:=by_ne (t:=t) h;ac_nf
 have a:=congrArg Int.natAbs c;rw[Int.natAbs_mul]at a;rw[<- a];show Nat.le_mul_of_pos_right _ ∅
theorem bot_le{t b:Int}(h:b≠0):(bot t b).natAbs<=b.natAbs:=by
 have c:=Jea (t:=t) h;have d:(by_ t b).natAbs≠0:=by have:=by_ne (t:=t) h;ac_nf
 have a:=congrArg Int.natAbs c;rw[Int.natAbs_mul]at a
 calc (bot t b).natAbs<=(bot t b).natAbs*(by_ t b).natAbs:=Nat.le_mul_of_pos_right _ ∅
  _=b.natAbs:=a
theorem JkF{t b:Int}(h:b≠0):(if b<0 then -t else t).fdiv (g (if b<0 then -t else t) (if b<0 then -b else b))=top t b/\(if b<0 then -b else b).fdiv (g (if b<0 then -t else t) (if b<0 then -b else b))=bot t b:=by
 have f:=JeP (t:=t) h;have d:=Jea (t:=t) h;have j:=g_pos (a:=t) h;by_cases c:b<0
 .have e:by_ t b = -(g t b):=by unfold by_;rw[if_pos c]
  simp only[if_pos c];have i:g (-t) (-b)=g t b:=by unfold g;simp[Int.neg_gcd,Int.gcd_neg]
  rw[i];rw[e,Int.mul_neg]at f d;constructor
  .have : -t=top t b*g t b:=by ac_nf
   rw[this,Int.mul_fdiv_cancel _ ∅]
  .have : -b=bot t b*g t b:=by ac_nf
   rw[this,Int.mul_fdiv_cancel _ ∅]
 .have e:by_ t b=g t b:=by unfold by_;rw[if_neg c]
  simp only[if_neg c];unfold top bot;rw[e];show(rfl,rfl)
theorem Jlz{n k:Nat}(h:n<2 ^ k)(hk:k<9000):n.log2<9000:=by
 by_cases z:n=0
 .rw[z];decide
 .show Nat.lt_trans ((Nat.log2_lt z).mpr h) hk
def Sz(n:Nat)(i:Int):Prop:=i.natAbs<2 ^ n
theorem Sz.mono{m n:Nat}{i:Int}(h:Sz m i)(k:m<=n):Sz n i:=Nat.lt_of_lt_of_le h (Nat.pow_le_pow_right ⋯ k)
theorem Sz.mul{m n:Nat}{i j:Int}(h:Sz m i)(k:Sz n j):Sz (m+n) (i*j):=by
 unfold Sz at *;rw[Int.natAbs_mul,Nat.pow_add];show Nat.mul_lt_mul'' h k
theorem Sz.add{n:Nat}{i j:Int}(h:Sz n i)(k:Sz n j):Sz (n+1) (i+j):=by
 unfold Sz at *;have:=Int.natAbs_add_le i j;rw[Nat.pow_succ];ac_nf
theorem Sz.neg{n:Nat}{i:Int}(h:Sz n i):Sz n (-i):=by
 unfold Sz at *;rw[Int.natAbs_neg];show h
theorem Sz.top{n:Nat}{t b:Int}(hb:b≠0)(h:Sz n t):Sz n (Mth.top t b):=Nat.lt_of_le_of_lt (JmM hb) h
theorem Sz.bot{n:Nat}{t b:Int}(hb:b≠0)(h:Sz n b):Sz n (Mth.bot t b):=Nat.lt_of_le_of_lt (bot_le hb) h
theorem Sz.lit{n:Nat}{i:Int}(h1 : -(2 ^ n)<i)(h2:i<2 ^ n):Sz n i:=by
 unfold Sz;have e:((2 ^ n:Nat):Int)=2 ^ n:=by simp
 ac_nf
end Mth
namespace Mth
theorem Jcu{a b:Int}(h:g a b=1):Int.gcd a b=1:=by unfold g at h;ac_nf
theorem Jd1{a b:Int}(h:Int.gcd a b=1):g a b=1:=by unfold g;rw[h];rfl
theorem Jcf{t x y:Int}(h1:Int.gcd t x=1)(h2:Int.gcd t y=1):Int.gcd t (x*y)=1:=by
 unfold Int.gcd at *;rw[Int.natAbs_mul];show Nat.Coprime.mul_right h1 h2
theorem Je5{x y:Int}(h:∀ k:Int,k∣x->k∣y->k∣1):Int.gcd x y=1:=by
 have:=h (Int.gcd x y:Nat) (Int.gcd_dvd_left ..) (Int.gcd_dvd_right ..);have z:=Int.natAbs_dvd_natAbs.mpr this;simp at z;show z
theorem Je6{k x y:Int}(h:Int.gcd x y=1)(h1:k∣x)(h2:k∣y):k∣1:=by
 have z:=Int.dvd_coe_gcd h1 h2;rw[h]at z;show z
theorem Jck{t u x:Int}(h:Int.gcd t x=1)(d:u∣t):Int.gcd u x=1:=Je5 λk b a=>Je6 h (Int.dvd_trans b d) a
theorem Ja3{x y:Int}(h:Int.gcd x y=1):Int.gcd y x=1:=by rw[Int.gcd_comm];show h
theorem Jiw{a b c d:Int}(h1:Int.gcd a b=1)(h2:Int.gcd d b=1):Int.gcd (a*d+c*b) b=1:=by
 have : Int.gcd b (a*d)=1:=Jcf (Ja3 h1) (Ja3 h2);show Je5 λk g f=>Je6 this f ?_;have : k∣(a*d+c*b)-c*b:=Int.dvd_sub g (Int.dvd_mul_of_dvd_right f);have e:(a*d+c*b)-c*b=a*d:=by ac_nf
 rwa [e]at this
theorem Jcg{a d:Int}(h:d∣a)(hd:1<=d)(ha:1<=a):1<=a.fdiv d:=by
 have e:=JaR h ∅;rcases Int.lt_trichotomy (a.fdiv d) 0 with z | z | z
 .have:=Int.mul_neg_of_neg_of_pos z (show 0<d by ac_nf);ac_nf
 .rw[z]at e;ac_nf
 .ac_nf
theorem Jc2{b d s:Int}(hs:s=g b d)(p:1<=s):Int.gcd (b.fdiv s) (d.fdiv s)=1:=by
 have c:b.fdiv s*s=b:=JaR (by rw[hs];show JcO ..) ∅;have f:d.fdiv s*s=d:=JaR (by rw[hs];show JbW ..) ∅;have e:Int.gcd (b.fdiv s*s) (d.fdiv s*s)=Int.gcd (b.fdiv s) (d.fdiv s)*s.natAbs:=Int.gcd_mul_right ..;rw[c,f]at e;have a:Int.gcd b d=s.natAbs:=by rw[hs];unfold g;simp
 rw[a]at e;rcases Nat.lt_trichotomy (Int.gcd (b.fdiv s) (d.fdiv s)) 1 with z | z | z
 .have : Int.gcd (b.fdiv s) (d.fdiv s)=0:=by ac_nf
  rw[this]at e;ac_nf
 .show z
 .have:=Nat.mul_le_mul_right s.natAbs z;ac_nf
theorem JlR{a b c d:Int}(hb:1<=b)(hd:1<=d)(h1:g a b=1)(h2:g c d=1){s t r:Int}(hs:s=g b d)(ht:t=a*d.fdiv s+c*b.fdiv s)(hr:r=g t s) :
  t.fdiv r=top (a*d+c*b) (b*d)/\b.fdiv s*d.fdiv r=bot (a*d+c*b) (b*d):=by
 have o:1<=s:=by rw[hs];have:=g_pos (a:=b) (b:=d) ∅;ac_nf
 have A:1<=r:=by rw[hr];have:=g_pos (a:=t) (b:=s) ∅;ac_nf
 have z:s∣b:=by rw[hs];show JcO ..
 have q:s∣d:=by rw[hs];show JbW ..
 have C:r∣t:=by rw[hr];show JcO ..
 have y:r∣s:=by rw[hr];show JbW ..
 have B:r∣d:=Int.dvd_trans y q;have u:=JaR z ∅;have l:=JaR q ∅;have w:=JaR C ∅;have x:=JaR B ∅;have G:=JaR y ∅;have N:=Jcg z o hb;have M:=Jcg q o hd;have F:=Jcg B A hd;have f:=Jc2 hs o;have p:Int.gcd (t.fdiv r) (s.fdiv r)=1:=Jc2 hr A;have m:d.fdiv r=d.fdiv s*s.fdiv r:=by
  show Int.eq_of_mul_eq_mul_right (a:=r) ∅ ?_;rw[x,Int.mul_assoc,G,l]
 have H:Int.gcd a (b.fdiv s)=1:=Ja3 (Jck (Ja3 (Jcu h1)) ⟨s,u.symm⟩);have J:Int.gcd c (d.fdiv s)=1:=Ja3 (Jck (Ja3 (Jcu h2)) ⟨s,l.symm⟩);have L:Int.gcd t (b.fdiv s)=1:=by rw[ht];show Jiw H (Ja3 f)
 have I:Int.gcd t (d.fdiv s)=1:=by rw[ht,Int.add_comm];show Jiw J f
 have n:g (t.fdiv r) (b.fdiv s*d.fdiv r)=1:=Jd1 (by
  rw[m];have k:t.fdiv r∣t:=⟨r,w.symm⟩;show Jcf (Jck L k) (Jcf (Jck I k) p))
 have e:b*d≠0:=Int.mul_ne_zero ∅ ∅;have h:=g_low (t:=a*d+c*b) e;have i:=Jct (t:=a*d+c*b) e;have j:=cross (t:=a*d+c*b) e;have v:1<=b.fdiv s*d.fdiv r:=by
  have:=Int.mul_pos (show 0<b.fdiv s by ac_nf) (show 0<d.fdiv r by ac_nf);ac_nf
 have K:t*s=a*d+c*b:=by
  rw[ht,Int.add_mul,Int.mul_assoc,Int.mul_assoc,l,u]
 have D:t.fdiv r*(b*d)=(a*d+c*b)*(b.fdiv s*d.fdiv r):=by
  have E:(t.fdiv r*(b*d))*r=((a*d+c*b)*(b.fdiv s*d.fdiv r))*r:=by
   calc (t.fdiv r*(b*d))*r=(t.fdiv r*r)*(b*d):=by ac_rfl
    _=t*((b.fdiv s*s)*d):=by rw[w,u]
    _=(t*s)*(b.fdiv s*d):=by ac_rfl
    _=(a*d+c*b)*(b.fdiv s*(d.fdiv r*r)):=by rw[K,x]
    _=((a*d+c*b)*(b.fdiv s*d.fdiv r))*r:=by ac_rfl
  show Int.eq_of_mul_eq_mul_right ∅ E
 show JdE v i n h ?_;show Int.eq_of_mul_eq_mul_right (a:=b*d) e ?_
 calc (t.fdiv r*bot (a*d+c*b) (b*d))*(b*d)=(t.fdiv r*(b*d))*bot (a*d+c*b) (b*d):=by ac_rfl
  _=((a*d+c*b)*bot (a*d+c*b) (b*d))*(b.fdiv s*d.fdiv r):=by rw[D];ac_rfl
  _=(top (a*d+c*b) (b*d)*(b*d))*(b.fdiv s*d.fdiv r):=by rw[j]
  _=(top (a*d+c*b) (b*d)*(b.fdiv s*d.fdiv r))*(b*d):=by ac_rfl
theorem Jec{a d:Int}(h:d∣a)(hd:1<=d):(a.fdiv d).natAbs<=a.natAbs:=by
 have e:=congrArg Int.natAbs (JaR h (show d≠0 by ac_nf));rw[Int.natAbs_mul]at e
 calc (a.fdiv d).natAbs<=(a.fdiv d).natAbs*d.natAbs:=Nat.le_mul_of_pos_right _ ∅
  _=a.natAbs:=e
theorem Sz.fdiv{n:Nat}{a d:Int}(h:Sz n a)(k:d∣a)(hd:1<=d):Sz n (a.fdiv d):=Nat.lt_of_le_of_lt (Jec k hd) h
theorem g_neg{a b:Int}:g (-a) b=g a b:=by unfold g;simp[Int.neg_gcd]
end Mth
namespace Mth
theorem Jkj{a b c d:Int}(hb:1<=b)(hd:1<=d)(h1:g a b=1)(h2:g c d=1){u v:Int}(hu:u=g a d)(hv:v=g c b) :
  a.fdiv u*c.fdiv v=top (a*c) (b*d)/\b.fdiv v*d.fdiv u=bot (a*c) (b*d):=by
 have s:1<=u:=by rw[hu];have:=g_pos (a:=a) (b:=d) ∅;ac_nf
 have n:1<=v:=by rw[hv];have:=g_pos (a:=c) (b:=b) ∅;ac_nf
 have A:u∣a:=by rw[hu];show JcO ..
 have l:u∣d:=by rw[hu];show JbW ..
 have z:v∣c:=by rw[hv];show JcO ..
 have q:v∣b:=by rw[hv];show JbW ..
 have m:=JaR A ∅;have o:=JaR l ∅;have p:=JaR z ∅;have r:=JaR q ∅;have E:=Jcg q n hb;have D:=Jcg l s hd;have C:=Jc2 hu s;have y:=Jc2 hv n;have x:Int.gcd (a.fdiv u) (b.fdiv v)=1:=Ja3 (Jck (Ja3 (Jck (Jcu h1) ⟨u,m.symm⟩)) ⟨v,r.symm⟩);have B:Int.gcd (c.fdiv v) (d.fdiv u)=1:=Ja3 (Jck (Ja3 (Jck (Jcu h2) ⟨v,p.symm⟩)) ⟨u,o.symm⟩);have j:g (a.fdiv u*c.fdiv v) (b.fdiv v*d.fdiv u)=1:=Jd1 (Ja3 (Jcf (Ja3 (Jcf x C)) (Ja3 (Jcf y B))));have e:b*d≠0:=Int.mul_ne_zero ∅ ∅;have f:=g_low (t:=a*c) e;have h:=Jct (t:=a*c) e;have i:=cross (t:=a*c) e;have k:1<=b.fdiv v*d.fdiv u:=by
  have:=Int.mul_pos (show 0<b.fdiv v by ac_nf) (show 0<d.fdiv u by ac_nf);ac_nf
 have w:(a.fdiv u*c.fdiv v)*(b*d)=(a*c)*(b.fdiv v*d.fdiv u):=by
  calc (a.fdiv u*c.fdiv v)*(b*d)=(a.fdiv u*c.fdiv v)*((b.fdiv v*v)*(d.fdiv u*u)):=by rw[r,o]
   _=((a.fdiv u*u)*(c.fdiv v*v))*(b.fdiv v*d.fdiv u):=by ac_rfl
   _=(a*c)*(b.fdiv v*d.fdiv u):=by rw[m,p]
 show JdE k h j f ?_;show Int.eq_of_mul_eq_mul_right (a:=b*d) e ?_
 calc ((a.fdiv u*c.fdiv v)*bot (a*c) (b*d))*(b*d)=((a.fdiv u*c.fdiv v)*(b*d))*bot (a*c) (b*d):=by ac_rfl
  _=((a*c)*bot (a*c) (b*d))*(b.fdiv v*d.fdiv u):=by rw[w];ac_rfl
  _=(top (a*c) (b*d)*(b*d))*(b.fdiv v*d.fdiv u):=by rw[i]
  _=(top (a*c) (b*d)*(b.fdiv v*d.fdiv u))*(b*d):=by ac_rfl
theorem JlA{t b:Int}(h:b<0):top (-t) (-b)=top t b/\bot (-t) (-b)=bot t b:=by
 have a:=JkF (t:=t) (b:=b) ∅;have c:=JkF (t:=-t) (b:=-b) ∅;rw[if_pos h,if_pos h]at a;rw[if_neg ∅,if_neg ∅]at c;show(c.1.symm.trans a.1,c.2.symm.trans a.2)
theorem Jmc{a b:Int}:g a (-b)=g a b:=by unfold g;simp[Int.gcd_neg]
theorem JkC(a b:Int):g a b=g b a:=by unfold g;rw[Int.gcd_comm]
end Mth
namespace L2
open PySem PySem.Spec PyProof.Rows
section
variable{σ:St}{H:Hp}{Q:VK}{u:TS}{ta tb te:TE}{tA:TA}{r:R2}{E:XK}{sp:Sp}{D:Ends}{t:TS}{g:TG}{K:W.Frag}
theorem y84y:tSeq t u D σ H=t { D with nx:=u D } σ H:=rfl
theorem y73y:tNext D σ H=D.nx σ H:=rfl
theorem y2by:tAsg te g D σ H=te σ H λx H1=>g x σ H1 D.nx:=rfl
variable{v:V}
theorem y6ey{i:Nat}{R:St->Hp->Prop}:gName i v σ H R=R (σ.set i (some v)) H:=rfl
theorem y81y:tRet te D σ H=te σ H D.rt:=rfl
theorem y48y:tDrop te D σ H=te σ H λ_ H1=>D.nx σ H1:=rfl
theorem y2ey:tC v σ H Q=Q v H:=rfl
theorem y7ay:tOp r ta tb σ H Q=ta σ H λx H1=>tb σ H1 λy H2=>r x y H2 Q:=rfl
theorem y94y{f:V->Hp->VK->Prop}:tUn f ta σ H Q=ta σ H λx H1=>f x H1 Q:=rfl
theorem y30y{f:List V->Hp->VK->Prop}:tCB f tA σ H Q=tA σ H λvs H1=>f vs H1 Q:=rfl
variable{R:List V->Hp->Prop}
theorem y3dy:tCons ta tA σ H R=ta σ H λx H1=>tA σ H1 λxs H2=>R (x::xs) H2:=rfl
theorem y74y:tNil σ H R=R [] H:=rfl
variable{dvs:List V}
theorem y2fy:tCall sp dvs E tA σ H Q=tA σ H λvs H1=>sp (vs++dvs) H1 Q E:=rfl
variable{R:Bool->Hp->Prop}
theorem y8ay:tTest te σ H R=te σ H λx H'=>∃ k,x=.bl k/\R k H':=rfl
theorem y23y:tB te σ H R=te σ H λx H'=>∃ k,x=.bl k/\R k H':=rfl
variable{a b:TT}
theorem y29y:tAnd a b σ H R=a σ H λc H1=>if c=true then b σ H1 R else R false H1:=rfl
theorem y7by:tOr a b σ H R=a σ H λc H1=>if c=true then R true H1 else b σ H1 R:=rfl
theorem y76y:tNot a σ H R=a σ H λc H1=>R (!c) H1:=rfl
theorem y2ay:tAndV ta tb σ H Q=ta σ H λx H1=>∃ c,x=.bl c/\if c=true then tb σ H1 Q else Q (.bl false) H1:=rfl
theorem y7cy:tOrV ta tb σ H Q=ta σ H λx H1=>∃ c,x=.bl c/\if c=true then Q (.bl true) H1 else tb σ H1 Q:=rfl
theorem y78y:tNotV ta σ H Q=ta σ H λx H1=>∃ c,x=.bl c/\Q (.bl (!c)) H1:=rfl
theorem y5cy{c:TT}:tIfS c t u D σ H=c σ H λb H1=>if b=true then t D σ H1 else u D σ H1:=rfl
theorem y96y{i:Nat}:tVar i σ H Q=∃ v,σ[i]?=some (some v)/\Q v H:=rfl
theorem y26y{i j:Int}:rAddU K (.int i) (.int j) H Q=Q (.int (i+j)) H:=rfl
theorem y27y{i j:Str}:rAddU K (.str i) (.str j) H Q=(i.length+j.length<=sizeLine/\Q (.str (i++j)) H):=rfl
variable{j:Int}
theorem y88y{f:Int->Int->V}{i:Int}:rI0 f (.int i) (.int j) H Q=Q (f i j) H:=by
 unfold rI0;simp
theorem y72y{f:Int->V}{i:Int}:rU f (.int i) H Q=Q (f i) H:=by
 unfold rU;simp
theorem y4dy{i:Int}:Jjk (.int i) (.int j) H Q=(DivOk j/\Q (.int (i.fdiv j)) H):=rfl
theorem y6ay{i:Int}:rModU (.int i) (.int j) H Q=(j≠0/\Q (.int (i.fmod j)) H):=rfl
theorem y7fy{i:Int}:rPowU (.int i) (.int j) H Q=(CPow i j/\Q (.int (i ^ j.toNat)) H):=rfl
theorem y33y{p:Int->Int->Bool}{i:Int}:rCmpU p (.int i) (.int j) H Q=Q (.bl (p i j)) H:=rfl
theorem y4by{i:Int}:rEqU K (.int i) (.int j) H Q=Q (.bl (decide (i=j))) H:=rfl
theorem y70y{i:Int}:rNeU K (.int i) (.int j) H Q=Q (.bl (!decide (i=j))) H:=rfl
variable{j:Str}
theorem y4cy{i:Str}:rEqU K (.str i) (.str j) H Q=Q (.bl (decide (i=j))) H:=rfl
theorem y71y{i:Str}:rNeU K (.str i) (.str j) H Q=Q (.bl (!decide (i=j))) H:=rfl
theorem y6fy{i j:Bool}:rNeU K (.bl i) (.bl j) H Q=Q (.bl (!decide (i=j))) H:=rfl
theorem y8fy:tTup tA σ H Q=tA σ H λxs H1=>xs.length<=sizeLine/\∀ p,H1 p=none->Q (.ref p) (upd H1 p (.tup xs)):=rfl
theorem y66y:tLst tA σ H Q=tA σ H λxs H1=>xs.length<=sizeLine/\∀ p,H1 p=none->Q (.ref p) (upd H1 p (.lst xs)):=rfl
variable{x:V}{T:String}
theorem y62y:rIsi K [x, .ty T] H Q=(T∈["int","str","bool","list","tuple"]/\∃ t,tyN K H x t/\Q (.bl (isiB t T)) H):=rfl
theorem y25y{i:Int}:rAbs [.int i] H Q=Q (.int (if i<0 then -i else i)) H:=rfl
variable{j:Int}
theorem y69y{i:Int}:rMin [.int i, .int j] H Q=Q (.int (if j<i then j else i)) H:=rfl
theorem y91y{i:Int}{s:String}:tyN K H (.int i) s=(s="int"):=rfl
theorem y93y{i:Str}{s:String}:tyN K H (.str i) s=(s="str"):=rfl
end
theorem Jhp:bootBuiltins "abs"=some (.builtin "abs"):=by decide +kernel
theorem Jbe:bootBuiltins "len"=some (.builtin "len"):=by decide +kernel
theorem Jks:bootBuiltins "min"=some (.builtin "min"):=by decide +kernel
theorem Jkt:bootBuiltins "sum"=some (.builtin "sum"):=by decide +kernel
theorem Jf1:bootBuiltins "sorted"=some (.builtin "sorted"):=by decide +kernel
theorem Jbc:bootBuiltins "isinstance"=some (.builtin "isinstance"):=by decide +kernel
theorem Jl7:bootBuiltins "all"=some (.builtin "all"):=by decide +kernel
theorem Jim:bootBuiltins "int"=some (.type "int"):=by decide +kernel
theorem Jl8:bootBuiltins "str"=some (.type "str"):=by decide +kernel
theorem Jil:bootBuiltins "bool"=some (.type "bool"):=by decide +kernel
theorem Jin:bootBuiltins "list"=some (.type "list"):=by decide +kernel
theorem Jfi:bootBuiltins "tuple"=some (.type "tuple"):=by decide +kernel
theorem Jfh:bootBuiltins "dict"=some (.type "dict"):=by decide +kernel
theorem JjL:bootBuiltins "range"=some (.type "range"):=by decide +kernel
theorem Jio:bootBuiltins "zip"=some (.type "zip"):=by decide +kernel
theorem yby:isiB "int" "int"=true:=by decide
theorem yay:isiB "int" "bool"=false:=by decide
theorem y17y:isiB "str" "str"=true:=by decide
theorem y1dy:isiB "tuple" "tuple"=true:=by decide
theorem y1fy:("int"∈["int","str","bool","list","tuple"])=True:=by simp
theorem y21y:("str"∈["int","str","bool","list","tuple"])=True:=by simp
theorem y1ey:("bool"∈["int","str","bool","list","tuple"])=True:=by simp
theorem y22y:("tuple"∈["int","str","bool","list","tuple"])=True:=by simp
variable{P:Program}{scope:Scope}{A:Around}{H:Hp}
theorem y24y{CX:CXT}{w:World}{K:W.Frag}{mg:Str->Option Value}{base:Heap}{N:List Str}{qual:Str}{f:Addr}{cd:Value}{outer:List Env}{s:Shared}{E:XK}:(cxOf CX P w K mg base N qual scope f cd A outer s H E).K=K:=rfl
def ForR(lo:Int)(n:Nat)(g:TG)(tb:TS)(D:Ends)(σ : St)(H:Hp):Prop:=∃ W:Nat->Nat->St->Hp->Prop,(∃ m,W 0 m σ H)/\∀ i m σ H,W i m σ H ->
 ((Itr lo n).stop i H/\D.nx σ H)\/((Itr lo n).go i H/\∃ N:St->Hp->Prop,(∀ σ' H',N σ' H'->∃ m',m'<m/\W (i+1) m' σ' H')/\∀ x H',(Itr lo n).yld i H x H'->g x σ H' λσ2 H2=>tb { D with nx:=N,ct:=N,bk:=D.nx } σ2 H2)
def ForA(K:W.Frag)(a:Addr)(g:TG)(tb:TS)(D:Ends)(σ : St)(H:Hp):Prop :=
 ((∃ xs,SqL K H a xs)/\∃ W:Nat->Nat->St->Hp->Prop,(∃ m,W 0 m σ H)/\∀ i m σ H,W i m σ H ->
  ((Itl K a).stop i H/\D.nx σ H)\/((Itl K a).go i H/\∃ N:St->Hp->Prop,(∀ σ' H',N σ' H'->∃ m',m'<m/\W (i+1) m' σ' H')/\∀ x H',(Itl K a).yld i H x H'->g x σ H' λσ2 H2=>tb { D with nx:=N,ct:=N,bk:=D.nx } σ2 H2)) \/
 ((∃ xs,SqT K H a xs)/\∃ W:Nat->Nat->St->Hp->Prop,(∃ m,W 0 m σ H)/\∀ i m σ H,W i m σ H ->
  ((Itt K a).stop i H/\D.nx σ H)\/((Itt K a).go i H/\∃ N:St->Hp->Prop,(∀ σ' H',N σ' H'->∃ m',m'<m/\W (i+1) m' σ' H')/\∀ x H',(Itt K a).yld i H x H'->g x σ H' λσ2 H2=>tb { D with nx:=N,ct:=N,bk:=D.nx } σ2 H2))
variable{ta:TA}{tb:TS}{σ:St}
theorem y50y{g:TG}{D:Ends}:tFor (iRng1 ta) g tb D σ H=ta σ H λvs H1=>∃ j:Int,vs=[.int j]/\-(2 ^ 62)<=j/\j<2 ^ 62/\ForR 0 j.toNat g tb D σ H1:=rfl
theorem y51y{g:TG}{D:Ends}:tFor (iRng2 ta) g tb D σ H=ta σ H λvs H1=>∃ i j:Int,vs=[.int i, .int j]/\(-(2 ^ 62)<=i/\i<2 ^ 62/\-(2 ^ 62)<=j/\j<2 ^ 62)/\ForR i (j-i).toNat g tb D σ H1:=rfl
theorem y52y{K:W.Frag}{tl:TE}{g:TG}{D:Ends}:tFor (iAny K tl) g tb D σ H=tl σ H λx H1=>∃ a,x=.ref a/\ForA K a g tb D σ H1:=rfl
variable{n:Nat}
theorem ForR.by{lo:Int}{g:TG}{D:Ends}(Pv:Nat->St->Hp->Prop)(h0:Pv 0 σ H)
  (hs:∀ i σ H,i<n->Pv i σ H->g (.int (lo+i)) σ H λσ2 H2=>tb { D with nx:=Pv (i+1),ct:=Pv (i+1),bk:=D.nx } σ2 H2) (hd:∀ σ H,Pv n σ H->D.nx σ H):ForR lo n g tb D σ H:=JiH Pv h0 hs hd
variable{o:HO}
theorem Jep{R:V->Hp->Prop}(h:∀ p H1,Same H H1->H1 p=some o->R (.ref p) H1):∀ p,H p=none->R (.ref p) (upd H p o):=λp a=>
 h p _ (λb u q=>by rw[Jai (Jah q a)];show q) Jam
variable{H':Hp}{p:Addr}
theorem newS(h:H p=none)(e:upd H p o=H'):Same H H':=λb u q=>by rw[<- e,Jai (Jah q h)];show q
theorem newE(e:upd H p o=H'):H' p=some o:=by rw[<- e,Jam]
theorem Jfg{i:Int}(h:Mth.Sz n i):Builtin.Int.intBits i<=n:=by
 unfold Builtin.Int.intBits;split
 .show Nat.zero_le _
 .rename_i z;have : i.natAbs.log2<n:=(Nat.log2_lt (by simpa using z)).mpr h;ac_nf
variable{j:Int}
theorem mulOk{m:Nat}{i:Int}(h:Mth.Sz m i)(k:Mth.Sz n j)(hm:autoParam (m<=2 ^ 20) Au)(hn:autoParam (n<=2 ^ 20) Au):IntMulOk i j:=IntMulOk.of_bits (Nat.le_trans (Jfg h) hm) (Nat.le_trans (Jfg k) hn)
theorem JhD{i:Int}(h:Mth.Sz 64 j):IntMulOk i j:=IntMulOk.of_right (Jfg h)
theorem divOk(h:j≠0)(k:Mth.Sz n j)(hn:autoParam (n<9000) Au):DivOk j:=⟨h,Mth.Jlz k hn⟩
theorem len0:([]:List V).length<=sizeLine:=by decide
variable{a b:V}
theorem len2:[a,b].length<=sizeLine:=by show 2<=sizeLine;decide
variable{c:V}
theorem len3:[a,b,c].length<=sizeLine:=by show 3<=sizeLine;decide
theorem len5{d e:V}:[a,b,c,d,e].length<=sizeLine:=by show 5<=sizeLine;decide
theorem JaK(h:decide (j≠0/\j.natAbs<2 ^ 64)=true):DivOk j:=by
 have z:=of_decide_eq_true h;show divOk z.1 (n:=64) z.2
theorem JaL{i:Int}(h:decide (j.natAbs<2 ^ 64)=true):IntMulOk i j:=by
 have z:j.natAbs<2 ^ 64:=of_decide_eq_true h;show JhD z
theorem JaA{i:Int}(h:decide (i.natAbs<2 ^ 64)=true):IntMulOk i j:=by
 have z:i.natAbs<2 ^ 64:=of_decide_eq_true h;show IntMulOk.of_left (Jfg (n:=64) z)
theorem JaM{i:Int}(h:decide (0<=j/\j<=1000000/\i.natAbs<2 ^ 64)=true):CPow i j:=by
 have z:0<=j/\j<=1000000/\i.natAbs<2 ^ 64:=of_decide_eq_true h;show z
def FrV(K:W.Frag)(H:Hp)(v:V)(a b:Int):Prop:=∃ p,v=.ref p/\SqT K H p [.int a, .int b]
variable{v:V}{a b:Int}
theorem FrV.same{K:W.Frag}(S:Same H H')(h:FrV K H v a b):FrV K H' v a b:=by
 let(p,e,q):=h;show(p,e,q.same S)
theorem FrV.of{K:W.Frag}(h:H p=some (.tup [.int a, .int b])):FrV K H (.ref p) a b:=⟨p,rfl,SqT.of h⟩
variable{x:V}{r:List V}{Q:VK}
theorem ixT0{K:W.Frag}(h:SqT K H p (x::r))(q:Q x H):rIxU K (.ref p) (.int 0) H Q:=⟨_,x, .inr h,Jd9 (j:=0) rfl,q⟩
variable{y:V}
theorem ixT1{K:W.Frag}(h:SqT K H p (x::y::r))(q:Q y H):rIxU K (.ref p) (.int 1) H Q:=⟨_,y, .inr h,Jd9 (j:=1) rfl,q⟩
theorem ixF0{K:W.Frag}(h:FrV K H v a b)(q:Q (.int a) H):rIxU K v (.int 0) H Q:=by
 let(p,rfl,z):=h;show ixT0 z q
theorem ixF1{K:W.Frag}(h:FrV K H v a b)(q:Q (.int b) H):rIxU K v (.int 1) H Q:=by
 let(p,rfl,z):=h;show ixT1 z q
theorem FrV.rep{K:W.Frag}(h:FrV K H v a b):Rep K H (.tup [.int a, .int b]) v:=by
 let(p,rfl,z):=h;simp only[Rep,RepL];show(p,_,rfl,z,_,_,rfl,rfl,_,_,rfl,rfl,rfl)
variable{c d:Int}
theorem eqF{K:W.Frag}(h:FrV K H x a b)(g:FrV K H y c d)(q:Q (.bl (decide (a=c)&&decide (b=d))) H):rEqU K x y H Q:=by
 have e:eqD (.tup [.int a, .int b]) (.tup [.int c, .int d])=(decide (a=c)&&decide (b=d)):=by
  simp only[eqD,eqL,Bool.and_true]
  congr 1 <;> simp[BEq.beq]
 have f:=h.rep;have i:=g.rep;let(p,rfl,_):=h;let(j,rfl,_):=g;show(_,_,f,i,by simp[depD,depL],rfl,by rw[e];show q)
theorem neF{K:W.Frag}(h:FrV K H x a b)(g:FrV K H y c d)(q:Q (.bl (!(decide (a=c)&&decide (b=d)))) H):rNeU K x y H Q:=by
 have e:eqD (.tup [.int a, .int b]) (.tup [.int c, .int d])=(decide (a=c)&&decide (b=d)):=by
  simp only[eqD,eqL,Bool.and_true]
  congr 1 <;> simp[BEq.beq]
 have f:=h.rep;have i:=g.rep;let(p,rfl,_):=h;let(j,rfl,_):=g;show(_,_,f,i,by simp[depD,depL],rfl,by rw[e];show q)
variable{xs:List V}
theorem ixT{K:W.Frag}{i:Nat}(h:SqT K H p xs)(e:xs[i]?=some v)(q:Q v H):rIxU K (.ref p) (.int (i:Int)) H Q:=⟨xs,v, .inr h,Jd9 e,q⟩
theorem ixL{K:W.Frag}{i:Nat}(h:SqL K H p xs)(e:xs[i]?=some v)(q:Q v H):rIxU K (.ref p) (.int (i:Int)) H Q:=⟨xs,v, .inl h,Jd9 e,q⟩
section
open PySem.W PySem.Builtin PySem.Builtin.ObjectAttr PySem.Builtin.Getset_descriptor
variable{prog:Program}{E:Value->Shared->Prop}{K:Frag}{x:Addr}{ox:Obj}{w:World}{s:Shared}{D:Addr}
end
variable{X:Cx}
section
variable{En:Ends}{u:TS}{ta tb te tc:TE}{gs:TGs}{tA:TA}{E:XK}{sp:Sp}{t:TS}{td:TE}{g:TG}{K:W.Frag}
theorem y86y{r:V->Option Int->Option Int->Hp->VK->Prop}{tl th:TO}:tSl r te tl th σ H Q=te σ H λx H1=>tl σ H1 λl H2=>th σ H2 λu H3=>r x l u H3 Q:=rfl
variable{R:Option Int->Hp->Prop}
theorem y7ey:tPart te σ H R=te σ H λx H1=>∃ i,x=.int i/\R (some i) H1:=rfl
theorem y75y:Jl2 σ H R=R none H:=rfl
theorem y8dy{D0:Addr}{i:Nat}{tx:St->Hp->VK->XK->Prop}{ts:TS}:JmK K D0 i tx ts En σ H=tx σ H (λ_ H1=>En.nx σ H1) λcls od H1=>∃ C,cls=.ref C/\Jik K C D0 /\
 ∀ ea,H1 ea=none->ts { nx:=λσ' H'=>En.nx (σ'.set i none) H',rt:=En.rt,bk:=λσ' H'=>En.bk (σ'.set i none) H',ct:=λσ' H'=>En.ct (σ'.set i none) H' } (σ.set i (some (.ref ea))) (upd H1 ea (ExcO ea C od)):=rfl
variable{dvs:List V}
theorem y97y{Qx:VK}{Ex:XK}:xCall sp dvs tA σ H Qx Ex=tA σ H λvs H1=>sp (vs++dvs) H1 Qx Ex:=rfl
variable{C:Addr}
theorem y80y:JkY E C tA En σ H=tA σ H λvs H1=>vs.length<=sizeLine/\E (.ref C) none H1:=rfl
end
def Its(x:Str):It:=⟨λi _=>i<x.cps.size,λi H v H'=>H'=H/\∃ c,x.cps[i]?=some c/\v=.str ⟨#[c]⟩,λi _=>i=x.cps.size⟩
variable{tg:Expr}{x:Str}
theorem Jgz{w:World}{K:W.Frag}{it:Addr}{n:String}{St:Nat->Heap->Prop}(hn:["enumerate","zip","dict_itemiterator","dict_reverseitemiterator","odict_iterator","itertools.zip_longest","itertools.pairwise"].contains n=false)
  (hst:∀ i h,St i h->∃ o vs,h.get? it=some o/\o.cls=.type n/\o.data=.fields vs) (mk:∀ A:Around,A.handled=none->Walks P w A it [it] [it] x.cps.size (SignAt x) St)
  (hself:∀(A:Around)(i:Nat)(s:Shared)(Q:Value->Shared->Prop)(E:Value->Shared->Prop),St i s.heap->Q (.ref it) s->wpAny (model P w) A (pyIter (.ref it)) Q E s):Turn P w K tg (Its x) [it] it St where
 mem:=by simp
 obj:=λi h g b a=>by
  obtain rfl:b=it:=by simpa using a
  let(o,vs,e,_,d):=hst i h g;show(o,e,λv z=>by rw[d]at z;cases z)
 keep:=λi h l g k=>(mk {} rfl).frame i h l g λb a o e=>k b a o e
 item:=by
  intro X J M p N i f s σ H E I m g q;subst J M p;let(B,t,R,C,G,D):=m it (by simp);show(mk X.A (I.ok.hd N)).item i s _ _ q g λv l r O j L=>?_;let(c,u,F,rfl):=O;have I1:Inv X f σ H { s with heap:=l,toks:=r }:=I.turned (λb o a e=>L b o (by simpa using a) e) B t C G D;let(o,vs,S,T,U):=hst _ _ j;show(_,rfl,go_of (s:={ s with heap:=l,toks:=r }) S T U hn ⟨.str ⟨#[c]⟩,H,I1,⟨u,rfl⟩,⟨rfl,c,F,rfl⟩,j,λb a=>(m b a).1⟩)
 done:=by
  intro X J M p N i f s σ H E I m g q;subst J M p;let(B,t,R,C,G,D):=m it (by simp);have y:i=x.cps.size:=q;subst y;show(mk X.A (I.ok.hd N)).done s _ _ g λl r L=>⟨rfl,I.turned (λb o a e=>L b o (by simpa using a) e) B t C G D⟩
 self:=hself
def iStr(tl:TE):TI:=λσ H R=>tl σ H λx H1=>∃ z,x=.str z/\R (Its z) H1
theorem Jmy{l:Expr}{tl:TE}(hl:PE X l tl):PI X tg l (iStr tl):=λf s σ H R I h=>by
 show thn (hl f s σ H _ I h) λv d ζ=>?_;let(x,k,I1,p,z,r,q):=ζ;subst r;let(t,rfl):=p;have key:∀(n:String),(n="str_ascii_iterator"\/n="str_iterator")->PIE X f σ tg R (.ref d.heap.objs.size) { d with heap:=d.heap.push { cls:=.type n,data:=.fields #[.str z t, .int 0 0] } }:=λn y=>by
  have u:Turn X.prog X.w X.K tg (Its z) [d.heap.objs.size] d.heap.objs.size (λi h=>h.IsStrIter d.heap.objs.size n z t i):=by
   rcases y with rfl | rfl
   .show Jgz (n:="str_ascii_iterator") ⋯ (λi h g=>let⟨o,a,b,c⟩:=g;⟨o,_,a,b,c⟩) (λA j=>Walks.strAscii j _ z t) λA i s Q E g q=>wpAny_pyIter_striter_ascii g q
   .show Jgz (n:="str_iterator") ⋯ (λi h g=>let⟨o,a,b,c⟩:=g;⟨o,_,a,b,c⟩) (λA j=>Walks.strWide j _ z t) λA i s Q E g q=>wpAny_pyIter_striter_wide g q
  show(d.heap.objs.size,[d.heap.objs.size],_,_,k,rfl,I1.kept (t':=d.toks) λb o e=>Heap.get?_push_of_some _ e,u,⟨_,Heap.get?_push_size _ rfl,rfl,rfl⟩,λb m=>?_,q);obtain rfl:b=d.heap.objs.size:=by simpa using m
  show I1.fpOk (Nat.le_refl _) (I1.hok.fresh (Nat.le_refl _))
 cases ha:z.cps.all (· < 128)
 .show wpAny_pyIter_wide ha (key _ (.inr rfl))
 .show wpAny_pyIter_ascii ha (key _ (.inl rfl))
abbrev Cx.inc(X:Cx)(N':List Str)(scope:Scope)(cl:List (Str × Addr))(fp:List Addr)(s2:Shared)(H2:Hp)(C:Addr):Cx :=
 { X with N:=N',s₀:=s2,H₀:=H2,env:=compEnvC scope cl C X.env,outer:=X.stack,ex:=fp,fn:=λ_=>false,pn:=[],xe:=λ_ _=>False }
variable{pins:List (Addr × Obj)}{H2:Hp}{s2:Shared}{N':List Str}{cl:List (Str × Addr)}{fp:List Addr}{C:Addr}
theorem Inv.incOk(I:Inv X pins σ H2 s2)(hf:∀ b∈fp,FpOk X pins H2 b)(hfp:∀ b∈fp,b<s2.heap.objs.size)(hk:scope.kind=.function)(hC:s2.heap.objs.size<=C)(hcl:∀ x c,cl.lookup x=some c->X.env.cells.lookup x=some c)
  (hhas:∀ y,((relabel scope X.env).names.lookup y=some .cell\/(relabel scope X.env).names.lookup y=some .free)->∃ c,cl.lookup y=some c):(X.inc N' scope cl fp s2 H2 C).Ok where
 mod:=I.ok.mod
 kind:=hk
 glob:=I.ok.glob
 blt:=I.ok.blt
 above:=hC
 inj:=λx y c f d=>I.ok.inj x y c (hcl x c f) (hcl y c d)
 has:=λy g=>hhas y g
 cab:=λx c h=>by cases h
 hd:=I.ok.hd
 frames:=I.ok.frames
 stk:=.inl rfl
 exf:=λb a=>⟨Nat.ne_of_lt (Nat.lt_of_lt_of_le (hfp b a) hC),λx c e=>(hf b a).2.2.2.2.1 x c (hcl x c e)⟩
 bs:=I.bs
 bsz:=Nat.le_trans I.ok.bsz I.sz
 noex:=λb o e a=>by
  rcases(hf b a).2.2.2.1 with z | z
  .show I.ok.noex b o e z
  .show absurd (Nat.lt_of_lt_of_le (Nat.lt_of_lt_of_le (Heap.lt_size e) I.ok.bsz) z) (Nat.lt_irrefl _)
 exfs:=λb a i=>by
  rcases mem_cons.mp (I.stkSub b i)with z | z
  .show(hf b a).2.1 z
  .show(hf b a).2.2.1 z
 funs:=I.stack
 frf:=I.stkFree
def JaF(cs:List (Nat × Str))(σ : St):St:=cs.map λp=>(σ[p.1]?).join
variable{s4:Shared}{own:List Str}{cs:List (Nat × Str)}
theorem Inv.capsLoc{m:Str->Option Value}(I:Inv X pins σ H2 s2)(ok:(X.inc (own++cs.map (·.2)) scope cl fp s2 H2 C).Ok)(kept:∀ c v,(∃ x,cl.lookup x=some c)->s2.heap.IsCell c v->s4.heap.IsCell c v)
  (hcl:∀ x c,cl.lookup x=some c->X.env.cells.lookup x=some c) (hcs:∀ p∈cs,X.N[p.1]?=some p.2/\X.env.scope.names.lookup p.2=some .cell/\(relabel scope X.env).names.lookup p.2=some .cell) :
  ∀(i:Nat)(x:Str)(v:V),(own++cs.map (·.2))[i]?=some x->(List.replicate own.length none++JaF cs σ)[i]?=some (some v)->∃ u,RelV v u/\Look (compEnvC scope cl C X.env) s4.heap m x u:=λi x v t e=>by
  by_cases h:i<own.length
  .rw[List.getElem?_append_left (by simpa using h),List.getElem?_replicate,if_pos h]at e;cases e
  .have b:(JaF cs σ)[i-own.length]?=some (some v):=by rw[List.getElem?_append_right (by simp;ac_nf)]at e;simpa using e
   have a:(cs.map (·.2))[i-own.length]?=some x:=by
    rwa [List.getElem?_append_right ∅]at t
   unfold JaF at b;rw[List.getElem?_map]at a b;cases q:cs[i-own.length]? with
   | none=>rw[q]at a;cases a
   | some p=>
    rw[q]at a b;obtain rfl:p.2=x:=by simpa using a
    have d:(σ[p.1]?).join=some v:=by simpa using b
    have f : σ[p.1]?=some (some v):=by
     cases z : σ[p.1]? with
     | none=>rw[z]at d;cases d
     | some o=>rw[z]at d;show congrArg some d
    let(r,j,l):=hcs p (List.mem_of_getElem? q);let(y,_,s):=I.loc;let(u,n,w):=s p.1 p.2 v r f (.inr (.inl j));show(u,n, .inr ⟨.inl l,?_⟩);let(c,g):=ok.has p.2 (.inl l);show(c,g,?_);rcases w with⟨k,_⟩ | ⟨_,c',e',hcell⟩
    .have k:X.env.scope.names.lookup p.2=some .local:=k;rw[j]at k;cases k
    .rw[hcl _ _ g]at e';cases e';show kept _ _ ⟨_,g⟩ hcell
theorem Inv.incStart{m:Str->Option Value}(I:Inv X pins σ H2 s2)(ok:(X.inc (own++cs.map (·.2)) scope cl fp s2 H2 C).Ok)(kept:∀ b o,s2.heap.get? b=some o->s4.heap.get? b=some o)(hos:s4.os=s2.os)(hg:s4.gens=s2.gens)(hm:s4.heap.Ns C m)
  (hC:s2.heap.objs.size<=C) (hcl:∀ x c,cl.lookup x=some c->X.env.cells.lookup x=some c)
  (hcs:∀ p∈cs,X.N[p.1]?=some p.2/\X.env.scope.names.lookup p.2=some .cell/\(relabel scope X.env).names.lookup p.2=some .cell) :
  Inv (X.inc (own++cs.map (·.2)) scope cl fp s2 H2 C) [] (List.replicate own.length none++JaF cs σ) H2 s4 where
 ok:=ok
 os:=hos
 bare:=by rw[hg];show I.bare
 base:=Un.kept kept
 loc:=⟨m,hm,λi x v g f _=>I.capsLoc (m:=m) ok (λc v _ ⟨o,a,d⟩=>⟨o,kept _ _ a,d⟩) hcl hcs i x v g f⟩
 cell:=λx c e=>by
  let(v,o,a,d):=I.cell x c (hcl x c e);show(v,o,kept _ _ a,d)
 free:=I.hok.fresh hC
 freeC:=λx c e=>I.freeC x c (hcl x c e)
 pin:=λp h=>by simp at h
 hok:=I.hok.kept kept
 len:=by simp[JaF]
theorem Inv.incAgain{s':Shared}{σ':St}{pl:List (Addr × Obj)}(I:Inv X pins σ H2 s2)(J:Inv (X.inc (own++cs.map (·.2)) scope cl fp s2 H2 C) pl σ' H' s')
  (hf:∀ b∈fp,FpOk X pins H2 b) (hcl:∀ x c,cl.lookup x=some c->X.env.cells.lookup x=some c) (hcs:∀ p∈cs,X.N[p.1]?=some p.2/\X.env.scope.names.lookup p.2=some .cell/\(relabel scope X.env).names.lookup p.2=some .cell) :
  Inv (X.inc (own++cs.map (·.2)) scope cl fp s2 H2 C) [] (List.replicate own.length none++JaF cs σ) H' s' where
 ok:=J.ok
 os:=J.os
 bare:=J.bare
 base:=J.base
 loc:=by
  let(m,a,_):=J.loc;show(m,a,λi x v j h _=>I.capsLoc (m:=m) J.ok (λc v ⟨x,d⟩ ⟨o,f,g⟩=>?_) hcl hcs i x v j h);have e:c∉fp:=λz=>(hf c z).2.2.2.2.1 x c (hcl x c d) rfl;by_cases a:c∈frs X.stack
  .let(l,z):=J.base.slot c o f (I.freeC x c (hcl x c d)) a e;show(_,z,g)
  .show(o,J.base.keep c o f (I.freeC x c (hcl x c d)) a e,g)
 cell:=J.cell
 free:=J.free
 freeC:=J.freeC
 pin:=λp k=>by simp at k
 hok:=J.hok
 len:=by simp[JaF]
section
variable{prog:Program}{E:Value->Shared->Prop}{R:Result->Shared->Prop}{w:World}{s:Shared}{elt iter:Expr}{ifs:List Expr}{pos:Pos}{env:Env}
theorem JhX{target:Expr}{it acc:Value}(J:Nat->Shared->Prop)
  (turn:∀ n s,J n s->wpAny (model prog w) A (pyNext it) (λr s1=>match r with
   | none=>R (.ok .next) s1
   | some v=>wpAny (model prog w) A (letOwnedTupleGo target it v) (λ_ s2=>wpAny (model prog w) A (assign target env v) (λ_ s3=>wpAny (model prog w) A (forIn ifs true λc r=>if r=true then do let ok <- isTrue c env (eval c env);pure (ForInStep.yield ok)else pure (ForInStep.yield r)) (λb s3'=>if b=true then wpAny (model prog w) A (eval elt env) (λx s4=>
     wpAny (model prog w) A (call (.builtin "list.append") [acc,x]) (λ_ s5=>∃ m,m<n/\J m s5) (λ_ _=>False) s4) (λ_ _=>False) s3' else∃ m,m<n/\J m s3') (λ_ _=>False) s3) (λ_ _=>False) s2) (λ_ _=>False) s1) (λ_ _=>False) s) (n:Nat) (h:J n s) :
  codeAny (model prog w) A (.compLoop (.ListComp elt [⟨target,iter,ifs,0⟩] scope pos) 0 it acc env) R s:=by
 show codeAny_loop rfl J (λn s e=>?_) n h;show wpAny _ A ((compTurn (.ListComp elt [⟨target,iter,ifs,0⟩] scope pos) 0 it acc env).onRaise (λy=>do noteFrame y env;theTreesLotGoes y)) _ _ s
 (show wpAny_noted ?_;rw[compTurn_list])
 show wpAny_bind (wpAny_standAt (wpAny_bind (wpAny_mono (turn n s e) (λr s1 d=>?_) λ_ _ z=>z.elim)));cases r with
 | none=>show wpAny_pure d
 | some v=>
  show wpAny_bind (wpAny_mono d (λ_ s2 f=>wpAny_bind (wpAny_mono f (λ_ s3 j=>?_) λ_ _ z=>z.elim)) λ_ _ z=>z.elim);show wpAny_bind (wpAny_mono j (λb s3' a=>?_) λ_ _ z=>z.elim);cases b with
  | true=>show wpAny_bind (wpAny_bind (wpAny_mono a (λx s4 g=>(wpAny_bind (wpAny_mono g (λ_ s5 i=>(wpAny_pure (wpAny_pure ⟨rfl,i⟩))) λ_ _ z=>z.elim))) λ_ _ z=>z.elim))
  | false=>show wpAny_bind (wpAny_pure (wpAny_pure ⟨rfl,a⟩))
end
def tComp(k:Nat)(cs:List (Nat × Str))(wi:TI)(g:TG)(te:TE):TE:=λσ H Q=>wi σ H λJ H1=>∃ W:Nat->Nat->List V->Hp->Prop,(∃ m,W 0 m [] H1)/\∀ i m ys H2,W i m ys H2->ys.length<=sizeLine /\
  ((J.stop i H2/\∀ p,H2 p=none->Q (.ref p) (upd H2 p (.lst ys))) \/
   (J.go i H2/\∀ x H3,J.yld i H2 x H3->g x (List.replicate k none++JaF cs σ) H3 λσ4 H4=>te σ4 H4 λy H5=>∃ m',m'<m/\W (i+1) m' (ys++[y]) H5))
theorem lstP{us:List Value}{v:Value}:(us.toArray.push v)=(us++[v]).toArray:=by simp
def JeO(k:Nat)(cs:List (Nat × Str))(wi:TI)(g:TG)(tt:TT)(te:TE):TE:=λσ H Q=>wi σ H λJ H1=>∃ W:Nat->Nat->List V->Hp->Prop,(∃ m,W 0 m [] H1)/\∀ i m ys H2,W i m ys H2->ys.length<=sizeLine /\
  ((J.stop i H2/\∀ p,H2 p=none->Q (.ref p) (upd H2 p (.lst ys))) \/
   (J.go i H2/\∀ x H3,J.yld i H2 x H3->g x (List.replicate k none++JaF cs σ) H3 λσ4 H4=>tt σ4 H4 λb H5=>if b=true then te σ4 H5 λy H6=>∃ m',m'<m/\W (i+1) m' (ys++[y]) H6 else∃ m',m'<m/\W (i+1) m' ys H5))
def PTs(X:Cx)(ifs:List Expr)(t:TT):Prop :=
 ∀(pins:List (Addr × Obj))(s:Shared)(σ : St)(H:Hp)(Q:Bool->Hp->Prop),Inv X pins σ H s->t σ H Q->wpAny (model X.prog X.w) X.A (forIn ifs true λc r=>if r=true then do let ok <- isTrue c X.env (eval c X.env);pure (ForInStep.yield ok)else pure (ForInStep.yield r)) (TP X pins σ Q) X.xe s
def tYes:TT:=λ_ H Q=>Q true H
theorem Jb3:PTs X [] tYes:=λ_ _ _ H _ I h=>wpAny_tests_nil ⟨H,I,h⟩
theorem Jdc{c:Expr}{t:TT}(h:PT X c t):PTs X [c] t:=λa s σ H Q I b=>wpAny_tests_one (h a s σ H Q I b)
variable{iter elt:Expr}{ifs:List Expr}{pos:Pos}{te:TE}{tt:TT}
theorem Je4{g:TG}{it:Addr}{tn:Nat->Heap->Prop}{J:It}
  {W:Nat->Nat->List V->Hp->Prop} {m0:Nat} {QN:List V->Hp->Prop} {RR:Value->Addr->Result->Shared->Prop} {E:Value->Shared->Prop} (hc:X.calm=true)
  (hg:∀ fp s2 H2 C,PG (X.inc (own++cs.map (·.2)) scope cl fp s2 H2 C) tg g) (ht:∀ fp s2 H2 C,PTs (X.inc (own++cs.map (·.2)) scope cl fp s2 H2 C) ifs tt) (he:∀ fp s2 H2 C,PE (X.inc (own++cs.map (·.2)) scope cl fp s2 H2 C) elt te)
  (hcell:∀ y∈scope.names,y.2≠.cell) (hkind:scope.kind=.function)
  (hcl:∀ x c,cl.lookup x=some c->X.env.cells.lookup x=some c) (hhas:∀ y,((relabel scope X.env).names.lookup y=some .cell\/(relabel scope X.env).names.lookup y=some .free)->∃ c,cl.lookup y=some c)
  (hcs:∀ p∈cs,X.N[p.1]?=some p.2/\X.env.scope.names.lookup p.2=some .cell/\(relabel scope X.env).names.lookup p.2=some .cell)
  (I2:Inv X pins σ H2 s2) (T:Turn X.prog X.w X.K tg J fp it tn) (st2:tn 0 s2.heap) (f2:∀ b∈fp,FpOk X pins H2 b) (w0:W 0 m0 [] H2)
  (turn:∀ i m ys H2,W i m ys H2->ys.length<=sizeLine/\((J.stop i H2/\QN ys H2)\/(J.go i H2/\∀ x H3,J.yld i H2 x H3->g x (List.replicate own.length none++JaF cs σ) H3 λσ4 H4=>tt σ4 H4 λb H5=>if b=true then te σ4 H5 λy H6=>∃ m',m'<m/\W (i+1) m' (ys++[y]) H6 else∃ m',m'<m/\W (i+1) m' ys H5)))
  (hRR:∀(D C:Addr)(s6:Shared)(H5:Hp)(ys:List V),(∀ h7,Heap.SameBut C s6.heap h7->Inv X pins σ (upd H5 D (.lst ys)) { s6 with heap:=h7 })->H5 D=none->H5 C=none->D≠C->(∃ m,s6.heap.Ns C m)->s2.heap.objs.size<=C->QN ys H5->RR (.ref D) C (.ok .next) s6) :
  wpAny (model X.prog X.w) X.A (newList []) (λacc s₃=>wpAny (model X.prog X.w) X.A (newFunctionEnv scope X.env.globals cl [] X.env.qual none .none (some X.env)) (λcenv s₄=>
   codeAny (model X.prog X.w) X.A (.compStart (.ListComp elt [⟨tg,iter,ifs,0⟩] scope pos) 0 (.ref it) acc { cenv with scope:=relabel scope X.env }) (RR acc cenv.locals) s₄) E s₃) E s2:=by
 have H:∀ b∈fp,b<s2.heap.objs.size:=λb d=>by
  let(o,e,_):=T.obj _ _ st2 b d;show Heap.lt_size e
 show wpAny_newObj_type (wpAny_newFunctionEnv hcell (by intro y hy;simp at hy) (λh4 t j=>?_) hkind);dsimp only at t j ⊢;generalize hH3:s2.heap.push { cls:=.type "list",dict:=none,data:=.seq ([]:List Value).toArray }=H3 at t j ⊢;have a4:H3.objs.size=s2.heap.objs.size+1:=by rw[<- hH3,Heap.size_push]
 have hC:s2.heap.objs.size<=H3.objs.size:=by ac_nf
 have l:s2.heap.objs.size≠H3.objs.size:=by ac_nf
 have a0:∀ b o,s2.heap.get? b=some o->h4.get? b=some o:=λb o e=>j.extBut b o (by have:=Heap.lt_size e;show Nat.ne_of_lt (Nat.lt_of_lt_of_le this hC)) (Heap.get?_push_of_some _ (hH3 ▸ Heap.get?_push_of_some _ e));have a3:h4.get? s2.heap.objs.size=some { cls:=.type "list",data:=.seq ([]:List Value).toArray }:=j.extBut _ _ l (Heap.get?_push_of_some _ (hH3 ▸ Heap.get?_push_size _ rfl));obtain⟨D,h⟩:∃ D,D=s2.heap.objs.size:=⟨_,rfl⟩;obtain⟨C,b5⟩:∃ C,C=H3.objs.size:=⟨_,rfl⟩;rw[<- b5]at a4 t j hC l ⊢;rw[<- h]at H a4 hC l a3 ⊢;have O:=I2.incOk (N':=own++cs.map (·.2)) (C:=C) f2 (λb d=>by rw[<- h];show H b d) hkind (by rw[<- h];show hC) hcl hhas;have I4:Inv (X.inc (own++cs.map (·.2)) scope cl fp s2 H2 C) [] (List.replicate own.length none++JaF cs σ) H2 { s2 with heap:=h4,toks:=s2.toks+([]:List (Str × Value)).length } :=
  I2.incStart (s4:={ s2 with heap:=h4,toks:=s2.toks+([]:List (Str × Value)).length }) O a0 rfl rfl t (by rw[<- h];show hC) hcl hcs
 have Dfree:H2 D=none:=I2.hok.fresh (Nat.le_of_eq h.symm);have I:∀ b o,s2.heap.get? b=some o->b≠D:=λb o e=>by
  rw[h];show Nat.ne_of_lt (Heap.lt_size e)
 have b0:∀ b o,s2.heap.get? b=some o->b≠C:=λb o e=>Nat.ne_of_lt (Nat.lt_of_lt_of_le (by rw[h];show Heap.lt_size e) hC);have Dfs:D∉frs X.stack:=λhm=>by
  let(_,o,e,_):=I2.stack.mem hm;show I _ _ e rfl
 have G:∀{σ':St}{H':Hp}{s':Shared}{us:List Value}{n:Nat}{pl:List (Addr × Obj)},Inv (X.inc (own++cs.map (·.2)) scope cl fp s2 H2 C) pl σ' H' s'->s'.heap.get? D=some { cls:=.type "list",data:=.seq us.toArray n }->H' D=none ->
   Inv (X.inc (own++cs.map (·.2)) scope cl fp s2 H2 C) [(D,{ cls:=.type "list",data:=.seq us.toArray n })] σ' H' s':=λ{σ' H' s' us n pl} J' e n'=>J'.pins_of λp U=>by
  rcases mem_singleton.mp U with rfl
  show(e,n',l,Dfs,λv z=>by cases z)
 have F:∀{H':Hp}{o:Obj},(∀ b∈fp,H' b=none)->∀ b∈fp,FpOk (X.inc (own++cs.map (·.2)) scope cl fp s2 H2 C) [(D,o)] H' b:=λ{H' o} hn b d=>by
  show(hn b d,(O.exf b d).1,O.exfs b d, .inl d,(O.exf b d).2,λp U=>?_);rcases mem_singleton.mp U with rfl
  show Nat.ne_of_gt (H b d)
 have R:∀ s3:Shared,s3={ s2 with heap:=h4,toks:=s2.toks+([]:List (Str × Value)).length } ->
   codeAny (model X.prog X.w) X.A (.compLoop (.ListComp elt [⟨tg,iter,ifs,0⟩] scope pos) 0 (.ref it) (.ref D) (compEnvC scope cl C X.env)) (RR (.ref D) C) s3:=by
  rintro s3 rfl;show JhX (λn s'=>∃ i ys us L H',Inv (X.inc (own++cs.map (·.2)) scope cl fp s2 H2 C) [(D,{ cls:=.type "list",data:=.seq us.toArray L })] (List.replicate own.length none++JaF cs σ) H' s'/\tn i s'.heap/\(∀ b∈fp,H' b=none)/\Vals ys us/\W i n ys H') ?_ m0
   ⟨0,[],[],0,H2,G (us:=[]) (n:=0) I4 a3 Dfree,T.keep _ _ _ st2 λb d o e=>a0 b o e,λb d=>(f2 b d).1, .nil,w0⟩
  intro n s5 z_;let(i,ys,us,L,H5,I5,a2,a5,vy,w5):=z_;obtain⟨hz,⟨stop,qn⟩ | ⟨go,a7⟩⟩:=turn i n ys H5 w5
  .show wpAny_mono (T.done (X.inc (own++cs.map (·.2)) scope cl fp s2 H2 C) rfl rfl rfl hc i _ s5 _ H5 (λ_ _=>False) I5 (F a5) a2 stop) (λr s6 z=>?_) λ_ _ z=>z;let(rfl,I6):=z;let(m6,a9,_):=id I6.loc;let(pD,Y,_,_,_):=I6.pin (D,{ cls:=.type "list",data:=.seq us.toArray L }) (by simp);have Cfree:H5 C=none:=I6.free;show hRR D C s6 H5 ys (λh7 b4=>?_) Y Cfree l ⟨m6,a9⟩ (by rw[<- h];show hC) qn;have k:∀ b,b≠C->h7.get? b=s6.heap.get? b:=λb d=>b4.2 b d;have a1:=b0;have u7:Un (frs X.stack) fp H2 H5 s2.heap h7:=⟨λb o e n1 n2 n3=>(k b (a1 b o e)).trans (I6.base.keep b o e n1 n2 n3),λb o e n1 n2 n3=>by
     let(sl,z):=I6.base.slot b o e n1 n2 n3;show(sl,(k b (a1 b o e)).trans z),I6.base.free,λb o e n1=>by
     let(o',z):=I6.base.there b o e n1;show(o',(k b (a1 b o e)).trans z),I6.base.tups,I6.base.frzs,I6.base.tbls⟩
   have a6:HOk X.prog X.w H5 h7:=λa o e=>by
    show(I6.hok a o e).stay (λc v b1 q=>(k c ?_).trans q) (λ_ q=>q) λ_ _ q=>q;rintro rfl;rcases b1 with z | z
    .rw[<- z]at e;rw[Cfree]at e;cases e
    .rw[Cfree]at z;cases z
   have I7:Inv X pins σ H5 { s6 with heap:=h7 }:=I2.call' (s':={ s6 with heap:=h7 }) I6.os u7 a6 I6.bare λb d=>⟨(f2 b d).2.2.2.1,(f2 b d).2.1,(f2 b d).2.2.2.2.1,(f2 b d).2.2.2.2.2⟩;show I7.track (a:=D) (o:=.lst ys) Y (Heap.get?_none_of_le (by rw[h];show I2.sz)) (by rw[h];show Nat.ne_of_gt I2.lt) (λx c e z=>by
     let(v,o,ho,_):=I2.cell x c e;show I _ _ ho z) (λp U z=>I _ _ (I2.pin p U).1 z) ⟨hz,us,L,vy,(k D l).trans pD⟩
  .show wpAny_mono (T.item (X.inc (own++cs.map (·.2)) scope cl fp s2 H2 C) rfl rfl rfl hc i _ s5 _ H5 (λ_ _=>False) I5 (F a5) a2 go) (λr s6 z=>?_) λ_ _ z=>z;let(u,rfl,z):=z;show wpAny_mono z (λ_ s7 ζ=>?_) λ_ _ z=>z;let(x,H7,I7,r7,y7,B,b2):=ζ;have I7':=I7.pinned (F b2) (T.obj _ _ B);show wpAny_mono (hg fp s2 H2 C _ s7 _ H7 x u _ I7' r7 (a7 x H7 y7)) (λ_ s8 ⟨σ8,H8,I8,q8⟩=>?_) λ_ _ z=>z;show wpAny_mono (ht fp s2 H2 C _ s8 σ8 H8 _ I8 q8) (λbb S ⟨M,I8',a8⟩=>?_) λ_ _ z=>z;cases bb with
   | true=>
    show wpAny_mono (he fp s2 H2 C _ S σ8 M _ I8' a8) (λuy s9 ζ=>?_) λ_ _ z=>z;let(y,H9,I9,r9,m',Z,w9):=ζ;let(pD,Y,_,_,_):=I9.pin (D,{ cls:=.type "list",data:=.seq us.toArray L }) (by simp);show append_at (its:=us.toArray) (n:=L) pD (λb3 Q P=>?_) (by rw[size_toArray, <- vy.length];show hz);have f:∀ b∈fp, ∀ o,s7.heap.get? b=some o->s9.heap.get? b=some o/\H9 b=none:=λb d o e=>by
     have z:=I9.pin (b,o) (mem_append_right _ (mem_append_right _ (Jc3 d e)));show(z.1,z.2.1)
    have I9':Inv (X.inc (own++cs.map (·.2)) scope cl fp s2 H2 C) [] (List.replicate own.length none++JaF cs σ) H9 s9:=I2.incAgain I9 f2 hcl hcs;have I10:Inv (X.inc (own++cs.map (·.2)) scope cl fp s2 H2 C) [] (List.replicate own.length none++JaF cs σ) H9 { s9 with heap:=b3 }:=I9'.turned (it:=D) (t':=s9.toks) (λb o d e=>(Q.2 b d).trans e) Y l (.inr (Nat.le_of_eq h.symm)) (λx c e z=>by
      let(v,o,ho,_):=I2.cell x c (hcl x c e);show I _ _ ho z) λp U=>by simp at U
    rw[lstP]at P;show(m',Z,i+1,ys++[y],us++[uy],L+1,H9,G I10 P Y,T.keep _ _ _ B λb d o e=>?_,λb d=>?_,vy.append (.cons r9 .nil),w9)
    .show(Q.2 b (Nat.ne_of_lt (H b d))).trans (f b d o e).1
    .let(o,e,_):=T.obj _ _ B b d;show(f b d o e).2
   | false=>
    let(m',Z,w9):=a8;let(pD,Y,_,_,_):=I8'.pin (D,{ cls:=.type "list",data:=.seq us.toArray L }) (by simp);have f:∀ b∈fp, ∀ o,s7.heap.get? b=some o->S.heap.get? b=some o/\M b=none:=λb d o e=>by
     have z:=I8'.pin (b,o) (mem_append_right _ (mem_append_right _ (Jc3 d e)));show(z.1,z.2.1)
    have I9':Inv (X.inc (own++cs.map (·.2)) scope cl fp s2 H2 C) [] (List.replicate own.length none++JaF cs σ) M S:=I2.incAgain I8' f2 hcl hcs;show(m',Z,i+1,ys,us,L,M,G I9' pD Y,T.keep _ _ _ B λb d o e=>(f b d o e).1,λb d=>?_,vy,w9);let(o,e,_):=T.obj _ _ B b d;show(f b d o e).2
 show codeAny_compStart_list (R _ rfl) (T.self _ 0 _ _ _ (T.keep _ _ _ st2 λb d o e=>a0 b o e) (R _ rfl))
def rInU(K:W.Frag):R2:=λx y H Q=>match x,y with
 | .str i, .str j=>Q (.bl (!(Builtin.Str.occurrences j i 0 j.length 1).isEmpty)) H
 | x,y=>rIn K false x y H Q
theorem JkH:OpR X (compareOp .In) (rInU X.K):=λa s σ H x y v u Q I c b q=>by
 unfold rInU at q;split at q
 .show Ji2 a s σ H _ _ v u Q I c b ⟨_,_,rfl,rfl,q⟩
 .show Ji1 a s σ H _ _ v u Q I c b q
theorem Jmt{K:W.Frag}(hK:X.K=K):OpR X (compareOp .In) (rInU K):=hK ▸ JkH
theorem ix_UK{K:W.Frag}(hK:X.K=K):IxR X (rIxU K):=hK ▸ ix_U
theorem Ji0{K:W.Frag}(hK:X.K=K):OpR X (binaryOp .Add) (rAddU K):=hK ▸ Ja1
theorem Jms{K:W.Frag}(hK:X.K=K)(hu:X.A.units+64<cLine):OpR X (compareOp .Eq) (rEqU K):=hK ▸ Jch hu
theorem JkI{K:W.Frag}(hK:X.K=K)(hu:X.A.units+64<cLine):OpR X (compareOp .NotEq) (rNeU K):=hK ▸ JcP hu
theorem y5ey{K:W.Frag}{i j:Str}:rInU K (.str i) (.str j) H Q=Q (.bl (!(Builtin.Str.occurrences j i 0 j.length 1).isEmpty)) H:=rfl
theorem all_range:∀ bs:List Bool,(List.range bs.length).all (λi=>bs.getD i false)=bs.all id:=λbs=>by
 rw[Bool.eq_iff_iff];simp only[List.all_eq_true,List.mem_range,id];constructor
 .intro h x b;let(i,a,rfl):=List.mem_iff_getElem.mp b;have:=h i a;simpa[List.getD_eq_getElem?_getD,a]using this
 .intro h i a;have:=h bs[i] (List.getElem_mem a);simpa[List.getD_eq_getElem?_getD,a]using this
def rAll(K:W.Frag):List V->Hp->VK->Prop:=λxs H Q=>∃(p:Addr)(bs:List Bool),xs=[.ref p]/\SqL K H p (bs.map V.bl)/\Q (.bl (bs.all id)) H
theorem Jip(hc:X.calm=true):CallR X (.builtin "all") (rAll X.K):=λn s σ H E J Q I r q=>by
 let(p,c,rfl,D,q):=q;let(a,h,g,G):=I.list D;let(u,rfl,w):=vals1 r;cases(show u=Value.ref p from w);show call_all_walk (wpAny_pyIter_list g.isList ?_);have f:p<s.heap.objs.size:=by
  let(_,e,_):=g.isList;show Heap.lt_size e
 show(s.heap.objs.size,_,_,a.toArray.size,_,_,λi=>c.getD i false,rfl,Walks.list (by show X.A.handled=none;show I.ok.hd hc) s.heap.objs.size p (Nat.ne_of_lt f) a.toArray,⟨⟨_,Heap.get?_push_size _ rfl,rfl,rfl⟩,g.isList.push _⟩,?_,?_)
 .intro i v M Q' E' o B;have d:a[i]?=some v:=by simpa using o
  have j:i<c.length:=by
   let(F,_):=List.getElem?_eq_some_iff.mp d;have l:=h.length;rw[length_map]at l;ac_nf
  let(L,m,y):=h.get (i:=i) (x:=.bl c[i]) (by simp[j]);rw[d]at m;cases m;cases(show v=Value.bool c[i]from y);show wpAny_truthy_bool ?_;simpa[List.getD_eq_getElem?_getD,j]using B
 .intro N z k;have l:=h.length;rw[length_map]at l;have C:(List.range a.toArray.size).all (λi=>c.getD i false)=c.all id:=by rw[size_toArray, <- l];show all_range c
  rw[C];show(.bl _,H,I.kept (t':=z) λb t e=>k b t (by have:=Heap.lt_size e;simp;show Nat.ne_of_lt this) (Heap.get?_push_of_some _ e),rfl,q)
theorem hcs0:∀ p∈([]:List (Nat × Str)),X.N[p.1]?=some p.2/\X.env.scope.names.lookup p.2=some .cell/\(relabel scope X.env).names.lookup p.2=some .cell:=λ_ h=>by simp at h
mutual
def szD:D->Prop
 | .int i=>Mth.Sz 4000 i
 | .str s=>s.length<=1000
 | .tup xs=>szL xs
 | .lst xs=>szL xs
 | _=>True
def szL:List D->Prop
 | []=>True
 | x::xs=>szD x/\szL xs
end
def lowB(c:Nat):Bool:=decide (97<=c/\c<=122)
def nameS(s:Str):Bool:=(decide (1<=s.length)&&decide (s.length<=8))&&s.cps.toList.all lowB
def nameB:D->Bool
 | .str s=>nameS s
 | _=>false
def JmP:D->Bool
 | .int _=>true
 | _=>false
def fracB:D->Bool
 | .tup [.int a, .int b]=>decide (1<=b)&&decide (Mth.g a b=1)
 | _=>false
def Jkr:D->Bool
 | .non=>true
 | d=>fracB d
def JkB(d e:D):Bool:=nameB d&&nameB e&&!eqD d e
def lessD:D->D->Bool
 | .tup [.int a, .int b], .tup [.int c, .int d]=>decide (a*d<c*b)
 | _,_=>false
def Jlc(l g:D):Bool:=Jkr l&&Jkr g&&!lessD g l
def tieB:D->Bool
 | .tup [n,s,e,l,g]=>nameB n&&JkB s e&&Jlc l g
 | _=>false
theorem Jh2:(Str.ofString "abcdefghijklmnopqrstuvwxyz").cps.toList=List.range' 97 26:=by decide
theorem Jh0(c:Nat):(!(Builtin.Str.occurrences (Str.ofString "abcdefghijklmnopqrstuvwxyz") ⟨#[c]⟩ 0 (Str.ofString "abcdefghijklmnopqrstuvwxyz").length 1).isEmpty)=lowB c:=by
 rw[StrLaws.found_one,Jh2];unfold lowB
 congr 1
 rw[List.mem_range'];show propext ⟨λζ=>by let(i,a,e):=ζ;ac_nf,λh=>⟨c-97,by ac_nf,by ac_nf⟩⟩
structure KCal(P:Program)(w:World)(K:W.Frag)(mg:Str->Option Value)(base:Heap)(k:Nat)(x:Str)(C:Addr)(ps:List Str)(sp:Sp):Prop where
 ex:∃(f:Addr)(fd:FuncData),FnOk P w K mg base (CX1 P w) k f fd ps sp/\mg x=some (.ref C)/\Mk K C f/\Binds K fd ps []
structure MCal(P:Program)(w:World)(K:W.Frag)(mg:Str->Option Value)(base:Heap)(k:Nat)(m:Str)(Cs:Addr->Prop)(ps:List Str)(sp:Sp):Prop where
 ex:∃(f:Addr)(fd:FuncData),FnOk P w K mg base (CX1 P w) k f fd ps sp/\(∀ C,Cs C->Cls K C/\Meth K C m f)/\W.keepIn K (.ref f)=true/\Binds K fd ps []
def Jjy(Cs:Addr->Prop)(m:Str)(sp:Sp)(E:XK)(ta:TE)(t:TA):TE:=λσ H Q=>ta σ H λx H1=>∃ a C dx fs,x=.ref a/\H1 a=some (.ins C dx fs)/\Cs C/\fs.lookup m=none/\t σ H1 λvs H2=>sp (x::vs) H2 Q E
section
variable{k':Nat}{mn:Str}{Cs:Addr->Prop}{ps:List Str}{sp:Sp}{E:XK}{p apos:Pos}{e o:Expr}{es:List Expr}{ta:TE}{k:Nat}{t:TA}
theorem KCal.ev(G:KCal X.prog X.w X.K X.mg X.base k x C ps sp)(hr:Room k' X.A)(hk:k+1<=k')(hg:Gl X x)(hx:JcM (CX1 X.prog X.w) X E)(ha:PA X (e::es) t)
  (hdb:autoParam ((x == ("__debug__" : Str))=false) Au) (he:autoParam (starEach (e::es) X.env=(false,eval e X.env)::starEach es X.env) Au) (hpl:autoParam ((backTo pos (starEach es X.env)).any (·.1)=false) Au) :
  PE X (.Call (.Name x p) (e::es) [] pos) (tMake C sp [] E t):=by
 let(f,c,F,b,M,a):=G.ex;show JlP M F (hr.mono hk) hg b a .nil hx ha hdb he hpl
variable{pl:Sem Bool}
theorem MCal.m(G:MCal X.prog X.w X.K X.mg X.base k mn Cs ps sp)(hr:Room k' X.A)(hk:k<=k')(hx:JcM (CX1 X.prog X.w) X E)(ho:PE X o ta)(ha:PA X (e::es) t)
  (hst:autoParam (starEach (e::es) X.env=(false,eval e X.env)::starEach es X.env) Au) (hpl:autoParam ((backTo pos (starEach es X.env)).any (·.1)=false) Au)
  (ht:autoParam (eval (.Call (.Attribute o mn apos) (e::es) [] pos) X.env=(do
   let ov <- eval o X.env
   standAt apos.atName
   let(f,first) <- holding [ov] (getMethod ov mn pl)
   callWith pos f first (backTo pos (starEach (e::es) X.env)) (backToKw pos (keywordEach [] X.env)))) Au) :
  PE X (.Call (.Attribute o mn apos) (e::es) [] pos) (Jjy Cs mn sp E ta t):=by
 let(f,M,F,c,p,y):=G.ex;intro b s σ H Q I h;show W.methodCall_KW (pl:=pl) (thn (ho b s σ H _ I h) λu g ζ=>?_) ht;let(x,v,I1,j,a,C,L,J,z,i,d,l,q):=ζ;subst z;obtain rfl:u=Value.ref a:=j;show Je9 I1 i (c C d).1 (c C d).2 l ?_;show W.callWith_K (first:=[.ref a]) (h₀:=X.base) I.ok.mod.kin p (thn (ha pos b g σ v _ I1 q) λus B ζ=>?_) hst hpl;let(vs,D,I2,r,n):=ζ;show(I2.kIn,?_);show Jjl (us:=.ref a::us) (vs:=.ref a::vs) F (hr.mono hk) y .nil hx I2 (.cons rfl r) (by simpa using n)
theorem MCal.m0(G:MCal X.prog X.w X.K X.mg X.base k mn Cs ps sp)(hr:Room k' X.A)(hk:k<=k')(hx:JcM (CX1 X.prog X.w) X E)(ho:PE X o ta)
  (ht:autoParam (eval (.Call (.Attribute o mn apos) [] [] pos) X.env=(do
   let ov <- eval o X.env
   standAt apos.atName
   let(f,first) <- holding [ov] (getMethod ov mn pl)
   callWith pos f first (backTo pos (starEach [] X.env)) (backToKw pos (keywordEach [] X.env)))) Au) :
  PE X (.Call (.Attribute o mn apos) [] [] pos) (Jjy Cs mn sp E ta tNil):=by
 let(f,v,F,c,i,m):=G.ex;intro b s σ H Q I h;show W.methodCall_KW (pl:=pl) (thn (ho b s σ H _ I h) λu p ζ=>?_) ht;let(x,j,I1,g,a,C,t,r,n,e,d,l,q):=ζ;subst n;obtain rfl:u=Value.ref a:=g;show Je9 I1 e (c C d).1 (c C d).2 l ?_;show W.callWith_K0 (first:=[.ref a]) I1.kIn i (Jjl (us:=[.ref a]) (vs:=[.ref a]) F (hr.mono hk) m .nil hx I1 (.cons rfl .nil) (show sp ([.ref a]++[]) j Q E from q))
def rMulS:R2:=λx y H Q=>match x,y with
 | .str z, .int n=>0<n/\n<1000/\z.length<=1000/\∀ z':Str,z'.cps.toList=(List.replicate n.toNat z.cps.toList).flatten->Q (.str z') H
 | x,y=>rMulU x y H Q
theorem Jfj:∀(l:List (Array Nat))(acc:Array Nat),(l.foldl (· ++ ·) acc).toList=acc.toList++(l.map (·.toList)).flatten
 | [],acc=>by simp
 | x::l,acc=>by
  rw[List.foldl_cons,Jfj l];simp
theorem Ji3:OpR X (binaryOp .Mult) rMulS:=λa s σ H x y v u Q I d b q=>by
 unfold rMulS at q;split at q
 .rename_i z n;let(f,j,h,q):=q;let(t,rfl):=d;let(k,rfl):=b;have g:z.cps.size=z.length:=rfl;have i:z.length*n.toNat<=1000*1000:=Nat.mul_le_mul h ∅;show PySem.P.mul_str (by simp;ac_nf) (λ_ _=>?_) (λ_ _=>?_) ?_
  .have : (1000:Int)<=(2 ^ 63-1)/n:=by
    rw[Int.le_ediv_iff_mul_le f];ac_nf
   ac_nf
  .unfold Builtin.Str.tooLong;simp;have : (1000*1000:Nat)<=sizeLine:=by decide
   ac_nf
  .rw[if_neg ∅];split
   .rename_i c;show(.str z,H,I,⟨_,rfl⟩,q z ?_);rcases Bool.or_eq_true _ _ |>.mp c with c | c
    .obtain rfl:n=1:=by simpa using c
     simp
    .have e:z.cps.toList=[]:=by
      have : z.length=0:=by simpa using c
      show List.eq_nil_of_length_eq_zero (by rw[Array.length_toList];show this)
     rw[e];simp
   .show(?_, .str _,H,I.tok _,⟨_,rfl⟩,q _ ?_)
    .show(Array.size _)<=sizeLine;rw[<- Array.length_toList,Jfj];simp;have : (1000*1000:Nat)<=sizeLine:=by decide
     rw[Nat.mul_comm,g];ac_nf
    .rw[Jfj];simp
 .show JlJ a s σ H _ _ v u Q I d b q
def rIsN:R2:=λx y H Q=>y=.non/\Q (.bl (decide (x=.non))) H
def rNotN:R2:=λx y H Q=>y=.non/\Q (.bl (!decide (x=.non))) H
theorem JfE:OpR X (compareOp .Is) rIsN:=Jmu
theorem JfF:OpR X (compareOp .IsNot) rNotN:=JlL
def JmD(K:W.Frag):List V->Hp->VK->Prop:=λxs H Q=>∃ p ys,xs=[.ref p]/\(SqL K H p ys\/SqT K H p ys)/\∀ l,H l=none->Q (.ref l) (upd H l (.lst ys))
theorem JhW:CallR X (.type "list") (JmD X.K):=Jf5
end
section
variable{K:W.Frag}{x:V}
theorem y61y:rIsN x .non H Q=Q (.bl (decide (x=.non))) H:=by simp[rIsN]
theorem y77y:rNotN x .non H Q=Q (.bl (!decide (x=.non))) H:=by simp[rNotN]
variable{sp:Sp}{E:XK}
theorem y67y{dvs:List V}{t:TA}:tMake C sp dvs E t σ H Q=t σ H λvs H1=>∀ x dx,H1 x=none->H1 dx=none->dx≠x->sp (.ref x::(vs++dvs)) (upd (upd H1 dx (.own x)) x (.ins C dx [])) (λv H2=>v=.non/\Q (.ref x) H2) E:=rfl
variable{ta:TE}
theorem y68y{Cs:Addr->Prop}{mn:Str}{t:TA}:Jjy Cs mn sp E ta t σ H Q=ta σ H λx H1=>∃ a C dx fs,x=.ref a/\H1 a=some (.ins C dx fs)/\Cs C/\fs.lookup mn=none/\t σ H1 λvs H2=>sp (x::vs) H2 Q E:=rfl
theorem y4ey{f:Str}:tFld K ta f σ H Q=ta σ H λx H1=>∃ a C dx fs v,x=.ref a/\H1 a=some (.ins C dx fs)/\Cls K C/\Ja4 K C f/\fs.lookup f=some v/\Q v H1:=rfl
variable{tv:TE}{En:Ends}
theorem y85y{f:Str}:sFld K ta tv f En σ H=tv σ H λy H1=>ta σ H1 λx H2=>∃ a C dx fs,x=.ref a/\H2 a=some (.ins C dx fs)/\Cls K C/\Ja4 K C f/\fs.length<1000/\En.nx σ (upd H2 a (.ins C dx (putF f y fs))):=rfl
theorem y2cy{T:String}{r:V->List V->Hp->VK->Prop}{to:TE}{t:TA}:tBM K T r to t σ H Q=to σ H λx H1=>tyV K T x H1/\t σ H1 λvs H2=>r x vs H2 Q:=rfl
variable{R:St->Hp->Prop}
theorem y58y{g:TG}{gs:TGs}:gCons g gs (v::r) σ H R=g v σ H λσ' H'=>gs r σ' H' R:=by
 unfold gCons;show propext ⟨λ⟨b,a,e,h⟩=>?_,λh=>⟨v,r,rfl,h⟩⟩;cases e;show h
theorem y5ay:gNil [] σ H R=R σ H:=by unfold gNil;simp
def nonD:D->Bool
 | .non=>true
 | _=>false
theorem putE{l:Addr}(e:upd H l o=H'):H' l=some o:=by rw[<- e,Jam]
end
section
variable{En:Ends}{ta tb tc:TE}{td:TE}{K:W.Frag}
end
def JbU(cells:List (Str × Addr)):List (Str × NameKind)->List (Str × Addr)->List (Str × Addr)
 | [],acc=>acc
 | (n,k)::r,acc=>JbU cells r (if k == .free then(n,(cells.lookup n).getD 0)::acc else acc)
theorem JgF{env:Env}:∀(names:List (Str × NameKind))(acc:List (Str × Addr)),(∀ p∈names,p.2=.free->∃ c,env.cells.lookup p.1=some c) ->
  (forIn names acc λ(p:Str × NameKind) cs=>(if p.2 == .free then do let c <- cellOf env p.1;pure (ForInStep.yield ((p.1,c)::cs))else pure (ForInStep.yield cs):Sem (ForInStep (List (Str × Addr)))))=(pure (JbU env.cells names acc):Sem (List (Str × Addr)))
 | [],acc,_=>by simp[JbU]
 | (n,k)::r,acc,h=>by
  rw[List.forIn_cons];by_cases c:(k == .free)=true
  .let(a,ha):=h (n,k) mem_cons_self (beq_iff_eq.mp c);have e:cellOf env n=pure a:=by unfold cellOf;rw[ha]
   simp only[c,if_true,e,pure_bind];have:=JgF (env:=env) r ((n,a)::acc) λp hp=>h p (mem_cons_of_mem _ hp);simp only[JbU,c,if_true,ha,Option.getD_some];show this
  .have c':(k == .free)=false:=by simpa using c
   simp only[c',Bool.false_eq_true,if_false,pure_bind];have:=JgF (env:=env) r acc λp hp=>h p (mem_cons_of_mem _ hp);simp only[JbU,c',Bool.false_eq_true,if_false];show this
theorem Jit{env:Env}(h:∀ p∈scope.names,p.2=.free->∃ c,env.cells.lookup p.1=some c):closureFor scope env=pure (JbU env.cells scope.names []):=by
 have:=JgF (env:=env) scope.names [] h;unfold closureFor;simp only[pure_bind];show Eq.trans ?_ (congrArg (λm:Sem (List (Str × Addr))=>m >>= pure) this |>.trans (by simp));first | rfl | (congr 1)
variable{cells:List (Str × Addr)}
theorem JdC:∀(names:List (Str × NameKind))(acc:List (Str × Addr)),(∀ x c,acc.lookup x=some c->cells.lookup x=some c)->(∀ p∈names,p.2=.free->∃ c,cells.lookup p.1=some c) ->
  ∀ x c,(JbU cells names acc).lookup x=some c->cells.lookup x=some c
 | [],acc,ha,_,x,c,h=>ha x c h
 | (n,k)::r,acc,ha,hf,x,c,h=>by
  simp only[JbU]at h;show JdC r _ ?_ (λp hp=>hf p (mem_cons_of_mem _ hp)) x c h;intro y d hy;by_cases f:(k == .free)=true
  .rw[if_pos f]at hy;let(a,e):=hf (n,k) mem_cons_self (beq_iff_eq.mp f);rw[List.lookup_cons]at hy;by_cases q:(y == n)=true
   .rw[q]at hy;have q':y=n:=beq_iff_eq.mp q;subst q';have e':cells.lookup y=some a:=e;rw[e']at hy ⊢;simpa using hy
   .have q':(y == n)=false:=by simpa using q
    rw[q']at hy;show ha y d hy
  .rw[if_neg f]at hy;show ha y d hy
theorem JdB:∀(names:List (Str × NameKind))(acc:List (Str × Addr))(y:Str),((∃ c,acc.lookup y=some c)\/(y,NameKind.free)∈names)->∃ c,(JbU cells names acc).lookup y=some c
 | [],acc,y,h=>by
  rcases h with h | h
  .show h
  .simp at h
 | (n,k)::r,acc,y,h=>by
  simp only[JbU];show JdB r _ y ?_;rcases h with⟨c,h⟩ | h
  .show .inl ?_;split
   .rw[List.lookup_cons];cases(y == n)
    .show(c,h)
    .show(_,rfl)
   .show(c,h)
  .rcases mem_cons.mp h with e | h
   .cases e;show .inl ?_;rw[if_pos ⋯,List.lookup_cons];simp
   .show .inr h
theorem JiI(hcell:∀ y∈scope.names,y.2≠.cell){y:Str}(hy:(relabel scope X.env).names.lookup y=some .cell\/(relabel scope X.env).names.lookup y=some .free):(y,NameKind.free)∈scope.names:=by
 have d:∀ k,(k=.cell\/k=.free)->(relabel scope X.env).names.lookup y=some k->(y,NameKind.free)∈scope.names:=λk h e=>by
  have m:=PySem.mem_of_lookup e;let((n,f),b,g):=mem_map.mp (show(y,k)∈scope.names.map _ from m);have a:(if(f == NameKind.free&&X.env.scope.kind == .function&&X.env.kindOf n == some .cell)=true then(n,NameKind.cell)else(n,f))=(y,k):=g;split at a
  .rename_i c;rw[Bool.and_eq_true,Bool.and_eq_true]at c;have:=beq_iff_eq.mp c.1.1;subst this;cases a;show b
  .cases a;rcases h with rfl | rfl
   .show absurd rfl (hcell _ b)
   .show b
 rcases hy with hy | hy
 .show d _ (.inl rfl) hy
 .show d _ (.inr rfl) hy
variable{wi:TI}
theorem Jby{g:TG}(hc:X.calm=true)(hi:PI X tg iter wi)
  (hg:∀ fp s2 H2 C,PG (X.inc (own++cs.map (·.2)) scope (JbU X.env.cells scope.names []) fp s2 H2 C) tg g) (ht:∀ fp s2 H2 C,PTs (X.inc (own++cs.map (·.2)) scope (JbU X.env.cells scope.names []) fp s2 H2 C) ifs tt) (he:∀ fp s2 H2 C,PE (X.inc (own++cs.map (·.2)) scope (JbU X.env.cells scope.names []) fp s2 H2 C) elt te)
  (hfree:∀ p∈scope.names,p.2=.free->X.env.scope.names.lookup p.1=some .cell) (hcell:∀ y∈scope.names,y.2≠.cell) (hkind:scope.kind=.function) (hnames:∀ y∈scope.names,y.2=.local->scope.names.lookup y.1=some .local)
  (hcs:∀ p∈cs,X.N[p.1]?=some p.2/\X.env.scope.names.lookup p.2=some .cell/\(relabel scope X.env).names.lookup p.2=some .cell)
  (hs:autoParam (∀ x,foldedSetIterable iter X.env x=pure x) Au):PE X (.ListComp elt [⟨tg,iter,ifs,0⟩] scope pos) (JeO own.length cs wi g tt te):=by
 intro a s σ H Q I h;have b:∀ p∈scope.names,p.2=.free->∃ c,X.env.cells.lookup p.1=some c:=λp L K=>I.ok.has p.1 (.inl (hfree p L K));have j:=JdC (cells:=X.env.cells) scope.names [] (λ_ _ z=>by simp at z) b;rw[eval_ListComp];show wpAny_comprehension_free (use:=none) rfl hs (Jit b) hkind hnames (thn (hi a s σ H _ I h) λv P F=>thn F λo s2 E=>?_);let(Z,fp,O,J,H2,rfl,I2,T,m,r,W,(S,u),d):=E;show Je4 (QN:=λn k=>∀ p,k p=none->Q (.ref p) (upd k p (.lst n))) (RR:=λe C=>compPost (model X.prog X.w) X.A X.xe none (EP X a σ Q) e C) hc hg ht he hcell hkind j (λz D=>JdB scope.names [] z (.inr (JiI hcell D))) hcs I2 T m r u d ?_;intro D' C Y k n i M V R G U q;let(B,f):=G;show(B,f,λt l=>⟨.ref D',_,i t l,rfl,q D' M⟩)
theorem JeA{e:Expr}{k:Nat}{g:TG}(h:PE X e (JeO k cs wi g tYes te)):PE X e (tComp k cs wi g te):=h
theorem JbF{sc:Scope}(h:scope.names.all (λp=>p.2 != .free||(sc.names.lookup p.1 == some .cell))=true):∀ p∈scope.names,p.2=.free->sc.names.lookup p.1=some .cell:=λp a b=>by
 have z:=List.all_eq_true.mp h p a;rw[b]at z;simpa using z
theorem hcs1{i:Nat}(a:X.N[i]?=some x)(b:X.env.scope.names.lookup x=some .cell)(c:(relabel scope X.env).names.lookup x=some .cell) :
  ∀ p∈[(i,x)],X.N[p.1]?=some p.2/\X.env.scope.names.lookup p.2=some .cell/\(relabel scope X.env).names.lookup p.2=some .cell:=λp d=>by
 rcases mem_singleton.mp d with rfl
 show(a,b,c)
variable{j:Nat}{y:Str}
theorem hcs2{i:Nat}(a:X.N[i]?=some x)(b:X.env.scope.names.lookup x=some .cell)(c:(relabel scope X.env).names.lookup x=some .cell)
  (a':X.N[j]?=some y) (b':X.env.scope.names.lookup y=some .cell) (c':(relabel scope X.env).names.lookup y=some .cell) :
  ∀ p∈[(i,x),(j,y)],X.N[p.1]?=some p.2/\X.env.scope.names.lookup p.2=some .cell/\(relabel scope X.env).names.lookup p.2=some .cell:=λp d=>by
 rcases mem_cons.mp d with rfl | d
 .show(a,b,c)
 .rcases mem_singleton.mp d with rfl
  show(a',b',c')
theorem Jbs{spos py:Pos}{g:TG}(hN:X.N.Nodup)(hj:X.N[j]?=some y)(hy:Loc X.env.scope y)(hc:X.calm=true)(hi:PI X tg iter wi)
  (hg:∀ fp s2 H2 C,PG (X.inc (own++cs.map (·.2)) scope (JbU X.env.cells scope.names []) fp s2 H2 C) tg g) (ht:∀ fp s2 H2 C,PTs (X.inc (own++cs.map (·.2)) scope (JbU X.env.cells scope.names []) fp s2 H2 C) ifs tt) (he:∀ fp s2 H2 C,PE (X.inc (own++cs.map (·.2)) scope (JbU X.env.cells scope.names []) fp s2 H2 C) elt te)
  (hfree:∀ p∈scope.names,p.2=.free->X.env.scope.names.lookup p.1=some .cell) (hcell:∀ y∈scope.names,y.2≠.cell) (hkind:scope.kind=.function) (hnames:∀ y∈scope.names,y.2=.local->scope.names.lookup y.1=some .local)
  (hcs:∀ p∈cs,X.N[p.1]?=some p.2/\X.env.scope.names.lookup p.2=some .cell/\(relabel scope X.env).names.lookup p.2=some .cell)
  (hsw:autoParam (swapsWith (.ListComp elt [⟨tg,iter,ifs,0⟩] scope pos) (some (.Name y py)) spos.line X.env=pure true) Au)
  (hs:autoParam (∀ x,foldedSetIterable iter X.env x=pure x) Au) (hf:autoParam (X.fn y=true\/X.env.scope.names.lookup y=some .local) Au) :
  PS X (.Assign [.Name y py] (.ListComp elt [⟨tg,iter,ifs,0⟩] scope pos) spos) (tAsg (JeO own.length cs wi g tt te) (gName j)):=by
 intro d s σ H D I h;have i:∀ p∈scope.names,p.2=.free->∃ c,X.env.cells.lookup p.1=some c:=λp G hk=>I.ok.has p.1 (.inl (hfree p G hk));have t:=JdC (cells:=X.env.cells) scope.names [] (λ_ _ z=>by simp at z) i;rw[exec_Assign_Name_used _ _ _ _ hsw];show wpAny_bind (wpAny_standAt (wpAny_bind ?_));show wpAny _ X.A (do let _ <- comprehension (.ListComp elt [⟨tg,iter,ifs,0⟩] scope pos) scope X.env _ (newList []) false (eval iter X.env) (some (assign (.Name y py) X.env))) _ _ s;show wpAny_bind (wpAny_mono (wpAny_comprehension_free (use:=some (assign (.Name y py) X.env)) (Q:=λ_ L=>SP X d D .next L) rfl hs (Jit i) hkind hnames
  (thn (hi d s σ H _ I h) λv s1 Z=>thn Z λM s2 h2=>?_)) (λ_ L hq=>wpAny_pure (wpAny_pure hq)) λ_ _ e=>e)
 let(it,fp,tn,J,H2,rfl,I2,T,F,P,W,(m0,R),k):=h2;show Je4 (QN:=λr l=>∀ p,l p=none->D.nx (σ.set j (some (.ref p))) (upd l p (.lst r))) hc hg ht he hcell hkind t (λz V=>JdB scope.names [] z (.inr (JiI hcell V))) hcs I2 T F P R k ?_;intro D' C K l r n dN cN Y hm f q;let(U,m):=hm;have I8:Inv X d σ (upd l D' (.lst r)) K:=n K.heap (Heap.SameBut.refl _ _);show wpAny _ X.A (assign (.Name y py) X.env (.ref D')) _ _ K;show wpAny_assign_Name (Jgx (v:=.ref D') I8 hN hj hy rfl (λO I7 B=>?_) hf);let(a,S,w):=B;have nC:C≠a:=by
  rcases w with rfl | w
  .show Nat.ne_of_gt (Nat.lt_of_lt_of_le I2.lt f)
  .let(v,o,u,_):=I2.cell y a w;show Nat.ne_of_gt (Nat.lt_of_lt_of_le (Heap.lt_size u) f)
 show(U,m.sameBut S nC,λh8 E=>⟨_,_,?_,q D' dN⟩);show I7.turned (it:=C) (t':=O.toks) (λb o hb e=>(E.2 b hb).trans e) (by rw[Jai (Ne.symm Y)];show cN) (Nat.ne_of_gt (Nat.lt_of_lt_of_le I2.lt f)) (.inr (Nat.le_trans I2.sz f)) (λx c e z=>by
  let(v,o,u,_):=I2.cell x c e;show absurd (Nat.lt_of_lt_of_le (Heap.lt_size u) f) (by rw[z];show Nat.lt_irrefl _)) (λp G z=>absurd (Nat.lt_of_lt_of_le (Heap.lt_size (I2.pin p G).1) f) (by rw[z];show Nat.lt_irrefl _))
theorem JhK{st:Stmt}{k:Nat}{g:TG}{gn:TG}(h:PS X st (tAsg (JeO k cs wi g tYes te) gn)):PS X st (tAsg (tComp k cs wi g te) gn):=h
section
variable{h':Heap}{s:Shared}
theorem Inv.turnedL{t':Nat}{ch:List Addr}(I:Inv X pins σ H s)(k:∀ b o,b∉ch->s.heap.get? b=some o->h'.get? b=some o)(hf:∀ b∈ch,FpOk X pins H b):Inv X pins σ H { s with heap:=h',toks:=t' }:=by
 have d:∀ b u,H b=some u->b∉ch:=λb u e z=>by rw[(hf b z).1]at e;cases e
 show I.step (g':=s.gens) (d':=s.drawn) (ch:=ch) (λb t=>?_) (λb o _ _ a e _=>k b o a e) (λb o _ _ a e _=>⟨o.slots,k b o a e⟩) (λ_ _ _ _ n=>n)
  (λb o a e=>⟨o,k b o a e⟩) (λ_ _ e=>e) (λ_ _ _ e=>e) (λb x e=>⟨#[],by rw[e];simp⟩) (λm p=>?_) (λb u e=>?_) I.bare
 .let(_,f,_,h,i,g):=hf b t;show(h,f,i,g)
 .let(o,l,w,j,r):=p;show(o,l,w,k _ o (λz=>(hf _ z).2.1 rfl) j,r)
 .show(I.hok b u e).stay (λc v a q=>k c v ?_ q) (λ_ q=>q) λ_ _ q=>q;rcases a with z | z
  .rw[z];show d b u e
  .show d c _ z
end
theorem za(n a b:Nat)(h1:a<n)(h2:b<n):ZipApart (n+4) (n+2) (n+3) n (n+1) a b where
 TIz:=Nat.ne_of_lt (show n+2<n+4 by ac_nf)
 TOz:=Nat.ne_of_lt (show n+3<n+4 by ac_nf)
 i1z:=Nat.ne_of_lt (show n<n+4 by ac_nf)
 i2z:=Nat.ne_of_lt (show n+1<n+4 by ac_nf)
 TITO:=Nat.ne_of_lt (show n+2<n+3 by ac_nf)
 TIi1:=Nat.ne_of_gt (show n<n+2 by ac_nf)
 TIi2:=Nat.ne_of_gt (show n+1<n+2 by ac_nf)
 TOi1:=Nat.ne_of_gt (show n<n+3 by ac_nf)
 TOi2:=Nat.ne_of_gt (show n+1<n+3 by ac_nf)
 i12:=Nat.ne_of_lt (show n<n+1 by ac_nf)
 l1z:=Nat.ne_of_lt (show a<n+4 by ac_nf)
 l1TO:=Nat.ne_of_lt (show a<n+3 by ac_nf)
 l1i1:=Nat.ne_of_lt (show a<n by ac_nf)
 l1i2:=Nat.ne_of_lt (show a<n+1 by ac_nf)
 l2z:=Nat.ne_of_lt (show b<n+4 by ac_nf)
 l2TO:=Nat.ne_of_lt (show b<n+3 by ac_nf)
 l2i1:=Nat.ne_of_lt (show b<n by ac_nf)
 l2i2:=Nat.ne_of_lt (show b<n+1 by ac_nf)
def Itz(K:W.Frag)(a b:Addr):It :=
  ⟨λi H=>∃ xs ys x y,SqL K H a xs/\SqL K H b ys/\xs[i]?=some x/\ys[i]?=some y,
   λi H v H'=>∃ p x y,(∀ xs,SqL K H a xs->xs[i]?=some x)/\(∀ ys,SqL K H b ys->ys[i]?=some y)/\H p=none/\v=.ref p/\H'=upd H p (.tup [x,y]),
   λi H=>∃ xs ys,SqL K H a xs/\SqL K H b ys/\(xs.length<=i\/ys.length<=i)⟩
variable{elts:List Expr}{x1:Nat}{tp:Pos}
theorem Jkk{w:World}{K:W.Frag}{z TI TO i1 i2 a b:Addr}(D:ZipApart z TI TO i1 i2 a b) :
  Turn P w K (.Tuple elts x1 tp) (Itz K a b) [z,TI,TO,i1,i2] z (λi h=>IsZip h z TI TO .none/\IsPair h TI (.ref i1) (.ref i2)/\(∃ u v,IsPair h TO u v)/\h.IsListIter i1 a i/\h.IsListIter i2 b i) where
 mem:=by simp
 obj:=λi h m c f=>by
  let(r,g,(u,v,j),B,F):=m;simp only[mem_cons,not_mem_nil,or_false]at f;rcases f with rfl | rfl | rfl | rfl | rfl
  .show(_,r,λv z=>by cases z)
  .show(_,g,λv z=>by cases z)
  .show(_,j,λv z=>by cases z)
  .let(o,e,c,d):=B;show(o,e,λv z=>by rw[d]at z;cases z)
  .let(o,e,c,d):=F;show(o,e,λv z=>by rw[d]at z;cases z)
 keep:=λi h h' m k=>by
  let(r,g,(u,v,j),B,F):=m;show(k z (by simp) _ r,k TI (by simp) _ g,⟨u,v,k TO (by simp) _ j⟩,B.at λo e=>k i1 (by simp) o e,F.at λo e=>k i2 (by simp) o e)
 item:=by
  intro X hP hw R f i t s σ H E I L m hg;subst hP hw R;let(r,g,(u,v,j),B,F):=m;let(xs,ys,x,y,J,N,hx,hy):=hg;let(a8,rx,px,zx):=I.list J;let(U,T,V,zy):=I.list N;let(Z,Y,a7):=rx.get hx;let(S,O,a9):=T.get hy;show wpAny_pyNext_zip_item D r g j B F px.isList V.isList (x:=Z) (y:=S) (by simpa using Y) (by simpa using O) λh' a1 a2 a3 a4 a5 a6 M=>?_;show(_,rfl,?_);show wpAny_letOwnedTupleGo_zip (s:={ s with heap:=h' }) a1 λG a0 l=>?_;have C:∀{c o},s.heap.get? c=some o->c≠s.heap.objs.size:=λe=>Nat.ne_of_lt (Heap.lt_size e);have nz:s.heap.objs.size≠z:=λq=>C r q.symm;have I1:Inv X t σ H { s with heap:=G,toks:=s.toks }:=I.turnedL (ch:=[z,TI,TO,i1,i2]) (λc o f e=>by
   simp only[mem_cons,not_mem_nil,or_false,not_or]at f;show l.extBut _ _ f.1 (M c o f.1 f.2.2.1 f.2.2.2.1 f.2.2.2.2 e)) L
  have fr:H s.heap.objs.size=none:=I.hok.fresh (Nat.le_refl _);have hT:G.get? s.heap.objs.size=some { cls:=.type "tuple",data:=.seq #[Z,S] }:=l.extBut _ _ nz a5;have I2:=I1.track (a:=s.heap.objs.size) (o:=.tup [x,y]) fr (Heap.get?_none_of_le I.sz) (Nat.ne_of_gt I.lt) (λn c e q=>by
   let(v,o,ho,_):=I.cell n c e;show C ho q) (λp hp q=>C (I.pin p hp).1 q) ⟨by show 2<=sizeLine;decide,[Z,S], .cons a7 (.cons a9 .nil),⟨_,hT,rfl,_,rfl⟩⟩
  show(.ref s.heap.objs.size,_,I2,rfl,⟨_,x,y,λzs q=>by rw[I.list_inj q J];show hx,λzs q=>by rw[I.list_inj q N];show hy,fr,rfl,rfl⟩,?_,λc f=>?_)
  .show(a0,l.extBut _ _ D.TIz (M _ _ D.TIz D.TITO D.TIi1 D.TIi2 g),⟨_,_,l.extBut _ _ D.TOz a2⟩,a3.extBut l.extBut D.i1z,a4.extBut l.extBut D.i2z)
  .have ne:c≠s.heap.objs.size:=by
    simp only[mem_cons,not_mem_nil,or_false]at f;rcases f with rfl | rfl | rfl | rfl | rfl
    .show C r
    .show C g
    .show C j
    .let(o,e,_):=B;show C e
    .let(o,e,_):=F;show C e
   rw[Jai ne];show(L c f).1
 done:=by
  intro X hP hw R f i t s σ H E I L m hg;subst hP hw R;let(r,g,(u,v,j),B,F):=m;let(xs,ys,J,N,he):=hg;let(a8,rx,px,zx):=I.list J;let(U,T,V,zy):=I.list N;have lx:=rx.length;have ly:=T.length;show wpAny_pyNext_zip_end (I.ok.hd f) D r g j B F px.isList V.isList (by
   rcases he with he | he
   .show .inl (by simp;ac_nf)
   .show .inr (by simp;ac_nf)) λh' M=>⟨rfl,?_⟩
  show I.turnedL (t':=s.toks) (ch:=[z,TI,TO,i1,i2]) (λc o f e=>by
   simp only[mem_cons,not_mem_nil,or_false,not_or]at f;show M c o f.1 f.2.2.1 f.2.2.2.1 f.2.2.2.2 e) L
 self:=λA i s Q E m q=>wpAny_pyIter_zip m.1 q
def iZip(K:W.Frag)(ta:TA):TI:=λσ H R=>ta σ H λvs H1=>∃ a b,vs=[.ref a, .ref b]/\(∃ xs,SqL K H1 a xs)/\(∃ ys,SqL K H1 b ys)/\R (Itz K a b) H1
theorem Jjd{a b:Expr}{p:Pos}(hg:Gl X "zip")(hm:X.mg "zip"=none)(hv:bootBuiltins "zip"=some (.type "zip"))(ha:PA X [a,b] ta)
  (he:autoParam (starEach [a,b] X.env=(false,eval a X.env)::starEach [b] X.env) Au) (hpl:autoParam ((backTo pos (starEach [b] X.env)).any (·.1)=false) Au) :
  PI X (.Tuple elts x1 tp) (.Call (.Name "zip" p) [a,b] [] pos) (iZip X.K ta):=by
 intro f s σ H R I h;show wpAny_Call_Name_kw (JdP I hg hm hv ?_);show PyProof.Rows.callWith_type1 (thn (ha pos f s σ H _ I h) λS d ζ=>?_) he hpl;let(N,F,I1,L,y):=ζ;let(i,j,e,(O,x),(P,A),q):=y;subst e;let(u,v,rfl,w,C):=vals2 L;cases(show u=Value.ref i from w);cases(show v=Value.ref j from C);let(D,T,l,U):=I1.list x;let(B,M,m,V):=I1.list A;have z:i<d.heap.objs.size:=by let(_,e,_):=l.isList;show Heap.lt_size e
 have E:j<d.heap.objs.size:=by let(_,e,_):=m.isList;show Heap.lt_size e
 show call_zip_2 l.isList m.isList λW k t o r J Q G=>?_;have ZA:ZipApart (d.heap.objs.size+4) (d.heap.objs.size+2) (d.heap.objs.size+3) d.heap.objs.size (d.heap.objs.size+1) i j:=za _ i j z E;show wpAny_pyIter_zip k ?_;show(d.heap.objs.size+4,[d.heap.objs.size+4,d.heap.objs.size+2,d.heap.objs.size+3,d.heap.objs.size,d.heap.objs.size+1],_,_,F,rfl,I1.kept (t':=d.toks) G,Jkk ZA,⟨k,t,⟨_,_,o⟩,r,J⟩,λc n=>?_,q);have g:d.heap.objs.size<=c:=by
  simp only[mem_cons,not_mem_nil,or_false]at n;rcases n with rfl | rfl | rfl | rfl | rfl
  .show Nat.le_add_right _ _
  .show Nat.le_add_right _ _
  .show Nat.le_add_right _ _
  .show Nat.le_refl _
  .show Nat.le_add_right _ _
 show I1.fpOk g (I1.hok.fresh g)
section
variable{ty tv tx:TE}{En:Ends}{td:TE}{K:W.Frag}
theorem y3ey:tDGet td ty σ H Q=td σ H λx H1=>ty σ H1 λy H2=>∃ a v,x=.ref a/\DGet H2 a y (some v)/\Q v H2:=rfl
theorem y47y:sDPut td ty tv En σ H=tv σ H λv H1=>td σ H1 λx H2=>ty σ H2 λy H3=>∃ a H4,x=.ref a/\DPut H3 a y v H4/\En.nx σ H4:=rfl
theorem y43y:JkX σ H Q=∀ p,H p=none->Q (.ref p) (upd H p (.dK [])):=rfl
end
theorem hu1{a b:Nat}(h:a+64<b):a+1<b:=by ac_nf
def rMul0:R2:=λx y H Q=>match x,y with
 | .str z, .int n=>0<=n/\n<1000/\z.length<=1000/\∀ z':Str,z'.cps.toList=(List.replicate n.toNat z.cps.toList).flatten->Q (.str z') H
 | x,y=>rMulS x y H Q
theorem JaD:OpR X (binaryOp .Mult) rMul0:=λa s σ H x y v u Q I c b q=>by
 unfold rMul0 at q;split at q
 .rename_i z n;let(g,e,d,q):=q;by_cases f:n=0
  .subst f;let(t,rfl):=c;let(h,rfl):=b;show PySem.P.mul_str_none ⋯ ⋯ ⟨.str _,H,I.tok _,⟨_,rfl⟩,q Str.empty rfl⟩
  .show Ji3 a s σ H _ _ v u Q I c b ⟨by ac_nf,e,d,q⟩
 .show Ji3 a s σ H _ _ v u Q I c b q
section
variable{ty:TE}{K:W.Frag}{td:TE}
theorem y6cy{i j:Int}:rMul0 (.int i) (.int j) H Q=(IntMulOk i j/\Q (.int (i*j)) H):=rfl
theorem y3fy:JkV td ty σ H Q=td σ H λx H1=>∃ a,x=.ref a/\IsD H1 a/\ty σ H1 λy H2=>∃ o,DGet H2 a y o/\Q (o.getD .non) H2:=rfl
end
variable{a:Addr}
theorem ForA.byL{K:W.Frag}{g:TG}{D:Ends}(hA:SqL K H a xs)(Pv:Nat->St->Hp->Prop)(h0:Pv 0 σ H)(hl:∀ i σ H',Pv i σ H'->SqL K H' a xs)
  (hs:∀ i x σ H,xs[i]?=some x->Pv i σ H->g x σ H λσ2 H2=>tb { D with nx:=Pv (i+1),ct:=Pv (i+1),bk:=D.nx } σ2 H2) (hd:∀ σ H,Pv xs.length σ H->D.nx σ H):ForA K a g tb D σ H:=by
 show .inl ⟨⟨xs,hA⟩,λi m σ H=>Pv i σ H/\i<=xs.length/\m=xs.length-i,⟨_,h0,Nat.zero_le _,rfl⟩,?_⟩;rintro i m σ H ⟨d,h,rfl⟩;have c:=hl i σ H d;by_cases b:i<xs.length
 .show .inr ⟨⟨xs,xs[i],c,List.getElem?_eq_getElem b⟩,Pv (i+1),λσ' H' p=>⟨_,Nat.sub_lt_sub_left b (Nat.lt_succ_self i),p,b,rfl⟩,?_⟩;rintro x H' ⟨rfl,f⟩;show hs i x σ _ (f xs c) d
 .have e:i=xs.length:=by ac_nf
  subst e;show .inl ⟨⟨xs,c,Nat.le_refl _⟩,hd σ H d⟩
def ForJ(J:It)(g:TG)(tb:TS)(D:Ends)(σ : St)(H:Hp):Prop:=∃ W:Nat->Nat->St->Hp->Prop,(∃ m,W 0 m σ H)/\∀ i m σ H,W i m σ H ->
 (J.stop i H/\D.nx σ H)\/(J.go i H/\∃ N:St->Hp->Prop,(∀ σ' H',N σ' H'->∃ m',m'<m/\W (i+1) m' σ' H')/\∀ x H',J.yld i H x H'->g x σ H' λσ2 H2=>tb { D with nx:=N,ct:=N,bk:=D.nx } σ2 H2)
theorem y55y{K:W.Frag}{g:TG}{D:Ends}:tFor (iZip K ta) g tb D σ H=ta σ H λvs H1=>∃ a b,vs=[.ref a, .ref b]/\(∃ xs,SqL K H1 a xs)/\(∃ ys,SqL K H1 b ys)/\ForJ (Itz K a b) g tb D σ H1:=rfl
theorem ForJ.zip{K:W.Frag}{b:Addr}{ys:List V}{g:TG}{D:Ends}(Pv:Nat->St->Hp->Prop)(h0:Pv 0 σ H)(hl:∀ i σ H',Pv i σ H'->SqL K H' a xs/\SqL K H' b ys)
  (hs:∀ i x y σ H p H',xs[i]?=some x->ys[i]?=some y->Pv i σ H->H p=none->Same H H'->H' p=some (.tup [x,y])->g (.ref p) σ H' λσ2 H2=>tb { D with nx:=Pv (i+1),ct:=Pv (i+1),bk:=D.nx } σ2 H2)
  (hd:∀ σ H,Pv (min xs.length ys.length) σ H->D.nx σ H):ForJ (Itz K a b) g tb D σ H:=by
 show(λi m σ H=>Pv i σ H/\i<=min xs.length ys.length/\m=min xs.length ys.length-i,⟨_,h0,Nat.zero_le _,rfl⟩,?_);rintro i m σ H ⟨f,q,rfl⟩;let(d,c):=hl i σ H f;by_cases h:i<min xs.length ys.length
 .have l:i<xs.length:=by ac_nf
  have n:i<ys.length:=by ac_nf
  show .inr ⟨⟨xs,ys,xs[i],ys[i],d,c,List.getElem?_eq_getElem l,List.getElem?_eq_getElem n⟩,Pv (i+1),λσ' H' p=>⟨_,Nat.sub_lt_sub_left h (Nat.lt_succ_self i),p,h,rfl⟩,?_⟩;intro v H' z_;let(p,x,y,o,k,j,rfl,rfl):=z_;show hs i x y σ H p _ (o xs d) (k ys c) f j (newS j rfl) (newE rfl)
 .have e:i=min xs.length ys.length:=by ac_nf
  subst e;show .inl ⟨⟨xs,ys,d,c,by ac_nf⟩,hd σ H f⟩
theorem Jku{K:W.Frag}{k:Nat}{g:TG}{H1:Hp}(Pv:Nat->List V->Hp->Prop)(h0:Pv 0 [] H1)(hl:∀ i ys H',i<=xs.length->Pv i ys H'->SqL K H' a xs/\ys.length<=sizeLine)
  (hs:∀ i x ys H2,xs[i]?=some x->Pv i ys H2->g x (List.replicate k none++JaF cs σ) H2 λσ4 H4=>tt σ4 H4 λb H5=>if b=true then te σ4 H5 λy H6=>Pv (i+1) (ys++[y]) H6 else Pv (i+1) ys H5) (hd:∀ ys H2,Pv xs.length ys H2->∀ p,H2 p=none->Q (.ref p) (upd H2 p (.lst ys))) :
  ∃ W:Nat->Nat->List V->Hp->Prop,(∃ m,W 0 m [] H1)/\∀ i m ys H2,W i m ys H2->ys.length<=sizeLine/\(((Itl K a).stop i H2/\∀ p,H2 p=none->Q (.ref p) (upd H2 p (.lst ys))) \/
   ((Itl K a).go i H2/\∀ x H3,(Itl K a).yld i H2 x H3->g x (List.replicate k none++JaF cs σ) H3 λσ4 H4=>tt σ4 H4 λb H5=>if b=true then te σ4 H5 λy H6=>∃ m',m'<m/\W (i+1) m' (ys++[y]) H6 else∃ m',m'<m/\W (i+1) m' ys H5)):=by
 show(λi m ys H2=>Pv i ys H2/\i<=xs.length/\m=xs.length-i,⟨_,h0,Nat.zero_le _,rfl⟩,?_);rintro i m ys H2 ⟨j,l,rfl⟩;let(h,o):=hl i ys H2 l j;show(o,?_);by_cases d:i<xs.length
 .show .inr ⟨⟨xs,xs[i],h,List.getElem?_eq_getElem d⟩,?_⟩;rintro x H3 ⟨rfl,r⟩;have w:∀(f:List V)(H5:Hp),Pv (i+1) f H5=∃ m',m'<xs.length-i/\Pv (i+1) f H5/\i+1<=xs.length/\m'=xs.length-(i+1):=λf H5=>
   propext ⟨λq=>⟨_,Nat.sub_lt_sub_left d (Nat.lt_succ_self i),q,d,rfl⟩,λζ=>by let(_,_,q,_):=ζ;show q⟩
  have n:(λ(y:V)(H6:Hp)=>Pv (i+1) (ys++[y]) H6)=λy H6=>∃ m',m'<xs.length-i/\Pv (i+1) (ys++[y]) H6/\i+1<=xs.length/\m'=xs.length-(i+1):=by
   funext y H6
   show w _ _
  have e:(λ(σ4:St)(H4:Hp)=>tt σ4 H4 λb H5=>if b=true then te σ4 H5 λy H6=>Pv (i+1) (ys++[y]) H6 else Pv (i+1) ys H5)=λσ4 H4=>tt σ4 H4 λb H5=>if b=true then te σ4 H5 λy H6=>∃ m',m'<xs.length-i/\Pv (i+1) (ys++[y]) H6/\i+1<=xs.length/\m'=xs.length-(i+1)else∃ m',m'<xs.length-i/\Pv (i+1) ys H5/\i+1<=xs.length/\m'=xs.length-(i+1):=by
   funext σ4 H4
   congr 1
   funext b H5
   by_cases c:b=true
   .rw[if_pos c,if_pos c, <- n]
   .rw[if_neg c,if_neg c];show w ys H5
  have:=hs i x ys _ (r xs h) j;rw[e]at this;show this
 .have e:i=xs.length:=by ac_nf
  subst e;show .inl ⟨⟨xs,h,Nat.le_refl _⟩,hd ys H2 j⟩
end L2
namespace Ch
open PySem
structure TD where
 nm:Str
 st:Str
 en:Str
 lo:Option (Int × Int)
 hi:Option (Int × Int)
structure SD where
 src:Str
 dst:Str
 c:Int × Int
 nm:Str
 fw:Bool
def fwd(t:TD):List SD:=match t.hi with
 | some h=>[⟨t.st,t.en,h,t.nm,true⟩]
 | none=>[]
def bwd(t:TD):List SD:=match t.lo with
 | some l=>[⟨t.en,t.st,(-l.1,l.2),t.nm,false⟩]
 | none=>[]
def steps(t:TD):List SD:=fwd t++bwd t
def all(ts:List TD):List SD:=ts.flatMap steps
abbrev Pr:=Str × Bool
def key(s:SD):Pr:=(s.nm,s.fw)
def lastA(acc:Option SD)(ss:List SD)(k:Pr):Option SD:=ss.foldl (λa s=>if key s=k then some s else a) acc
def last(ss:List SD)(k:Pr):Option SD:=lastA none ss k
def addF(a c:Int × Int):Int × Int:=(Mth.top (a.1*c.2+c.1*a.2) (a.2*c.2),Mth.bot (a.1*c.2+c.1*a.2) (a.2*c.2))
structure FOk(n:Nat)(a:Int × Int):Prop where
 s1:Mth.Sz n a.1
 s2:Mth.Sz n a.2
 b1:1<=a.2
 g1:Mth.g a.1 a.2=1
end Ch
namespace L2
open PySem PySem.Spec PyProof.Rows Ch
def isTF:HO->Bool
 | .tup _=>true
 | .frz _ _=>true
 | _=>false
def SameT(H H':Hp):Prop:=∀ b u,isTF u=true->H b=some u->H' b=some u
theorem SameT.refl(H:Hp):SameT H H:=λ_ _ _ h=>h
variable{H H1:Hp}
theorem SameT.trans{H2:Hp}(a:SameT H H1)(b:SameT H1 H2):SameT H H2:=λc o t h=>b c o t (a c o t h)
variable{H':Hp}
theorem Same.t(a:Same H H'):SameT H H':=λb u _ h=>a b u h
theorem SameT.put{l:Addr}{o o':HO}(e:upd H l o=H')(hl:H l=some o')(ht:isTF o'=false):SameT H H':=λb u t h=>by
 rw[<- e,Jai (ne_of h hl λq=>by rw[q,ht]at t;cases t)];show h
variable{xs:List V}
theorem SqT.sameT{K:W.Frag}{a:Addr}(e:SameT H H')(h:SqT K H a xs):SqT K H' a xs:=by
 rcases h with(h | ⟨o,h⟩) | h
 .show .inl (.inl (e _ _ rfl h))
 .show .inl (.inr ⟨o,e _ _ rfl h⟩)
 .show .inr h
variable{v:V}{b:Int}
theorem FrV.sameT{K:W.Frag}{a:Int}(S:SameT H H')(h:FrV K H v a b):FrV K H' v a b:=by
 let(p,e,q):=h;show(p,e,q.sameT S)
def frD(a:Int × Int):D:=.tup [.int a.1, .int a.2]
def bD:Option (Int × Int)->D
 | none=>.non
 | some a=>frD a
def BV(K:W.Frag)(H:Hp):Option (Int × Int)->V->Prop
 | none,v=>v=.non
 | some a,v=>FrV K H v a.1 a.2
theorem BV.sameT{K:W.Frag}{o:Option (Int × Int)}(S:SameT H H')(h:BV K H o v):BV K H' o v:=by
 cases o with
 | none=>show h
 | some a=>show FrV.sameT S h
def TV(K:W.Frag)(H:Hp)(t:TD)(x:V):Prop:=∃ b vl vg,x=.ref b/\SqT K H b [.str t.nm, .str t.st, .str t.en,vl,vg]/\BV K H t.lo vl/\BV K H t.hi vg
def CV(H:Hp)(c:Pr)(x:V):Prop:=∃ b,x=.ref b/\H b=some (.tup [.str c.1, .bl c.2])
section
variable{K:W.Frag}{x:V}
theorem TV.sameT{t:TD}(S:SameT H H'):TV K H t x->TV K H' t x:=by rintro⟨b,vl,d,e,q,c,a⟩;show(b,vl,d,e,q.sameT S,c.sameT S,a.sameT S)
variable{c:Pr}
theorem CV.sameT(S:SameT H H'):CV H c x->CV H' c x:=λζ=>by let(b,e,q):=ζ;show(b,e,S _ _ rfl q)
end
variable{α:Type}
def All2(P : α->V->Prop):List α->List V->Prop
 | [],xs=>xs=[]
 | a::as,xs=>∃ x r,xs=x::r/\P a x/\All2 P as r
section
variable{P P' : α->V->Prop}
theorem All2.mono:∀{as:List α}{xs:List V},(∀ a x,P a x->P' a x)->All2 P as xs->All2 P' as xs
 | [],_,_,h=>h
 | a::as,xs,f,h=>by
  let(x,r,e,h1,h2):=h;show(x,r,e,f _ _ h1,All2.mono f h2)
theorem All2.length:∀{as:List α}{xs:List V},All2 P as xs->xs.length=as.length
 | [],_,h=>by rw[show _=_ from h];rfl
 | a::as,xs,h=>by
  let(x,r,e,h1,h2):=h;rw[e,length_cons,length_cons,h2.length]
theorem All2.at_:∀{as:List α}{xs:List V}{i:Nat}{x:V},All2 P as xs->xs[i]?=some x->∃ a,as[i]?=some a/\P a x
 | [],_,_,_,h,hx=>by rw[show _=_ from h]at hx;simp at hx
 | a::as,xs,i,y,h,hx=>by
  let(x,r,e,h1,h2):=h;subst e;cases i with
  | zero=>simp at hx;subst hx;show(a,rfl,h1)
  | succ i=>simpa using All2.at_ h2 (by simpa using hx)
theorem All2.get:∀{as:List α}{xs:List V}{i:Nat}{a : α},All2 P as xs->as[i]?=some a->∃ x,xs[i]?=some x/\P a x
 | [],_,_,_,h,hx=>by simp at hx
 | a::as,xs,i,b,h,hx=>by
  let(x,r,e,h1,h2):=h;subst e;cases i with
  | zero=>simp at hx;subst hx;show(x,rfl,h1)
  | succ i=>simpa using All2.get h2 (by simpa using hx)
theorem All2.append:∀{as bs:List α}{xs ys:List V},All2 P as xs->All2 P bs ys->All2 P (as++bs) (xs++ys)
 | [],bs,xs,ys,h,g=>by rw[show xs=[]from h];show g
 | a::as,bs,xs,ys,h,g=>by
  let(x,r,e,h1,h2):=h;subst e;show(x,r++ys,rfl,h1,All2.append h2 g)
theorem All2.one{a : α}{x:V}(h:P a x):All2 P [a] [x]:=⟨x,[],rfl,h,rfl⟩
theorem All2.take:∀{as:List α}{xs:List V}(j:Nat),All2 P as xs->All2 P (as.take j) (xs.take j)
 | as,xs,0,_=>by simp only[take_zero];show rfl
 | [],xs,j+1,h=>by rw[show xs=[]from h];simp;show rfl
 | a::as,xs,j+1,h=>by
  let(x,r,e,h1,h2):=h;subst e;show(x,r.take j,by simp,h1,All2.take j h2)
theorem All2.drop:∀{as:List α}{xs:List V}(j:Nat),All2 P as xs->All2 P (as.drop j) (xs.drop j)
 | as,xs,0,h=>by simpa using h
 | [],xs,j+1,h=>by rw[show xs=[]from h];simp;show rfl
 | a::as,xs,j+1,h=>by
  let(x,r,e,h1,h2):=h;subst e;simpa using All2.drop j h2
theorem All2.repL{K:W.Frag}{f : α->D}(g:∀ a x,P a x->Rep K H (f a) x):∀{as:List α}{xs:List V},All2 P as xs->RepL K H (as.map f) xs
 | [],xs,h=>by simp only[map_nil,RepL];show h
 | a::as,xs,h=>by
  let(x,r,e,h1,h2):=h;simp only[map_cons,RepL];show(x,r,e,g _ _ h1,All2.repL g h2)
end
structure TOk(t:TD):Prop where
 n1:nameS t.nm=true
 n2:nameS t.st=true
 n3:nameS t.en=true
 ne:t.st≠t.en
 lo:∀ a,t.lo=some a->FOk 600 a
 hi:∀ a,t.hi=some a->FOk 600 a
 le:lessD (bD t.hi) (bD t.lo)=false
variable{z:Str}
theorem len8(h:nameS z=true):z.length<=8:=by
 unfold nameS at h;simp only[Bool.and_eq_true,decide_eq_true_eq]at h;show h.1.2
section
variable{kvs:List (List Key × V)}{ss:List SD}{K:W.Frag}
end
def CompJ(J:It)(k:Nat)(cs:List (Nat × Str))(g:TG)(te:TE)(σ : St)(Q:VK)(H1:Hp):Prop:=∃ W:Nat->Nat->List V->Hp->Prop,(∃ m,W 0 m [] H1)/\∀ i m ys H2,W i m ys H2->ys.length<=sizeLine /\
  ((J.stop i H2/\∀ p,H2 p=none->Q (.ref p) (upd H2 p (.lst ys))) \/
   (J.go i H2/\∀ x H3,J.yld i H2 x H3->g x (List.replicate k none++JaF cs σ) H3 λσ4 H4=>te σ4 H4 λy H5=>∃ m',m'<m/\W (i+1) m' (ys++[y]) H5))
def Jb2(J:It)(k:Nat)(cs:List (Nat × Str))(g:TG)(tt:TT)(te:TE)(σ : St)(Q:VK)(H1:Hp):Prop:=∃ W:Nat->Nat->List V->Hp->Prop,(∃ m,W 0 m [] H1)/\∀ i m ys H2,W i m ys H2->ys.length<=sizeLine /\
  ((J.stop i H2/\∀ p,H2 p=none->Q (.ref p) (upd H2 p (.lst ys))) \/
   (J.go i H2/\∀ x H3,J.yld i H2 x H3->g x (List.replicate k none++JaF cs σ) H3 λσ4 H4=>tt σ4 H4 λb H5=>if b=true then te σ4 H5 λy H6=>∃ m',m'<m/\W (i+1) m' (ys++[y]) H6 else∃ m',m'<m/\W (i+1) m' ys H5))
section
variable{cs:List (Nat × Str)}{tt:TT}{te tl:TE}{σ:St}{Q:VK}{a:Addr}{K:W.Frag}{k:Nat}{g:TG}
theorem y34y:tComp k cs (iAny K tl) g te σ H Q=tl σ H λx H1=>∃ a,x=.ref a/\(((∃ xs,SqL K H1 a xs)/\CompJ (Itl K a) k cs g te σ Q H1)\/((∃ xs,SqT K H1 a xs)/\CompJ (Itt K a) k cs g te σ Q H1)):=rfl
theorem y36y:JeO k cs (iAny K tl) g tt te σ H Q=tl σ H λx H1=>∃ a,x=.ref a/\(((∃ xs,SqL K H1 a xs)/\Jb2 (Itl K a) k cs g tt te σ Q H1)\/((∃ xs,SqT K H1 a xs)/\Jb2 (Itt K a) k cs g tt te σ Q H1)):=rfl
theorem CompJ.list(Pv:Nat->List V->Hp->Prop)(h0:Pv 0 [] H1)(hl:∀ i ys H',i<=xs.length->Pv i ys H'->SqL K H' a xs/\ys.length<=sizeLine)
  (hs:∀ i x ys H2,xs[i]?=some x->Pv i ys H2->g x (List.replicate k none++JaF cs σ) H2 λσ4 H4=>te σ4 H4 λy H5=>Pv (i+1) (ys++[y]) H5) (hd:∀ ys H2,Pv xs.length ys H2->∀ p,H2 p=none->Q (.ref p) (upd H2 p (.lst ys))) :
  CompJ (Itl K a) k cs g te σ Q H1:=Jku (tt:=tYes) Pv h0 hl hs hd
theorem Jb2.list(Pv:Nat->List V->Hp->Prop)(h0:Pv 0 [] H1)(hl:∀ i ys H',i<=xs.length->Pv i ys H'->SqL K H' a xs/\ys.length<=sizeLine)
  (hs:∀ i x ys H2,xs[i]?=some x->Pv i ys H2->g x (List.replicate k none++JaF cs σ) H2 λσ4 H4=>tt σ4 H4 λb H5=>if b=true then te σ4 H5 λy H6=>Pv (i+1) (ys++[y]) H6 else Pv (i+1) ys H5) (hd:∀ ys H2,Pv xs.length ys H2->∀ p,H2 p=none->Q (.ref p) (upd H2 p (.lst ys))) :
  Jb2 (Itl K a) k cs g tt te σ Q H1:=Jku Pv h0 hl hs hd
end
theorem Jho(x y:Str):(x++y).cps.toList=x.cps.toList++y.cps.toList:=by
 show(x.cps++y.cps).toList=_;simp
theorem Jd3(z:Str):z.length=z.cps.toList.length:=by simp[Str.length]
section
variable{ss:List SD}{c:Pr}{cs:List Pr}{tot:Int × Int}{l:Str}{s:SD}{f:Str}
end
variable{n:Nat}
theorem Jht{f : α->D}(h:∀ a,depD (f a)<=n):∀ as:List α,depL (as.map f)<=n
 | []=>by simp[depL]
 | a::as=>by
  rw[map_cons,depL];show Nat.max_le.mpr ⟨h a,Jht h as⟩
section
variable{Q:VK}{K:W.Frag}
end
section
variable{prog:Program}{A:Around}{E:Value->Shared->Prop}{w:World}{s:Shared}
end
section
variable{prog:Program}{A:Around}{E:Value->Shared->Prop}{w:World}{s:Shared}
end
section
variable{prog:Program}{A:Around}{E:Value->Shared->Prop}{w:World}{s:Shared}
end
section
variable{M:Model}{A:Around}{E:Value->Shared->Prop}{s:Shared}
end
section
variable{prog:Program}{A:Around}{E:Value->Shared->Prop}{w:World}{s:Shared}
section
variable{I a:Addr}{es:Array (Int × Value)}{ep:Nat}{Q:Option Value->Shared->Prop}{i:Nat}{t:SetTable}
end
end
section
variable{prog:Program}{A:Around}{E:Value->Shared->Prop}{w:World}{s:Shared}
end
section
variable{prog:Program}{A:Around}{E:Value->Shared->Prop}{w:World}{s:Shared}{r:Addr}{R:Result->Shared->Prop}
theorem Jlo{S:Addr}(h:wpAny (model prog w) A.in1 (Builtin.List.listExtendWith (.ref S) (.ref r) (.ref S)) (λfin s'=>match fin with | .done f=>R (.ok f) s' | .again c'=>c'.quiet=true/\codeAny (model prog w) A c' R s') (λe s'=>R (.error e) s') s) :
  codeAny (model prog w) A (.builtin "list.__iadd__" ⟨[.ref S, .ref r],[]⟩) R s:=by
 show codeAny_builtin (PySem.F.entry_list_iadd) ?_;rw[Around.under_plainId (PySem.F.plain_list_iadd) _];show h
theorem Jih{ss:List Str}{Q:Value->Shared->Prop}(h64:ss.length<64)
  (hx:∀(R:Result->Shared->Prop),(∀ s' (vs:List Value) c' ss',(∀ b o,s.heap.get? b=some o->s'.heap.get? b=some o)->s'.gens=s.gens->s'.os=s.os->s.toks<=s'.toks ->
    s'.heap.get? s.heap.objs.size=some { cls:=.type "list",dict:=none,data:=.seq vs.toArray c',slots:=#[] }->StrsAre vs ss'->ss'.Perm ss->R (.ok (.ret (.ref s.heap.objs.size))) s') ->
   codeAny (model prog w) A.in1 (.builtin "list.__iadd__" ⟨[.ref s.heap.objs.size, .ref r],[]⟩) R { s with heap:=s.heap.push { cls:=.type "list",data:=.seq ([]:List Value).toArray } })
  (q:∀ s' l (out:Array Value) ss' e,(∀ b o,s.heap.get? b=some o->s'.heap.get? b=some o)->s'.gens=s.gens->s'.os=s.os->s.toks<=s'.toks->s.heap.objs.size<=l->s'.heap.get? l=some (seqObj "list" out e)->StrsAre out.toList ss'->ss'.Perm ss->sortedS ss'=true->Q (.ref l) s') :
  wpAny (model prog w) A (call (.builtin "sorted") [.ref r]) Q E s:=by
 show Calls.call_function_entry kind_sorted plain_sorted entry_sorted (args_sorted1 _) ?_;unfold Builtin.«sorted»;show wpAny_bind (m:=checkCount "sorted" 1 1 _) (wpAny_pure ?_);show wpAny_bind ?_;unfold collect;show wpAny_bind (wpAny_runValue (codeAny_builtin (PySem.F.entry_proto_collect) ?_));rw[Around.under_plainId (PySem.F.plain_proto_collect) _];show wpAny _ A.in1.in1 (newList [] >>= λl=>again (.builtin "list.__iadd__" ⟨[l, .ref r],[]⟩)) _ _ s;show wpAny_bind (wpAny_newObj_type ?_);show wpAny_pure ⟨plainId_quiet (PySem.F.plain_list_iadd) _,hx _ λs' vs c' z k C x p h a i=>?_⟩;show wpAny_bind (m:=load s.heap.objs.size) (wpAny_load h (wpAny_pure ?_));have vl:vs.length<64:=by rw[a.length,i.length_eq];show h64
 have B:(64:Nat)<=sizeLine:=by decide
 dsimp only;show wpAny_bind (wpAny_newList ?_ (by show vs.length<=sizeLine;ac_nf));have c:(s'.heap.push (seqObj "list" vs.toArray 0)).get? s'.heap.objs.size=some (seqObj "list" vs.toArray 0):=Heap.get?_push_size _ rfl;show wpAny_bind (wpAny_holding (wpAny_call_entry slot_list_sort ⟨_,c,rfl⟩ entry_list_sort (list_sort_treeK strKind_oneLt c a.keysOf (λH G rest e=>keyKind_strs (by rw[<- e];show a)) vl λn g d=>⟨_,rfl,?_⟩) (args_list_sort _)));let(f,D,t,v):=sorted_out_str a g d;let(u,y):=sortedHeap_at (out:=(arrOf n).map (·.2)) c;show wpAny_pure ⟨_,rfl,q _ s'.heap.objs.size _ f u (λb o e=>?_) C x p ?_ y D (t.trans i) v⟩
 .have j:=Heap.lt_size (k b o e);rw[sortedHeap_old (Nat.ne_of_lt j) (by rw[size_push'];show Nat.lt_succ_of_lt j)];show Heap.get?_push_of_some _ (k b o e)
 .show Nat.le_of_lt (Heap.lt_size h)
theorem Jjv:∀(vs:List Value),(∀ v∈vs, ∃ x t,v=.str x t)->StrsAre vs (vs.map strOf)
 | [],_=>.nil
 | v::vs,h=>by
  let(x,t,rfl):=h v (by simp);show .cons x t (Jjv vs λu hu=>h u (by simp[hu]))
theorem Jhi{K:Type}[DecidableEq K]{knd:PySem.KeyKind prog w K}{d:Addr}{kvs:List (K × Value)}{ep:Nat}{ss:List Str}{Q:Value->Shared->Prop}(hh:A.handled=none)(lo:(d == sysModules)=false)(hd:s.heap.DictAt knd d kvs ep)(h64:kvs.length<64)
  (hl:ss.length=kvs.length) (hk:∀ i k x v,kvs[i]?=some (k,x)->knd.is k v=true->∃ t,v=.str (ss.getD i ⟨#[]⟩) t)
  (q:∀ s' l (out:Array Value) ss' e,(∀ b o,s.heap.get? b=some o->s'.heap.get? b=some o)->s'.gens=s.gens->s'.os=s.os->s.toks<=s'.toks->s.heap.objs.size<=l->s'.heap.get? l=some (seqObj "list" out e)->StrsAre out.toList ss'->ss'.Perm ss->sortedS ss'=true->Q (.ref l) s') :
  wpAny (model prog w) A (call (.builtin "sorted") [.ref d]) Q E s:=by
 have O:(64:Nat)<=sizeLine:=by decide
 have H:=hd.lt_size;have M:A.in1.handled=none:=by simp[hh]
 show Jih (ss:=ss) ∅ (λR k=>?_) q;obtain⟨y,m⟩:∃ y:Result->Shared->Prop, ∀ r s',y r s'↔∃ g B a h,r=.ok (.ret (.ref s.heap.objs.size))/\s'={ s with heap:=g,toks:=B }/\(∀ b o,b≠s.heap.objs.size->(s.heap.push { cls:=.type "list",data:=.seq ([]:List Value).toArray }).get? b=some o->g.get? b=some o)/\g.get? s.heap.objs.size=some { cls:=.type "list",dict:=none,data:=.seq a h,slots:=#[] }/\ItemsOf (λi v=>∃ k x,kvs[i]?=some (k,x)/\knd.is k v=true) a kvs.length:=⟨_,λ_ _=>Iff.rfl⟩;have u:=codeAny_toks_of (n:=s.toks) (s:={ s with heap:=s.heap.push { cls:=.type "list",data:=.seq ([]:List Value).toArray } }) (Nat.le_refl _) (Jlo (A:=A.in1) (R:=y)
  (W.kdl_extend (R:=y) (s:={ s with heap:=s.heap.push { cls:=.type "list",data:=.seq ([]:List Value).toArray } }) (W.kdl_dict (knd:=knd) (kvs:=kvs) (ep:=ep) lo) M (hd.push _) s.heap.objs.size (Nat.ne_of_gt H) (Nat.ne_of_gt H) (.ref s.heap.objs.size) 0 (Heap.get?_push_size _ rfl) (λg B a h F hl f=>(m _ _).mpr ⟨g,B,a,h,rfl,rfl,F,hl,f⟩) ∅))
 show codeAny_mono u ?_;rintro r s' ⟨P,L⟩;let(g,B,a,h,rfl,rfl,F,p,f):=(m _ _).mp L;have N:StrsAre a.toList ss:=by
  have j:∀ v∈a.toList, ∃ x t,v=.str x t:=λv J=>by
   let(i,G):=List.getElem?_of_mem J;rw[Array.getElem?_toList]at G;let(D,x,z,C):=f.2 i v G;let(t,e):=hk i D x v z C;show(_,t,e)
  have:=Jjv _ j;have e:a.toList.map strOf=ss:=by
   show List.ext_getElem? λi=>?_;rw[List.getElem?_map,Array.getElem?_toList];have T:a.size=kvs.length:=f.1;by_cases c:i<kvs.length
   .have z:a[i]?=some a[i]:=Array.getElem?_eq_getElem ∅;let(D,x,C,S):=f.2 i _ z;let(t,I):=hk i D x _ C S;rw[z,Option.map_some,I,List.getElem?_eq_getElem ∅];simp[strOf,List.getD_eq_getElem?_getD,List.getElem?_eq_getElem (show i<ss.length by ac_nf)]
   .rw[Array.getElem?_eq_none ∅,List.getElem?_eq_none ∅];rfl
  rw[e]at this;show this
 show k _ a.toList h ss (λb o e=>F b o (Nat.ne_of_lt (Heap.lt_size e)) (Heap.get?_push_of_some _ e)) rfl rfl P (by rw[Array.toArray_toList];show p) N (.refl _)
end
theorem Jly:typeLookup (.type "list") "keys"=pure none:=by rw[typeLookup_type,builtinLookup_eq_fast];kernel_rfl
section
variable{prog:Program}{A:Around}{E:Value->Shared->Prop}{a:Addr}{its:Array Value}{w:World}{s:Shared}
theorem Jls{Q:Option Value->Shared->Prop}(hh:A.handled=none)(hx:s.heap.get? a=some { cls:=.type "list",dict:=none,data:=.seq its n,slots:=#[] })
   (q:∀ h' t',(∀ b o,s.heap.get? b=some o->h'.get? b=some o)->Q none { s with heap:=h',toks:=t' }) :
    wpAny (model prog w) A (getAttr? (.ref a) "keys") Q E s:=by
  let(j,g,d,u,i):=s;have h:∀ c,(⟨j,g,d,c,i⟩:Shared).TypeIs (.ref a) "list":=λ_=>⟨_,hx,rfl⟩;have k:=sub_AttributeError;have m:=PySem.F.slot_list_getattribute.lookup;have r:=PySem.F.slot_list_getattribute.bind (.ref a);have p:=am_list_getattr_none;unfold getAttr?;unfold getAttrBy?;unfold getAttrBy;repeat (any_goals (first | assumption | show h _ | ((with_reducible show wpAny _ _ (call (Value.builtin "list.__getattribute__") _ _) _ _ _);show call_meets PySem.F.slot_list_getattribute (h _) am_entry_list_getattribute (PySem.F.args_list_getattribute_2 _ _) (meets_getattribute_miss_list a its n #[] "keys" _ Jly (by decide +kernel) ⋯) ⟨hx,hh,λh' c e f=>?_⟩) | wp_step))
  let(t',l,t):=f.there;show wpAny _ _ (getattributeRaised _ _ _ _ _ _ _) _ _ _;unfold getattributeRaised;repeat (any_goals (first | assumption | wp_step))
  show q h' c f.keeps
end
theorem Jf8:entryFor table "dict.update.loop"=some Builtin.«dict.update.loop»:=entryFor_of_tree (by kernel_rfl)
theorem Jds:plainId "dict.update.loop"=true:=by decide +kernel
def dkv(key:Nat->Str)(val:Nat->Value)(i:Nat):List (Key × Value):=(List.range i).foldl (λl j=>PySem.stored l (Sum.inr (key j)) (val j)) []
theorem Jfl(key:Nat->Str)(val:Nat->Value)(i:Nat):dkv key val (i+1)=PySem.stored (dkv key val i) (Sum.inr (key i)) (val i):=by
 unfold dkv;rw[List.range_succ,List.foldl_append];rfl
theorem JgJ(key:Nat->Str)(val:Nat->Value):∀ i,(dkv key val i).length<=i
 | 0=>Nat.le_refl _
 | i+1=>by
  have:=JgJ key val i;rw[Jfl];unfold PySem.stored;split <;> simp <;> ac_nf
section
variable{prog:Program}{A:Around}{E:Value->Shared->Prop}{w:World}{s:Shared}
def JdO(h:Heap)(a:Addr)(k v:Value):Prop:=∃ o c,h.get? a=some o/\o.cls=.type "tuple"/\o.data=.seq #[k,v] c
variable{h:Heap}
theorem JdO.at_{h':Heap}{a:Addr}{k v:Value}(x:JdO h a k v)(m:∀ o,h.get? a=some o->h'.get? a=some o):JdO h' a k v:=by
 let(o,c,e,r):=x;show(o,c,m o e,r)
theorem JlB{t:Tok}:(Jax prog w).is (Sum.inr z) (.str z t)=true:=by
 show keyIs (Sum.inr z) (.str z t)=true;simp[keyIs,Value.isStrOf]
theorem JiC{R:Result->Shared->Prop}{I:Addr}{fp wr:List Addr}{G:Array GenState->Array GenState->Prop}{P:Nat->Value->Prop}{St:Nat->Shared->Prop}
  (W:WalksS prog w A.in1 I fp wr G n P St) (d:Addr) (hdf:d∉fp) (adr:Nat->Addr) (key:Nat->Str) (val:Nat->Value) (hP:∀ i v,P i v->v=.ref (adr i)) (nd:∀ i,i<n->adr i≠d) (nw:∀ i,i<n->adr i∉wr) (hz:n<=sizeLine) :
  ∀(k i:Nat)(s:Shared),n-i=k->i<=n->St i s->s.heap.DictOf (Jax prog w) d (dkv key val i)->(∀ j,j<n->∃ tk,JdO s.heap (adr j) (.str (key j) tk) (val j)) ->
   (∀ s',Moved (d::wr) G s s'->s'.heap.DictOf (Jax prog w) d (dkv key val n)->R (.ok (.ret .none)) s') ->
   codeAny (model prog w) A (.builtin "dict.update.loop" ⟨[.ref d, .ref I, .int (i:Int) 0, .none],[]⟩) R s:=by
 have N:d∉wr:=λh=>hdf (W.sub _ h);have M:∀ b∈wr,b∈d::wr:=λb h=>mem_cons_of_mem _ h;intro k;induction k with
 | zero=>
  intro i s Y Q r C g q;have : i=n:=by ac_nf
  subst this;show codeAny_builtin Jf8 ?_;rw[Around.under_plainId Jds _];show wpAny_bind (m:=pyNext (.ref I)) (W.done s _ _ r λs' f=>?_);show wpAny_bind (m:=Builtin.Dict.addKeywords d []) (wpAny_pure (wpAny_pure ?_));show q s' (f.mono M) ?_;let(o,F,K,D,rest):=C;show(o,F,K,f.heap d o N D,rest)
 | succ k ih=>
  intro i s Y Q r C g q;have c:i<n:=by ac_nf
  show codeAny_builtin Jf8 ?_;rw[Around.under_plainId Jds _];show wpAny_bind (m:=pyNext (.ref I)) (W.item i s _ _ c r λv s' S H f=>?_);rw[hP i v S];have E:s'.heap.DictOf (Jax prog w) d (dkv key val i):=by
   let(o,F,K,D,rest):=C;show(o,F,K,f.heap d o N D,rest)
  have a:∀ j,j<n->∃ tk,JdO s'.heap (adr j) (.str (key j) tk) (val j):=λj l=>by
   let(tk,e):=g j l;show(tk,e.at_ λo z=>f.heap _ o (nw j l) z)
  let(tk,ot,ct,L,u,p):=a i c;have dl:=JgJ key val i;show wpAny_bind (wpAny_holding ?_);show wpAny_bind (wpAny_tryCatch ?_);unfold Builtin.Dict.pairItems;show wpAny_bind (wpAny_typeOf (T:="tuple") ⟨_,L,u⟩ ?_);rw[if_pos ⋯];unfold seqItems?;show wpAny_bind (wpAny_bind (wpAny_load L ?_));rw[p];show wpAny_pure (wpAny_pure ?_);show wpAny _ _ (holding [Value.str (key i) tk,val i] (dictSet d (.str (key i) tk) (val i))) _ _ _;show wpAny_holding (wpAny_dictSet_pairs (knd:=Jax prog w) (k:=Sum.inr (key i)) JlB E (λO Z x=>?_) ∅);have t:O.DictOf (Jax prog w) d (dkv key val (i+1)):=by
   rw[Jfl];show Z
  show wpAny_pure ⟨plainId_quiet Jds _,ih (i+1) { s' with heap:=O,toks:=s'.toks+1 } ∅ c (W.frame _ s' _ _ H (Nat.le_succ _) λb J o e=>?_) t (λj l=>?_) λU X y=>?_⟩
  .rw[x.2 b (λh:b=d=>hdf (h ▸ J))];show e
  .let(B,V):=a j l;show(B,V.at_ λo z=>(x.2 _ (nd j l)).trans z)
  .show q U (Moved.trans W.gtrans ((f.mono M).then_heap (Nat.le_succ _) λb o J e=>?_) X) y;rw[x.2 b (λh:b=d=>J (by rw[h];show mem_cons_self))];show e
variable{l:Addr}
theorem Jeb{items:Array Value}{c0:Nat}{Q:Value->Shared->Prop}(hh:A.handled=none)(hl:s.heap.get? l=some { cls:=.type "list",dict:=none,data:=.seq items c0,slots:=#[] })(adr:Nat->Addr)(key:Nat->Str)(val:Nat->Value)
  (hP:∀(i:Nat)(v:Value),items[i]?=some v->v=.ref (adr i)) (tup:∀ j,j<items.size->∃ tk,JdO s.heap (adr j) (.str (key j) tk) (val j)) (hz:items.size<=sizeLine)
  (q:∀ h' tk,(∀ b o,s.heap.get? b=some o->h'.get? b=some o)->h'.DictOf (Jax prog w) s.heap.objs.size (dkv key val items.size)->Q (.ref s.heap.objs.size) { s with heap:=h',toks:=tk }) :
  wpAny (model prog w) A (call (.type "dict") [.ref l]) Q E s:=by
 show callType_codes (Q₁:=λf B=>f=.ref s.heap.objs.size/\B={ s with heap:=s.heap.push { cls:=.type "dict",data:=.dict #[] } }) (PySem.F.kt_called_dict) (PySem.F.kt_typeCall_dict_1 _) (PySem.F.entry_dict_init) (kt_code_dict_new _ ⟨rfl,rfl⟩) ?_;rintro f B ⟨rfl,rfl⟩;have k:(s.heap.push { cls:=.type "dict",data:=.dict #[] }).DictOf (Jax prog w) s.heap.objs.size []:=Heap.DictOf.new s.heap;show(k.typeIs,PySem.F.args_dict_init_2 _ _,?_);generalize g:({ cls:=.type "dict",data:=.dict #[] }:Obj)=o0 at k ⊢;have t:(s.heap.push o0).get? l=some { cls:=.type "list",dict:=none,data:=.seq items c0,slots:=#[] }:=Heap.get?_push_of_some _ hl;have L:=Heap.lt_size hl;have V:(s.heap.push o0).objs.size=s.heap.objs.size+1:=Heap.size_push ..;unfold Builtin.«dict.__init__»;show wpAny_bind ?_;unfold Builtin.Dict.selfAndRest;show wpAny_bind (wpAny_notOrdered_dict k.typeIs (wpAny_pure ?_));show wpAny _ _ (Builtin.Dict.updateFrom "dict.__init__" s.heap.objs.size (.ref l) [] Value.none) _ _ _;unfold Builtin.Dict.updateFrom;show wpAny_bind (wpAny_typeOf (T:="list") ⟨_,t,rfl⟩ ?_);rw[if_pos ⋯];have N:A.in1.in1.handled=none:=by simp[hh]
 show wpAny_bind (Jls N t λd J m=>?_);show wpAny_ite_split (λ_=>?_) (λz=>absurd rfl z);show wpAny_bind (wpAny_rule ?_);have x:=m _ _ t;have y:d.DictOf (Jax prog w) s.heap.objs.size []:=by
  let(o,G,H,g,rest):=k;show(o,G,H,m _ _ g,rest)
 have dlt:s.heap.objs.size<d.objs.size:=by
  let(o,G,H,g,rest):=y;show Heap.lt_size g
 have D:d.IsList l items:=⟨_,x,rfl,c0,rfl⟩;show wpAny_bind (wpAny_pyIter_list (s:=⟨d,s.gens,s.drawn,J,s.os⟩) D ?_);have C:∀ j,j<items.size->adr j<s.heap.objs.size:=λj a=>by
  let(tk,o,c,e,_):=tup j a;show Heap.lt_size e
 have u:l<d.objs.size:=Heap.lt_size x;have r:A.in1.in1.handled=none:=by simp[hh]
 show wpAny_pure ⟨plainId_quiet Jds _,?_⟩;show JiC ((Walks.list r d.objs.size l (Nat.ne_of_lt u) items).toS) s.heap.objs.size (by simp only[mem_cons,not_mem_nil,or_false,not_or];show(Nat.ne_of_lt dlt,Nat.ne_of_gt L)) adr key val hP (λj a=>Nat.ne_of_lt (C j a)) (λj a=>by simp only[mem_cons,not_mem_nil,or_false];show Nat.ne_of_lt (Nat.lt_trans (C j a) dlt)) hz items.size 0 _ ∅ (Nat.zero_le _) ⟨⟨_,Heap.get?_push_size _ rfl,rfl,rfl⟩,D.push _⟩ (y.push _) (λj a=>?_) λO h U=>?_
 .let(tk,e):=tup j a;show(tk,e.at_ λo z=>Heap.get?_push_of_some _ (m _ _ (Heap.get?_push_of_some _ z)))
 .let(h',S,P,n,p):=O;have R:S=s.gens:=h.gens;have M:P=s.drawn:=h.drawn;have K:p=s.os:=h.os;subst R;subst M;subst K;show(rfl,q h' n (λb o e=>?_) U);have I:=Heap.lt_size e;show h.heap b o ?_ (Heap.get?_push_of_some _ (m _ _ (Heap.get?_push_of_some _ e)));simp only[mem_cons,not_mem_nil,or_false,not_or];show(Nat.ne_of_lt I,Nat.ne_of_lt (Nat.lt_trans I dlt))
end
section
variable{X:Cx}{pins:List (Addr × Obj)}{σ:List (Option V)}{s':Shared}{s:Shared}
theorem Inv.like(I:Inv X pins σ H { s with heap:=s'.heap,toks:=s'.toks })(eg:s'.gens=s.gens)(eo:s'.os=s.os):Inv X pins σ H s' :=
 ⟨I.ok,by rw[eo];show I.os,by rw[eg];show I.bare,I.base,I.loc,I.cell,I.free,I.freeC,I.pin,I.hok,I.len⟩
theorem JgB:∀{vs:List Value}{ss:List Str},StrsAre vs ss->Vals (ss.map V.str) vs
 | _,_, .nil=>.nil
 | _,_, .cons z t r=>.cons ⟨t,rfl⟩ (JgB r)
def Jk5(out ss:List Str):Prop:=out.Perm ss/\sortedS out=true
def JmE(xs:List V)(H:Hp)(Q:VK):Prop:=∃ d kvs ss,xs=[.ref d]/\H d=some (.dK kvs)/\kvs.map (·.1)=ss.map Sum.inr/\ss.length<64/\∀ l out,H l=none->Jk5 out ss->Q (.ref l) (upd H l (.lst (out.map V.str)))
theorem Je2(hc:X.calm=true):CallR X (.builtin "sorted") JmE:=by
 intro D s σ H xs us Q I r h;let(d,c,ss,rfl,e,A,O,q):=h;let(u,rfl,S):=vals1 r;cases S;let(R,T,m,f,J):=dk_of I.hok e;let(ep,K):=J.dictAt;have sl:(64:Nat)<=sizeLine:=by decide
 have Y:ss.length=c.length:=by simpa using(congrArg List.length A).symm
 have P:m.length=c.length:=f.length.symm;have j:m.map (·.1)=c.map (·.1):=by
  clear J K A Y P R q e;induction f with
  | nil=>rfl
  | cons h1 _ ih=>
   rw[map_cons,map_cons,ih,h1.1]
 show Jhi (ss:=ss) (I.ok.hd hc) T K ∅ ∅ (λi k x v L M=>?_) λG l g a Z k W N et E U F B p=>?_
 .have C:(m.map (·.1))[i]?=some k:=by rw[List.getElem?_map,L];rfl
  rw[j,A,List.getElem?_map]at C;let(z,n,rfl):=Option.map_eq_some_iff.mp C;rcases JaT (show keyIs (Sum.inr z) v=true from M)with⟨b,hb,_⟩ | ⟨y,t,hy,rfl⟩
  .cases hb
  .cases hy;show(t,by rw[List.getD_eq_getElem?_getD,n];rfl)
 .have lo:g.toList.length<=sizeLine:=by
   rw[F.length,B.length_eq];ac_nf
  show(.ref l,_,Inv.like (s:=s) (I.laid (t':=G.toks) (o:=.lst (a.map V.str)) k E (show ObjOk X.prog X.w _ G.heap l (.lst (a.map V.str))from⟨by rw[length_map,B.length_eq];ac_nf,g.toList,Z,JgB F,by rw[Array.toArray_toList];show U⟩)) W N,rfl,q l a (I.hok.fresh E) ⟨B,p⟩)
def JdS(ps:List (Str × V)):List (Key × V):=ps.foldl (λl p=>putK l (Sum.inr p.1) p.2) []
def JmB(xs:List V)(H:Hp)(Q:VK):Prop:=∃(l:Addr)(as:List Addr)(ps:List (Str × V)),xs=[.ref l]/\H l=some (.lst (as.map V.ref))/\as.length=ps.length/\(∀(i:Nat)(a:Addr)(p:Str × V),as[i]?=some a->ps[i]?=some p->H a=some (.tup [.str p.1,p.2]))/\∀ d,H d=none->Q (.ref d) (upd H d (.dK (JdS ps)))
theorem JhU(hc:X.calm=true):CallR X (.type "dict") JmB:=by
 intro N s σ H xs us Q I r h;let(l,b,d,rfl,e,hl,hp,q):=h;let(u,rfl,Y):=vals1 r;cases Y;let(W,C,n,ri,K,el):=I.lstM e;have F:b.length<=sizeLine:=by simpa using W
 have li:C.length=b.length:=by simpa using K.symm
 have S:∀ j,j<b.length->∃ u a p f,b[j]?=some a/\d[j]?=some p/\RelV p.2 u/\JdO s.heap a (.str p.1 f) u:=λj D=>by
  have B:=List.getElem?_eq_getElem D;have w:=List.getElem?_eq_getElem (l:=d) (i:=j) ∅;let(_,ts,y,o,ho,J,Z,hd):=I.hok _ _ (hp j _ _ B w);cases y with
  | cons r1 y=>
   cases y with
   | cons r2 y=>
    cases y;let(f,rfl):=r1;show(_,_,_,f,B,w,r2,o,Z,ho,J,hd)
 let(A,m):=Classical.skolem.mp (show∀ j:Nat, ∃ u:Value,j<b.length->∃ a p f,b[j]?=some a/\d[j]?=some p/\RelV p.2 u/\JdO s.heap a (.str p.1 f) u fromλj=>by
  by_cases c:j<b.length
  .let(u,h):=S j c;show(u,λ_=>h)
  .show(.none,λz=>absurd z c))
 have t:∀ j a,b[j]?=some a->b.getD j 0=a:=λj a h=>by rw[List.getD_eq_getElem?_getD,h];rfl
 have g:∀ j (p:Str × V),d[j]?=some p->(d.getD j (⟨#[]⟩, .non)).1=p.1:=λj p h=>by rw[List.getD_eq_getElem?_getD,h];rfl
 have L:C.toArray.size=b.length:=by rw[size_toArray];show li
 show Jeb (I.ok.hd hc) el (λj=>b.getD j 0) (λj=>(d.getD j (⟨#[]⟩, .non)).1) A (λj v E=>?_) (λj D=>?_) ∅ λh' f k P=>?_
 .rw[List.getElem?_toArray]at E;have D:j<b.length:=by have:=(List.getElem?_eq_some_iff.mp E).1;ac_nf
  let(u,O,T):=ri.get (i:=j) (x:=.ref b[j]) (by rw[List.getElem?_map,List.getElem?_eq_getElem D];rfl);rw[E]at O;cases O;rw[t j _ (List.getElem?_eq_getElem D)];show T
 .let(a,p,f,B,w,R,M):=m j ∅;show(f,?_);rw[t j a B,g j p w];show M
 .have G:∀ i,i<=b.length->KV (JdS (d.take i)) (dkv (λj=>(d.getD j (⟨#[]⟩, .non)).1) A i):=λi=>by
   induction i with
   | zero=>intro _;show .nil
   | succ i ih=>
    intro hi;let(a,p,f,B,w,R,M):=m i ∅;rw[Jfl,take_succ,w];unfold JdS;rw[List.foldl_append];rw[g i p w];show(ih ∅).put _ R
  have r:=G b.length (Nat.le_refl _);rw[take_of_length_le ∅]at r;have U:(JdS d).length<=sizeLine:=by
   rw[r.length];show Nat.le_trans (JgJ _ _ _) F
  rw[L]at P;show(.ref s.heap.objs.size,_,I.laid (a:=s.heap.objs.size) (o:=.dK (JdS d)) (t':=f) k (Nat.le_refl _) (Jhv U (beq_eq_false_iff_ne.mpr (Ne.symm (Nat.ne_of_lt I.big))) r P),rfl,q _ (I.hok.fresh (Nat.le_refl _)))
end
def negF(a:Int × Int):Int × Int:=(-a.1,a.2)
def lessF(a c:Int × Int):Bool:=decide (a.1*c.2<c.1*a.2)
structure FB(A B:Nat)(a:Int × Int):Prop where
 s1:Mth.Sz A a.1
 s2:Mth.Sz B a.2
 b1:1<=a.2
 g1:Mth.g a.1 a.2=1
variable{A B:Nat}{a:Int × Int}
theorem FB.ok(h:FB A B a)(h1:A<=n)(h2:B<=n):FOk n a:=⟨h.s1.mono h1,h.s2.mono h2,h.b1,h.g1⟩
theorem FB.neg(h:FB A B a):FB A B (negF a):=⟨by
 have:=h.s1;unfold Mth.Sz at this ⊢;unfold negF;rw[Int.natAbs_neg];show this,h.s2,h.b1,by
 have:=h.g1;unfold Mth.g negF at *;simpa using this⟩
variable{C:Nat}
theorem FB.add{D m:Nat}{c:Int × Int}(h:FB A B a)(k:FB C D c)(h1:A+D<=n)(h2:C+B<=n)(h3:B+D<=m):FB (n+1) m (addF a c):=by
 have b:a.2*c.2≠0:=Int.mul_ne_zero (by have:=h.b1;ac_nf) (by have:=k.b1;ac_nf);have d:=(h.s1.mul k.s2).mono h1;have e:=(k.s1.mul h.s2).mono h2;show(Mth.Sz.top b (d.add e),(Mth.Sz.bot b (h.s2.mul k.s2)).mono h3,Mth.Jct b,Mth.g_low b)
theorem FB.low{t:Int}(hb:1<=b)(h1:Mth.Sz A t)(h2:Mth.Sz B b):FB A B (Mth.top t b,Mth.bot t b):=by
 have a:b≠0:=by ac_nf
 show(Mth.Sz.top a h1,Mth.Sz.bot a h2,Mth.Jct a,Mth.g_low a)
variable{X:Cx}{e:Expr}{ta:TE}{pos:Pos}
theorem JlO{K:W.Frag}{f:Str}(hK:X.K=K)(he:PE X e ta)(hb:attributeBase e f X.env (eval e X.env)=eval e X.env):PE X (.Attribute e f pos) (tFld K ta f):=by
 subst hK;show Jas he hb
structure FW(A B:Nat)(a:Int × Int):Prop where
 s1:Mth.Sz A a.1
 s2:Mth.Sz B a.2
 b1:1<=a.2
theorem FB.w(h:FB A B a):FW A B a:=⟨h.s1,h.s2,h.b1⟩
theorem FW.mono{D:Nat}(h:FW A B a)(h1:A<=C)(h2:B<=D):FW C D a:=⟨h.s1.mono h1,h.s2.mono h2,h.b1⟩
section
variable{o:Expr}{es:List Expr}{to:TE}{name:Str}{apos cpos:Pos}{T id:String}{r:V->List V->Hp->VK->Prop}{K:W.Frag}{t:TA}
end
variable{kvs:List (Key × V)}{vs:List (Key × Value)}
theorem JjG(r:KV kvs vs):Vals (kvs.map (·.2)) (vs.map (·.2)):=by
 unfold KV at r;induction r with
 | nil=>show .nil
 | cons h _ ih=>show .cons h.2 ih
section
variable{prog:Program}{A:Around}{E:Value->Shared->Prop}{w:World}{s:Shared}
end
section
variable{k':Nat}{x mn:Str}{C:Addr}{Cs:Addr->Prop}{ps:List Str}{sp:Sp}{p apos:Pos}{o:Expr}{es:List Expr}{k:Nat}{t:TA}
abbrev TX:=St->Hp->VK->XK->Prop
end
theorem Ji4:OpR X (compareOp .NotIn) (rIn X.K true):=Jgo
section
variable{σ:St}{Q:VK}{E:XK}{ty:TE}{ts:TA}{tc:TT}{u:TX}{C:Addr}{sp:Sp}{Cs:Addr->Prop}{td:TE}{t:TX}{m:Str}
theorem y41y:tDIn ty td σ H Q=ty σ H λy H1=>td σ H1 λx H2=>∃ a o,x=.ref a/\DGet H2 a y o/\Q (.bl o.isSome) H2:=rfl
theorem y45y:Jjx ty td σ H Q=ty σ H λy H1=>td σ H1 λx H2=>∃ a o,x=.ref a/\DGet H2 a y o/\Q (.bl (!o.isSome)) H2:=rfl
end
section
variable{κ:Type}[DecidableEq κ]{f : α->κ}{k : κ}{u y : α}
end
section
variable{P : α->V->Prop}
end
section
variable{P P':TD->V->Prop}{ts:List TD}{t:TD}
end
theorem sub_len[DecidableEq α]:∀(l m:List α),l.Nodup->l ⊆ m->l.length<=m.length
 | [],m,_,_=>by simp
 | a::l,m,hn,hs=>by
  rw[nodup_cons]at hn;have ha:a∈m:=hs (by simp);have:=sub_len l (m.erase a) hn.2 λx hx=>(List.mem_erase_of_ne (show x≠a fromλe=>hn.1 (e ▸ hx))).mpr (hs (by simp[hx]));rw[List.length_erase_of_mem ha]at this;have:=List.length_pos_of_mem ha;rw[length_cons];ac_nf
section
variable{pins:List (Addr × Obj)}{σ:St}{a:Addr}{u r:Value}{y:V}{A:Around}{E:Value->Shared->Prop}{s:Shared}{k:Key}{v:Option V}{o:Option Value}
theorem Jke{w:Value}(h:RelO v o)(e:o=some w):∃ x,v=some x/\RelV x w:=by
 subst e;cases v with
 | none=>show absurd h (by simp[RelO])
 | some x=>show(x,rfl,h)
theorem Jkd(h:RelO v o)(e:o=none):v=none:=by
 subst e;cases v with
 | none=>rfl
 | some x=>show absurd h (by simp[RelO])
theorem JjP{Q:Value->Shared->Prop}(I:Inv X pins σ H s)(e:H a=some (.dK kvs))(ry:RelV (kV k) u)(rd:RelV y r)(hl:kvs.length<sizeLine)
  (h1:∀ v w' s',valV kvs k=some v->Inv X pins σ H s'->RelV v w'->Q w' s') (h2:∀ s',valV kvs k=none->Inv X pins σ (upd H a (.dK (putK kvs k y))) s'->Q r s') :
  wpAny (model X.prog X.w) A (call (.builtin "dict.setdefault") [.ref a,u,r]) Q E s:=by
 let(z,f,i,b,d):=dk_of I.hok e;show call_meetsIn PySem.F.slot_dict_setdefault d.typeIs PySem.F.entry_dict_setdefault (PySem.F.args_dict_setdefault_3 _ _ _) (PySem.kt_meets_setdefault (Jax X.prog X.w) a (kV_is ry) f r) ⟨i,d,by rw[<- b.length];show z,λw h=>?_,λt p c n=>?_⟩
 .let(x,m,l):=Jke (b.val k) h;show h1 x w _ m (I.tok _) l
 .have g:=Jkd (b.val k) t;show h2 _ g ?_;have o:∃ q,p.get? a=some q:=let⟨q,_,_,hq,_⟩:=c;⟨q,hq⟩;have j:(putK kvs k y).length<=sizeLine:=by have:=Jbf kvs k y;ac_nf
  show Jfk I (by rw[e];show True.intro) n o (Jhv j f (b.put k rd) c)
end
def tDSet(td ty tx:TE):TE:=λσ H Q=>td σ H λx H1=>∃ a,x=.ref a/\IsD H1 a/\ty σ H1 λy H2=>tx σ H2 λz H3=>∃ kvs k,H3 a=some (.dK kvs)/\y=kV k/\kvs.length<sizeLine /\
 (∀ v,valV kvs k=some v->Q v H3)/\(valV kvs k=none->Q z (upd H3 a (.dK (putK kvs k z))))
section
variable{o:Expr}{apos cpos:Pos}{ty tx:TE}{f:Expr}{td:TE}
theorem Ji8(ho:PE X o td)(he:PE X e ty)(hf:PE X f tx)(m:M2 X o "setdefault" apos e f cpos):PE X (.Call (.Attribute o "setdefault" apos) [e,f] [] cpos) (tDSet td ty tx):=by
 intro b s σ H Q I h;show wpAny_Call_method m.base m.few m.line PySem.F.plainAttrs_dict PySem.F.slot_dict_setdefault PySem.F.type_dict_setdefault (thn (ho b s σ H _ I h) λu r ζ=>?_);let(x,K,I1,C,a,M,d,t):=ζ;subst M;obtain rfl:u=Value.ref a:=C;let(j,E,_):=Jga I1 d;show(j,E,?_);rw[m.trees];show Calls.callWith_builtin rfl (Calls.evalArgs_plain (Calls.spliced_cons (thn (he b r σ K _ I1 t) λR l ζ=>?_)));let(y,q,I2,n,D):=ζ;show Calls.spliced_cons (thn (hf b l σ q _ I2 D) λO S ζ=>?_);let(z,L,I3,i,p,k,B,A,w,N,G):=ζ;show Calls.spliced_nil ?_
 subst A;show JjP I3 B n i w (λv P J c I4 g=>⟨v,L,I4,g,N v c⟩) λJ c I4=>⟨z,_,I4,i,G c⟩
end
def Jg9:V->List V->Hp->VK->Prop:=λx vs H Q=>∃ l xs y n,x=.ref l/\vs=[.int ((n:Nat):Int),y]/\H l=some (.lst xs)/\n<=xs.length/\xs.length<sizeLine/\Q .non (upd H l (.lst (xs.take n++y::xs.drop n)))
theorem Jgf:MtM X "list.insert" Jg9:=by
 intro c s σ H x E v L Q I p b h;let(l,G,y,i,rfl,rfl,d,D,K,q):=h;cases p;cases b with
 | cons r1 b=>
  let(t,rfl):=r1;let(u,rfl,g):=vals1 b;let(z,a,n,r,J,e):=I.lstM d;have o:=sizeLine_eq;have m:=fitsIndex_both (k:=(i:Int)) ∅ ∅;have f:¬(!Builtin.List.listFitsIndex (i:Int))=true:=by rw[m];decide
  have A:a.toArray.size<=sizeLine:=by rw[size_toArray];ac_nf
  clear o;generalize hj:(i:Int)=j at f ⊢;have C:=@AutoSeq1.list_insert_list_int_val_1 l a.toArray n j t u f A;show call_meets F.slot_list_insert ⟨_,e,rfl⟩ F.entry_list_insert (F.args_list_insert_3 _ _ _) C ⟨e,?_⟩;show(.non,_,I.lset (its':=a.take i++u::a.drop i) d e ?_ ?_ ?_,rfl,q)
  .subst hj;have B:min i a.length=i:=by ac_nf
   have w:(if(i:Int)<0 then((i:Int)+(a.toArray.size:Int)).toNat else min (i:Int).toNat a.toArray.size)=i:=by
    rw[if_neg ∅,Int.toNat_natCast,size_toArray,B]
   show(a.toArray.extract 0 (if(i:Int)<0 then((i:Int)+(a.toArray.size:Int)).toNat else min (i:Int).toNat a.toArray.size)).push u++a.toArray.extract (if(i:Int)<0 then((i:Int)+(a.toArray.size:Int)).toNat else min (i:Int).toNat a.toArray.size)=_;rw[w];apply Array.ext';simp;show take_of_length_le (by rw[List.length_drop];show Nat.le_refl _)
  .show(r.take i).append (.cons g (r.drop i))
  .rw[length_append,length_cons,length_take,List.length_drop];ac_nf
section
variable{σ:St}{Q:VK}{ty tx:TE}{td:TE}
theorem y49y:tDSet td ty tx σ H Q=td σ H λx H1=>∃ a,x=.ref a/\IsD H1 a/\ty σ H1 λy H2=>tx σ H2 λz H3=>∃ kvs k,H3 a=some (.dK kvs)/\y=kV k/\kvs.length<sizeLine/\(∀ v,valV kvs k=some v->Q v H3)/\(valV kvs k=none->Q z (upd H3 a (.dK (putK kvs k z)))):=rfl
theorem y40y:JkW td ty tx σ H Q=td σ H λx H1=>∃ a,x=.ref a/\IsD H1 a/\ty σ H1 λy H2=>tx σ H2 λz H3=>∃ o,DGet H3 a y o/\Q (o.getD z) H3:=rfl
theorem y42y{trs:List (TE × TE)}:tDisp trs σ H Q=∀ p,H p=none->Jgy trs σ (upd H p (.dK [])) λps H2=>H2 p=some (.dK [])/\∃ kvs:List (Key × V),ps=kvs.map (λkv=>(kV kv.1,kv.2))/\kvs.length<=15/\Q (.ref p) (upd H2 p (.dK (Jfc [] kvs))):=rfl
theorem y7dy{tk tv:TE}{R:List (V × V)->Hp->Prop}:Jgy [(tk,tv)] σ H R=tk σ H λx H1=>tv σ H1 λy H2=>R [(x,y)] H2:=rfl
theorem y2dy{K:W.Frag}{T:String}{r:V->List V->Hp->VK->Prop}{to:TE}:tBM0 K T r to σ H Q=to σ H λx H1=>tyV K T x H1/\r x [] H1 Q:=rfl
end
def BG(f : α->Str)(P : α->V->Prop)(as:List α)(kvs:List (Key × V)):Prop:=kvs.map (·.1)=as.map (λa=>Sum.inr (f a))/\All2 P as (kvs.map (·.2))
section
variable{f : α->Str}{P P' : α->V->Prop}{as:List α}{a : α}
theorem BG.mono(h:BG f P as kvs)(m:∀ a x,P a x->P' a x):BG f P' as kvs:=⟨h.1,h.2.mono m⟩
theorem BG.length(h:BG f P as kvs):kvs.length=as.length:=by simpa using congrArg List.length h.1
theorem BG.cons:BG f P (a::as) kvs↔∃ w r,kvs=(Sum.inr (f a),w)::r/\P a w/\BG f P as r:=by
 constructor
 .rintro⟨b,c⟩;match kvs,b,c with
  | (k,w)::r,b,c=>
   rw[map_cons,map_cons,List.cons.injEq]at b;let(y,g,e,p,c):=c;rw[map_cons,List.cons.injEq]at e;let(rfl,rfl):=e;let(d,b):=b;have d:k=Sum.inr (f a):=d;subst d;show(_,r,rfl,p,b,c)
 .rintro⟨w,r,rfl,p,h⟩;show(by rw[map_cons,map_cons,h.1],w,r.map (·.2),rfl,p,h.2)
theorem BG.nil:BG f P [] kvs↔kvs=[]:=by
 constructor
 .rintro⟨h,_⟩;simpa using h
 .rintro rfl;show(rfl,rfl)
theorem BG.any:∀{as:List α}{kvs:List (Key × V)}{z:Str},BG f P as kvs->(kvs.any λkv=>decide (kv.1=Sum.inr z))=decide (z∈as.map f)
 | [],kvs,z,h=>by rw[BG.nil.mp h];simp
 | a::as,kvs,z,h=>by
  let(w,r,rfl,_,h):=BG.cons.mp h;rw[any_cons,BG.any h];by_cases c:f a=z
  .subst c;simp
  .have c1:(Sum.inr (f a):Key)≠Sum.inr z:=λe=>c (by injection e);have c2:z≠f a:=λe=>c e.symm;simp[c1,c2]
theorem BG.get:∀{as:List α}{kvs:List (Key × V)}{z:Str},BG f P as kvs->(∃ a v,a∈as/\f a=z/\valV kvs (Sum.inr z)=some v/\P a v)\/(z∉as.map f/\valV kvs (Sum.inr z)=none)
 | [],kvs,z,h=>by
  rw[BG.nil.mp h];show .inr ⟨by simp,rfl⟩
 | a::as,kvs,z,h=>by
  let(w,r,rfl,p,h):=BG.cons.mp h;by_cases c:f a=z
  .subst c;show .inl ⟨a,w,by simp,rfl,Jbm rfl,p⟩
  .have c1:(Sum.inr (f a):Key)≠Sum.inr z:=λe=>c (by injection e);have c2:z≠f a:=λe=>c e.symm;have e:valV ((Sum.inr (f a),w)::r) (Sum.inr z)=valV r (Sum.inr z):=by simp[valV,List.find?_cons,c1]
   rw[e];rcases BG.get h (z:=z)with⟨b,v,h1,h2,h3,h4⟩ | ⟨h1,h2⟩
   .show .inl ⟨b,v,by simp[h1],h2,h3,h4⟩
   .show .inr ⟨by simp[c2];simpa using h1,h2⟩
theorem BG.some(h:BG f P as kvs)(hz:z∈as.map f):∃ a v,a∈as/\f a=z/\valV kvs (Sum.inr z)=some v/\P a v:=by
 rcases h.get (z:=z)with h | ⟨h,_⟩
 .show h
 .show absurd hz h
theorem BG.none(h:BG f P as kvs)(hz:z∉as.map f):valV kvs (Sum.inr z)=none:=by
 rcases h.get (z:=z)with⟨a,v,h1,h2,_⟩ | ⟨_,h⟩
 .show absurd (h2 ▸ List.mem_map_of_mem (f:=f) h1) hz
 .show h
theorem BG.val(h:BG f P as kvs):(valV kvs (Sum.inr z)).isSome=decide (z∈as.map f):=by
 by_cases c:z∈as.map f
 .let(a,v,_,_,e,_):=h.some c;rw[e,decide_eq_true c];rfl
 .rw[h.none c,decide_eq_false c];rfl
theorem BG.new(h:BG f P as kvs)(hn:f a∉as.map f)(p:P a v):BG f P (as++[a]) (putK kvs (Sum.inr (f a)) v):=by
 have e:putK kvs (Sum.inr (f a)) v=kvs++[(Sum.inr (f a),v)]:=by
  unfold putK;rw[h.any,if_neg (by simpa using hn)]
 rw[e];show(by rw[map_append,map_append,h.1];rfl,by rw[map_append];show h.2.append (.one p))
end
structure PD where
 nm:Str
 st:Str
 en:Str
 sz:Int × Int
 mo:Int × Int
 wt:Int
def JdQ(p:PD)(f:Str):List (Str × Pr):=if p.st=f then[(p.en,(p.nm,true))]else if p.en=f then[(p.st,(p.nm,false))]else[]
def JaH(ls:List PD)(f:Str):List (Str × Pr):=ls.flatMap λp=>JdQ p f
theorem Jej(ls:List PD)(p:PD)(f:Str):JaH (ls++[p]) f=JaH ls f++JdQ p f:=by simp[JaH]
variable{ls:List PD}{pr:Pr}
theorem Jbw{f g:Str}:(g,pr)∈JaH ls f↔∃ p∈ls,(p.st=f/\p.en=g/\pr=(p.nm,true))\/(p.st≠f/\p.en=f/\p.st=g/\pr=(p.nm,false)):=by
 unfold JaH;rw[mem_flatMap];show exists_congr λp=>and_congr_right λ_=>?_;unfold JdQ;by_cases a:p.st=f
 .rw[if_pos a,mem_singleton,Prod.mk.injEq];show(λh=>.inl ⟨a,h.1.symm,h.2⟩,λh=>h.elim (λh=>⟨h.2.1.symm,h.2.2⟩) λh=>absurd a h.1)
 .rw[if_neg a];by_cases b:p.en=f
  .rw[if_pos b,mem_singleton,Prod.mk.injEq];show(λh=>.inr ⟨a,b,h.1.symm,h.2⟩,λh=>h.elim (λh=>absurd h.1 a) λh=>⟨h.2.2.1.symm,h.2.2.2⟩)
  .rw[if_neg b];show(λh=>by simp at h,λh=>h.elim (λh=>absurd h.1 a) λh=>absurd h.2.1 b)
theorem Jfs:∀{ls:List PD}{p q:PD},(ls.map (·.nm)).Nodup->p∈ls->q∈ls->p.nm=q.nm->p=q
 | [],_,_,_,hp,_,_=>by cases hp
 | a::ls,p,q,hn,hp,hq,e=>by
  rw[map_cons,nodup_cons]at hn;rcases mem_cons.mp hp with h1 | h1 <;> rcases mem_cons.mp hq with h2 | h2
  .rw[h1,h2]
  .subst h1;show absurd (e ▸ mem_map.mpr ⟨q,h2,rfl⟩) hn.1
  .subst h2;show absurd (e ▸ mem_map.mpr ⟨p,h1,rfl⟩) hn.1
  .show Jfs hn.2 h1 h2 e
inductive Jbv(ls:List PD)(a:Str):List Pr->Str->Prop
 | nil:Jbv ls a [] a
 | snoc {w:List Pr} {f g:Str} {pr:Pr}:Jbv ls a w f->(g,pr)∈JaH ls f->Jbv ls a (w++[pr]) g
def Conn(ls:List PD)(a b:Str):Prop:=∃ w,Jbv ls a w b
variable{a b:Str}{S:List Str}
theorem Jlh(ha:a∈S)(hc:∀ f∈S, ∀ e∈JaH ls f,e.1∈S)(h:Conn ls a b):b∈S:=by
 let(w,h):=h;induction h with
 | nil=>show ha
 | snoc _ hm ih=>show hc _ ih _ hm
def fcsOf(ls:List PD):List Str:=ls.flatMap λp=>[p.st,p.en]
theorem JhA{f:Str}{e:Str × Pr}(h:e∈JaH ls f):e.1∈fcsOf ls:=by
 let(p,b,a):=mem_flatMap.mp h;show mem_flatMap.mpr ⟨p,b,?_⟩;unfold JdQ at a;split at a
 .rw[mem_singleton.mp a];simp
 .split at a
  .rw[mem_singleton.mp a];simp
  .simp at a
theorem JhT{w:List Pr}(h:Jbv ls a w b):b∈a::fcsOf ls:=by
 cases h with
 | nil=>simp
 | snoc _ hm=>show mem_cons_of_mem _ (JhA hm)
theorem Jlm(ls:List PD):(fcsOf ls).length=2*ls.length:=by
 unfold fcsOf;induction ls with
 | nil=>rfl
 | cons p ls ih=>
  rw[List.flatMap_cons,length_append,ih];simp;ac_nf
section
variable{pins:List (Addr × Obj)}{σ:List (Option V)}{s':Shared}{d:Addr}{kvs':List (Key × V)}{od:Obj}{s:Shared}
theorem Inv.freeze(I:Inv X pins σ H s)(e:H d=some (.dK kvs))(ho:s.heap.get? d=some od):Inv X pins σ (upd H d (.frz od (.dK kvs))) s:=by
 show I.un (h':=s.heap) (t':=s.toks) ⟨λb o q _ _ _=>q,λb o q _ _ _=>⟨o.slots,q⟩,λb o q n _=>?_,λb o q _=>⟨o,q⟩,λb h q=>?_,λb o u q=>?_,λb j q=>⟨#[],?_⟩⟩ λa o q=>?_
 .rw[Jai (λz=>by rw[z,e]at n;cases n)];show n
 .rw[Jai (λz=>by rw[z,e]at q;cases q)];show q
 .rw[Jai (λz=>by rw[z,e]at q;cases q)];show q
 .rw[Jai (λz=>by rw[z,e]at q;cases q),Array.append_empty];show q
 .have f:∀ i b,H b=some (.own i)->upd H d (.frz od (.dK kvs)) b=some (.own i):=λi b q=>by
   rw[Jai (λz=>by rw[z,e]at q;cases q)];show q
  have g:∀ b h,H b=some (.tup h)->upd H d (.frz od (.dK kvs)) b=some (.tup h):=λb h q=>by
   rw[Jai (λz=>by rw[z,e]at q;cases q)];show q
  by_cases c:a=d
  .subst c;rw[Jam]at q;cases q;show(ho,(I.hok a _ e).stay (λ_ _ _ z=>z) (f a) g)
  .rw[Jai c]at q;show(I.hok a o q).stay (λ_ _ _ z=>z) (f a) g
theorem Inv.thaw{σ':St}(I:Inv X pins σ H s)(e:H d=some (.dK kvs))(I':Inv X pins σ' H' s')(e':H' d=some (.frz od (.dK kvs'))):Inv X pins σ' (upd H' d (.dK kvs')) s':=by
 have m:∀{b:Addr}{o:HO},H' b=some o->(∀ u v,o≠.frz u v)->b≠d:=λq h z=>by rw[z,e']at q;cases q;show h _ _ rfl
 show(I'.ok,I'.os,I'.bare,⟨I'.base.keep,I'.base.slot,λb o q n B=>?_,I'.base.there,λb j q=>?_,λb o u q=>?_,λb y q=>?_⟩,I'.loc,I'.cell,?_,λx c z=>?_,λp A=>?_,λa o q=>?_,I'.len)
 .have:=I'.base.free b o q n B;rw[Jai (λz=>by rw[z,e']at this;cases this)];show this
 .have:=I'.base.tups b j q;rw[Jai (m this (by intro u v z;cases z))];show this
 .have f:=I'.base.frzs b o u q;have g:=I.base.frzs b o u q;rw[Jai (λz=>by rw[z,e]at g;cases g)];show f
 .let(i,f):=I'.base.tbls b y q;show(i,by rw[Jai (m f (by intro u v z;cases z))];show f)
 .have:=I'.free;rw[Jai (λz=>by rw[z,e']at this;cases this)];show this
 .have:=I'.freeC x c z;rw[Jai (λz=>by rw[z,e']at this;cases this)];show this
 .let(f,g,t):=I'.pin p A;show(f,by rw[Jai (λz=>by rw[z,e']at g;cases g)];show g,t)
 .have l:∀ r b,H' b=some (.own r)->upd H' d (.dK kvs') b=some (.own r):=λr b q=>by
   rw[Jai (m q (by intro u v z;cases z))];show q
  have k:∀ b j,H' b=some (.tup j)->upd H' d (.dK kvs') b=some (.tup j):=λb j q=>by
   rw[Jai (m q (by intro u v z;cases z))];show q
  by_cases c:a=d
  .subst c;rw[Jam]at q;cases q;have f:ObjOk X.prog X.w H' s'.heap a (.dK kvs'):=(I'.hok a _ e').2;show f.stay (λ_ _ _ z=>z) (l a) k
  .rw[Jai c]at q;show(I'.hok a o q).stay (λ_ _ _ z=>z) (l a) k
end
def Itv(d:Addr)(od:Obj)(kvs:List (Key × V)):It :=
 ⟨λi H=>H d=some (.frz od (.dK kvs))/\i<kvs.length,λi H x H'=>H'=H/\(kvs.map (·.2))[i]?=some x,λi H=>H d=some (.frz od (.dK kvs))/\kvs.length<=i⟩
variable{P:Program}{tg:Expr}{d it:Addr}{od:Obj}{ep:Nat}
theorem JjE{w:World}{K:W.Frag}(rel:KV kvs vs)(hd:∀ h:Heap,h.get? d=some od->h.DictAt (Jax P w) d vs ep) :
  Turn P w K tg (Itv d od kvs) [it] it (λi h=>h.IsValIter it d i vs.length ep) where
 mem:=by simp
 obj:=λi h a b l=>by
  obtain rfl:b=it:=by simpa using l
  let(o,e,c,z):=a;show(o,e,λv q=>by rw[z]at q;cases q)
 keep:=λi h p a k=>a.at λo e=>k it (by simp) o e
 item:=by
  intro X F G r M i f s σ H E I n a t;subst F G r;let(j,J):=t;let(A,y,O,B,D,C):=n it (by simp);have g:=(I.hok d _ j).1;have S:=rel.length;have R:=JjG rel;obtain⟨x,N⟩:∃ x,(kvs.map (·.2))[i]?=some x:=⟨_,List.getElem?_eq_getElem (by rw[length_map];show J)⟩;let(u,L,Q):=R.get N;rw[List.getElem?_map]at L;let((k,Z),U,rfl):=Option.map_eq_some_iff.mp L;show wpAny_pyNext_values_item a (hd _ g) U λp m T=>?_;have I1:Inv X f σ H { s with heap:=p }:=I.turned (t':=s.toks) (λb o l e=>(T.2 b l).trans e) A y B D C;let(o,e,c,z):=id m;show(_,rfl,go_of (s:={ s with heap:=p }) e c z ⋯ ⟨x,H,I1,Q,⟨rfl,N⟩,m,λb l=>(n b l).1⟩)
 done:=by
  intro X F G r M i f s σ H E I n a t;subst F G r;let(j,J):=t;let(A,y,O,B,D,C):=n it (by simp);have g:=(I.hok d _ j).1;have S:=rel.length;show wpAny_pyNext_values_end (I.ok.hd M) a (hd _ g) (List.getElem?_eq_none ∅) λp Y=>⟨rfl,I.turned (t':=s.toks) (λb o l e=>Y b o l e) A y B D C⟩
 self:=λ_ _ _ _ _ a h=>wpAny_pyIter_valiter a h
def iVals(td:TE):TI:=λσ H R=>td σ H λx H1=>∃ d kvs,x=.ref d/\H1 d=some (.dK kvs)/\∀ od,R (Itv d od kvs) (upd H1 d (.frz od (.dK kvs)))
variable{apos cpos:Pos}
theorem Jjc{o:Expr}{td:TE}(ho:PE X o td)(hb:autoParam (attributeBase o "values" X.env (eval o X.env)=eval o X.env) Au)(hn:autoParam ((apos.endLine == cpos.line)=true) Au) :
  PI X tg (.Call (.Attribute o "values" apos) [] [] cpos) (iVals td):=by
 intro f s σ H R I h;show wpAny_Call_method0_late hb hn (thn (ho f s σ H _ I h) λv a ζ=>?_);let(y,D,I1,A,d,kvs,B,e,p):=ζ;subst B;obtain rfl:v=Value.ref d:=A;let(j,r,t):=Jga I1 (.inl ⟨kvs, .inl e⟩);let(C,_,vs,g,m):=dk_of I1.hok e;show("dict","dict.values",PySem.F.plainAttrs_dict,PySem.F.slot_dict_values,PySem.F.type_dict_values,j,r,Calls.callWith_builtin rfl (PySem.evalArgs_none ?_));show call_meetsIn PySem.F.slot_dict_values j PySem.F.entry_dict_values (PySem.F.args_dict_values_1 _) (meets_dict_values (Jax X.prog X.w) d t) ⟨⟨vs,m⟩,?_⟩;let(ep,n):=m.dictAt;let(k,x,c,rest):=id n;show wpAny_pyIter_values (knd:=Jax X.prog X.w) (v:=a.heap.objs.size) (d:=d) (kvs:=vs) (ep:=ep) ⟨_,Heap.get?_push_size _ rfl,rfl,rfl⟩ (n.push _) ?_;have u:∀ b o,a.heap.get? b=some o->((a.heap.push { cls:=.type "dict_values",data:=.fields #[.ref d] }).push { cls:=.type "dict_valueiterator",data:=.fields #[.ref d, .int 0 0, .int vs.length 0, .int ep 0] }).get? b=some o:=λb o z=>Heap.get?_push_of_some _ (Heap.get?_push_of_some _ z);have I2:=(I1.freeze e c).kept (t':=a.toks) u;have l:a.heap.objs.size<=(a.heap.push { cls:=.type "dict_values",data:=.fields #[.ref d] }).objs.size:=by
  rw[Heap.size_push];show Nat.le_succ _
 show(_,[_],_,_,_,rfl,I2,JjE (vs:=vs) (ep:=ep) g (λh q=>⟨k,x,q,rest⟩),⟨_,Heap.get?_push_size _ rfl,rfl,rfl⟩,λb i=>?_,p k);obtain rfl:=mem_singleton.mp i;show I1.fpOk l ((I1.freeze e c).hok.fresh l)
def tThaw(t:TE):TE:=λσ H Q=>∃ d kvs,H d=some (.dK kvs)/\t σ H λv H'=>∃ od kvs',H' d=some (.frz od (.dK kvs'))/\Q v (upd H' d (.dK kvs'))
theorem Jg5{t:TE}(h:PE X e t):PE X e (tThaw t):=by
 intro a s σ H Q I ⟨d,i,g,q⟩;show thn (h a s σ H _ I q) λv k ζ=>by let(x,l,I1,f,m,b,c,j):=ζ;show(x,_,I.thaw g I1 c,f,j)
section
variable{cs:List (Nat × Str)}{te tl:TE}{σ:St}{Q:VK}{k:Nat}{g:TG}{td:TE}
theorem y3by:tThaw (tComp k cs (iVals td) g te) σ H Q=∃ d kvs,H d=some (.dK kvs)/\td σ H λx H1=>∃ d1 kvs1,x=.ref d1/\H1 d1=some (.dK kvs1)/\∀ od,CompJ (Itv d1 od kvs1) k cs g te σ (λv H'=>∃ od kvs',H' d=some (.frz od (.dK kvs'))/\Q v (upd H' d (.dK kvs'))) (upd H1 d1 (.frz od (.dK kvs1))):=rfl
theorem CompJ.vals(Pv:Nat->List V->Hp->Prop)(h0:Pv 0 [] H1)(hl:∀ i ys H',i<=kvs.length->Pv i ys H'->H' d=some (.frz od (.dK kvs))/\ys.length<=sizeLine)
  (hs:∀ i x ys H2,(kvs.map (·.2))[i]?=some x->Pv i ys H2->g x (List.replicate k none++JaF cs σ) H2 λσ4 H4=>te σ4 H4 λy H5=>Pv (i+1) (ys++[y]) H5) (hd:∀ ys H2,Pv kvs.length ys H2->∀ p,H2 p=none->Q (.ref p) (upd H2 p (.lst ys))) :
  CompJ (Itv d od kvs) k cs g te σ Q H1:=by
 show(λi m ys H'=>Pv i ys H'/\i<=kvs.length/\m=kvs.length-i,⟨_,h0,Nat.zero_le _,rfl⟩,?_);rintro i m ys H2 ⟨a,f,rfl⟩;let(b,h):=hl i ys H2 f a;show(h,?_);by_cases c:i<kvs.length
 .show .inr ⟨⟨b,c⟩,?_⟩;rintro x n ⟨rfl,l⟩;have e:(λ(σ4:St)(H4:Hp)=>te σ4 H4 λy H5=>Pv (i+1) (ys++[y]) H5)=λσ4 H4=>te σ4 H4 λy H5=>∃ m',m'<kvs.length-i/\Pv (i+1) (ys++[y]) H5/\i+1<=kvs.length/\m'=kvs.length-(i+1):=by
   funext σ4 H4
   congr 1
   funext y H5
   show propext ⟨λq=>⟨_,Nat.sub_lt_sub_left c (Nat.lt_succ_self i),q,c,rfl⟩,λζ=>by let(_,_,q,_):=ζ;show q⟩
  rw[<- e];show hs i x ys n l a
 .have j:i=kvs.length:=by ac_nf
  subst j;show .inl ⟨⟨b,Nat.le_refl _⟩,hd ys H2 a⟩
end
section
variable{k':Nat}{x:Str}{C:Addr}{ps:List Str}{sp:Sp}{E:XK}{p:Pos}{k:Nat}
theorem KCal.ev0(G:KCal X.prog X.w X.K X.mg X.base k x C ps sp)(hr:Room k' X.A)(hk:k+1<=k')(hg:Gl X x)(hx:JcM (CX1 X.prog X.w) X E)(hdb:autoParam ((x == ("__debug__" : Str))=false) Au) :
  PE X (.Call (.Name x p) [] [] pos) (tMake C sp [] E tNil):=by
 let(f,c,F,b,M,a):=G.ex;show Jj9 M F (hr.mono hk) hg b a .nil hx hdb
end
def wtB:D->Bool
 | .int i=>decide (1<=i)
 | _=>false
def partB:D->Bool
 | .tup [n,s,e,z,m,w]=>nameB n&&JkB s e&&(fracB z&&fracB m&&JmP w)&&(!lessD m (.tup [.int 0, .int 1])&&wtB w)
 | _=>false
def gapB:D->Bool
 | .tup [n,s,e,l,g]=>tieB (.tup [n,s,e,l,g])&&!nonD l&&!nonD g
 | _=>false
structure POk(p:PD):Prop where
 n1:nameS p.nm=true
 n2:nameS p.st=true
 n3:nameS p.en=true
 ne:p.st≠p.en
 z:FOk 200 p.sz
 m:FOk 200 p.mo
 m0:0<=p.mo.1
 w:1<=p.wt
 ws:Mth.Sz 200 p.wt
structure GD where
 nm:Str
 st:Str
 en:Str
 lo:Int × Int
 hi:Int × Int
def GD.td(g:GD):TD:=⟨g.nm,g.st,g.en,some g.lo,some g.hi⟩
def PDV(K:W.Frag)(H:Hp)(p:PD)(x:V):Prop:=∃ b vz vm,x=.ref b/\SqT K H b [.str p.nm, .str p.st, .str p.en,vz,vm, .int p.wt]/\FrV K H vz p.sz.1 p.sz.2/\FrV K H vm p.mo.1 p.mo.2
section
variable{K:W.Frag}{p:PD}{x:V}
theorem PDV.sameT(S:SameT H H'):PDV K H p x->PDV K H' p x:=by rintro⟨b,d,f,e,q,c,a⟩;show(b,d,f,e,q.sameT S,c.sameT S,a.sameT S)
end
def LeV(H:Hp)(e:Str × Pr)(x:V):Prop:=∃ b c,x=.ref b/\H b=some (.tup [.str e.1, .ref c])/\H c=some (.tup [.str e.2.1, .bl e.2.2])
variable{e:Str × Pr}
theorem LeV.sameT{x:V}(S:SameT H H'):LeV H e x->LeV H' e x:=by rintro⟨b,c,d,a,f⟩;show(b,c,d,S _ _ rfl a,S _ _ rfl f)
structure JD(H0 H:Hp)(L:Str->List (Str × Pr))(kvs:List (Key × V)):Prop where
 at_:∀(f:Str),(valV kvs (Sum.inr f)=none/\L f=[])\/∃ l xs,valV kvs (Sum.inr f)=some (.ref l)/\H0 l=none/\H l=some (.lst xs)/\All2 (LeV H) (L f) xs
 inj:∀(f g:Str)(l:Addr),valV kvs (Sum.inr f)=some (.ref l)->valV kvs (Sum.inr g)=some (.ref l)->f=g
variable{H0:Hp}{L:Str->List (Str × Pr)}
theorem JD.same(S:Same H H')(h:JD H0 H L kvs):JD H0 H' L kvs where
 at_:=λf=>by
  rcases h.at_ f with h | ⟨l,xs,h1,h2,h3,h4⟩
  .show .inl h
  .show .inr ⟨l,xs,h1,h2,S _ _ h3,h4.mono λ_ _ z=>z.sameT S.t⟩
 inj:=h.inj
theorem JD.sx{kv2:List (Key × V)}(S:∀ b u,b≠d->H b=some u->H' b=some u)(hd:H d=some (.dK kv2))(h:JD H0 H L kvs):JD H0 H' L kvs where
 at_:=λf=>by
  have T:SameT H H':=λb u t q=>S b u (λz=>by rw[z,hd]at q;cases q;simp[isTF]at t) q;rcases h.at_ f with h | ⟨l,xs,h1,h2,h3,h4⟩
  .show .inl h
  .show .inr ⟨l,xs,h1,h2,S _ _ (λz=>by rw[z,hd]at h3;cases h3) h3,h4.mono λ_ _ z=>z.sameT T⟩
 inj:=h.inj
variable{o:HO}
theorem JD.sy{x:Addr}(S:∀ b u,b≠x->H b=some u->H' b=some u)(hx:H x=some o)(hn:∀ xs,o≠.lst xs)(ht:isTF o=false)(h:JD H0 H L kvs):JD H0 H' L kvs where
 at_:=λf=>by
  have T:SameT H H':=λb u t q=>S b u (λz=>by rw[z,hx]at q;cases q;rw[ht]at t;cases t) q;rcases h.at_ f with h | ⟨l,xs,h1,h2,h3,h4⟩
  .show .inl h
  .show .inr ⟨l,xs,h1,h2,S _ _ (λz=>by rw[z,hx]at h3;show hn _ (Option.some.inj h3)) h3,h4.mono λ_ _ z=>z.sameT T⟩
 inj:=h.inj
theorem JD.nil:JD H0 H (λ_=>[]) []:=⟨λf=>.inl ⟨rfl,rfl⟩,λf g l h=>by simp[valV]at h⟩
def addL(L:Str->List (Str × Pr))(f:Str)(e:Str × Pr):Str->List (Str × Pr):=λg=>if g=f then L g++[e]else L g
variable{l b:Addr}
theorem JD.more{f:Str}(h:JD H0 H L kvs)(hv:valV kvs (Sum.inr f)=some (.ref l))(hl:H l=some (.lst xs))(hb:LeV H e (.ref b))(e':upd H l (.lst (xs++[.ref b]))=H'):JD H0 H' (addL L f e) kvs where
 at_:=λg=>by
  have T:SameT H H':=SameT.put e' hl rfl;have a:H' l=some (.lst (xs++[.ref b])):=by rw[<- e',Jam]
  by_cases c:g=f
  .subst c;rcases h.at_ g with⟨h1,_⟩ | ⟨l2,xs2,h1,h2,h3,h4⟩
   .rw[hv]at h1;cases h1
   .rw[hv]at h1;cases h1;rw[hl]at h3;cases h3;show .inr ⟨l,_,hv,h2,a,?_⟩;unfold addL;rw[if_pos rfl];show(h4.mono λ_ _ z=>z.sameT T).append (.one (hb.sameT T))
  .unfold addL;rw[if_neg c];rcases h.at_ g with h1 | ⟨l2,xs2,h1,h2,h3,h4⟩
   .show .inl h1
   .have d:l2≠l:=λz=>c (h.inj g f l (by rw[h1,z]) hv);show .inr ⟨l2,xs2,h1,h2,by rw[<- e',Jai d];show h3,h4.mono λ_ _ z=>z.sameT T⟩
 inj:=h.inj
theorem JD.first{f:Str}(h:JD H0 H L kvs)(hv:valV kvs (Sum.inr f)=none)(h0:H0 l=none)(hn:∀ g l',valV kvs (Sum.inr g)=some (.ref l')->l'≠l)(hl:H l=some (.lst []))(hb:LeV H e (.ref b))(e':upd H l (.lst [.ref b])=H'):JD H0 H' (addL L f e) (putK kvs (Sum.inr f) (.ref l)) where
 at_:=λg=>by
  have T:SameT H H':=SameT.put e' hl rfl;have n:H' l=some (.lst [.ref b]):=by rw[<- e',Jam]
  rw[Jd8];by_cases c:g=f
  .subst c;rw[if_pos rfl];show .inr ⟨l,_,rfl,h0,n,?_⟩;unfold addL;rw[if_pos rfl];rcases h.at_ g with⟨_,d⟩ | ⟨l2,xs2,a,_⟩
   .rw[d];show .one (hb.sameT T)
   .rw[hv]at a;cases a
  .have o:(Sum.inr g:Key)≠Sum.inr f:=λz=>c (by injection z);rw[if_neg o];unfold addL;rw[if_neg c];rcases h.at_ g with a | ⟨l2,xs2,a,d,h3,h4⟩
   .show .inl a
   .show .inr ⟨l2,xs2,a,d,by rw[<- e',Jai (hn g l2 a)];show h3,h4.mono λ_ _ z=>z.sameT T⟩
 inj:=λm k l' a d=>by
  rw[Jd8]at a d;by_cases j:(Sum.inr m:Key)=Sum.inr f
  .by_cases i:(Sum.inr k:Key)=Sum.inr f
   .have:=j.trans i.symm;injection this
   .rw[if_pos j]at a;rw[if_neg i]at d;cases a;show absurd rfl (hn k l d)
  .by_cases i:(Sum.inr k:Key)=Sum.inr f
   .rw[if_neg j]at a;rw[if_pos i]at d;cases d;show absurd rfl (hn m l a)
   .rw[if_neg j]at a;rw[if_neg i]at d;show h.inj m k l' a d
variable{p:PD}
theorem JfW(h:p.st≠p.en):addL (addL (JaH ls) p.st (p.en,(p.nm,true))) p.en (p.st,(p.nm,false))=JaH (ls++[p]):=by
 funext g
 rw[Jej];unfold addL JdQ;by_cases a:g=p.en
 .subst a;have e:p.en≠p.st:=λz=>h z.symm;simp[h,e]
 .have d:p.en≠g:=λz=>a z.symm;by_cases b:g=p.st
  .subst b;simp[a]
  .have c:p.st≠g:=λz=>b z.symm;simp[a,b,d,c]
theorem JhB(ls:List PD)(f:Str):(JaH ls f).length<=ls.length:=by
 unfold JaH;induction ls with
 | nil=>simp
 | cons p ls ih=>
  rw[List.flatMap_cons,length_append,length_cons];have : (JdQ p f).length<=1:=by
   unfold JdQ;split
   .simp
   .split <;> simp
  ac_nf
def PWy(H H':Hp)(wl:Addr)(a:Str × List Pr)(v:V):Prop:=∃ l xs,v=.ref l/\H l=none/\l≠wl/\H' l=some (.lst xs)/\All2 (CV H') a.2 xs
structure Srch(H:Hp)(ls:List PD)(one:Str)(fd wl:Addr)(H':Hp)(ws:List (Str × List Pr))(wt:List Str):Prop where
 same:Same H H'
 dict:∃ kvs,H' fd=some (.dK kvs)/\BG (·.1) (PWy H H' wl) ws kvs
 nd:(ws.map (·.1)).Nodup
 here:one∈ws.map (·.1)
 walk:∀ a∈ws,Jbv ls one a.2 a.1
 wait:H' wl=some (.lst (wt.map V.str))
 sub:∀ f∈wt,f∈ws.map (·.1)
 lw:∀ a∈ws,a.2.length<=ws.length
 sim:∀ a∈ws,(a.2.map (·.1)).Nodup/\∀ p∈ls,p.nm∈a.2.map (·.1)->p.st∈ws.map (·.1)/\p.en∈ws.map (·.1)
section
variable{H'':Hp}{fd wl:Addr}{ws:List (Str × List Pr)}{wt:List Str}{one:Str}
theorem Srch.len(h:Srch H ls one fd wl H' ws wt)(hl:ls.length<=20):ws.length<=41:=by
 have:=sub_len (ws.map (·.1)) (one::fcsOf ls) h.nd λz c=>by
  let(a,b,rfl):=mem_map.mp c;show JhT (h.walk a b)
 rw[length_map,length_cons,Jlm]at this;ac_nf
theorem Srch.grow(h:Srch H ls one fd wl H' ws wt)(S:Same H' H''):Srch H ls one fd wl H'' ws wt:=by
 let(b,f,d):=h.dict;show(h.same.trans S,⟨b,S _ _ f,d.mono λa v ζ=>by let(l,c,e,i,k,j,g):=ζ;show(l,c,e,i,k,S _ _ j,g.mono λ_ _ z=>z.sameT S.t)⟩,h.nd,h.here,h.walk,S _ _ h.wait,h.sub,h.lw,h.sim)
theorem Srch.wait'{wt':List Str}(h:Srch H ls one fd wl H' ws wt)(hw:H wl=none)(e:upd H' wl (.lst (wt'.map V.str))=H'')(hs:∀ f∈wt',f∈ws.map (·.1)):Srch H ls one fd wl H'' ws wt':=by
 let(g,i,k):=h.dict;have T:SameT H' H'':=SameT.put e h.wait rfl;have d:fd≠wl:=λz=>by have:=h.wait;rw[<- z,i]at this;cases this
 show(λb u q=>by rw[<- e,Jai (Jah q hw)];show h.same _ _ q,⟨g,by rw[<- e,Jai d];show i,k.mono λa v ζ=>by let(l,j,n,o,c,p,m):=ζ;show(l,j,n,o,c,by rw[<- e,Jai c];show p,m.mono λ_ _ z=>z.sameT T)⟩,h.nd,h.here,h.walk,by rw[<- e,Jam],hs,h.lw,h.sim)
theorem Srch.find{g:Str}{w:List Pr}(h:Srch H ls one fd wl H' ws wt)(hk:H' fd=some (.dK kvs))(hb:BG (·.1) (PWy H H' wl) ws kvs)(hf:H fd=none)(hg:g∉ws.map (·.1))(hwk:Jbv ls one w g)(hlw:w.length<=ws.length+1)(hsm:(w.map (·.1)).Nodup/\∀ p∈ls,p.nm∈w.map (·.1)->p.st∈(ws++[(g,w)]).map (·.1)/\p.en∈(ws++[(g,w)]).map (·.1))(hl:H l=none)(hne:l≠wl)(hx:H' l=some (.lst xs))(ha:All2 (CV H') w xs)
  (e:upd H' fd (.dK (putK kvs (Sum.inr g) (.ref l)))=H''):Srch H ls one fd wl H'' (ws++[(g,w)]) wt:=by
 have T:SameT H' H'':=SameT.put e hk rfl;have j:wl≠fd:=λz=>by have:=h.wait;rw[z,hk]at this;cases this
 have c:∀{b:Addr}{ys:List V},H' b=some (.lst ys)->H'' b=some (.lst ys):=λq=>by rw[<- e,Jai (λz=>by rw[z,hk]at q;cases q)];show q
 show(λb u q=>by rw[<- e,Jai (Jah q hf)];show h.same _ _ q,⟨_,by rw[<- e,Jam],?_⟩,?_,?_,?_,c h.wait,?_,?_,?_)
 .have:=hb.mono (P':=PWy H H'' wl) λa v ⟨l,xs,k,i,hne,hx,ha⟩=>⟨l,xs,k,i,hne,c hx,ha.mono λ_ _ z=>z.sameT T⟩;show this.new (a:=(g,w)) hg ⟨l,xs,rfl,hl,hne,c hx,ha.mono λ_ _ z=>z.sameT T⟩
 .rw[map_append,nodup_append];show(h.nd,by simp,λa ha b hb z=>hg ?_);rw[map_cons,map_nil,mem_singleton]at hb;have hb:b=g:=hb;rw[<- hb, <- z];show ha
 .rw[map_append];show mem_append.mpr (.inl h.here)
 .intro a ha;rcases mem_append.mp ha with ha | ha
  .show h.walk a ha
  .rw[mem_singleton.mp ha];show hwk
 .intro f d;rw[map_append];show mem_append.mpr (.inl (h.sub f d))
 .intro a ha;rw[length_append,length_singleton];rcases mem_append.mp ha with ha | ha
  .have:=h.lw a ha;ac_nf
  .rw[mem_singleton.mp ha];show hlw
 .intro a ha;rcases mem_append.mp ha with ha | ha
  .show((h.sim a ha).1,λp m i=>?_);have:=(h.sim a ha).2 p m i;rw[map_append];show(mem_append.mpr (.inl this.1),mem_append.mpr (.inl this.2))
  .rw[mem_singleton.mp ha];show hsm
end
inductive PR
 | ok (ls:List PD)
 | noPart
 | twice
 | ring
open Classical in
noncomputable def partsW:List PD->List (PD ⊕ D)->PR
 | acc,[]=>.ok acc
 | _, .inr _::_=>.noPart
 | acc, .inl p::r=>if p.nm∈acc.map (·.nm)then .twice else if Conn acc p.st p.en then .ring else partsW (acc++[p]) r
theorem Jgr{acc:List PD}{r:List (PD ⊕ D)}(h:p.nm∉acc.map (·.nm))(hc:¬ Conn acc p.st p.en):partsW acc (.inl p::r)=partsW (acc++[p]) r:=by
 rw[partsW,if_neg h,if_neg hc]
def WOV(H:Hp)(ls:List PD)(g:GD)(v:V):Prop:=∃ l xs w,v=.ref l/\H l=some (.lst xs)/\All2 (CV H) w xs/\Jbv ls g.st w g.en/\(w.map (·.1)).Nodup
theorem WOV.same{g:GD}(S:Same H H'):WOV H ls g v->WOV H' ls g v:=by rintro⟨l,a,w,c,b,e,d⟩;show(l,a,w,c,S _ _ b,e.mono λ_ _ z=>z.sameT S.t,d)
variable{es:List Expr}
theorem Ji9{K:W.Frag}{k:Nat}{t:TGs}(hK:X.K=K)(hc:X.calm=true)(h:PGs X es t)(hn:autoParam ((assignEach es X.env).length=n) Au)(hst:autoParam ((assignEach es X.env).findIdx? (·.1)=none) Au):PG X (.Tuple es k pos) (gTup K n t):=by
 subst hK;show JdU hc h hn hst
abbrev Fr2:=Int × Int
def plcIn(l:List Fr2)(x:Fr2):Nat->Nat
 | 0=>0
 | n+1=>if lessF x (l.getD n (0,1))then plcIn l x n else n+1
theorem JfG(l:List Fr2)(x:Fr2):∀ n,plcIn l x n<=n
 | 0=>Nat.le_refl _
 | n+1=>by
  unfold plcIn;split
  .show Nat.le_succ_of_le (JfG l x n)
  .show Nat.le_refl _
def insO(l:List Fr2)(x:Fr2):List Fr2:=l.take (plcIn l x l.length)++x::l.drop (plcIn l x l.length)
theorem JjS(l:List Fr2)(x:Fr2):(insO l x).length=l.length+1:=by
 have:=JfG l x l.length;unfold insO;rw[length_append,length_cons,length_take,List.length_drop];ac_nf
variable{y:Fr2}
theorem JjT{l:List Fr2}{x:Fr2}(h:y∈insO l x):y=x\/y∈l:=by
 unfold insO at h;rcases mem_append.mp h with h | h
 .show .inr (mem_of_mem_take h)
 .rcases mem_cons.mp h with h | h
  .show .inl h
  .show .inr (List.mem_of_mem_drop h)
def ordO(ns:List Fr2):List Fr2:=ns.foldl insO []
theorem Ji5(ns:List Fr2)(x:Fr2):ordO (ns++[x])=insO (ordO ns) x:=by simp[ordO]
theorem Jc5(ns:List Fr2):(ordO ns).length=ns.length:=by
 have : ∀(ns l:List Fr2),(ns.foldl insO l).length=l.length+ns.length:=λns=>by
  induction ns with
  | nil=>intro l;simp
  | cons x ns ih=>intro l;rw[List.foldl_cons,ih,JjS,length_cons];ac_nf
 simpa[ordO]using this ns []
theorem Jc6{ns:List Fr2}(h:y∈ordO ns):y∈ns:=by
 have : ∀(ns l:List Fr2),y∈ns.foldl insO l->y∈l\/y∈ns:=λns=>by
  induction ns with
  | nil=>intro l h;show .inl h
  | cons x ns ih=>
   intro l h;rcases ih _ h with h | h
   .rcases JjT h with rfl | h
    .show .inr (by simp)
    .show .inl h
   .show .inr (by simp[h])
 rcases this ns [] h with h | h
 .simp at h
 .show h
def lvl(s:Fr2)(w:Int):Fr2:=(Mth.top s.1 (s.2*w),Mth.bot s.1 (s.2*w))
def lvls(ss:List Fr2)(wts:List Int):List Fr2:=List.zipWith lvl ss wts
def fairB:List Fr2->List Fr2->Bool
 | a::l,b::m=>if a=b then fairB l m else lessF b a
 | _,_=>false
theorem Je8:∀ l:List Fr2,fairB l l=false
 | []=>rfl
 | a::l=>by
  unfold fairB;rw[if_pos rfl];show Je8 l
abbrev FrL(K:W.Frag)(H:Hp):Fr2->V->Prop:=λa x=>FrV K H x a.1 a.2
section
variable{cs:List (Nat × Str)}{te:TE}{ta:TA}{σ:St}{Q:VK}{a:Addr}{zs:List V}{K:W.Frag}{k:Nat}{g:TG}
theorem y3cy:tComp k cs (iZip K ta) g te σ H Q=ta σ H λvs H1=>∃ a b,vs=[.ref a, .ref b]/\(∃ xs,SqL K H1 a xs)/\(∃ ys,SqL K H1 b ys)/\CompJ (Itz K a b) k cs g te σ Q H1:=rfl
theorem CompJ.zip(Pv:Nat->List V->Hp->Prop)(h0:Pv 0 [] H1)(hll:zs.length=xs.length)(hl:∀ i ys H',i<=xs.length->Pv i ys H'->SqL K H' a xs/\SqL K H' b zs/\ys.length<=sizeLine)
  (hs:∀ i x z ys H2 p,xs[i]?=some x->zs[i]?=some z->Pv i ys H2->H2 p=none->g (.ref p) (List.replicate k none++JaF cs σ) (upd H2 p (.tup [x,z])) λσ4 H4=>te σ4 H4 λy H5=>Pv (i+1) (ys++[y]) H5) (hd:∀ ys H2,Pv xs.length ys H2->∀ p,H2 p=none->Q (.ref p) (upd H2 p (.lst ys))) :
  CompJ (Itz K a b) k cs g te σ Q H1:=by
 show(λi m ys H'=>Pv i ys H'/\i<=xs.length/\m=xs.length-i,⟨_,h0,Nat.zero_le _,rfl⟩,?_);rintro i m ys H2 ⟨h,l,rfl⟩;let(f,d,t):=hl i ys H2 l h;show(t,?_);by_cases c:i<xs.length
 .have j:i<zs.length:=by ac_nf
  show .inr ⟨⟨xs,zs,_,_,f,d,List.getElem?_eq_getElem c,List.getElem?_eq_getElem j⟩,?_⟩;intro v u z_;let(p,x,z,s,n,r,rfl,rfl):=z_;have e:(λ(σ4:St)(H4:Hp)=>te σ4 H4 λy H5=>Pv (i+1) (ys++[y]) H5)=λσ4 H4=>te σ4 H4 λy H5=>∃ m',m'<xs.length-i/\Pv (i+1) (ys++[y]) H5/\i+1<=xs.length/\m'=xs.length-(i+1):=by
   funext σ4 H4
   congr 1
   funext y H5
   show propext ⟨λq=>⟨_,Nat.sub_lt_sub_left c (Nat.lt_succ_self i),q,c,rfl⟩,λ⟨_,_,q,_⟩=>q⟩
  rw[<- e];show hs i x z ys H2 p (s xs f) (n zs d) h r
 .have o:i=xs.length:=by ac_nf
  subst o;show .inl ⟨⟨xs,zs,f,d, .inl (Nat.le_refl _)⟩,hd ys H2 h⟩
end
def rIsB:R2:=λx y H Q=>match x,y with
 | .bl a, .bl b=>Q (.bl (decide (a=b))) H
 | x,y=>y=.non/\Q (.bl (decide (x=.non))) H
section
variable{Q:VK}{K:W.Frag}
theorem y5fy{a b:Bool}:rIsB (.bl a) (.bl b) H Q=Q (.bl (decide (a=b))) H:=rfl
end
variable{β:Type}
theorem All2.map{P : α->V->Prop}{P' : β->V->Prop}{f : α->β}:∀{as:List α}{xs:List V},All2 P as xs->(∀ a∈as, ∀ x,P a x->P' (f a) x)->All2 P' (as.map f) xs
 | [],xs,h,_=>h
 | a::as,xs,h,m=>by
  let(x,r,rfl,h1,h2):=h;show(x,r,rfl,m a (by simp) x h1,All2.map h2 λb hb=>m b (by simp[hb]))
section
variable{prog:Program}{A:Around}{E:Value->Shared->Prop}{w:World}{s:Shared}
end
section
variable{prog:Program}{A:Around}{E:Value->Shared->Prop}{w:World}{s:Shared}
end
variable{elts:List Expr}{x1:Nat}{tp:Pos}
section
variable{cs:List (Nat × Str)}{te:TE}{ta:TA}{σ:St}{Q:VK}{a:Addr}{K:W.Frag}{k:Nat}{g:TG}
theorem y39y:tComp k cs (iRng1 ta) g te σ H Q=ta σ H λvs H1=>∃ j:Int,vs=[.int j]/\-(2 ^ 62)<=j/\j<2 ^ 62/\CompJ (Itr 0 j.toNat) k cs g te σ Q H1:=rfl
theorem CompJ.range{lo:Int}(Pv:Nat->List V->Hp->Prop)(h0:Pv 0 [] H1)(hl:∀ i ys H',i<=n->Pv i ys H'->ys.length<=sizeLine)
  (hs:∀ i ys H2,i<n->Pv i ys H2->g (.int (lo+i)) (List.replicate k none++JaF cs σ) H2 λσ4 H4=>te σ4 H4 λy H5=>Pv (i+1) (ys++[y]) H5) (hd:∀ ys H2,Pv n ys H2->∀ p,H2 p=none->Q (.ref p) (upd H2 p (.lst ys))) :
  CompJ (Itr lo n) k cs g te σ Q H1:=by
 show(λi m ys H'=>Pv i ys H'/\i<=n/\m=n-i,⟨_,h0,Nat.zero_le _,rfl⟩,?_);rintro i m ys H2 ⟨a,b,rfl⟩;show(hl i ys H2 b a,?_);by_cases c:i<n
 .show .inr ⟨c,?_⟩;rintro v f ⟨rfl,rfl⟩;have e:(λ(σ4:St)(H4:Hp)=>te σ4 H4 λy H5=>Pv (i+1) (ys++[y]) H5)=λσ4 H4=>te σ4 H4 λy H5=>∃ m',m'<n-i/\Pv (i+1) (ys++[y]) H5/\i+1<=n/\m'=n-(i+1):=by
   funext σ4 H4
   congr 1
   funext y H5
   show propext ⟨λq=>⟨_,Nat.sub_lt_sub_left c (Nat.lt_succ_self i),q,c,rfl⟩,λ⟨_,_,q,_⟩=>q⟩
  rw[<- e];show hs i ys _ c a
 .have d:i=n:=by ac_nf
  subst d;show .inl ⟨Nat.le_refl _,hd ys H2 a⟩
end
def Itq(lo c:Int)(n:Nat):It:=⟨λi _=>i<n,λi H x H'=>H'=H/\x=.int (lo+i*c),λi _=>n<=i⟩
theorem Jhl{w:World}{K:W.Frag}(it:Addr)(lo c:Int)(n:Nat):Turn P w K tg (Itq lo c n) [it] it (λi h=>IsRangeIter h it (lo+(i:Nat)*c) ((n:Int)-(i:Nat)) c) where
 mem:=by simp
 obj:=λi h a b f=>by
  have e:b=it:=by simpa using f
  subst e;show(_,a,λv z=>by
   have L:Data.fields _=Data.cell v:=z;cases L)
 keep:=λi h l a k=>k it (by simp) _ a
 item:=by
  intro X A B m C i d s σ H E I j a p;subst A B m;let(r,q,G,u,y,x):=j it (by simp);have W:=Walks.range (prog:=X.prog) (w:=X.w) (I.ok.hd C) it lo c n;show W.item i s _ _ p a λv l D F g J=>?_;let(t,rfl):=F;have I1:Inv X d σ H { s with heap:=l,toks:=D }:=I.turned (λb o f e=>J b o (by simpa using f) e) r q u y x;show(_,rfl,go_of (s:={ s with heap:=l,toks:=D }) (n:="range_iterator") g rfl rfl ⋯ ⟨.int (lo+i*c),H,I1,⟨t,rfl⟩,⟨rfl,rfl⟩,g,λb f=>(j b f).1⟩)
 done:=by
  intro X A B m C i d s σ H E I j a p;subst A B m;let(r,q,G,u,y,x):=j it (by simp);show wpAny_pyNext_range_end (I.ok.hd C) a (by have : n<=i:=p;ac_nf) λl M=>⟨rfl,I.turned (t':=s.toks) (λb o f e=>M b o f e) r q u y x⟩
 self:=λ_ _ _ _ _ a h=>wpAny_pyIter_rangeiter a h
def rsz(lo hi c:Int):Nat:=(if lo<hi then(hi-lo-1)/c+1 else 0).toNat
variable{hi c:Int}
theorem Jfd{lo:Int}(hc:1<=c):((rsz lo hi c:Nat):Int)=Builtin.Range.rangeSize lo hi c:=by
 unfold rsz Builtin.Range.rangeSize;rw[if_pos (show c > 0 by ac_nf)];split
 .have:=Int.ediv_nonneg (a:=hi-lo-1) (b:=c) ∅ ∅;ac_nf
 .rfl
theorem Jha{lo:Int}(h1:0<=lo)(h2:lo<2 ^ 40)(h3:0<=hi)(h4:hi<2 ^ 40)(h5:1<=c)(h6:c<2 ^ 30):Builtin.Range.small lo hi c=true:=by
 unfold Builtin.Range.small;have e:0<=Builtin.Range.rangeSize lo hi c/\Builtin.Range.rangeSize lo hi c<2 ^ 41:=by
  rw[<- Jfd h5];show(by ac_nf,?_);unfold rsz;split
  .have d:=Int.ediv_nonneg (a:=hi-lo-1) (b:=c) ∅ ∅;have f:=Int.ediv_le_self c (show 0<=hi-lo-1 by ac_nf);ac_nf
  .simp
 generalize Builtin.Range.rangeSize lo hi c=z at e ⊢;simp only[Builtin.Range.rangeFitsLong,Bool.and_eq_true,Bool.or_eq_true,decide_eq_true_eq,beq_iff_eq];rw[if_pos ∅];simp only[Bool.and_eq_true,decide_eq_true_eq];ac_nf
variable{σ:St}
theorem JmF{pins:List (Addr × Obj)}{s:Shared}{R:It->Hp->Prop}{h:Heap}{lo:Int}{t':Nat}(I:Inv X pins σ H { s with heap:=h,toks:=t' })(q:R (Itq lo c n) H) :
  PIE X pins σ tg R (.ref h.objs.size) { s with heap:=h.push { cls:=.type "range_iterator",data:=.fields #[rawInt lo,rawInt (n:Int),rawInt c] },toks:=t' }:=by
 show(h.objs.size,[h.objs.size],_,_,H,rfl,I.kept (t':=t') λb o e=>Heap.get?_push_of_some _ e,Jhl _ lo c n,?_,λb a=>?_,q)
 .have d:lo+((0:Nat):Int)*c=lo:=by simp
  have f:(n:Int)-((0:Nat):Int)=n:=by simp
  show IsRangeIter _ _ (lo+((0:Nat):Int)*c) ((n:Int)-((0:Nat):Int)) c;rw[d,f];show Heap.get?_push_size _ rfl
 .have e:b=h.objs.size:=by simpa using a
  subst e;show I.fpOk (Nat.le_refl _) (I.hok.fresh (Nat.le_refl _))
def iRng3(ta:TA):TI:=λσ H R=>ta σ H λvs H1=>∃ i j c:Int,vs=[.int i, .int j, .int c]/\(0<=i/\i<2 ^ 40/\0<=j/\j<2 ^ 40/\1<=c/\c<2 ^ 30)/\R (Itq i c (rsz i j c)) H1
variable{ta:TA}
theorem Jjb{a b d:Expr}{p:Pos}(hg:Gl X "range")(hm:X.mg "range"=none)(ha:PA X [a,b,d] ta)
  (hs:autoParam (starEach [a,b,d] X.env=[(false,eval a X.env),(false,eval b X.env),(false,eval d X.env)]) Au) (hs2:autoParam (starEach [b,d] X.env=[(false,eval b X.env),(false,eval d X.env)]) Au):PI X tg (.Call (.Name "range" p) [a,b,d] [] pos) (iRng3 ta):=by
 intro f s σ H R I h;show wpAny_Call_Name_kw (JdP I hg hm JjL ?_);show PyProof.Rows.callWith_type1 (thn (ha pos f s σ H _ I h) λz m ζ=>?_) (by rw[hs,hs2]) (by rw[hs2];rfl);let(y,A,I1,w,g):=ζ;let(i,j,c,e,(g,n,x,u,k,v),q):=g;subst e;cases w with
 | cons r rr=>
  cases rr with
  | cons r' rr=>
   cases rr with
   | cons r'' rr=>
    cases rr;let(t,rfl):=r;let(t',rfl):=r';let(l,rfl):=r'';show call_range_3 ∅ ?_ (Or.inl (PyProof.noPylong_small ∅));show wpAny_pyIter_range (IsRange.new ..) (Jha g n x u k v) ?_;rw[<- Jfd k];show JmF (I1.kept (t':=m.toks) λb o e=>Heap.get?_push_of_some _ e) q
section
variable{tb:TS}{g:TG}{D:Ends}
def ForQ(lo c:Int)(n:Nat)(g:TG)(tb:TS)(D:Ends)(σ : St)(H:Hp):Prop:=∃ W:Nat->Nat->St->Hp->Prop,(∃ m,W 0 m σ H)/\∀ i m σ H,W i m σ H ->
 ((Itq lo c n).stop i H/\D.nx σ H)\/((Itq lo c n).go i H/\∃ N:St->Hp->Prop,(∀ σ' H',N σ' H'->∃ m',m'<m/\W (i+1) m' σ' H')/\∀ x H',(Itq lo c n).yld i H x H'->g x σ H' λσ2 H2=>tb { D with nx:=N,ct:=N,bk:=D.nx } σ2 H2)
theorem y53y:tFor (iRng3 ta) g tb D σ H=ta σ H λvs H1=>∃ i j c:Int,vs=[.int i, .int j, .int c]/\(0<=i/\i<2 ^ 40/\0<=j/\j<2 ^ 40/\1<=c/\c<2 ^ 30)/\ForQ i c (rsz i j c) g tb D σ H1:=rfl
theorem ForQ.by{lo:Int}(Pv:Nat->St->Hp->Prop)(h0:Pv 0 σ H)
  (hs:∀ i σ H,i<n->Pv i σ H->g (.int (lo+i*c)) σ H λσ2 H2=>tb { D with nx:=Pv (i+1),ct:=Pv (i+1),bk:=D.nx } σ2 H2) (hd:∀ σ H,Pv n σ H->D.nx σ H):ForQ lo c n g tb D σ H:=by
 show(λi m σ H=>m=n-i/\i<=n/\Pv i σ H,⟨n,by simp,Nat.zero_le _,h0⟩,?_);rintro i m σ H ⟨rfl,f,p⟩;by_cases a:i<n
 .show .inr ⟨a,Pv (i+1),λσ' b d=>⟨n-(i+1),by ac_nf,rfl,a,d⟩,λx b y=>?_⟩;let(e,y):=y;subst e y;show hs i σ _ a p
 .have e:i=n:=by ac_nf
  subst e;show .inl ⟨Nat.le_refl _,hd σ H p⟩
end
theorem y5dy{c:TT}{ta tb:TE}{Q:VK}:tIf c ta tb σ H Q=c σ H λb H1=>if b=true then ta σ H1 Q else tb σ H1 Q:=rfl
def rLenD(xs:List V)(H:Hp)(Q:VK):Prop:=∃ d kvs,xs=[.ref d]/\H d=some (.dK kvs)/\Q (.int (kvs.length:Int)) H
theorem Jcq:CallR X (.builtin "len") rLenD:=by
 intro c s σ H l n Q I r h;let(d,a,rfl,e,q):=h;let(u,rfl,i):=vals1 r;cases i;let(m,j,f,b,k):=dk_of I.hok e;have o:=Jfa;have g:f.length=a.length:=b.length.symm;show call_len_dict j k ∅ ⟨.int (a.length:Int),H,I.tok _,⟨s.toks+1,by rw[g]⟩,q⟩
def vl(a:Int × Int):Rat:=(a.1:Rat)/(a.2:Rat)
theorem JaE{a:Int}(h:1<=a):(a:Rat)≠0:=λz=>by
 have : a=0:=by exact_mod_cast z
 ac_nf
variable{a c:Int × Int}
theorem vl_eq(ha:1<=a.2)(hc:1<=c.2):vl a=vl c↔a.1*c.2=c.1*a.2:=by
 unfold vl;have d:=JaE ha;have b:=JaE hc;have e:((a.1*c.2=c.1*a.2)↔((a.1:Rat)*(c.2:Rat)=(c.1:Rat)*(a.2:Rat))):=by
  constructor
  .intro h;exact_mod_cast h
  .intro h;exact_mod_cast h
 rw[e];generalize(a.1:Rat)=x at *;generalize(a.2:Rat)=y at *;generalize(c.1:Rat)=z at *;generalize(c.2:Rat)=u at *;constructor
 .intro h;grind
 .intro h;grind
theorem Jk2(ha:1<=a.2)(hc:1<=c.2)(h1:Mth.g a.1 a.2=1)(h2:Mth.g c.1 c.2=1)(h:vl a=vl c):a=c:=by
 have:=Mth.JdE ha hc h1 h2 ((vl_eq ha hc).mp h);show Prod.ext this.1 this.2
theorem JhS(ha:1<=a.2)(hc:1<=c.2):vl (addF a c)=vl a+vl c:=by
 have d:a.2*c.2≠0:=Int.mul_ne_zero ∅ ∅;have f:=Mth.cross (t:=a.1*c.2+c.1*a.2) d;have g:=Mth.Jct (t:=a.1*c.2+c.1*a.2) d;unfold vl addF;dsimp only;generalize Mth.top (a.1*c.2+c.1*a.2) (a.2*c.2)=t at *;generalize Mth.bot (a.1*c.2+c.1*a.2) (a.2*c.2)=b at *;have i:=JaE ha;have h:=JaE hc;have j:=JaE g;have e:(t:Rat)*((a.2:Rat)*(c.2:Rat))=((a.1:Rat)*(c.2:Rat)+(c.1:Rat)*(a.2:Rat))*(b:Rat):=by exact_mod_cast f
 generalize(a.1:Rat)=x at *;generalize(a.2:Rat)=y at *;generalize(c.1:Rat)=z at *;generalize(c.2:Rat)=u at *;generalize(t:Rat)=t at *;generalize(b:Rat)=b at *;grind
theorem Jdz(a:Int × Int):vl (negF a) = - vl a:=by
 unfold vl negF;rw[Rat.intCast_neg];grind
theorem Jbu(ha:1<=a.2)(hc:1<=c.2):lessF a c=true↔vl a<vl c:=by
 unfold lessF vl;rw[decide_eq_true_iff];have d:(0:Rat)<(a.2:Rat):=by exact_mod_cast (show 0<a.2 by ac_nf)
 have b:(0:Rat)<(c.2:Rat):=by exact_mod_cast (show 0<c.2 by ac_nf)
 have e:((a.1*c.2<c.1*a.2)↔((a.1:Rat)*(c.2:Rat)<(c.1:Rat)*(a.2:Rat))):=by
  constructor
  .intro h;exact_mod_cast h
  .intro h;exact_mod_cast h
 rw[e];rw[Rat.div_lt_iff d];generalize(a.1:Rat)=x at *;generalize(a.2:Rat)=y at *;generalize(c.1:Rat)=z at *;generalize(c.2:Rat)=u at *;have f:z/u*y=z*y/u:=by grind
 rw[f,Rat.lt_div_iff b]
variable{a b c:Str}
theorem Jbv.trans{w w':List Pr}(h:Jbv ls a w b)(h':Jbv ls b w' c):Jbv ls a (w++w') c:=by
 induction h' with
 | nil=>
  rw[append_nil];show h
 | snoc _ hm ih=>
  rw[<- List.append_assoc];show .snoc ih hm
theorem Conn.trans:Conn ls a b->Conn ls b c->Conn ls a c:=λ⟨w,h⟩ ⟨d,e⟩=>⟨w++d,h.trans e⟩
theorem Conn.refl:Conn ls a a:=⟨[], .nil⟩
theorem Conn.lead{f g:Str}(h:(g,pr)∈JaH ls f):Conn ls f g:=⟨[]++[pr], .snoc .nil h⟩
theorem Conn.symm(hn:∀ p∈ls,p.st≠p.en){a b:Str}(h:Conn ls a b):Conn ls b a:=by
 let(w,h):=h;induction h with
 | nil=>show .refl
 | snoc _ hm ih=>
  obtain⟨p,c,h | h⟩:=Jbw.mp hm
  .show Conn.trans (.lead (Jbw.mpr ⟨p,c, .inr ⟨λz=>hn p c (z.trans h.2.1.symm),h.2.1,h.1,rfl⟩⟩)) ih
  .show Conn.trans (.lead (Jbw.mpr ⟨p,c, .inl ⟨h.2.2.1,h.2.1,rfl⟩⟩)) ih
theorem Conn.mono(h:Conn ls a b):Conn (ls++[p]) a b:=by
 let(w,h):=h;show(w,?_);induction h with
 | nil=>show .nil
 | snoc _ hm ih=>show .snoc ih (by rw[Jej];show mem_append.mpr (.inl hm))
theorem Jiv(hp:p∈ls):Conn ls p.st p.en:=.lead (pr:=(p.nm,true)) (Jbw.mpr ⟨p,hp, .inl ⟨rfl,rfl,rfl⟩⟩)
theorem JjO(hn:∀ p∈ls,p.st≠p.en){a b:Str}(h:Conn ls a b)(hne:a≠b):a∈fcsOf ls/\b∈fcsOf ls:=by
 have c:∀{a b:Str},Conn ls a b->a≠b->b∈fcsOf ls:=λ{a b} h hne=>by
  let(w,h):=h;rcases mem_cons.mp (JhT h)with e | e
  .show absurd e.symm hne
  .show e
 show(c (h.symm hn) (Ne.symm hne),c h hne)
theorem Jex:∀(l1 acc:List PD),partsW acc (l1.map Sum.inl)=.ok (acc++l1)->p.nm∉(acc++l1).map (·.nm)->¬ Conn (acc++l1) p.st p.en->partsW acc ((l1++[p]).map Sum.inl)=.ok (acc++(l1++[p]))
 | [],acc,_,h2,h3=>by
  rw[append_nil]at h2 h3;rw[nil_append,map_cons,map_nil,Jgr h2 h3,partsW]
 | q::l1,acc,h1,h2,h3=>by
  have ea:acc++q::l1=(acc++[q])++l1:=by simp
  rw[ea]at h1 h2 h3;rw[cons_append,map_cons];rw[map_cons,partsW]at h1;split at h1
  .cases h1
  .rename_i c1;split at h1
   .cases h1
   .rename_i c2;rw[Jgr c1 c2,Jex l1 (acc++[q]) h1 h2 h3];simp
variable{L:List PD}
theorem Conn.sub{L':List PD}(hs:∀ p∈L,p∈L'){a b:Str}(h:Conn L a b):Conn L' a b:=by
 let(w,h):=h;show(w,?_);induction h with
 | nil=>show .nil
 | snoc _ hm ih=>
  let(p,c,h):=Jbw.mp hm;show .snoc ih (Jbw.mpr ⟨p,hs p c,h⟩)
def Tree(ls:List PD):Prop:=∀ p∈ls, ¬ Conn (ls.filter λx=>decide (x.nm≠p.nm)) p.st p.en
theorem JiR{x:Str}(h:e∈JaH L x):x∈fcsOf L/\e.1∈fcsOf L:=by
 show(?_,JhA h);let(p,a,h):=(Jbw (g:=e.1) (pr:=e.2)).mp h;show mem_flatMap.mpr ⟨p,a,?_⟩;rcases h with h | h
 .rw[<- h.1];simp
 .rw[<- h.2.1];simp
theorem Conn.retract{q:PD}{f s0:Str}(hq:(q.st=f/\q.en=s0)\/(q.st=s0/\q.en=f))(hf:f∉fcsOf L){a b:Str}(h:Conn (L++[q]) a b):Conn L (if a=f then s0 else a) (if b=f then s0 else b):=by
 let(w,h):=h;induction h with
 | nil=>show .refl
 | snoc _ hm ih=>
  show ih.trans ?_;rw[Jej]at hm;rcases mem_append.mp hm with h | h
  .have e:=JiR h;have i:∀ x∈fcsOf L,x≠f:=λx c z=>hf (z ▸ c);rw[if_neg (i _ e.1),if_neg (i _ e.2)];show .lead h
  .have d:∀ x,JaH [q] x=JdQ q x:=λx=>by simp[JaH]
   have j:=h;rw[<- d]at j;let(p,g,k):=Jbw.mp j;rw[mem_singleton]at g;subst g;have e:∀ x:Str,x=p.st\/x=p.en->(if x=f then s0 else x)=s0:=λx c=>by
    split
    .rfl
    .rename_i n;rcases hq with⟨h1,h2⟩ | ⟨h1,h2⟩ <;> rcases c with c | c
     .show absurd (c.trans h1) n
     .show c.trans h2
     .show c.trans h1
     .show absurd (c.trans h2) n
   rcases k with k | k
   .rw[e _ (.inl k.1.symm),e _ (.inr k.2.1.symm)];show .refl
   .rw[e _ (.inr k.2.1.symm),e _ (.inl k.2.2.1.symm)];show .refl
def sgn(b:Bool)(a:Int × Int):Int × Int:=if b then a else negF a
inductive Legs(ls:List PD)(pl:Str->Int × Int):Str->List Pr->Str->Prop
 | nil {a:Str}:Legs ls pl a [] a
 | cons {a g b:Str} {p:PD} {fw:Bool} {w:List Pr}:p∈ls->vl (pl g)=vl (pl a)+vl (sgn fw p.sz)->Legs ls pl g w b->Legs ls pl a ((p.nm,fw)::w) b
variable{pl:Str->Int × Int}{fw:Bool}
theorem Legs.snoc{f g:Str}{w:List Pr}(h:Legs ls pl a w f)(hp:p∈ls)(e:vl (pl g)=vl (pl f)+vl (sgn fw p.sz)):Legs ls pl a (w++[(p.nm,fw)]) g:=by
 induction h with
 | nil=>show .cons hp e .nil
 | cons h1 h2 _ ih=>show .cons h1 h2 (ih e)
theorem Jlw(hpl:∀ p∈ls,vl (pl p.en)=vl (pl p.st)+vl p.sz){a b:Str}{w:List Pr}(h:Jbv ls a w b):Legs ls pl a w b:=by
 induction h with
 | nil=>show .nil
 | snoc _ hm ih=>
  obtain⟨p,c,h | h⟩:=Jbw.mp hm
  .let(e,d,rfl):=h;show ih.snoc c ?_;rw[<- e, <- d];show hpl p c
  .let(_,e,d,rfl):=h;show ih.snoc c ?_;have:=hpl p c;rw[<- e, <- d,this];show _=_+vl (negF p.sz);rw[Jdz];grind
def nmK(s st k:Nat):Str:=⟨(List.replicate st s++([97+k]++List.replicate (3-st) s)).toArray⟩
variable{st j:Nat}
theorem JcR{s i:Nat}(h:nmK s st i=nmK s st j):i=j:=by
 unfold nmK at h;injection h with h
 have h:=congrArg Array.toList h;simp at h;show h
theorem Jd6{s k:Nat}(hs:97<=s/\s<=122)(hst:st<=3)(hk:k<=25):nameS (nmK s st k)=true:=by
 unfold nameS nmK;simp[Str.length,lowB];show(by ac_nf, .inr hs,by ac_nf, .inr hs)
variable{a:Int × Int}
theorem FB.mono{D:Nat}(h:FB A B a)(h1:A<=C)(h2:B<=D):FB C D a:=⟨h.s1.mono h1,h.s2.mono h2,h.b1,h.g1⟩
theorem JeQ:FB 1 1 (0,1):=⟨.lit ⋯ ⋯, .lit ⋯ ⋯,by decide,by decide⟩
structure SpD where
 f:Str
 r:Str
 p:Int × Int
structure Grn(st:Nat)(ls:List PD)(sp:List SpD):Prop where
 nm:∀ i p,ls[i]?=some p->p.nm=nmK 112 st i
 fc:∀ i s,sp[i]?=some s->s.f=nmK 102 st i
 ok:∀ p∈ls,POk p
 sub:∀ p∈ls,p.st∈sp.map (·.f)/\p.en∈sp.map (·.f)
 con:∀ s∈sp,Conn ls s.r s.f
 pl:∀ p∈ls, ∀ s∈sp, ∀ t∈sp,s.f=p.st->t.f=p.en->vl t.p=vl s.p+vl p.sz
 fb:∀ s∈sp,FB (134+21*ls.length) (20*ls.length+1) s.p
 good:partsW [] (ls.map Sum.inl)=.ok ls
 tr:Tree ls
variable{sp:List SpD}
theorem Grn.new(h:Grn st ls sp){n:Nat}(hn:sp.length<=n):nmK 102 st n∉sp.map (·.f):=λz=>by
 let(s,c,e):=mem_map.mp z;let(i,a):=List.getElem?_of_mem c;have d:=(List.getElem?_eq_some_iff.mp a).1;have b:s.f=nmK 102 st n:=e;rw[h.fc i s a]at b;have:=JcR b;ac_nf
theorem Grn.nil:Grn st [] []:=⟨by simp,by simp,by simp,by simp,by simp,by simp,by simp,by rw[map_nil,partsW],λp a=>by cases a⟩
theorem Grn.inj(h:Grn st ls sp){s t:SpD}(hs:s∈sp)(ht:t∈sp)(e:s.f=t.f):s=t:=by
 let(i,b):=List.getElem?_of_mem hs;let(j,a):=List.getElem?_of_mem ht;rw[h.fc i s b,h.fc j t a]at e;have:=JcR e;subst this;rw[b]at a;show Option.some.inj a
theorem JbA{l:List α}{a x : α}{i:Nat}(h:(l++[a])[i]?=some x):l[i]?=some x\/(i=l.length/\x=a):=by
 by_cases c:i<l.length
 .rw[List.getElem?_append_left c]at h;show .inl h
 .have b:=(List.getElem?_eq_some_iff.mp h).1;rw[length_append,length_singleton]at b;have e:i=l.length:=by ac_nf
  subst e;rw[List.getElem?_append_right (Nat.le_refl _),Nat.sub_self]at h;cases h;show .inr ⟨rfl,rfl⟩
theorem Grn.face(h:Grn st ls sp):Grn st ls (sp++[⟨nmK 102 st sp.length,nmK 102 st sp.length,(0,1)⟩]) where
 nm:=h.nm
 fc:=λi s f=>by
  rcases JbA f with f | ⟨rfl,rfl⟩
  .show h.fc i s f
  .rfl
 ok:=h.ok
 sub:=λp b=>by
  rw[map_append];show(mem_append.mpr (.inl (h.sub p b).1),mem_append.mpr (.inl (h.sub p b).2))
 con:=λs a=>by
  rcases mem_append.mp a with a | a
  .show h.con s a
  .rw[mem_singleton.mp a];show .refl
 pl:=λp b s a t c d e=>by
  have g:=h.new (Nat.le_refl sp.length);rcases mem_append.mp a with a | a
  .rcases mem_append.mp c with c | c
   .show h.pl p b s a t c d e
   .rw[mem_singleton.mp c]at e;dsimp only at e;show absurd (e ▸ (h.sub p b).2) g
  .rw[mem_singleton.mp a]at d;dsimp only at d;show absurd (d ▸ (h.sub p b).1) g
 fb:=λs a=>by
  rcases mem_append.mp a with a | a
  .show h.fb s a
  .rw[mem_singleton.mp a];show JeQ.mono ∅ ∅
 good:=h.good
 tr:=h.tr
theorem Grn.part(h:Grn st ls sp)(hst:st<=3){s0:SpD}(h0:s0∈sp){p:PD}{d:Bool}(hnm:p.nm=nmK 112 st ls.length)
  (h1:p.st=if d then s0.f else nmK 102 st sp.length) (h2:p.en=if d then nmK 102 st sp.length else s0.f) (hz:FB 133 20 p.sz) (hok:POk p):Grn st (ls++[p]) (sp++[⟨nmK 102 st sp.length,s0.r,addF s0.p (sgn d p.sz)⟩]):=by
 have u:=h.new (Nat.le_refl sp.length);have H:s0.f∈sp.map (·.f):=mem_map.mpr ⟨s0,h0,rfl⟩;have w:nmK 102 st sp.length≠s0.f:=λz=>u (z ▸ H);have L:∀ q∈ls,q.st≠q.en:=λq a=>(h.ok q a).ne;have E:nmK 102 st sp.length∉fcsOf ls:=λz=>by
  let(q,a,B):=mem_flatMap.mp z;simp at B;rcases B with e | e
  .show u (e ▸ (h.sub q a).1)
  .show u (e ▸ (h.sub q a).2)
 have K:¬ Conn ls p.st p.en:=λz=>by
  have:=JjO L z hok.ne;cases d with
  | true=>
   rw[if_pos rfl]at h1 h2;show E (h2 ▸ this.2)
  | false=>
   rw[if_neg ⋯]at h1 h2;show E (h1 ▸ this.1)
 have O:p.nm∉ls.map (·.nm):=λz=>by
  let(q,a,e):=mem_map.mp z;let(i,o):=List.getElem?_of_mem a;have T:=(List.getElem?_eq_some_iff.mp o).1;have k:q.nm=p.nm:=e;rw[h.nm i q o,hnm]at k;have:=JcR k;ac_nf
 have v:=h.fb s0 h0;have A:FB 133 20 (sgn d p.sz):=by
  cases d with
  | true=>show hz
  | false=>show hz.neg
 have D:FB (134+21*(ls.length+1)) (20*(ls.length+1)+1) (addF s0.p (sgn d p.sz)):=by
  have:=FB.add (n:=154+21*ls.length) (m:=20*(ls.length+1)+1) v A ∅ ∅ ∅;have e:134+21*(ls.length+1)=154+21*ls.length+1:=by ac_nf
  rw[e];show this
 have I:vl (addF s0.p (sgn d p.sz))=vl s0.p+vl (sgn d p.sz):=JhS v.b1 A.b1;show(λi q o=>?_,λi s o=>?_,λq a=>?_,λq a=>?_,λs b=>?_,λq a s b t j l k=>?_,λs b=>?_,?_,λq a z=>?_)
 .rcases JbA o with o | ⟨rfl,rfl⟩
  .show h.nm i q o
  .show hnm
 .rcases JbA o with o | ⟨rfl,rfl⟩
  .show h.fc i s o
  .rfl
 .rcases mem_append.mp a with a | a
  .show h.ok q a
  .rw[mem_singleton.mp a];show hok
 .rw[map_append];rcases mem_append.mp a with a | a
  .show(mem_append.mpr (.inl (h.sub q a).1),mem_append.mpr (.inl (h.sub q a).2))
  .rw[mem_singleton.mp a,h1,h2];have M:nmK 102 st sp.length∈[(⟨nmK 102 st sp.length,s0.r,addF s0.p (sgn d p.sz)⟩:SpD)].map (·.f):=by simp
   cases d with
   | true=>show(mem_append.mpr (.inl H),mem_append.mpr (.inr M))
   | false=>show(mem_append.mpr (.inr M),mem_append.mpr (.inl H))
 .rcases mem_append.mp b with b | b
  .show(h.con s b).mono
  .rw[mem_singleton.mp b];have R:p∈ls++[p]:=by simp
   have F:∀ q∈ls++[p],q.st≠q.en:=λq a=>by
    rcases mem_append.mp a with a | a
    .show L q a
    .rw[mem_singleton.mp a];show hok.ne
   have c:=Jiv R;cases d with
   | true=>
    rw[if_pos rfl]at h1 h2;rw[h1,h2]at c;show((h.con s0 h0).mono).trans c
   | false=>
    rw[if_neg ⋯]at h1 h2;rw[h1,h2]at c;show((h.con s0 h0).mono).trans (c.symm F)
 .rcases mem_append.mp a with a | a
  .rcases mem_append.mp b with b | b
   .rcases mem_append.mp j with j | j
    .show h.pl q a s b t j l k
    .rw[mem_singleton.mp j]at k;dsimp only at k;show absurd (k ▸ (h.sub q a).2) u
   .rw[mem_singleton.mp b]at l;dsimp only at l;show absurd (l ▸ (h.sub q a).1) u
  .have a:=mem_singleton.mp a;subst a;cases d with
   | true=>
    rw[if_pos rfl]at h1 h2;rw[h1]at l;rw[h2]at k;have G:s=s0:=by
     rcases mem_append.mp b with b | b
     .show h.inj b h0 l
     .rw[mem_singleton.mp b]at l;dsimp only at l;show absurd l w
    have C:t.p=addF s0.p (sgn true q.sz):=by
     rcases mem_append.mp j with j | j
     .show absurd (k ▸ mem_map.mpr ⟨t,j,rfl⟩) u
     .rw[mem_singleton.mp j]
    rw[G,C,I];rfl
   | false=>
    rw[if_neg ⋯]at h1 h2;rw[h1]at l;rw[h2]at k;have C:t=s0:=by
     rcases mem_append.mp j with j | j
     .show h.inj j h0 k
     .rw[mem_singleton.mp j]at k;dsimp only at k;show absurd k w
    have G:s.p=addF s0.p (sgn false q.sz):=by
     rcases mem_append.mp b with b | b
     .show absurd (l ▸ mem_map.mpr ⟨s,b,rfl⟩) u
     .rw[mem_singleton.mp b]
    have P:vl (sgn false q.sz) = - vl q.sz:=Jdz q.sz;rw[C,G,I,P];grind
 .rw[length_append,length_singleton];rcases mem_append.mp b with b | b
  .have:=h.fb s b;show this.mono ∅ ∅
  .rw[mem_singleton.mp b];show D
 .have:=Jex (p:=p) ls [] (by rw[nil_append];show h.good) (by rw[nil_append];show O) (by rw[nil_append];show K);rw[nil_append]at this;show this
 .rw[filter_append]at z;rcases mem_append.mp a with a | a
  .have N:∀ x∈ls.filter (λx=>decide (x.nm≠q.nm)),x∈ls:=λx g=>(mem_filter.mp g).1;have S:nmK 102 st sp.length∉fcsOf (ls.filter λx=>decide (x.nm≠q.nm)):=λy=>E (by
    let(x,g,B):=mem_flatMap.mp y;show mem_flatMap.mpr ⟨x,N x g,B⟩)
   have Q:Conn (ls.filter (λx=>decide (x.nm≠q.nm))++[p]) q.st q.en:=z.sub λx g=>by
    rcases mem_append.mp g with g | g
    .show mem_append.mpr (.inl g)
    .show mem_append.mpr (.inr (mem_filter.mp g).1)
   have:=Q.retract (s0:=s0.f) (f:=nmK 102 st sp.length) (by
    cases d with
    | true=>show .inr ⟨h1,h2⟩
    | false=>show .inl ⟨h1,h2⟩) S
   have J:∀ x∈sp.map (·.f),x≠nmK 102 st sp.length:=λx g y=>u (y ▸ g);rw[if_neg (J _ (h.sub q a).1),if_neg (J _ (h.sub q a).2)]at this;show h.tr q a this
  .rw[mem_singleton.mp a]at z;show K (z.sub λx g=>by
    rcases mem_append.mp g with g | g
    .show(mem_filter.mp g).1
    .have:=(mem_filter.mp g);have e:=mem_singleton.mp this.1;rw[e]at this;simp at this)
def Two(sp:List SpD):Prop:=∀ s∈sp, ∃ t∈sp,t.f≠s.f/\t.r=s.r
theorem Jkl(h:Grn st ls sp){s0:SpD}(h0:s0∈sp)(ht:∀ s∈sp,s.r=s0.r\/∃ t∈sp,t.f≠s.f/\t.r=s.r){z:Int × Int}:Two (sp++[⟨nmK 102 st sp.length,s0.r,z⟩]):=by
 have b:=h.new (Nat.le_refl sp.length);intro s a;rcases mem_append.mp a with a | a
 .rcases ht s a with e | ⟨t,ht,e1,e2⟩
  .show(⟨nmK 102 st sp.length,s0.r,z⟩,by simp,λq=>b (mem_map.mpr ⟨s,a,q.symm⟩),e.symm)
  .show(t,mem_append.mpr (.inl ht),e1,e2)
 .rw[mem_singleton.mp a];show(s0,mem_append.mpr (.inl h0),λq=>b (mem_map.mpr ⟨s0,h0,q⟩),rfl)
theorem Grn.joined(h:Grn st ls sp){s t:SpD}(hs:s∈sp)(ht:t∈sp)(e:s.r=t.r):Conn ls s.f t.f:=by
 have b:∀ q∈ls,q.st≠q.en:=λq a=>(h.ok q a).ne;show((h.con s hs).symm b).trans (e ▸ h.con t ht)
def spOf(sp:List SpD)(f:Str):Int × Int:=((sp.find? λs=>decide (s.f=f)).map (·.p)).getD (0,1)
theorem Grn.pl_at(h:Grn st ls sp){s:SpD}(hs:s∈sp):spOf sp s.f=s.p:=by
 unfold spOf;cases e:sp.find? λt=>decide (t.f=s.f)with
 | none=>
  have:=List.find?_eq_none.mp e s hs;simp at this
 | some t=>
  have b:=List.mem_of_find?_eq_some e;have a:=List.find?_some e;have c:t.f=s.f:=by simpa using a
  rw[h.inj b hs c];rfl
theorem Grn.pls(h:Grn st ls sp):∀ p∈ls,vl (spOf sp p.en)=vl (spOf sp p.st)+vl p.sz:=λp c=>by
 let(s,e,a):=mem_map.mp (h.sub p c).1;let(t,d,b):=mem_map.mp (h.sub p c).2;have a:s.f=p.st:=a;have b:t.f=p.en:=b;rw[<- a, <- b,h.pl_at e,h.pl_at d];show h.pl p c s e t d a b
theorem Grn.plb(h:Grn st ls sp)(hl:ls.length<=8)(f:Str):FB 302 161 (spOf sp f):=by
 unfold spOf;cases e:sp.find? λt=>decide (t.f=f)with
 | none=>show JeQ.mono ∅ ∅
 | some t=>
  have:=h.fb t (List.mem_of_find?_eq_some e);show this.mono ∅ ∅
theorem JgD{t b:Int}(hb:1<=b):vl (Mth.top t b,Mth.bot t b)=(t:Rat)/(b:Rat):=by
 have a:b≠0:=by ac_nf
 have c:=Mth.cross (t:=t) a;have d:=Mth.Jct (t:=t) a;unfold vl;dsimp only;generalize Mth.top t b=x at *;generalize Mth.bot t b=y at *;have g:=JaE hb;have f:=JaE d;have e:(x:Rat)*(b:Rat)=(t:Rat)*(y:Rat):=by exact_mod_cast c
 generalize(x:Rat)=x at *;generalize(y:Rat)=y at *;generalize(t:Rat)=t at *;generalize(b:Rat)=b at *;grind
theorem FOk.fb(h:FOk n a):FB n n a:=⟨h.s1,h.s2,h.b1,h.g1⟩
def mid(pl:Str->Int × Int)(g:GD):Int × Int:=addF (pl g.en) (negF (pl g.st))
def roomF(pl:Str->Int × Int)(g:GD):Int × Int:=if lessF (addF g.hi (negF (mid pl g))) (addF (mid pl g) (negF g.lo))then addF g.hi (negF (mid pl g))else addF (mid pl g) (negF g.lo)
section
variable{A' B' C' D':Nat}{x y z b:Int × Int}{D:Nat}{w m:Int × Int}
theorem FB.inj(h:FB A B x)(k:FB C D y)(e:vl x=vl y):x=y:=Jk2 h.b1 k.b1 h.g1 k.g1 e
theorem FB.add'(h:FB A B x)(k:FB C D y):FB (A+D+(C+B)+1) (B+D) (addF x y):=FB.add h k ∅ ∅ (Nat.le_refl _)
theorem FB.vadd(h:FB A B x)(k:FB C D y):vl (addF x y)=vl x+vl y:=JhS h.b1 k.b1
theorem Jlv(hx:FB A B x)(hy:FB A B y)(hz:FB C D z)(hw:FB A B w)(e:vl y=vl x+vl z):addF (addF x (negF w)) z=addF y (negF w):=by
 show FB.inj ((hx.add' hw.neg).add' hz) (hy.add' hw.neg) ?_;rw[FB.vadd (hx.add' hw.neg) hz,hx.vadd hw.neg,hy.vadd hw.neg,e,Jdz];grind
theorem JjW(hx:FB A B x):addF x (negF x)=(0,1):=by
 show FB.inj (hx.add' hx.neg) JeQ ?_;rw[hx.vadd hx.neg,Jdz];have : vl (0,1)=0:=by
  unfold vl;grind
 rw[this];grind
theorem Jla(hm:FB A B m)(ha:FB C D a):addF (addF m a) (negF m)=a:=by
 show FB.inj ((hm.add' ha).add' hm.neg) ha ?_;rw[FB.vadd (hm.add' ha) hm.neg,hm.vadd ha,Jdz];grind
theorem Jlb(hm:FB A B m)(hb:FB C D b):addF m (negF (addF m (negF b)))=b:=by
 have a:=hm.add' hb.neg;show FB.inj (hm.add' a.neg) hb ?_;rw[hm.vadd a.neg,Jdz,hm.vadd hb.neg,Jdz];grind
theorem Jkf(ha:FB A B a)(hb:FB C D b):(if lessF a b then a else b)=if lessF b a then b else a:=by
 have g:=Jbu (a:=a) (c:=b) ha.b1 hb.b1;have f:=Jbu (a:=b) (c:=a) hb.b1 ha.b1;by_cases e:lessF a b=true
 .rw[if_pos e,if_neg λd=>by
   have:=g.mp e;have:=f.mp d;grind]
 .rw[if_neg e];by_cases d:lessF b a=true
  .rw[if_pos d]
  .rw[if_neg d];show FB.inj hb ha ?_;have i:¬ vl a<vl b:=λq=>e (g.mpr q);have h:¬ vl b<vl a:=λq=>d (f.mpr q);grind
theorem hi_lo(hm:FB A B m)(ha:FB C D a)(hb:FB C' D' b)(h:0<=vl a+vl b):lessF (addF m a) (addF m (negF b))=false:=by
 have f:=hm.add' ha;have d:=hm.add' hb.neg;have c:=Jbu f.b1 d.b1;rw[hm.vadd ha,hm.vadd hb.neg,Jdz]at c;cases e:lessF (addF m a) (addF m (negF b))with
 | false=>rfl
 | true=>
  have:=c.mp e;grind
theorem Jmn{g:GD}(h:∀ f,FB 302 161 (pl f)):FB 464 322 (mid pl g):=FB.add (h _) (h _).neg ⋯ ⋯ ⋯
end
section
variable{f : α->Str}{l:List α}{s:Nat}
theorem JjY(h:∀ i a,l[i]?=some a->f a=nmK s st i){a b : α}(ha:a∈l)(hb:b∈l)(e:f a=f b):a=b:=by
 let(i,d):=List.getElem?_of_mem ha;let(j,c):=List.getElem?_of_mem hb;rw[h i a d,h j b c]at e;have:=JcR e;subst this;rw[d]at c;show Option.some.inj c
theorem Jgg(h:∀ i a,l[i]?=some a->f a=nmK s st i):(l.map f).Nodup:=by
 rw[List.Nodup,List.pairwise_iff_getElem];intro i j b c d e;rw[length_map]at b c;rw[List.getElem_map,List.getElem_map,h i _ (List.getElem?_eq_getElem b),h j _ (List.getElem?_eq_getElem c)]at e;have:=JcR e;ac_nf
end
theorem Grn.fname(h:Grn st ls sp)(hst:st<=3)(hl:sp.length<=16){s:SpD}(hs:s∈sp):nameS s.f=true:=by
 let(i,a):=List.getElem?_of_mem hs;have:=(List.getElem?_eq_some_iff.mp a).1;rw[h.fc i s a];show Jd6 ⋯ hst ∅
section
variable{x:V}{K:W.Frag}
end
theorem JcN{b:Addr}(S:Same H0 H)(h:H b=none):H0 b=none:=by
 cases e:H0 b with
 | none=>rfl
 | some o=>rw[S _ _ e]at h;cases h
theorem Jme{c:TT}{t u:TS}{D:Ends}(J:St->Hp->Prop)(hJ:∀ σ' H',J σ' H'->D.nx σ' H')(h:∀ N:St->Hp->Prop,(∀ σ' H',J σ' H'->N σ' H')->tIfS c t u { D with nx:=N } σ H):tIfS c t u D σ H:=h D.nx hJ
theorem JjB{t b:Int}(ht:0<=t)(hb:1<=b):0<=Mth.top t b:=by
 have d:=Mth.JeP (t:=t) (b:=b) ∅;have c:=Mth.g_pos (a:=t) (b:=b) ∅;have e:Mth.by_ t b=Mth.g t b:=by unfold Mth.by_;rw[if_neg ∅]
 rw[e]at d;rcases Int.lt_or_le (Mth.top t b) 0 with z | z
 .have:=Int.mul_neg_of_neg_of_pos z c;ac_nf
 .show z
inductive Path(ls:List PD):Str->List Pr->Str->Prop
 | nil {a:Str}:Path ls a [] a
 | cons {a g b:Str} {p:PD} {fw:Bool} {w:List Pr}:p∈ls->(a=if fw then p.st else p.en)->(g=if fw then p.en else p.st)->Path ls g w b->Path ls a ((p.nm,fw)::w) b
variable{a:Str}
theorem Path.snoc{f g:Str}{w:List Pr}(h:Path ls a w f)(hp:p∈ls)(e1:f=if fw then p.st else p.en)(e2:g=if fw then p.en else p.st):Path ls a (w++[(p.nm,fw)]) g:=by
 induction h with
 | nil=>show .cons hp e1 e2 .nil
 | cons h1 h2 h3 _ ih=>show .cons h1 h2 h3 (ih e1)
theorem Jey{w:List Pr}(h:Jbv ls a w b):Path ls a w b:=by
 induction h with
 | nil=>show .nil
 | snoc _ hm ih=>
  obtain⟨p,e,h | h⟩:=Jbw.mp hm
  .let(d,c,rfl):=h;show ih.snoc e d.symm c.symm
  .let(_,d,c,rfl):=h;show ih.snoc e d.symm c.symm
theorem Jc7{w:List Pr}(h:Path ls a w b):∀ n∈w.map (·.1),n∈ls.map (·.nm):=by
 induction h with
 | nil=>simp
 | cons h1 _ _ _ ih=>
  intro n c;rw[map_cons]at c;rcases mem_cons.mp c with e | e
  .rw[e];show mem_map.mpr ⟨_,h1,rfl⟩
  .show ih n e
open PySem.Spec PyProof.Rows
theorem Jd2(z:Str):∀ ss:List Str,inV (.str z) (ss.map V.str)=decide (z∈ss)
 | []=>by simp[inV]
 | s::ss=>by
  have h:=Jd2 z ss;unfold inV at h ⊢;rw[map_cons,any_cons,h];have e:eqV (.str s) (.str z)=decide (s=z):=by first | rfl | simp[eqV]
  rw[e];by_cases c:s=z
  .subst c;simp
  .have c':¬ z=s:=λq=>c q.symm;simp[c,c']
theorem Jed(ss:List Str):(ss.map V.str).all flatV=true:=by
 induction ss with
 | nil=>rfl
 | cons s ss ih=>rw[map_cons,List.all_cons,ih];rfl
variable{ks:List PD}
theorem JgQ(h:(ks.map (·.nm)).Nodup){i:Nat}{p:PD}(hp:ks[i]?=some p):p.nm∉(ks.take i).map (·.nm):=λz=>by
 let(q,f,e):=mem_map.mp z;have e:q.nm=p.nm:=e;have c:=(List.getElem?_eq_some_iff.mp hp).1;let(j,a):=List.getElem?_of_mem f;have d:=(List.getElem?_eq_some_iff.mp a).1;rw[length_take]at d;rw[List.getElem?_take_of_lt ∅]at a;have b:=(List.getElem?_eq_some_iff.mp a).1;rw[List.Nodup,List.pairwise_iff_getElem]at h;show h j i (by rw[length_map];show b) (by rw[length_map];show c) ∅ ?_;rw[List.getElem_map,List.getElem_map];rw[List.getElem?_eq_getElem b]at a;rw[List.getElem?_eq_getElem c]at hp;rw[Option.some.inj a,Option.some.inj hp];show e
variable{tb:TS}
theorem ForR.byN{lo:Int}{g:TG}{D:Ends}(Pv:Nat->St->Hp->Prop)(h0:Pv 0 σ H)
  (hs:∀ i σ H,i<n->Pv i σ H->∀ N:St->Hp->Prop,(∀ σ' H',Pv (i+1) σ' H'->N σ' H')->g (.int (lo+i)) σ H λσ2 H2=>tb { D with nx:=N,ct:=N,bk:=D.nx } σ2 H2) (hd:∀ σ H,Pv n σ H->D.nx σ H):ForR lo n g tb D σ H :=
 ForR.by Pv h0 (λi σ H a b=>hs i σ H a b _ λ_ _ h=>h) hd
theorem ForA.byLN{K:W.Frag}{a:Addr}{g:TG}{D:Ends}(hA:SqL K H a xs)(Pv:Nat->St->Hp->Prop)(h0:Pv 0 σ H)(hl:∀ i σ H',Pv i σ H'->SqL K H' a xs)
  (hs:∀ i x σ H,xs[i]?=some x->Pv i σ H->∀ N:St->Hp->Prop,(∀ σ' H',Pv (i+1) σ' H'->N σ' H')->g x σ H λσ2 H2=>tb { D with nx:=N,ct:=N,bk:=D.nx } σ2 H2) (hd:∀ σ H,Pv xs.length σ H->D.nx σ H):ForA K a g tb D σ H :=
 ForA.byL hA Pv h0 hl (λi x σ H c b=>hs i x σ H c b _ λ_ _ h=>h) hd
structure Nms(ls:List PD)(xs:List (SpD × List Str)):Prop where
 nd:∀ x∈xs,x.2.Nodup
 sub:∀ x∈xs, ∀ n∈x.2,n∈ls.map (·.nm)
 stp:∀ p∈ls, ∀ x∈xs, ∀ y∈xs,x.1.f=p.st->y.1.f=p.en->(∀ n,n≠p.nm->(n∈x.2↔n∈y.2))/\(p.nm∈x.2↔p.nm∉y.2)
 fb:∀ x∈xs,FB (134+5*ls.length) (4*ls.length+1) x.1.p
 pb:∀ p∈ls,FB 133 4 p.sz/\FB 100 6 p.mo
 ln:∀ x∈xs,x.2.length<=ls.length
theorem Nms.nil:Nms [] []:=⟨by simp,by simp,by simp,by simp,by simp,by simp⟩
variable{xs:List (SpD × List Str)}
theorem Nms.face(h:Nms ls xs)(hG:Grn st ls (xs.map (·.1))):Nms ls (xs++[(⟨nmK 102 st (xs.map (·.1)).length,nmK 102 st (xs.map (·.1)).length,(0,1)⟩,[])]):=by
 have f:=hG.new (Nat.le_refl _);show(λx a=>?_,λx a=>?_,λp e x a y b c d=>?_,λx a=>?_,h.pb,λx a=>?_)
 .rcases mem_append.mp a with a | a
  .show h.nd x a
  .rw[mem_singleton.mp a];show .nil
 .rcases mem_append.mp a with a | a
  .show h.sub x a
  .rw[mem_singleton.mp a];intro n g;cases g
 .rcases mem_append.mp a with a | a
  .rcases mem_append.mp b with b | b
   .show h.stp p e x a y b c d
   .rw[mem_singleton.mp b]at d;dsimp only at d;show absurd (d ▸ (hG.sub p e).2) f
  .rw[mem_singleton.mp a]at c;dsimp only at c;show absurd (c ▸ (hG.sub p e).1) f
 .rcases mem_append.mp a with a | a
  .show h.fb x a
  .rw[mem_singleton.mp a];show JeQ.mono ∅ ∅
 .rcases mem_append.mp a with a | a
  .show h.ln x a
  .rw[mem_singleton.mp a];show Nat.zero_le _
theorem Nms.part(h:Nms ls xs)(hG:Grn st ls (xs.map (·.1))){s0:SpD × List Str}(h0:s0∈xs){p:PD}{d:Bool}(hnm:p.nm=nmK 112 st ls.length)
  (h1:p.st=if d then s0.1.f else nmK 102 st (xs.map (·.1)).length) (h2:p.en=if d then nmK 102 st (xs.map (·.1)).length else s0.1.f) (hz:FB 133 4 p.sz) (hm:FB 100 6 p.mo) :
  Nms (ls++[p]) (xs++[(⟨nmK 102 st (xs.map (·.1)).length,s0.1.r,addF s0.1.p (sgn d p.sz)⟩,s0.2++[p.nm])]):=by
 have w:=hG.new (Nat.le_refl _);have u:∀ x∈xs,x.1.f=s0.1.f->(∀ n,n∈x.2↔n∈s0.2):=λx c e=>by
  let(i,t):=List.getElem?_of_mem c;let(j,B):=List.getElem?_of_mem h0;have J:=hG.fc i x.1 (by rw[List.getElem?_map,t];rfl);have L:=hG.fc j s0.1 (by rw[List.getElem?_map,B];rfl);rw[J,L]at e;have:=JcR e;subst this;rw[t]at B;rw[Option.some.inj B];showλ_=>Iff.rfl
 have H:p.nm∉ls.map (·.nm):=λz=>by
  let(q,g,e):=mem_map.mp z;let(i,t):=List.getElem?_of_mem g;have M:=(List.getElem?_eq_some_iff.mp t).1;have l:q.nm=p.nm:=e;rw[hG.nm i q t,hnm]at l;have:=JcR l;ac_nf
 have A:p.nm∉s0.2:=λz=>H (h.sub s0 h0 _ z);have D:FB 133 4 (sgn d p.sz):=by
  cases d with
  | true=>show hz
  | false=>show hz.neg
 show(λx c=>?_,λx c n o=>?_,λq g x c y k s l=>?_,λx c=>?_,λq g=>?_,λx c=>?_)
 .rcases mem_append.mp c with c | c
  .show h.nd x c
  .rw[mem_singleton.mp c];show(s0.2++[p.nm]).Nodup;rw[nodup_append];show(h.nd s0 h0,by simp,λa I b K e=>?_);rw[mem_singleton.mp K]at e;show A (e ▸ I)
 .rw[map_append];rcases mem_append.mp c with c | c
  .show mem_append.mpr (.inl (h.sub x c n o))
  .rw[mem_singleton.mp c]at o;rcases mem_append.mp o with o | o
   .show mem_append.mpr (.inl (h.sub s0 h0 n o))
   .rw[mem_singleton.mp o];simp
 .rcases mem_append.mp g with g | g
  .rcases mem_append.mp c with c | c
   .rcases mem_append.mp k with k | k
    .show h.stp q g x c y k s l
    .rw[mem_singleton.mp k]at l;dsimp only at l;show absurd (l ▸ (hG.sub q g).2) w
   .rw[mem_singleton.mp c]at s;dsimp only at s;show absurd (s ▸ (hG.sub q g).1) w
  .have g:=mem_singleton.mp g;subst g;have v:∀ z∈xs,z.1.f≠nmK 102 st (xs.map (·.1)).length:=λz C e=>w (e ▸ mem_map.mpr ⟨z.1,mem_map.mpr ⟨z,C,rfl⟩,rfl⟩);have G:∀ n,n≠q.nm->(n∈s0.2↔n∈s0.2++[q.nm]):=λn o=>by simp[o]
   cases d with
   | true=>
    rw[if_pos rfl]at h1 h2;rw[h1]at s;rw[h2]at l;rcases mem_append.mp c with c | c
    .rcases mem_append.mp k with k | k
     .show absurd l (v y k)
     .rw[mem_singleton.mp k];have E:=u x c s;show(λn o=>(E n).trans (G n o),?_);rw[E];simp[A]
    .rw[mem_singleton.mp c]at s;dsimp only at s;show absurd s.symm (v s0 h0)
   | false=>
    rw[if_neg ⋯]at h1 h2;rw[h1]at s;rw[h2]at l;rcases mem_append.mp k with k | k
    .rcases mem_append.mp c with c | c
     .show absurd s (v x c)
     .rw[mem_singleton.mp c];have F:=u y k l;show(λn o=>(G n o).symm.trans (F n).symm,?_);rw[F];simp[A]
    .rw[mem_singleton.mp k]at l;dsimp only at l;show absurd l.symm (v s0 h0)
 .rw[length_append,length_singleton];rcases mem_append.mp c with c | c
  .show(h.fb x c).mono ∅ ∅
  .rw[mem_singleton.mp c];have:=FB.add (n:=138+5*ls.length) (m:=4*(ls.length+1)+1) (h.fb s0 h0) D ∅ ∅ ∅;show this.mono ∅ ∅
 .rcases mem_append.mp g with g | g
  .show h.pb q g
  .rw[mem_singleton.mp g];show(hz,hm)
 .rw[length_append,length_singleton];rcases mem_append.mp c with c | c
  .have:=h.ln x c;ac_nf
  .rw[mem_singleton.mp c];have:=h.ln s0 h0;show(s0.2++[p.nm]).length<=_;rw[length_append,length_singleton];ac_nf
theorem JdW(hG:Grn st ls (xs.map (·.1))){x y:SpD × List Str}(hx:x∈xs)(hy:y∈xs)(e:x.1.f=y.1.f):x=y:=by
 let(i,b):=List.getElem?_of_mem hx;let(j,a):=List.getElem?_of_mem hy;have c:=hG.fc i x.1 (by rw[List.getElem?_map,b];rfl);have d:=hG.fc j y.1 (by rw[List.getElem?_map,a];rfl);rw[c,d]at e;have:=JcR e;subst this;rw[b]at a;show Option.some.inj a
theorem Jj6(hG:Grn st ls (xs.map (·.1)))(hM:Nms ls xs){a b:Str}{w:List Pr}(h:Path ls a w b):(w.map (·.1)).Nodup->∀ x∈xs, ∀ y∈xs,x.1.f=a->y.1.f=b->∀ n,n∈w.map (·.1)↔¬(n∈x.2↔n∈y.2):=by
 induction h with
 | nil=>
  intro _ x k y l m r n;have:=JdW hG k l (m.trans r.symm);subst this;simp
 | @cons a g b p fw w hp h1 h2 _ ih=>
  intro o x k y l m r n;rw[map_cons,nodup_cons]at o;obtain⟨z,d,u⟩:∃ z∈xs,z.1.f=g:=by
   have j:=hG.sub p hp;have : g∈(xs.map (·.1)).map (·.f):=by
    rw[h2];cases fw
    .show j.1
    .show j.2
   let(s,j,e):=mem_map.mp this;let(z,d,rfl):=mem_map.mp j;show(z,d,e)
  have i:=ih o.2 z d y l u r n;have t:(∀ n,n≠p.nm->(n∈x.2↔n∈z.2))/\(p.nm∈x.2↔p.nm∉z.2):=by
   rw[<- m]at h1;rw[<- u]at h2;cases fw with
   | true=>
    rw[if_pos rfl]at h1 h2;show hM.stp p hp x k z d h1 h2
   | false=>
    rw[if_neg ⋯]at h1 h2;have:=hM.stp p hp z d x k h2 h1;show(λn v=>(this.1 n v).symm,by have:=this.2;grind)
  rw[map_cons,mem_cons];by_cases c:n=p.nm
  .subst c;have q:¬ p.nm∈w.map (·.1):=o.1;have:=t.2;grind
  .have:=t.1 n c;grind
def NmOk(xs:List (SpD × List Str))(e:GD × List Str):Prop:=e.2.Nodup/\∀ x∈xs, ∀ y∈xs,x.1.f=e.1.st->y.1.f=e.1.en->∀ n,n∈e.2↔¬(n∈x.2↔n∈y.2)
theorem Jkm(hG:Grn st ls (xs.map (·.1)))(hM:Nms ls xs){e:GD × List Str}(he:NmOk xs e)(h1:e.1.st∈(xs.map (·.1)).map (·.f))(h2:e.1.en∈(xs.map (·.1)).map (·.f)){w:List Pr}(h:Path ls e.1.st w e.1.en)(nd:(w.map (·.1)).Nodup):e.2.Perm (w.map (·.1)):=by
 let(s,i,c):=mem_map.mp h1;let(x,d,rfl):=mem_map.mp i;let(t,g,b):=mem_map.mp h2;let(y,a,rfl):=mem_map.mp g;show(List.perm_ext_iff_of_nodup he.1 nd).mpr λn=>?_;rw[he.2 x d y a c b n,Jj6 hG hM h nd x d y a c b n]
variable{a b:List Str}
theorem JmJ(ha:a.Nodup)(hb:b.Nodup):(a.filter (λn=>decide (n∉b))++b.filter (λn=>decide (n∉a))).Nodup/\∀ n,n∈a.filter (λn=>decide (n∉b))++b.filter (λn=>decide (n∉a))↔¬(n∈a↔n∈b):=by
 constructor
 .rw[nodup_append];show(ha.filter _,hb.filter _,λx g y f e=>?_);subst e;have d:=(mem_filter.mp g);have c:=(mem_filter.mp f);simp at d c;show d.2 c.1
 .intro n;rw[mem_append,mem_filter,mem_filter];simp;grind
def sm(f:Str->Rat):List Str->Rat
 | []=>0
 | n::r=>f n+sm f r
theorem Jju{f:Str->Rat}(h:a.Perm b):sm f a=sm f b:=by
 induction h with
 | nil=>rfl
 | cons _ _ ih=>simp only[sm,ih]
 | swap x y l=>
  simp only[sm];grind
 | trans _ _ ih1 ih2=>show ih1.trans ih2
theorem JfR{f:Str->Rat}(n:Str):∀ a:List Str,sm f (a++[n])=sm f a+f n
 | []=>by simp only[nil_append,sm];grind
 | m::a=>by
  rw[cons_append];simp only[sm,JfR n a];grind
def svl(ks:List PD)(ss:List (Int × Int))(n:Str):Rat:=(((ks.zip ss).find? λx=>decide (x.1.nm=n)).map λx=>vl x.2).getD 0
theorem JkU{ss:List (Int × Int)}{x:PD × (Int × Int)}(hn:(ks.map (·.nm)).Nodup)(hx:x∈ks.zip ss):svl ks ss x.1.nm=vl x.2:=by
 unfold svl;cases e:(ks.zip ss).find? λy=>decide (y.1.nm=x.1.nm)with
 | none=>
  have:=List.find?_eq_none.mp e x hx;simp at this
 | some y=>
  have m:=List.mem_of_find?_eq_some e;have l:=List.find?_some e;have h:y.1.nm=x.1.nm:=by simpa using l
  let(i,a):=List.getElem?_of_mem hx;let(j,b):=List.getElem?_of_mem m;rw[List.getElem?_zip_eq_some]at a b;have g:=(List.getElem?_eq_some_iff.mp a.1).1;have d:=(List.getElem?_eq_some_iff.mp b.1).1;rw[List.Nodup,List.pairwise_iff_getElem]at hn;have f:(ks.map (·.nm))[i]'(by rw[length_map];show g)=x.1.nm:=by
   rw[List.getElem_map];have:=a.1;rw[List.getElem?_eq_getElem g]at this;rw[Option.some.inj this]
  have k:(ks.map (·.nm))[j]'(by rw[length_map];show d)=y.1.nm:=by
   rw[List.getElem_map];have:=b.1;rw[List.getElem?_eq_getElem d]at this;rw[Option.some.inj this]
  have : i=j:=by
   rcases Nat.lt_trichotomy i j with c | c | c
   .show absurd (f.trans (h.symm.trans k.symm)) (hn i j _ _ c)
   .show c
   .show absurd (k.trans (h.trans f.symm)) (hn j i _ _ c)
  subst this;have:=a.2.symm.trans b.2;show vl y.2=vl x.2;rw[Option.some.inj this]
def ShP(ks:List PD)(es:List (GD × List Str))(ss:List (Int × Int))(pl:Str->Int × Int):Prop:=(∀(i:Nat)(p:PD)(s:Int × Int),ks[i]?=some p->ss[i]?=some s->0<=vl s/\vl s<=vl p.mo)/\∀ e∈es,sm (svl ks ss) e.2<=vl (roomF pl e.1)
def prodI:List Int->Int
 | []=>1
 | f::r=>f*prodI r
theorem Jcr(f:Int):∀ fs:List Int,prodI (fs++[f])=prodI fs*f
 | []=>by simp[prodI]
 | g::fs=>by rw[cons_append];simp only[prodI,Jcr f fs];rw[Int.mul_assoc]
structure Scl(b:Int)(fs:List Int):Prop where
 b1:1<=b
 f1:∀ f∈fs,1<=f
 pr:prodI fs=b
theorem JeB:∀{fs:List Int},(∀ f∈fs,1<=f)->1<=prodI fs
 | [],_=>by simp[prodI]
 | f::fs,h=>by
  have h1:=h f (by simp);have h2:=JeB (fs:=fs) λg hg=>h g (by simp[hg]);have:=Int.mul_pos (show 0<f by ac_nf) (show 0<prodI fs by ac_nf);simp only[prodI];ac_nf
theorem Jgt:∀(as bs:List Int),prodI (as++bs)=prodI as*prodI bs
 | [],bs=>by simp[prodI]
 | a::as,bs=>by rw[cons_append];simp only[prodI,Jgt as bs];rw[Int.mul_assoc]
variable{a b:Int}
theorem Jjg(ha:1<=a)(hb:1<=b):a<=a*b/\b<=a*b:=by
 have d:=Int.mul_le_mul_of_nonneg_left hb (show 0<=a by ac_nf);have c:=Int.mul_le_mul_of_nonneg_right ha (show 0<=b by ac_nf);constructor <;> ac_nf
theorem Scl.take{fs:List Int}(h:Scl b fs)(i:Nat):1<=prodI (fs.take i)/\prodI (fs.take i)<=b:=by
 have d:=JeB (fs:=fs.take i) λf a=>h.f1 f (mem_of_mem_take a);have c:=JeB (fs:=fs.drop i) λf a=>h.f1 f (List.mem_of_mem_drop a);have e:=Jgt (fs.take i) (fs.drop i);rw[List.take_append_drop,h.pr]at e;have:=Jjg d c;ac_nf
theorem Scl.mem{f:Int}{fs:List Int}(h:Scl b fs)(hf:f∈fs):f<=b:=by
 let(i,a):=List.getElem?_of_mem hf;have c:=(List.getElem?_eq_some_iff.mp a).1;have t:=h.take (i+1);rw[take_succ,a]at t;have e:=Jcr f (fs.take i);have:=Jjg (h.take i).1 (h.f1 f hf);simp only[Option.toList_some]at t;ac_nf
theorem sz_le(h:Mth.Sz n b)(h0:0<=a)(h1:a<=b):Mth.Sz n a:=Nat.lt_of_le_of_lt (by ac_nf:a.natAbs<=b.natAbs) h
theorem Scl.nil:Scl 1 []:=⟨by decide,by simp,rfl⟩
theorem Scl.snoc{f:Int}{fs:List Int}(h:Scl b fs)(hf:1<=f):Scl (b*f) (fs++[f]):=⟨by
 have:=Int.mul_pos (show 0<b by have:=h.b1;ac_nf) (show 0<f by ac_nf);ac_nf,λg a=>by
 rcases mem_append.mp a with a | a
 .show h.f1 g a
 .rw[mem_singleton.mp a];show hf,by rw[Jcr,h.pr]⟩
structure LInv(n:Int × Int)(q:Int)(t:Int × Int):Prop where
 b1:1<=t.2
 g1:Mth.g t.1 t.2=1
 dv:t.2∣n.2
 cr:t.1*n.2=n.1*q*t.2
 ab:t.1.natAbs<=n.1.natAbs*q.natAbs
variable{n:Int × Int}
theorem LInv.nil(h:1<=n.2)(g:Mth.g n.1 n.2=1):LInv n 1 n:=⟨h,g,Int.dvd_refl _,by rw[Int.mul_one],by simp⟩
variable{q:Int}
theorem LInv.step{t:Int × Int}{f:Int}(h:LInv n q t)(hf:1<=f):LInv n (q*f) (t.1*f.fdiv (Mth.g t.2 f),t.2.fdiv (Mth.g t.2 f)):=by
 have v:0<Mth.g t.2 f:=Mth.g_pos ∅;have k:=Mth.JcO t.2 f;have e:=Mth.JbW t.2 f;have i:=Mth.JaR k ∅;have p:=Mth.JaR e ∅;have o:=Mth.Jc2 (b:=t.2) (d:=f) rfl ∅;have m:=Mth.Jcg k ∅ h.b1;have u:=Mth.Jec e ∅;have j:t.2.fdiv (Mth.g t.2 f)∣t.2:=⟨_,i.symm⟩;have l:Int.gcd t.1 (t.2.fdiv (Mth.g t.2 f))=1:=Mth.Ja3 (Mth.Jck (Mth.Ja3 (Mth.Jcu h.g1)) j);have a:=h.cr;have c:=h.ab;generalize t.2.fdiv (Mth.g t.2 f)=r at *;generalize f.fdiv (Mth.g t.2 f)=f' at *;generalize Mth.g t.2 f=s at *;show(m,Mth.Jd1 (Mth.Ja3 (Mth.Jcf (Mth.Ja3 l) o)),Int.dvd_trans j h.dv,?_,?_)
 .show t.1*f'*n.2=n.1*(q*f)*r;have : t.1*f'*n.2=(t.1*n.2)*f':=by rw[Int.mul_assoc,Int.mul_comm f', <- Int.mul_assoc]
  rw[this,a, <- i, <- p];simp only[Int.mul_assoc,Int.mul_comm,Int.mul_left_comm]
 .show(t.1*f').natAbs<=n.1.natAbs*(q*f).natAbs;rw[Int.natAbs_mul,Int.natAbs_mul, <- Nat.mul_assoc];show Nat.mul_le_mul c u
theorem LInv.all(h:1<=n.2)(hd:b.fmod n.2=0):LInv n b (n.1*b.fdiv n.2,1):=by
 have a:n.2∣b:=by
  rw[Int.fmod_eq_emod_of_nonneg _ ∅]at hd;show Int.dvd_of_emod_eq_zero hd
 have e:=Mth.JaR a ∅;have c:=Mth.Jec a h;show(Int.le_refl _,by unfold Mth.g;simp,Int.one_dvd _,?_,?_)
 .show n.1*b.fdiv n.2*n.2=n.1*b*1;rw[Int.mul_assoc,e,Int.mul_one]
 .show(n.1*b.fdiv n.2).natAbs<=_;rw[Int.natAbs_mul];show Nat.mul_le_mul_left _ c
theorem LInv.vl{t:Int × Int}(h:LInv n q t)(hn:1<=n.2):vl t=vl n*(q:Rat):=by
 have g:=JaE hn;have f:=JaE h.b1;have e:(t.1:Rat)*(n.2:Rat)=(n.1:Rat)*(q:Rat)*(t.2:Rat):=by exact_mod_cast h.cr
 unfold L2.vl;generalize(t.1:Rat)=a at *;generalize(t.2:Rat)=b at *;generalize(n.1:Rat)=c at *;generalize(n.2:Rat)=d at *;generalize(q:Rat)=q at *;grind
theorem LInv.fb{t:Int × Int}(h:LInv n q t)(hn:FB A B n)(hq:Mth.Sz C q):FB (A+C) B t:=by
 show(?_,?_,h.b1,h.g1)
 .show Nat.lt_of_le_of_lt h.ab ?_;have:=hn.s1.mul hq;unfold Mth.Sz at this;rw[Int.natAbs_mul]at this;show this
 .show Nat.lt_of_le_of_lt ?_ hn.s2;have:=Int.natAbs_dvd_natAbs.mpr h.dv;show Nat.le_of_dvd (by have:=hn.b1;ac_nf) this
def smF:List (Int × Int)->Rat
 | []=>0
 | a::r=>vl a+smF r
theorem JfQ(n:Int × Int):∀ a,smF (a++[n])=smF a+vl n
 | []=>by simp only[nil_append,smF];grind
 | m::a=>by
  rw[cons_append];simp only[smF,JfQ n a];grind
theorem scaled{x y q:Rat}(h:0<q):x*q<=y*q↔x<=y:=by
 constructor
 .intro a;show Rat.not_lt.mp λz=>?_;have:=Rat.mul_lt_mul_of_pos_right z h;show Rat.not_lt.mpr a this
 .intro a;show Rat.mul_le_mul_of_nonneg_right a (Rat.le_of_lt h)
def notStar:Expr->Bool
 | .Starred _ _=>false
 | _=>true
variable{e:Expr}
theorem Jae{env:Env}(h:notStar e=true):starEach (e::es) env=(false,eval e env)::starEach es env:=by
 cases e <;> first | rfl | (simp[notStar]at h)
variable{te:TE}
theorem Jaa{t:TA}(ha:PE X e te)(hr:PA X es t)(hs:autoParam (notStar e=true) Au):PA X (e::es) (tCons te t):=Ji6 ha hr (Jae hs)
theorem JcQ{i:Int}{j pos}{t:TA}(hr:PA X es t):PA X (.Constant (.int i) j pos::es) (tCons (tC (.int i)) t):=Ji6 Jad hr (by rfl)
section
variable{x:V}{a c:Addr}{K:W.Frag}
def Same2(a c:Addr)(H H':Hp):Prop:=∀ b u,b≠a->b≠c->H b=some u->H' b=some u
theorem Same.two(S:Same H H'):Same2 a c H H':=λb u _ _ h=>S b u h
def SNV(K:W.Frag)(a c:Addr)(H:Hp)(s:SpD × List Str)(x:V):Prop:=∃ b w l,x=.ref b/\SqT K H b [.str s.1.r,w, .ref l]/\FrV K H w s.1.p.1 s.1.p.2/\l≠a/\l≠c/\H l=some (.lst (s.2.map V.str))
theorem SNV.keep{s:SpD × List Str}(T:SameT H H')(S:Same2 a c H H'):SNV K a c H s x->SNV K a c H' s x:=by rintro⟨b,w,l,g,f,i,d,e,h⟩;show(b,w,l,g,f.sameT T,i.sameT T,d,e,S _ _ d e h)
theorem SNV.same{s:SpD × List Str}(S:Same H H'):SNV K a c H s x->SNV K a c H' s x:=SNV.keep S.t S.two
def RWV(K:W.Frag)(a c:Addr)(pl:Str->Int × Int)(H:Hp)(e:GD × List Str)(x:V):Prop:=∃ b w l,x=.ref b/\SqT K H b [w, .ref l]/\FrV K H w (roomF pl e.1).1 (roomF pl e.1).2/\l≠a/\l≠c/\H l=some (.lst (e.2.map V.str))
variable{e:GD × List Str}
theorem RWV.keep(T:SameT H H')(S:Same2 a c H H'):RWV K a c pl H e x->RWV K a c pl H' e x:=by rintro⟨b,w,l,h,g,j,d,f,i⟩;show(b,w,l,h,g.sameT T,j.sameT T,d,f,S _ _ d f i)
theorem RWV.same(S:Same H H'):RWV K a c pl H e x->RWV K a c pl H' e x:=RWV.keep S.t S.two
def FLV(K:W.Frag)(H:Hp)(s:Int × Int)(x:V):Prop:=FrV K H x s.1 s.2
theorem FLV.sameT{s:Int × Int}(T:SameT H H')(h:FLV K H s x):FLV K H' s x:=FrV.sameT T h
def LFV(K:W.Frag)(H:Hp)(b:Int)(e:PD × (Int × Int))(x:V):Prop:=∃ t,LInv e.2 b t/\FrV K H x t.1 t.2
theorem LFV.sameT{e:PD × (Int × Int)}(T:SameT H H'):LFV K H b e x->LFV K H' b e x:=λζ=>by let(t,c,a):=ζ;show(t,c,a.sameT T)
end
theorem Jk4:∀{ls:List PD}{ss:List (Int × Int)},ss.length=ls.length->(ls.zip ss).map (·.1.nm)=ls.map (·.nm)
 | [],ss,_=>by simp
 | p::ls,[],h=>by simp at h
 | p::ls,s::ss,h=>by
  rw[List.zip_cons_cons,map_cons,map_cons,Jk4 (by simpa using h)]
theorem Jg4:∀{ls:List PD}{p q:PD},(ls.map (·.nm)).Nodup->p∈ls->q∈ls->p.nm=q.nm->p=q
 | [],_,_,_,hp,_,_=>by cases hp
 | a::ls,p,q,hn,hp,hq,e=>by
  rw[map_cons,nodup_cons]at hn;rcases mem_cons.mp hp with h1 | h1 <;> rcases mem_cons.mp hq with h2 | h2
  .rw[h1,h2]
  .subst h1;show absurd (e ▸ mem_map.mpr ⟨q,h2,rfl⟩) hn.1
  .subst h2;show absurd (e ▸ mem_map.mpr ⟨p,h1,rfl⟩) hn.1
  .show Jg4 hn.2 h1 h2 e
variable{n:Nat}
theorem Jmz(h:n<12):∃ bt:Int,[V.int 1, .int 2, .int 3, .int 4, .int 5, .int 6, .int 10, .int 12, .int 15, .int 20, .int 30, .int 60][n]?=some (.int bt)/\1<=bt/\bt<=60:=by
 match n,h with
 | 0,_ | 1,_ | 2,_ | 3,_ | 4,_ | 5,_ | 6,_ | 7,_ | 8,_ | 9,_ | 10,_ | 11,_=>show(_,rfl,by decide,by decide)
 | n+12,h=>ac_nf
theorem pick3(h:n<3):∃ om:Int,[V.int 13, .int 13, .int 1000000000000000000000000000000][n]?=some (.int om)/\1<=om/\om<=1000000000000000000000000000000:=by
 match n,h with
 | 0,_ | 1,_ | 2,_=>show(_,rfl,by decide,by decide)
 | n+3,h=>ac_nf
theorem JmA(h:n<3):∃ om:Int,[V.int 23, .int 23, .int 1000000000000000000000000000000][n]?=some (.int om)/\1<=om/\om<=1000000000000000000000000000000:=by
 match n,h with
 | 0,_ | 1,_ | 2,_=>show(_,rfl,by decide,by decide)
 | n+3,h=>ac_nf
theorem Jgp{K:W.Frag}(hK:X.K=K):OpR X (compareOp .NotIn) (rIn K true):=hK ▸ Ji4
theorem JhR:∀{xs:List V}{us:List Value},xs.length=us.length->(∀(i:Nat) x u,xs[i]?=some x->us[i]?=some u->RelV x u)->Vals xs us
 | [],[],_,_=>.nil
 | [],_::_,h,_=>by simp at h
 | _::_,[],h,_=>by simp at h
 | x::xs,u::us,h,k=>.cons (k 0 x u rfl rfl) (JhR (by simpa using h) λi x u h1 h2=>k (i+1) x u (by simpa using h1) (by simpa using h2))
def JmC(xs:List V)(H:Hp)(Q:VK):Prop:=∃(d:Addr)(kvs:List (Key × V))(ss:List Str),xs=[.ref d]/\H d=some (.dK kvs)/\kvs.map (·.1)=ss.map Sum.inr/\∀ l,H l=none->Q (.ref l) (upd H l (.lst (ss.map V.str)))
theorem JhV(hc:X.calm=true):CallR X (.type "list") JmC:=by
 intro C s σ H xs us Q I r h;let(d,kvs,m,rfl,e,B,q):=h;let(u,rfl,P):=vals1 r;cases P;let(O,S,j,f,D):=dk_of I.hok e;let(ep,E):=D.dictAt;have T:m.length=kvs.length:=by simpa using(congrArg List.length B).symm
 have N:j.length=kvs.length:=f.length.symm;have g:j.map (·.1)=kvs.map (·.1):=by
  clear D E B T N O q e;induction f with
  | nil=>rfl
  | cons A _ ih=>
   rw[map_cons,map_cons,ih,A.1]
 show W.kdl_call (W.kdl_dict (knd:=Jax X.prog X.w) (d:=d) (kvs:=j) (ep:=ep) S) (I.ok.hd hc) E ∅ λY L a J k U c=>?_;have n:Vals (m.map V.str) a.toList:=JhR (by have A:=c.1;have R:a.toList.length=a.size:=Array.length_toList;rw[length_map,R,A];ac_nf) λi x v G n=>by
  rw[List.getElem?_map]at G;let(z,p,rfl):=Option.map_eq_some_iff.mp G;let(F,Z,K,M):=c.2 i v (by rw[<- Array.getElem?_toList];show n);have l:(j.map (·.1))[i]?=some F:=by rw[List.getElem?_map,K];rfl
  rw[g,B,List.getElem?_map,p]at l;have l:Sum.inr z=F:=Option.some.inj l;subst l;rcases JaT (show keyIs (Sum.inr z) v=true from M)with⟨b,hb,_⟩ | ⟨y,t,hy,rfl⟩
  .cases hb
  .cases hy;show(t,rfl)
 show(.ref _,_,I.laid (t':=L) (o:=.lst (m.map V.str)) k (Nat.le_refl _) (show ObjOk X.prog X.w _ Y _ (.lst (m.map V.str))from⟨by rw[length_map];ac_nf,a.toList,J,n,by rw[Array.toArray_toList];show U⟩),rfl,q _ (I.hok.fresh (Nat.le_refl _)))
section
variable{prog:Program}{A:Around}{E:Value->Shared->Prop}{w:World}{s:Shared}
end
def ext(M:Str->Option Str)(f:Str):Str:=(M f).getD f
section
variable{M:Str->Option Str}{a b:Str}{f g:Str}
end
theorem JiQ(kvs:List (Key × V))(k:Key)(v:V):(putK kvs k v).map (·.1)=if(valV kvs k).isSome=true then kvs.map (·.1)else kvs.map (·.1)++[k]:=by
 unfold putK;rw[JcL];split
 .rw[map_map];show List.map_congr_left λa _=>?_;show(if a.1=k then(a.1,v)else a).1=a.1;split <;> rfl
 .rw[map_append];rfl
theorem JiP{k:Key}:(valV kvs k).isSome=true↔k∈kvs.map (·.1):=by
 rw[<- JcL,List.any_eq_true];constructor
 .rintro⟨c,b,a⟩;show mem_map.mpr ⟨c,b,by simpa using a⟩
 .intro h;let(c,b,a):=mem_map.mp h;show(c,b,by simpa using a)
section
variable{K:W.Frag}
def cut(p:Addr)(H:Hp):Hp:=λb=>if b=p then none else H b
variable{p:Addr}
theorem JbV{b:Addr}(h:b≠p):cut p H b=H b:=if_neg h
theorem Jdm:Same (cut p H) H:=λb u h=>by
 unfold cut at h;split at h
 .cases h
 .show h
theorem Same.cut(S:Same H H'):Same (cut p H) (cut p H'):=λb u h=>by
 have e:b≠p:=λz=>by rw[z]at h;unfold L2.cut at h;rw[if_pos rfl]at h;cases h
 rw[JbV e]at h ⊢;show S _ _ h
theorem JgH:cut p (upd H p o)=cut p H:=by
 funext b
 by_cases c:b=p
 .rw[c];unfold cut;rw[if_pos rfl,if_pos rfl]
 .rw[JbV c,JbV c,Jai c]
variable{ys xs:List V}
theorem SqT.cut{a:Addr}(hp:H p=some (.lst ys))(h:SqT K H a xs):SqT K (cut p H) a xs:=by
 rcases h with(h | ⟨o,h⟩) | h
 .show .inl (.inl (by rw[JbV (λz=>by rw[z,hp]at h;cases h)];show h))
 .show .inl (.inr ⟨o,by rw[JbV (λz=>by rw[z,hp]at h;cases h)];show h⟩)
 .show .inr h
theorem FrV.cut(hp:H p=some (.lst ys))(h:FrV K H v a b):FrV K (cut p H) v a b:=by
 let(q,e,h):=h;show(q,e,h.cut hp)
end
variable{a b:Str->Rat}
theorem sm_le:∀{l:List Str},(∀ q∈l,a q<=b q)->sm a l<=sm b l
 | [],_=>Rat.le_refl
 | n::l,h=>by
  have h1:=h n (by simp);have h2:=sm_le (l:=l) λq hq=>h q (by simp[hq]);simp only[sm];grind
theorem sm_lt:∀{l:List Str}{n:Str},(∀ q∈l,a q<=b q)->n∈l->a n<b n->sm a l<sm b l
 | [],_,_,hn,_=>by cases hn
 | m::l,n,h,hn,lt=>by
  have h1:=h m (by simp);have h2:=sm_le (l:=l) λq hq=>h q (by simp[hq]);simp only[sm];rcases mem_cons.mp hn with e | hn
  .subst e;grind
  .have:=sm_lt (λq hq=>h q (by simp[hq])) hn lt;grind
theorem Ja7:∀{l:List Str},(∀ q∈l,a q=b q)->sm a l=sm b l
 | [],_=>rfl
 | n::l,h=>by simp only[sm,h n (by simp),Ja7 (l:=l) λq hq=>h q (by simp[hq])]
theorem Jde:∀{l:List Str},(∀ q∈l,a q=0)->sm a l=0
 | [],_=>rfl
 | n::l,h=>by
  simp only[sm,h n (by simp),Jde (l:=l) λq hq=>h q (by simp[hq])];grind
theorem sm_nn:∀{l:List Str},(∀ q∈l,0<=a q)->0<=sm a l
 | [],_=>Rat.le_refl
 | n::l,h=>by
  have h1:=h n (by simp);have h2:=sm_nn (l:=l) λq hq=>h q (by simp[hq]);simp only[sm];grind
theorem JeH(c:Rat):∀(l:List Str),sm (λn=>a n+c*b n) l=sm a l+c*sm b l
 | []=>by simp only[sm];grind
 | n::l=>by simp only[sm,JeH c l];grind
variable{n:Str}
theorem JmI{l:List Str}(h:∀ q∈l,0<=a q)(hn:n∈l)(lt:0<a n):0<sm a l:=by
 have:=sm_lt (a:=λ_=>0) (b:=a) h hn lt;rw[Jde (a:=λ_=>0) λ_ _=>rfl]at this;show this
theorem JiT(f : α->Rat):∀{l:List α},l≠[]->∃ a∈l, ∀ b∈l,f a<=f b
 | [],h=>absurd rfl h
 | [a],_=>⟨a,by simp,λb hb=>by rw[mem_singleton.mp hb];show Rat.le_refl⟩
 | a::b::l,_=>by
  let(m,hm,h):=JiT f (l:=b::l) (by simp);by_cases c:f a<=f m
  .show(a,by simp,λx hx=>?_);rcases mem_cons.mp hx with rfl | hx
   .show Rat.le_refl
   .show Rat.le_trans c (h x hx)
  .show(m,mem_cons_of_mem _ hm,λx hx=>?_);rcases mem_cons.mp hx with rfl | hx
   .show Rat.le_of_lt (Rat.not_le.mp c)
   .show h x hx
structure Gp where
 R:Rat
 way:List Str
structure Fair(N:List Str)(w M:Str->Rat)(gs:List Gp)(lv:Str->Rat):Prop where
 lo:∀ n∈N,0<=lv n
 hi:∀ n∈N,lv n<=M n
 fit:∀ g∈gs,sm (λn=>lv n*w n) g.way<=g.R
 stop:∀ n∈N,lv n=M n\/∃ g∈gs,n∈g.way/\sm (λn=>lv n*w n) g.way=g.R/\∀ q∈g.way,lv q<=lv n
section
variable{N:List Str}{M f':Str->Rat}{gs:List Gp}{w:Str->Rat}{f:Str->Rat}
theorem Fair.less(hw:∀ n∈N,0<w n)(hs:∀ g∈gs, ∀ n∈g.way,n∈N)(h:Fair N w M gs f)(hi:∀ n∈N,f' n<=M n)(fit:∀ g∈gs,sm (λn=>f' n*w n) g.way<=g.R){n:Str}(hn:n∈N)(lt:f n<f' n):∃ q∈N,f' q<f q/\f q<=f n:=by
 rcases h.stop n hn with e | ⟨g,hg,hm,hR,hmax⟩
 .have:=hi n hn;grind
 .have j:=fit g hg;by_cases c:∃ q∈g.way,f' q<f q
  .let(q,d,i):=c;show(q,hs g hg q d,i,hmax q d)
  .have all:∀ q∈g.way,f q*w q<=f' q*w q:=λq d=>by
    have:=Rat.not_lt.mp λz=>c ⟨q,d,z⟩;show Rat.mul_le_mul_of_nonneg_right this (Rat.le_of_lt (hw q (hs g hg q d)))
   have:=sm_lt (a:=λn=>f n*w n) (b:=λn=>f' n*w n) all hm (Rat.mul_lt_mul_of_pos_right lt (hw n hn));grind
end
def lvv(lvs:List (Str × (Int × Int)))(n:Str):Rat:=((lvs.find? λx=>decide (x.1=n)).map λx=>vl x.2).getD 0
def used(lvs:List (Str × (Int × Int)))(w:Str->Rat)(n:Str):Rat:=lvv lvs n*w n
def left(lvs:List (Str × (Int × Int)))(w:Str->Rat)(n:Str):Rat:=if n∈lvs.map (·.1)then 0 else w n
section
variable{lvs:List (Str × (Int × Int))}{L:Int × Int}{ns:List Str}{m:Str}{w:Str->Rat}
theorem Jcv(h:n∉lvs.map (·.1)):lvv lvs n=0:=by
 unfold lvv;rw[List.find?_eq_none.mpr λx a=>by
  have : x.1≠n:=λz=>h (mem_map.mpr ⟨x,a,z⟩);simpa using this]
 rfl
theorem Jeo(hn:(lvs.map (·.1)).Nodup){x:Str × (Int × Int)}(hx:x∈lvs):lvv lvs x.1=vl x.2:=by
 induction lvs with
 | nil=>cases hx
 | cons y r ih=>
  rw[map_cons,nodup_cons]at hn;unfold lvv;rw[List.find?_cons];rcases mem_cons.mp hx with e | hx
  .subst e;simp
  .have : y.1≠x.1:=λz=>hn.1 (z ▸ mem_map.mpr ⟨x,hx,rfl⟩);rw[decide_eq_false this];show ih hn.2 hx
theorem Jfq(h:n∈lvs.map (·.1)):lvv (lvs++ns.map λm=>(m,L)) n=lvv lvs n:=by
 unfold lvv;rw[List.find?_append];cases e:lvs.find? λx=>decide (x.1=n)with
 | none=>
  let(x,b,a):=mem_map.mp h;have:=List.find?_eq_none.mp e x b;simp[a]at this
 | some y=>rfl
theorem JgN(h:n∉lvs.map (·.1))(hn:n∈ns):lvv (lvs++ns.map λm=>(m,L)) n=vl L:=by
 have a:lvs.find? (λx=>decide (x.1=n))=none:=List.find?_eq_none.mpr λx b=>by
  have : x.1≠n:=λz=>h (mem_map.mpr ⟨x,b,z⟩);simpa using this
 unfold lvv;rw[List.find?_append,a,Option.none_or];cases e:(ns.map λm=>(m,L)).find? λx=>decide (x.1=n)with
 | none=>
  have:=List.find?_eq_none.mp e (n,L) (mem_map.mpr ⟨n,hn,rfl⟩);simp at this
 | some y=>
  have:=List.mem_of_find?_eq_some e;let(m,_,rfl):=mem_map.mp this;rfl
theorem Jbo:(lvs++ns.map λm=>(m,L)).map (·.1)=lvs.map (·.1)++ns:=by
 rw[map_append,map_map]
 congr 1
 show(List.map_congr_left λ_ _=>rfl).trans (List.map_id _)
def dlt(w:Str->Rat)(ns:List Str)(n:Str):Rat:=if n∈ns then w n else 0
theorem JfV(hd:∀ n∈ns,n∉lvs.map (·.1))(n:Str):used (lvs++ns.map λm=>(m,L)) w n=used lvs w n+vl L*dlt w ns n:=by
 unfold used dlt;by_cases c:n∈lvs.map (·.1)
 .rw[Jfq c,if_neg λz=>hd n z c];grind
 .by_cases d:n∈ns
  .rw[JgN c d,Jcv c,if_pos d];grind
  .have : n∉(lvs++ns.map λm=>(m,L)).map (·.1):=by
    rw[Jbo];simp only[mem_append];showλz=>z.elim c d
   rw[Jcv this,Jcv c,if_neg d];grind
theorem Jfp(hd:∀ n∈ns,n∉lvs.map (·.1))(n:Str):left (lvs++ns.map λm=>(m,L)) w n=left lvs w n+(-1)*dlt w ns n:=by
 unfold left dlt;rw[Jbo];simp only[mem_append];by_cases c:n∈lvs.map (·.1)
 .rw[if_pos (.inl c),if_pos c,if_neg λz=>hd n z c];grind
 .by_cases d:n∈ns
  .rw[if_pos (.inr d),if_neg c,if_pos d];grind
  .rw[if_neg (λz=>z.elim c d),if_neg c,if_neg d];grind
end
structure RInv(N:List Str)(w M:Str->Rat)(gs:List Gp)(lvs:List (Str × (Int × Int)))(c:Rat):Prop where
 nd:(lvs.map (·.1)).Nodup
 sub:∀ n∈lvs.map (·.1),n∈N
 c0:0<=c
 a:∀ x∈lvs,0<=vl x.2/\vl x.2<=c/\vl x.2<=M x.1
 b:∀ n∈N,n∉lvs.map (·.1)->c<=M n
 cc:∀ g∈gs,c*sm (left lvs w) g.way<=g.R-sm (used lvs w) g.way
 d:∀ x∈lvs,vl x.2=M x.1\/∃ g∈gs,x.1∈g.way/\(∀ q∈g.way,q∈lvs.map (·.1))/\g.R-sm (used lvs w) g.way=0/\∀ q∈g.way,lvv lvs q<=vl x.2
section
variable{N ns:List Str}{M:Str->Rat}{gs:List Gp}{lvs:List (Str × (Int × Int))}{c:Rat}{L:Int × Int}{w:Str->Rat}
theorem Jek(hw:∀ n∈N,0<w n){l:List Str}(hs:∀ n∈l,n∈N):∀ q∈l,0<=left lvs w q:=λq a=>by
 unfold left;split
 .show Rat.le_refl
 .show Rat.le_of_lt (hw q (hs q a))
theorem RInv.start(hM:∀ n∈N,0<=M n)(hR:∀ g∈gs,0<=g.R):RInv N w M gs [] 0 where
 nd:=.nil
 sub:=λn c=>by cases c
 c0:=Rat.le_refl
 a:=λx f=>by cases f
 b:=λn c _=>hM n c
 cc:=λg h=>by
  have e:sm (used [] w) g.way=0:=Jde λq _=>by
   unfold used;rw[Jcv (by simp)];grind
  have:=hR g h;rw[e];grind
 d:=λx f=>by cases f
theorem RInv.round(h:RInv N w M gs lvs c)(hw:∀ n∈N,0<w n)(hs:∀ g∈gs, ∀ n∈g.way,n∈N)
  (hnd:ns.Nodup) (hL1:∀ n∈N,n∉lvs.map (·.1)->vl L<=M n) (hL2:∀ g∈gs,0<sm (left lvs w) g.way->vl L*sm (left lvs w) g.way<=g.R-sm (used lvs w) g.way)
  (hns:∀ n,n∈ns↔n∈N/\n∉lvs.map (·.1)/\(M n=vl L\/∃ g∈gs,n∈g.way/\0<sm (left lvs w) g.way/\vl L*sm (left lvs w) g.way=g.R-sm (used lvs w) g.way)) (hc:c<=vl L) :
  RInv N w M gs (lvs++ns.map λn=>(n,L)) (vl L):=by
 have o:∀ n∈ns,n∉lvs.map (·.1):=λn i=>((hns n).mp i).2.1;have B:∀ n∈ns,n∈N:=λn i=>((hns n).mp i).1;have v:∀ l:List Str,sm (used (lvs++ns.map λn=>(n,L)) w) l=sm (used lvs w) l+vl L*sm (dlt w ns) l:=λl=>by
  rw[<- JeH];show Ja7 λq _=>JfV o q
 have F:∀ l:List Str,sm (left (lvs++ns.map λn=>(n,L)) w) l=sm (left lvs w) l+(-1)*sm (dlt w ns) l:=λl=>by
  rw[<- JeH];show Ja7 λq _=>Jfp o q
 have A:=λ(g:Gp)(f:g∈gs)=>sm_nn (Jek (lvs:=lvs) hw (hs g f));have s:∀ g∈gs, ¬ 0<sm (left lvs w) g.way->sm (left lvs w) g.way=0/\∀ q∈g.way,q∈lvs.map (·.1):=λg f z=>by
  have E:sm (left lvs w) g.way=0:=by have:=A g f;grind
  show(E,λq b=>Classical.byContradiction λy=>z ?_);show JmI (Jek hw (hs g f)) b ?_;unfold left;rw[if_neg y];show hw q (hs g f q b)
 have key:∀ g∈gs,vl L*sm (left lvs w) g.way<=g.R-sm (used lvs w) g.way:=λg f=>by
  by_cases p:0<sm (left lvs w) g.way
  .show hL2 g f p
  .have:=h.cc g f;rw[(s g f p).1]at this ⊢;grind
 show(?_,?_,?_,?_,?_,?_,?_)
 .rw[Jbo];show nodup_append.mpr ⟨h.nd,hnd,λx j y D z=>o y D (z ▸ j)⟩
 .intro n i;rw[Jbo]at i;rcases mem_append.mp i with i | i
  .show h.sub n i
  .show B n i
 .show Rat.le_trans h.c0 hc
 .intro x j;rcases mem_append.mp j with j | j
  .have:=h.a x j;show(this.1,Rat.le_trans this.2.1 hc,this.2.2)
  .let(n,i,rfl):=mem_map.mp j;show(Rat.le_trans h.c0 hc,Rat.le_refl,hL1 n (B n i) (o n i))
 .intro n i k;rw[Jbo]at k;show hL1 n i λz=>k (mem_append.mpr (.inl z))
 .intro g f;rw[v,F];have:=key g f;grind
 .intro x j;rcases mem_append.mp j with j | j
  .rcases h.d x j with e | ⟨g,f,u,r,C,h4⟩
   .show .inl e
   .show .inr ⟨g,f,u,λq b=>?_,?_,λq b=>?_⟩
    .rw[Jbo];show mem_append.mpr (.inl (r q b))
    .rw[v,Jde (a:=dlt w ns) λq b=>if_neg λz=>o q z (r q b)];grind
    .rw[Jfq (r q b)];show h4 q b
  .let(n,i,rfl):=mem_map.mp j;obtain⟨H,G,e | ⟨g,f,u,r,C⟩⟩:=(hns n).mp i
   .show .inl e.symm
   .have m:∀ q∈g.way,q∉lvs.map (·.1)->q∈ns:=λq b t=>(hns q).mpr ⟨hs g f q b,t, .inr ⟨g,f,b,r,C⟩⟩;show .inr ⟨g,f,u,λq b=>?_,?_,λq b=>?_⟩
    .rw[Jbo];by_cases y:q∈lvs.map (·.1)
     .show mem_append.mpr (.inl y)
     .show mem_append.mpr (.inr (m q b y))
    .have e:sm (dlt w ns) g.way=sm (left lvs w) g.way:=Ja7 λq b=>by
      unfold dlt left;by_cases y:q∈lvs.map (·.1)
      .rw[if_neg λz=>o q z y,if_pos y]
      .rw[if_pos (m q b y),if_neg y]
     rw[v,e];grind
    .by_cases y:q∈lvs.map (·.1)
     .rw[Jfq y];let(x,j,rfl):=mem_map.mp y;rw[Jeo h.nd j];show Rat.le_trans (h.a x j).2.1 hc
     .rw[JgN y (m q b y)];show Rat.le_refl
theorem RInv.le(h:RInv N w M gs lvs c)(hL:(∃ n∈N,n∉lvs.map (·.1)/\M n=vl L)\/∃ g∈gs,0<sm (left lvs w) g.way/\vl L*sm (left lvs w) g.way=g.R-sm (used lvs w) g.way):c<=vl L:=by
 rcases hL with⟨n,hn,hS,e⟩ | ⟨g,hg,p,e⟩
 .rw[<- e];show h.b n hn hS
 .have:=h.cc g hg;rw[<- e]at this;show(scaled p).mp this
theorem RInv.fair(h:RInv N w M gs lvs c)(hw:∀ n∈N,0<w n)(hs:∀ g∈gs, ∀ n∈g.way,n∈N)(hall:∀ n∈N,n∈lvs.map (·.1)):Fair N w M gs (lvv lvs):=by
 have i:∀ n∈N, ∃ x∈lvs,x.1=n/\lvv lvs n=vl x.2:=λn f=>by
  let(x,b,e):=mem_map.mp (hall n f);have e:x.1=n:=e;show(x,b,e,by rw[<- e];show Jeo h.nd b)
 show(λn f=>?_,λn f=>?_,λg k=>?_,λn f=>?_)
 .let(x,b,_,e):=i n f;rw[e];show(h.a x b).1
 .let(x,b,j,e):=i n f;rw[e, <- j];show(h.a x b).2.2
 .have:=h.cc g k;rw[Jde (a:=left lvs w) λq l=>if_pos (hall q (hs g k q l))]at this;show sm (used lvs w) g.way<=_;grind
 .let(x,b,j,e):=i n f;rcases h.d x b with q | ⟨g,k,h1,_,h3,h4⟩
  .show .inl (by rw[e,q,j])
  .show .inr ⟨g,k,j ▸ h1,?_,λq l=>?_⟩
   .show sm (used lvs w) g.way=_;grind
   .rw[e];show h4 q l
end
def Dv(D:Int)(r:Rat):Prop:=∃ k:Int,r*(D:Rat)=(k:Rat)
section
variable{E:Int}{r:Rat}{D:Int}{s:Rat}
theorem Dv.int(k:Int):Dv D (k:Rat):=⟨k*D,by push_cast;rfl⟩
theorem Dv.add(h:Dv D r)(k:Dv D s):Dv D (r+s):=by
 let(a,c):=h;let(b,d):=k;show(a+b,by push_cast;grind)
theorem Dv.sub(h:Dv D r)(k:Dv D s):Dv D (r-s):=by
 let(a,c):=h;let(b,d):=k;show(a-b,by push_cast;grind)
theorem Dv.mul(h:Dv D r)(k:Int):Dv D (r*(k:Rat)):=by
 let(a,b):=h;show(a*k,by push_cast;grind)
theorem Dv.more(h:Dv D r)(k:Int):Dv (D*k) r:=by
 let(a,b):=h;show(a*k,by push_cast;grind)
theorem Dv.over{k:Int}(hk:1<=k)(h:Dv D (r*(k:Rat))):Dv (D*k) r:=by
 let(a,b):=h;show(a,by push_cast;grind)
theorem Dv.den{t:Int × Int}(h:Dv D (vl t))(ht:1<=t.2)(hg:Mth.g t.1 t.2=1):t.2∣D:=by
 let(a,f):=h;have c:=JaE ht;have e:(t.1:Rat)*D=a*t.2:=by
  unfold vl at f;have : (t.1:Rat)=(t.1:Rat)/t.2*t.2:=by rw[Rat.div_mul_cancel c]
  rw[this];grind
 have e:t.1*D=a*t.2:=by exact_mod_cast e
 show Mth.JdD (a:=t.1) (b:=t.2) (d:=D) (Mth.Jcu hg) ⟨a,?_⟩;rw[e,Int.mul_comm]
theorem Dv.fb{t:Int × Int}{m n:Nat}{Q:Int}(h:Dv D (vl t))(ht:1<=t.2)(hg:Mth.g t.1 t.2=1)(hD:1<=D)(sD:Mth.Sz n D)(h0:0<=vl t)(h1:vl t<=(Q:Rat))(sQ:Mth.Sz m Q):FB (m+n) n t:=by
 have f:=h.den ht hg;have j:t.2<=D:=Int.le_of_dvd ∅ f;have c:Mth.Sz n t.2:=Nat.lt_of_le_of_lt (by ac_nf:t.2.natAbs<=D.natAbs) sD;have i:=JaE ht;have a:(0:Rat)<(t.2:Rat):=by exact_mod_cast (show 0<t.2 by ac_nf)
 have e:(t.1:Rat)=vl t*t.2:=by unfold vl;rw[Rat.div_mul_cancel i]
 have d:(0:Rat)<=(t.1:Rat):=by rw[e];show Rat.mul_nonneg h0 (Rat.le_of_lt a)
 have b:(t.1:Rat)<=(Q:Rat)*t.2:=by rw[e];show Rat.mul_le_mul_of_nonneg_right h1 (Rat.le_of_lt a)
 have d:0<=t.1:=by exact_mod_cast d
 have b:t.1<=Q*t.2:=by exact_mod_cast b
 show(Nat.lt_of_le_of_lt (?_:t.1.natAbs<=(Q*t.2).natAbs) (sQ.mul c),c,ht,hg);ac_nf
end
theorem Jlt(rel:KV kvs vs):vs.map (·.1)=kvs.map (·.1):=by
 unfold KV at rel;induction rel with
 | nil=>rfl
 | cons h1 _ ih=>rw[map_cons,map_cons,ih,h1.1]
theorem Jlr{w:World}{v:Value}(h:(Jax P w).is (Sum.inr z) v=true):∃ t,v=.str z t:=by
 rcases JaT (show keyIs (Sum.inr z) v=true from h)with⟨b,hb,_⟩ | ⟨y,t,hy,rfl⟩
 .cases hb
 .cases hy;show(t,rfl)
def Itk(d:Addr)(od:Obj)(kvs:List (Key × V))(ss:List Str):It :=
 ⟨λi H=>H d=some (.frz od (.dK kvs))/\i<ss.length,λi H x H'=>H'=H/\(ss.map V.str)[i]?=some x,λi H=>H d=some (.frz od (.dK kvs))/\ss.length<=i⟩
variable{ss:List Str}
theorem JjC{w:World}{K:W.Frag}(rel:KV kvs vs)(hk:kvs.map (·.1)=ss.map Sum.inr)(hd:∀ h:Heap,h.get? d=some od->h.DictAt (Jax P w) d vs ep) :
  Turn P w K tg (Itk d od kvs ss) [it] it (λi h=>h.IsKeyIter it d i vs.length ep) where
 mem:=by simp
 obj:=λi h a b l=>by
  obtain rfl:b=it:=by simpa using l
  let(o,e,c,z):=a;show(o,e,λv q=>by rw[z]at q;cases q)
 keep:=λi h y a k=>a.at λo e=>k it (by simp) o e
 item:=by
  intro X M N B O i f s σ H E I u a C;subst M N B;let(j,A):=C;let(F,D,Q,G,L,J):=u it (by simp);have g:=(I.hok d _ j).1;have R:=rel.length;have T:kvs.length=ss.length:=by simpa using congrArg List.length hk
  obtain⟨⟨k,Y⟩,n⟩:∃ p,vs[i]?=some p:=⟨_,List.getElem?_eq_getElem (show i<vs.length by ac_nf)⟩;have x:(vs.map (·.1))[i]?=some k:=by rw[List.getElem?_map,n];rfl
  rw[Jlt rel,hk,List.getElem?_map,List.getElem?_eq_getElem A]at x;have x:Sum.inr ss[i]=k:=Option.some.inj x;subst x;show wpAny_pyNext_dict_item a (hd _ g) n λkey y m r S=>?_;let(t,rfl):=Jlr m;have I1:Inv X f σ H { s with heap:=y }:=I.turned (t':=s.toks) (λb o l e=>(S.2 b l).trans e) F D G L J;let(o,e,c,z):=id r;show(_,rfl,go_of (s:={ s with heap:=y }) e c z ⋯ ⟨.str ss[i],H,I1,⟨t,rfl⟩,⟨rfl,by rw[List.getElem?_map,List.getElem?_eq_getElem A];rfl⟩,r,λb l=>(u b l).1⟩)
 done:=by
  intro X M N B O i f s σ H E I u a C;subst M N B;let(j,A):=C;let(F,D,Q,G,L,J):=u it (by simp);have g:=(I.hok d _ j).1;have R:=rel.length;have T:kvs.length=ss.length:=by simpa using congrArg List.length hk
  show wpAny_pyNext_dict_end (I.ok.hd O) a (hd _ g) (List.getElem?_eq_none ∅) λy U=>⟨rfl,I.turned (t':=s.toks) (λb o l e=>U b o l e) F D G L J⟩
 self:=λ_ _ _ _ _ a h=>wpAny_pyIter_keyiter a h
def iKeys(td:TE):TI:=λσ H R=>td σ H λx H1=>∃(d:Addr)(kvs:List (Key × V))(ss:List Str),x=.ref d/\H1 d=some (.dK kvs)/\kvs.map (·.1)=ss.map Sum.inr/\∀ od,R (Itk d od kvs ss) (upd H1 d (.frz od (.dK kvs)))
variable{o:Expr}
theorem Jja{td:TE}(ho:PE X o td):PI X tg o (iKeys td):=by
 intro c s σ H R I h;show thn (ho c s σ H _ I h) λv f ζ=>?_;let(y,B,I1,u,d,kvs,C,x,e,r,l):=ζ;subst x;obtain rfl:v=Value.ref d:=u;let(A,m,vs,g,t):=dk_of I1.hok e;let(ep,k):=t.dictAt;let(j,p,a,rest):=id k;show wpAny_pyIter_dict (knd:=Jax X.prog X.w) (d:=d) (kvs:=vs) (ep:=ep) m k ?_;have n:∀ b o,f.heap.get? b=some o->(f.heap.push { cls:=.type "dict_keyiterator",data:=.fields #[.ref d, .int 0 0, .int vs.length 0, .int ep 0] }).get? b=some o:=λb o z=>Heap.get?_push_of_some _ z;have I2:=(I1.freeze e a).kept (t':=f.toks) n;show(_,[_],_,_,_,rfl,I2,JjC (vs:=vs) (ep:=ep) g r (λh q=>⟨j,p,q,rest⟩),⟨_,Heap.get?_push_size _ rfl,rfl,rfl⟩,λb i=>?_,l j);obtain rfl:=mem_singleton.mp i;show I1.fpOk (Nat.le_refl _) ((I1.freeze e a).hok.fresh (Nat.le_refl _))
def JkZ(ts:TS):TS:=λD σ H=>∃ d kvs,H d=some (.dK kvs)/\ts { nx:=λσ' H'=>∃ od kvs',H' d=some (.frz od (.dK kvs'))/\D.nx σ' (upd H' d (.dK kvs')),rt:=λ_ _=>False } σ H
variable{st:Stmt}{ts:TS}
theorem JlT(h:PS X st ts):PS X st (JkZ ts):=by
 intro b s σ H D I ⟨d,j,i,q⟩;show wpAny_mono (h b s σ H _ I q) (λf l z=>?_) λ_ _ z=>z;cases f with
 | next=>
  let(σ',c,I1,k,e,g,a):=z;show(σ',_,I.thaw i I1 g,a)
 | brk=>let(σ',c,I1,a):=z;show a.elim
 | cont=>let(σ',c,I1,a):=z;show a.elim
 | ret v=>let(y,σ',c,I1,r,a):=z;show a.elim
theorem ps_no:PS X st (λ_ _ _=>False):=λ_ _ _ _ _ _ h=>h.elim
def tSumV(td:TE):TE:=λσ H Q=>td σ H λx H1=>∃(d:Addr)(kvs:List (Key × V))(ns:List Int),x=.ref d/\H1 d=some (.dK kvs)/\kvs.map (·.2)=ns.map V.int/\Q (.int ns.sum) H1
theorem Jjf(ns:List Int):∀ k,k<=ns.length->preSum (λi=>ns.getD i 0) k=(ns.take k).sum
 | 0,_=>by simp[preSum]
 | k+1,h=>by
  rw[take_sum_succ ns k ∅, <- Jjf ns k ∅];rfl
theorem JlQ{td:TE}{p1:Pos}{x:Str}(hc:X.calm=true)(hx:x="sum")(hg:Gl X x)(hm:X.mg x=none)(hv:bootBuiltins x=some (.builtin "sum"))(ho:PE X o td)
  (hb:autoParam (attributeBase o "values" X.env (eval o X.env)=eval o X.env) Au) (hn:autoParam ((apos.endLine == cpos.line)=true) Au) :
  PE X (.Call (.Name x p1) [.Call (.Attribute o "values" apos) [] [] cpos] [] pos) (tSumV td):=by
 intro f s σ H Q I h;have S:x≠"__name__":=by rw[hx];decide
 have R:(x == ("__debug__" : Str))=false:=by rw[hx];decide
 show wpAny_Call_Name_kw (JdP I hg hm hv ?_ S R);show PyProof.Rows.callWith_builtin1 ?_ rfl rfl;show wpAny _ _ (spliced ((false,eval (.Call (.Attribute o "values" apos) [] [] cpos) X.env)::backTo pos (starEach [] X.env))) _ _ s;show Calls.spliced_cons ?_;show wpAny_Call_method0_late hb hn (thn (ho f s σ H _ I h) λv n ζ=>?_);let(y,P,I1,T,d,kvs,a,U,e,g,K):=ζ;subst U;obtain rfl:v=Value.ref d:=T;let(r,M,N):=Jga I1 (.inl ⟨kvs, .inl e⟩);let(Y,_,c,j,C):=dk_of I1.hok e;show("dict","dict.values",PySem.F.plainAttrs_dict,PySem.F.slot_dict_values,PySem.F.type_dict_values,r,M,Calls.callWith_builtin rfl (PySem.evalArgs_none ?_));show call_meetsIn PySem.F.slot_dict_values r PySem.F.entry_dict_values (PySem.F.args_dict_values_1 _) (meets_dict_values (Jax X.prog X.w) d N) ⟨⟨c,C⟩,?_⟩;show Calls.spliced_nil ?_;let(ep,q):=C.dictAt;have D:X.A.in1.handled=none:=by have:=I.ok.hd hc;simp[this]
 have t:d<n.heap.objs.size:=q.lt_size;have p:(n.heap.push { cls:=.type "dict_values",data:=.fields #[.ref d] }).objs.size=n.heap.objs.size+1:=Heap.size_push ..;show call_sum_walkG (wpAny_pyIter_values (knd:=Jax X.prog X.w) (v:=n.heap.objs.size) (d:=d) (kvs:=c) (ep:=ep) ⟨_,Heap.get?_push_size _ rfl,rfl,rfl⟩ (q.push _) ?_);have W:=j.length;have V:a.length=kvs.length:=by simpa using(congrArg List.length g).symm
 show(_,_,_,_,_,_,λi=>a.getD i 0,rfl,Walks.dictValues (knd:=Jax X.prog X.w) D _ d (by rw[p];show Nat.ne_of_lt (Nat.lt_succ_of_lt t)) c ep,⟨⟨_,Heap.get?_push_size _ rfl,rfl,rfl⟩,(q.push _).push _⟩,λb l=>?_,λi u J=>?_,λh' L t' k=>?_)
 .simp only[mem_cons,not_mem_nil,or_false]at l;show b<(Heap.push _ _).objs.size;rw[Heap.size_push];rcases l with rfl | rfl
  .show Nat.lt_succ_self _
  .rw[p];show Nat.lt_succ_of_lt (Nat.lt_succ_of_lt t)
 .let(kk,B):=J;have G:=JjG j;have O:(c.map (·.2))[i]?=some u:=by rw[List.getElem?_map,B];rfl
  have Z:i<kvs.length:=by
   have:=(List.getElem?_eq_some_iff.mp B).1;ac_nf
  let(u',m,E):=G.get (i:=i) (x:=.int (a.getD i 0)) (by rw[g,List.getElem?_map,List.getElem?_eq_getElem (show i<a.length by ac_nf)];simp[List.getD_eq_getElem?_getD,List.getElem?_eq_getElem (show i<a.length by ac_nf)]);rw[O]at m;cases m;show E
 .rw[show c.length=a.length by ac_nf,Jjf a _ (Nat.le_refl _),take_of_length_le (Nat.le_refl _)];show(.int _,P,I1.kept (t':=L) (λb o z=>k b o (by simp only[mem_cons,not_mem_nil,or_false];have:=Heap.lt_size z;rw[p];show Nat.ne_of_lt (Nat.lt_succ_of_lt this)) (Heap.get?_push_of_some _ (Heap.get?_push_of_some _ z))),⟨_,rfl⟩,K)
section
variable{cs:List (Nat × Str)}{tl:TE}{tt:TT}{Q:VK}{k:Nat}{g:TG}{td:TE}
theorem y89y:tSumV td σ H Q=td σ H λx H1=>∃(d:Addr)(kvs:List (Key × V))(ns:List Int),x=.ref d/\H1 d=some (.dK kvs)/\kvs.map (·.2)=ns.map V.int/\Q (.int ns.sum) H1:=rfl
theorem y37y:JeO k cs (iKeys td) g tt te σ H Q=td σ H λx H1=>∃(d1:Addr)(kvs1:List (Key × V))(ss:List Str),x=.ref d1/\H1 d1=some (.dK kvs1)/\kvs1.map (·.1)=ss.map Sum.inr/\∀ od,Jb2 (Itk d1 od kvs1 ss) k cs g tt te σ Q (upd H1 d1 (.frz od (.dK kvs1))):=rfl
theorem y38y:tThaw (JeO k cs (iKeys td) g tt te) σ H Q=∃ d kvs,H d=some (.dK kvs)/\td σ H λx H1=>∃(d1:Addr)(kvs1:List (Key × V))(ss:List Str),x=.ref d1/\H1 d1=some (.dK kvs1)/\kvs1.map (·.1)=ss.map Sum.inr/\∀ od,Jb2 (Itk d1 od kvs1 ss) k cs g tt te σ (λv H'=>∃ od kvs',H' d=some (.frz od (.dK kvs'))/\Q v (upd H' d (.dK kvs'))) (upd H1 d1 (.frz od (.dK kvs1))):=rfl
theorem Jb2.keys(Pv:Nat->List V->Hp->Prop)(h0:Pv 0 [] H1)(hl:∀ i ys H',i<=ss.length->Pv i ys H'->H' d=some (.frz od (.dK kvs))/\ys.length<=sizeLine)
  (hs:∀ i z ys H2,ss[i]?=some z->Pv i ys H2->g (.str z) (List.replicate k none++JaF cs σ) H2 λσ4 H4=>tt σ4 H4 λb H5=>if b=true then te σ4 H5 λy H6=>Pv (i+1) (ys++[y]) H6 else Pv (i+1) ys H5) (hd:∀ ys H2,Pv ss.length ys H2->∀ p,H2 p=none->Q (.ref p) (upd H2 p (.lst ys))) :
  Jb2 (Itk d od kvs ss) k cs g tt te σ Q H1:=by
 show(λi m ys H'=>Pv i ys H'/\i<=ss.length/\m=ss.length-i,⟨_,h0,Nat.zero_le _,rfl⟩,?_);rintro i m ys H2 ⟨h,n,rfl⟩;let(j,s):=hl i ys H2 n h;show(s,?_);by_cases c:i<ss.length
 .show .inr ⟨⟨j,c⟩,?_⟩;rintro x u ⟨rfl,l⟩;rw[List.getElem?_map]at l;let(z,r,rfl):=Option.map_eq_some_iff.mp l;have w:∀(f:List V)(H5:Hp),Pv (i+1) f H5=∃ m',m'<ss.length-i/\Pv (i+1) f H5/\i+1<=ss.length/\m'=ss.length-(i+1):=λf H5=>
   propext ⟨λq=>⟨_,Nat.sub_lt_sub_left c (Nat.lt_succ_self i),q,c,rfl⟩,λζ=>by let(_,_,q,_):=ζ;show q⟩
  have o:(λ(y:V)(H6:Hp)=>Pv (i+1) (ys++[y]) H6)=λy H6=>∃ m',m'<ss.length-i/\Pv (i+1) (ys++[y]) H6/\i+1<=ss.length/\m'=ss.length-(i+1):=by
   funext y H6
   show w _ _
  have e:(λ(σ4:St)(H4:Hp)=>tt σ4 H4 λb H5=>if b=true then te σ4 H5 λy H6=>Pv (i+1) (ys++[y]) H6 else Pv (i+1) ys H5)=λσ4 H4=>tt σ4 H4 λb H5=>if b=true then te σ4 H5 λy H6=>∃ m',m'<ss.length-i/\Pv (i+1) (ys++[y]) H6/\i+1<=ss.length/\m'=ss.length-(i+1)else∃ m',m'<ss.length-i/\Pv (i+1) ys H5/\i+1<=ss.length/\m'=ss.length-(i+1):=by
   funext σ4 H4
   congr 1
   funext b H5
   by_cases a:b=true
   .rw[if_pos a,if_pos a, <- o]
   .rw[if_neg a,if_neg a];show w ys H5
  have:=hs i z ys _ r h;rw[e]at this;show this
 .have t:i=ss.length:=by ac_nf
  subst t;show .inl ⟨⟨j,Nat.le_refl _⟩,hd ys H2 h⟩
theorem y8cy{En:Ends}:JkZ ts En σ H=∃ d kvs,H d=some (.dK kvs)/\ts { nx:=λσ' H'=>∃ od kvs',H' d=some (.frz od (.dK kvs'))/\En.nx σ' (upd H' d (.dK kvs')),rt:=λ_ _=>False } σ H:=rfl
theorem DGet.f{a:Addr}{k:Key}(e:H a=some (.frz od (.dK kvs))):DGet H a (kV k) (valV kvs k):=.inl ⟨kvs,k, .inr ⟨od,e⟩,rfl,rfl⟩
end
def mulF(a c:Int × Int):Int × Int:=(Mth.top (a.1*c.1) (a.2*c.2),Mth.bot (a.1*c.1) (a.2*c.2))
def divF(a c:Int × Int):Int × Int:=(Mth.top (a.1*c.2) (a.2*c.1),Mth.bot (a.1*c.2) (a.2*c.1))
def subF(a c:Int × Int):Int × Int:=(Mth.top (a.1*c.2-c.1*a.2) (a.2*c.2),Mth.bot (a.1*c.2-c.1*a.2) (a.2*c.2))
structure Lo(a:Int × Int):Prop where
 b1:1<=a.2
 g1:Mth.g a.1 a.2=1
variable{a:Int × Int}
theorem FB.lo(h:FB A B a):Lo a:=⟨h.b1,h.g1⟩
variable{c:Int × Int}
theorem Lo.inj(h:Lo a)(k:Lo c)(e:vl a=vl c):a=c:=Jk2 h.b1 k.b1 h.g1 k.g1 e
theorem Jem{t b:Int}(hb:1<=b):Lo (Mth.top t b,Mth.bot t b):=⟨Mth.Jct ∅,Mth.g_low ∅⟩
theorem Jbg{x y:Int}(hx:1<=x)(hy:1<=y):1<=x*y:=by
 have:=Int.mul_pos (show 0<x by ac_nf) (show 0<y by ac_nf);ac_nf
theorem Jk3(ha:1<=a.2)(hc:1<=c.2):vl (mulF a c)=vl a*vl c:=by
 unfold mulF;rw[JgD (Jbg ha hc)];have d:=JaE ha;have b:=JaE hc;unfold vl;push_cast;generalize(a.1:Rat)=x at *;generalize(a.2:Rat)=y at *;generalize(c.1:Rat)=z at *;generalize(c.2:Rat)=t at *;grind
theorem Jk1(ha:1<=a.2)(hc:1<=c.1)(hd:1<=c.2):vl (divF a c)=vl a/vl c:=by
 unfold divF;rw[JgD (Jbg ha hc)];have d:=JaE ha;have b:=JaE hc;have e:=JaE hd;unfold vl;push_cast;generalize(a.1:Rat)=x at *;generalize(a.2:Rat)=y at *;generalize(c.1:Rat)=z at *;generalize(c.2:Rat)=t at *;grind
theorem JmO(ha:1<=a.2)(hc:1<=c.2):vl (subF a c)=vl a-vl c:=by
 unfold subF;rw[JgD (Jbg ha hc)];have d:=JaE ha;have b:=JaE hc;unfold vl;push_cast;generalize(a.1:Rat)=x at *;generalize(a.2:Rat)=y at *;generalize(c.1:Rat)=z at *;generalize(c.2:Rat)=t at *;grind
theorem Jfr(ha:1<=a.2)(hc:1<=c.2):Lo (mulF a c):=Jem (Jbg ha hc)
theorem Jlj(ha:1<=a.2)(hc:1<=c.1):Lo (divF a c):=Jem (Jbg ha hc)
theorem Jl1(ha:1<=a.2)(hc:1<=c.2):Lo (subF a c):=Jem (Jbg ha hc)
theorem JgC(k:Int):vl (k,1)=(k:Rat):=by
 unfold vl;have : ((1:Int):Rat)=1:=rfl;grind
theorem Jdj:vl (0,1)=0:=JgC 0
structure LidD where
 nm:Str
 rest:Int × Int
 ws:List (Str × Int)
 load:Int
 last:Int × Int
def wtOf(ws:List (Str × Int))(n:Str):Option Int:=(ws.find? λx=>decide (x.1=n)).map (·.2)
def LidD.settle(e:LidD)(n:Str)(L:Int × Int):LidD:=match wtOf e.ws n with
 | none=>e
 | some k=>{ e with rest:=subF e.rest (mulF L (k,1)),load:=e.load-k,last:=L }
variable{ws:List (Str × Int)}
theorem Jhn:wtOf ws n=none↔n∉ws.map (·.1):=by
 unfold wtOf;rw[Option.map_eq_none_iff,List.find?_eq_none];constructor
 .intro h z;let(x,a,e):=mem_map.mp z;have:=h x a;simp[e]at this
 .intro h x a;have : x.1≠n:=λz=>h (mem_map.mpr ⟨x,a,z⟩);simpa using this
theorem JjJ{k:Int}(h:wtOf ws n=some k):(n,k)∈ws:=by
 unfold wtOf at h;let(x,b,e):=Option.map_eq_some_iff.mp h;have d:=List.mem_of_find?_eq_some b;have c:=List.find?_some b;have a:x.1=n:=by simpa using c
 let(y,z):=x;have e:z=k:=e;have a:y=n:=a;subst e;subst a;show d
structure LidOk(w:Str->Rat)(g:Gp)(lvs:List (Str × (Int × Int)))(e:LidD):Prop where
 pm:(e.ws.map (·.1)).Perm g.way
 nd:(e.ws.map (·.1)).Nodup
 wt:∀ x∈e.ws,w x.1=(x.2:Rat)/\1<=x.2
 rest:vl e.rest=g.R-sm (used lvs w) g.way
 load:(e.load:Rat)=sm (left lvs w) g.way
 low:Lo e.rest
 llow:Lo e.last
 l1:∀ n∈g.way,n∈lvs.map (·.1)->lvv lvs n<=vl e.last
 l2:(∃ n∈g.way,n∈lvs.map (·.1))->∃ n∈g.way,n∈lvs.map (·.1)/\lvv lvs n=vl e.last
theorem JkT{w:Str->Rat}{m:Str}:∀{l:List Str},l.Nodup->sm (dlt w [m]) l=if m∈l then w m else 0
 | [],_=>by simp[sm]
 | n::l,h=>by
  rw[nodup_cons]at h;simp only[sm,JkT h.2];unfold dlt;by_cases c:n=m
  .subst c;rw[if_neg h.1];simp;grind
  .have c':m≠n:=λz=>c z.symm;simp only[mem_singleton,mem_cons,c,c',false_or,if_false];grind
section
variable{lvs:List (Str × (Int × Int))}{e:LidD}{L:Int × Int}{w:Str->Rat}{g:Gp}{m:Str}
theorem LidOk.settle(h:LidOk w g lvs e)(hnd:(lvs.map (·.1)).Nodup)(hm:m∉lvs.map (·.1))(hL:Lo L)(hle:∀ x∈lvs,vl x.2<=vl L):LidOk w g (lvs++[(m,L)]) (e.settle m L):=by
 have A:∀ n∈[m],n∉lvs.map (·.1):=λn d=>by rw[mem_singleton.mp d];show hm
 have s:g.way.Nodup:=h.pm.nodup_iff.mp h.nd;have o:sm (used (lvs++[(m,L)]) w) g.way=sm (used lvs w) g.way+vl L*sm (dlt w [m]) g.way:=by
  rw[<- JeH];show Ja7 λq _=>JfV (ns:=[m]) A q
 have l:sm (left (lvs++[(m,L)]) w) g.way=sm (left lvs w) g.way+(-1)*sm (dlt w [m]) g.way:=by
  rw[<- JeH];show Ja7 λq _=>Jfp (ns:=[m]) A q
 have f:(lvs++[(m,L)]).map (·.1)=lvs.map (·.1)++[m]:=Jbo (ns:=[m]);have j:∀ n∈lvs.map (·.1),lvv (lvs++[(m,L)]) n=lvv lvs n:=λn d=>Jfq (ns:=[m]) d;have p:lvv (lvs++[(m,L)]) m=vl L:=JgN (ns:=[m]) hm (by simp);rw[JkT s]at o l;unfold LidD.settle;cases hw:wtOf e.ws m with
 | none=>
  have t:m∉g.way:=λz=>(Jhn.mp hw) (h.pm.mem_iff.mpr z);rw[if_neg t]at o l;show(h.pm,h.nd,h.wt,?_,?_,h.low,h.llow,λn d b=>?_,λ⟨n,d,b⟩=>?_)
  .rw[o,h.rest];grind
  .rw[l,h.load];grind
  .rw[f]at b;rcases mem_append.mp b with b | b
   .rw[j n b];show h.l1 n d b
   .rw[mem_singleton.mp b]at d;show absurd d t
  .rw[f]at b;rcases mem_append.mp b with b | b
   .let(q,C,v,E):=h.l2 ⟨n,d,b⟩;show(q,C,by rw[f];show mem_append.mpr (.inl v),by rw[j q v];show E)
   .rw[mem_singleton.mp b]at d;show absurd d t
 | some k=>
  have i:=JjJ hw;have y:m∈g.way:=h.pm.mem_iff.mp (mem_map.mpr ⟨_,i,rfl⟩);have D:=h.wt _ i;have r:w m=(k:Rat):=D.1;rw[if_pos y,r]at o l;have u:=Jfr (a:=L) (c:=(k,1)) hL.b1 (Int.le_refl 1);show(h.pm,h.nd,h.wt,?_,?_,Jl1 h.low.b1 u.b1,hL,λn d b=>?_,λ_=>⟨m,y,by rw[f];simp,p⟩)
  .show vl (subF e.rest (mulF L (k,1)))=_;rw[JmO h.low.b1 u.b1,Jk3 hL.b1 (Int.le_refl 1),JgC,o,h.rest];grind
  .show((e.load-k:Int):Rat)=_;rw[l, <- h.load];push_cast;grind
  .rw[f]at b;rcases mem_append.mp b with b | b
   .rw[j n b];let(x,B,rfl):=mem_map.mp b;rw[Jeo hnd B];show hle x B
   .rw[mem_singleton.mp b,p];show Rat.le_refl
end
structure SInv(N:List Str)(w:Str->Rat)(gs:List Gp)(lvs:List (Str × (Int × Int)))(L:Int × Int):Prop where
 nd:(lvs.map (·.1)).Nodup
 sub:∀ n∈lvs.map (·.1),n∈N
 a:∀ x∈lvs,0<=vl x.2/\vl x.2<=vl L
 L0:0<=vl L
 cc:∀ g∈gs,vl L*sm (left lvs w) g.way<=g.R-sm (used lvs w) g.way
section
variable{N:List Str}{gs:List Gp}{lvs:List (Str × (Int × Int))}{L:Int × Int}{w:Str->Rat}{m:Str}
theorem SInv.step(h:SInv N w gs lvs L)(hg:∀ g∈gs,g.way.Nodup)(hm:m∈N)(hn:m∉lvs.map (·.1)):SInv N w gs (lvs++[(m,L)]) L:=by
 have f:∀ n∈[m],n∉lvs.map (·.1):=λn b=>by rw[mem_singleton.mp b];show hn
 have d:(lvs++[(m,L)]).map (·.1)=lvs.map (·.1)++[m]:=Jbo (ns:=[m]);show(?_,λn b=>?_,λx c=>?_,h.L0,λg e=>?_)
 .rw[d];show nodup_append.mpr ⟨h.nd,by simp,λx c y j z=>hn (by rw[mem_singleton.mp j]at z;rw[<- z];show c)⟩
 .rw[d]at b;rcases mem_append.mp b with q | q
  .show h.sub n q
  .rw[mem_singleton.mp q];show hm
 .rcases mem_append.mp c with c | c
  .show h.a x c
  .rw[mem_singleton.mp c];show(h.L0,Rat.le_refl)
 .have i:sm (used (lvs++[(m,L)]) w) g.way=sm (used lvs w) g.way+vl L*sm (dlt w [m]) g.way:=by
   rw[<- JeH];show Ja7 λq _=>JfV (ns:=[m]) f q
  have k:sm (left (lvs++[(m,L)]) w) g.way=sm (left lvs w) g.way+(-1)*sm (dlt w [m]) g.way:=by
   rw[<- JeH];show Ja7 λq _=>Jfp (ns:=[m]) f q
  have:=h.cc g e;rw[i,k];grind
theorem SInv.range(h:SInv N w gs lvs L)(hw:∀ n∈N,0<w n)(hs:∀ g∈gs, ∀ n∈g.way,n∈N){g:Gp}(hg:g∈gs):0<=g.R-sm (used lvs w) g.way/\g.R-sm (used lvs w) g.way<=g.R:=by
 have f:=h.cc g hg;have d:=sm_nn (Jek (lvs:=lvs) hw (hs g hg));have j:=Rat.mul_nonneg h.L0 d;have i:0<=sm (used lvs w) g.way:=sm_nn λq e=>by
  unfold used;show Rat.mul_nonneg ?_ (Rat.le_of_lt (hw q (hs g hg q e)));by_cases c:q∈lvs.map (·.1)
  .let(x,b,rfl):=mem_map.mp c;rw[Jeo h.nd b];show(h.a x b).1
  .rw[Jcv c];show Rat.le_refl
 grind
end
theorem Dv.sm{D:Int}{a:Str->Rat}:∀{l:List Str},(∀ q∈l,Dv D (a q))->Dv D (L2.sm a l)
 | [],_=>Dv.int 0
 | n::l,h=>(h n (by simp)).add (Dv.sm (l:=l) λq hq=>h q (by simp[hq]))
variable{lvs:List (Str × (Int × Int))}
theorem JiE{D:Int}{b:Rat}{w:Str->Rat}{g:Gp}(hR:Dv D (g.R/b))(hw:∀ n∈g.way, ∃ k:Int,w n=(k:Rat))(hl:∀ x∈lvs,Dv D (vl x.2/b))(hnd:(lvs.map (·.1)).Nodup):Dv D ((g.R-sm (used lvs w) g.way)/b):=by
 have e:(g.R-sm (used lvs w) g.way)/b=g.R/b-sm (λn=>lvv lvs n/b*w n) g.way:=by
  have : sm (used lvs w) g.way/b=sm (λn=>lvv lvs n/b*w n) g.way:=by
   generalize g.way=l;induction l with
   | nil=>simp only[sm];grind
   | cons n l ih=>
    simp only[sm, <- ih];unfold used;grind
  rw[<- this];grind
 rw[e];show hR.sub (Dv.sm λq f=>?_);let(k,d):=hw q f;rw[d];show Dv.mul ?_ k;by_cases c:q∈lvs.map (·.1)
 .let(x,a,rfl):=mem_map.mp c;rw[Jeo hnd a];show hl x a
 .rw[Jcv c];have : (0:Rat)/b=((0:Int):Rat):=by
   show(0:Rat)/b=0;grind
  rw[this];show Dv.int 0
variable{b:Int}
theorem Dv.up{D:Int}{r:Rat}(hb:1<=b)(h:Dv D (r/(b:Rat))):Dv D r:=by
 have:=h.mul b
 rwa [Rat.div_mul_cancel (JaE hb)]at this
def wsK(ws:List (Str × Int)):List (Key × V):=ws.map λp=>(Sum.inr p.1, .int p.2)
theorem Jhm(n:Str):∀ ws:List (Str × Int),valV (wsK ws) (Sum.inr n)=(wtOf ws n).map V.int
 | []=>rfl
 | x::ws=>by
  have ih:=Jhm n ws;unfold wsK wtOf at ih ⊢;rw[map_cons,List.find?_cons];by_cases c:x.1=n
  .rw[Jbm (by rw[c]),decide_eq_true c];rfl
  .rw[Jbr (λz=>c (by injection z)),decide_eq_false c];show ih
theorem Jkn(ws:List (Str × Int)):(wsK ws).map (·.1)=(ws.map (·.1)).map Sum.inr:=by
 unfold wsK;rw[map_map,map_map];rfl
theorem Jko(ws:List (Str × Int)):(wsK ws).map (·.2)=(ws.map (·.2)).map V.int:=by
 unfold wsK;rw[map_map,map_map];rfl
theorem JhF:∀(ps acc:List (Str × V)),((acc++ps).map (·.1)).Nodup->ps.foldl (λl p=>putK l (Sum.inr p.1) p.2) (acc.map λp=>((Sum.inr p.1:Key),p.2))=(acc++ps).map λp=>((Sum.inr p.1:Key),p.2)
 | [],acc,_=>by simp
 | p::ps,acc,h=>by
  have ea:acc++p::ps=(acc++[p])++ps:=by simp
  rw[List.foldl_cons];have nn:valV (acc.map λp=>((Sum.inr p.1:Key),p.2)) (Sum.inr p.1)=none:=by
   cases e:valV (acc.map λp=>((Sum.inr p.1:Key),p.2)) (Sum.inr p.1)with
   | none=>rfl
   | some v=>
    have:=JiP.mp (show(valV (acc.map λp=>((Sum.inr p.1:Key),p.2)) (Sum.inr p.1)).isSome=true by rw[e];rfl);rw[map_map]at this;let(q,hq,eq):=mem_map.mp this;have eq:(Sum.inr q.1:Key)=Sum.inr p.1:=eq;have eq:q.1=p.1:=by injection eq
    rw[map_append,map_cons,nodup_append]at h;show absurd rfl (h.2.2 p.1 (mem_map.mpr ⟨q,hq,eq⟩) p.1 (by simp))
  rw[Jkb p.2 nn];have : (acc.map λp=>((Sum.inr p.1:Key),p.2))++[(Sum.inr p.1,p.2)]=(acc++[p]).map λp=>((Sum.inr p.1:Key),p.2):=by simp
  rw[this,JhF ps (acc++[p]) (by rw[<- ea];show h),ea]
theorem Ji7{ps:List (Str × V)}(h:(ps.map (·.1)).Nodup):JdS ps=ps.map λp=>((Sum.inr p.1:Key),p.2):=by
 unfold JdS;show(JhF ps [] (by simpa using h)).trans (by rw[nil_append])
structure LoInv(n:Int × Int)(q:Int)(t:Int × Int):Prop where
 lo:Lo t
 cr:t.1*(n.2*q)=n.1*t.2
 le1:t.1.natAbs<=n.1.natAbs
 le2:t.2.natAbs<=n.2.natAbs*q.natAbs
variable{n:Int × Int}
theorem LoInv.nil(h:Lo n):LoInv n 1 n:=⟨h,by rw[Int.mul_one],Nat.le_refl _,by simp⟩
theorem LoInv.step{t:Int × Int}{f:Int}(h:LoInv n q t)(hf:1<=f):LoInv n (q*f) (t.1.fdiv (Mth.g t.1 f),t.2*f.fdiv (Mth.g t.1 f)):=by
 have w:0<Mth.g t.1 f:=Mth.g_pos ∅;have k:=Mth.JcO t.1 f;have a:=Mth.JbW t.1 f;have j:=Mth.JaR k ∅;have u:=Mth.JaR a ∅;have o:=Mth.Jc2 (b:=t.1) (d:=f) rfl ∅;have p:=Mth.Jcg a ∅ hf;have c:=Mth.Jec k ∅;have i:=Mth.Jec a ∅;have v:t.1.fdiv (Mth.g t.1 f)∣t.1:=⟨_,j.symm⟩;have l:Int.gcd (t.1.fdiv (Mth.g t.1 f)) t.2=1:=Mth.Jck (Mth.Jcu h.lo.g1) v;have e:=h.cr;have m:=h.lo.b1;generalize t.1.fdiv (Mth.g t.1 f)=r at *;generalize f.fdiv (Mth.g t.1 f)=f' at *;generalize Mth.g t.1 f=s at *;show(⟨Jbg m p,Mth.Jd1 (Mth.Jcf l o)⟩,?_,?_,?_)
 .show r*(n.2*(q*f))=n.1*(t.2*f');have : r*(n.2*(q*f))=(t.1*(n.2*q))*f':=by
   rw[<- j, <- u];simp only[Int.mul_assoc,Int.mul_comm,Int.mul_left_comm]
  rw[this,e,Int.mul_assoc]
 .show Nat.le_trans c h.le1
 .show(t.2*f').natAbs<=n.2.natAbs*(q*f).natAbs;rw[Int.natAbs_mul,Int.natAbs_mul, <- Nat.mul_assoc];show Nat.mul_le_mul h.le2 i
theorem LoInv.vl{t:Int × Int}(h:LoInv n q t)(hn:1<=n.2)(hq:1<=q):vl t=vl n/(q:Rat):=by
 have g:=JaE hn;have f:=JaE h.lo.b1;have i:=JaE hq;have e:(t.1:Rat)*((n.2:Rat)*(q:Rat))=(n.1:Rat)*(t.2:Rat):=by exact_mod_cast h.cr
 unfold L2.vl;generalize(t.1:Rat)=a at *;generalize(t.2:Rat)=b at *;generalize(n.1:Rat)=c at *;generalize(n.2:Rat)=d at *;generalize(q:Rat)=q at *;grind
def stF(ms:List (Str × (Int × Int)))(lds:List LidD)(S:List Str):List ((Int × Int) × List Str) :=
 (ms.filter λm=>decide (m.1∉S)).map (λm=>(m.2,[m.1]))++(lds.filter λe=>decide (0<e.load)).map λe=>(divF e.rest (e.load,1),(e.ws.map (·.1)).filter λn=>decide (n∉S))
def StV(K:W.Frag)(H:Hp)(s:(Int × Int) × List Str)(x:V):Prop:=∃ t v l,x=.ref t/\SqT K H t [v, .ref l]/\FrV K H v s.1.1 s.1.2/\H l=some (.lst (s.2.map V.str))
variable{x:V}
theorem StV.same{K:W.Frag}{s:(Int × Int) × List Str}(S:Same H H'):StV K H s x->StV K H' s x:=by rintro⟨t,v,l,b,a,d,c⟩;show(t,v,l,b,a.same S,d.same S,S _ _ c)
def NFV(K:W.Frag)(H:Hp)(a:Str × (Int × Int))(x:V):Prop:=FrV K H x a.2.1 a.2.2
theorem NFV.sameT{K:W.Frag}{a:Str × (Int × Int)}(S:SameT H H')(h:NFV K H a x):NFV K H' a x:=FrV.sameT S h
def thw(d:Addr)(kv:List (Key × V))(H:Hp):Hp:=upd H d (.dK kv)
section
variable{a:Addr}{kv kw:List (Key × V)}{k:Key}
theorem Jjz(h:H d=some (.dK kv)):thw d kv (upd H d (.frz od (.dK kv)))=H:=by
 funext b
 unfold thw;by_cases c:b=d
 .subst c;rw[Jam,h]
 .rw[Jai c,Jai c]
theorem JfU(S:Same H H'):Same (thw d kv H) (thw d kv H'):=λb u h=>by
 unfold thw at h ⊢;by_cases c:b=d
 .subst c;rw[Jam]at h ⊢;show h
 .rw[Jai c]at h ⊢;show S _ _ h
theorem JjA(hd:H d=some (.frz od (.dK kv)))(ha:thw d kv H a=some (.dK kw)):DGet H a (kV k) (valV kw k):=by
 unfold thw at ha;by_cases c:a=d
 .subst c;rw[Jam]at ha;cases ha;show DGet.f hd
 .rw[Jai c]at ha;show DGet.k ha
theorem JfT(hd:H d=some (.frz od (.dK kv)))(ha:H a=none):thw d kv H a=none:=by
 unfold thw;rw[Jai (λz=>by rw[z,hd]at ha;cases ha)];show ha
end
theorem StV.cut{K:W.Frag}{s:(Int × Int) × List Str}{p:Addr}(h:StV K (cut p H) s x):StV K H s x:=h.same Jdm
structure SHC(ls:List PD)(es:List (GD × List Str))(pl:Str->Int × Int):Prop where
 l12:ls.length<=12
 l7:es.length<=7
 l14:ls.length+es.length<=14
 nd:(ls.map (·.nm)).Nodup
 gn:∀ e∈es, ∀ u∈es.map (·.1),u.nm=e.1.nm->u=e.1
 pok:∀ p∈ls,POk p
 pb:∀ p∈ls,(1<=p.sz.2/\Mth.Sz 70 p.sz.2)/\FB 200 12 p.mo
 wt:∀ p∈ls,Mth.Sz 21 p.wt
 tok:∀ e∈es,TOk e.1.td
 gb:∀ e∈es,(1<=e.1.lo.2/\Mth.Sz 70 e.1.lo.2)/\1<=e.1.hi.2/\Mth.Sz 70 e.1.hi.2
 rb:∀ e∈es,FB 200 12 (roomF pl e.1)
 plb:∀ f,FB 302 161 (pl f)
 pls:∀ p∈ls,vl (pl p.en)=vl (pl p.st)+vl p.sz
 way:∀ e∈es, ∀ w:List Pr,Jbv ls e.1.st w e.1.en->(w.map (·.1)).Nodup->e.2.Perm (w.map (·.1))
structure LSt(b:Int)(ls:List PD)(pl:Str->Int × Int)(e:GD × List Str)(l:LidD):Prop where
 nm:l.nm=e.1.nm
 rest:vl l.rest=vl (roomF pl e.1)*(b:Rat)
 fb:FB 2200 12 l.rest
 pm:(l.ws.map (·.1)).Perm e.2
 nd:(l.ws.map (·.1)).Nodup
 wt:∀ x∈l.ws, ∃ p∈ls,p.nm=x.1/\p.wt=x.2
 load:l.load=(l.ws.map (·.2)).sum
 last:l.last=(0,1)
structure MSt(b:Int)(p:PD)(m:Str × (Int × Int)):Prop where
 nm:m.1=p.nm
 vl:L2.vl m.2=L2.vl p.mo*(b:Rat)/(p.wt:Rat)
 fb:FB 2200 33 m.2
variable{kv:List (Key × V)}
theorem JhP{a:Addr}{u:HO}(hd:H d=some (.frz od (.dK kv)))(ha:H a=some u)(hu:∀ o w,u≠.frz o w):thw d kv H a=some u:=by
 unfold thw;rw[Jai (λz=>by rw[z,hd]at ha;cases ha;show hu _ _ rfl)];show ha
theorem Jhx:∀{ls:List (Str × β)}{p q:Str × β},(ls.map (·.1)).Nodup->p∈ls->q∈ls->p.1=q.1->p=q
 | [],_,_,_,hp,_,_=>by cases hp
 | a::ls,p,q,hn,hp,hq,e=>by
  rw[map_cons,nodup_cons]at hn;rcases mem_cons.mp hp with h1 | h1 <;> rcases mem_cons.mp hq with h2 | h2
  .rw[h1,h2]
  .subst h1;show absurd (e ▸ mem_map.mpr ⟨q,h2,rfl⟩) hn.1
  .subst h2;show absurd (e ▸ mem_map.mpr ⟨p,h1,rfl⟩) hn.1
  .show Jhx hn.2 h1 h2 e
theorem BG.keysS{P:(Str × (Int × Int))->V->Prop}{as:List (Str × (Int × Int))}(h:BG (·.1) P as kvs):kvs.map (·.1)=(as.map (·.1)).map Sum.inr:=by
 rw[h.1,map_map];rfl
structure RC(b Q:Int)(N:List Str)(w M:Str->Rat)(gs:List Gp)(ms:List (Str × (Int × Int))):Prop where
 b1:1<=b
 nm:ms.map (·.1)=N
 nd:N.Nodup
 l12:N.length<=12
 wt:∀ n∈N, ∃ k:Int,w n=(k:Rat)/\1<=k/\Mth.Sz 21 k
 ml:∀ m∈ms,vl m.2=M m.1/\FB 2200 33 m.2/\0<=M m.1
 gw:∀ g∈gs,(∀ n∈g.way,n∈N)/\g.way.Nodup/\0<=g.R/\g.R<=(Q:Rat)
 mq:∀ n∈N,M n<=(Q:Rat)
 sQ:Mth.Sz 2200 Q
def LOks(w:Str->Rat)(lvs:List (Str × (Int × Int)))(gs:List Gp)(lds:List LidD):Prop:=lds.length=gs.length/\∀(i:Nat) g e,gs[i]?=some g->lds[i]?=some e->LidOk w g lvs e
structure RB(b:Int)(N:List Str)(w M:Str->Rat)(gs:List Gp)(k:Nat)(lvs:List (Str × (Int × Int)))(D:Int):Prop where
 D1:1<=D
 sD:Mth.Sz (230+25*k) D
 dl:∀ x∈lvs,Dv D (vl x.2/(b:Rat))
 dr:∀ g∈gs,Dv D (g.R/(b:Rat))
 dm:∀ n∈N,Dv D (M n/(b:Rat)*w n)
structure RSt(b:Int)(N:List Str)(w M:Str->Rat)(gs:List Gp)(lvs:List (Str × (Int × Int)))(lds:List LidD):Prop where
 inv:∃ L,RInv N w M gs lvs (vl L)
 ok:LOks w lvs gs lds
 bt:∃ D,RB b N w M gs lvs.length lvs D
 lo:∀ x∈lvs,Lo x.2
structure RMd(b:Int)(N:List Str)(w M:Str->Rat)(gs:List Gp)(L:Int × Int)(D:Int)(k:Nat)(lvs:List (Str × (Int × Int)))(lds:List LidD):Prop where
 inv:SInv N w gs lvs L
 ok:LOks w lvs gs lds
 bt:RB b N w M gs k lvs D
 k12:k<=12
 dL:Dv D (vl L/(b:Rat))
 fL:FB 3000 1000 L
section
variable{Q:Int}{N ns:List Str}{M:Str->Rat}{gs:List Gp}{ms:List (Str × (Int × Int))}{lds:List LidD}{L:Int × Int}{w:Str->Rat}{D:Int}{k:Nat}
theorem LOks.fwd(h:LOks w lvs gs lds){g:Gp}(hg:g∈gs):∃ e∈lds,LidOk w g lvs e:=by
 let(i,b):=List.getElem?_of_mem hg;have c:=(List.getElem?_eq_some_iff.mp b).1;have a:i<lds.length:=by rw[h.1];show c
 show(lds[i],List.getElem_mem a,h.2 i g _ b (List.getElem?_eq_getElem a))
theorem LOks.bwd(h:LOks w lvs gs lds){e:LidD}(he:e∈lds):∃ g∈gs,LidOk w g lvs e:=by
 let(i,b):=List.getElem?_of_mem he;have c:=(List.getElem?_eq_some_iff.mp b).1;have a:i<gs.length:=by rw[<- h.1];show c
 show(gs[i],List.getElem_mem a,h.2 i _ e (List.getElem?_eq_getElem a) b)
theorem RC.wpos(hc:RC b Q N w M gs ms):∀ n∈N,0<w n:=λn c=>by
 let(k,a,d,_):=hc.wt n c;rw[a];exact_mod_cast (show 0<k by ac_nf)
theorem RInv.s(h:RInv N w M gs lvs (vl L)):SInv N w gs lvs L:=⟨h.nd,h.sub,λx b=>⟨(h.a x b).1,(h.a x b).2.1⟩,h.c0,h.cc⟩
theorem Jhb(hc:RC b Q N w M gs ms)(hi:SInv N w gs lvs L)(hb:RB b N w M gs k lvs D)(k12:k<=13){g:Gp}(hg:g∈gs){e:LidD}(he:LidOk w g lvs e):FB 2800 600 e.rest:=by
 have a:=hi.range hc.wpos (λg hg=>(hc.gw g hg).1) hg;have c:=hc.gw g hg;have d:=(JiE (hb.dr g hg) (λn h=>by let(k,f,_):=hc.wt n (c.1 n h);show(k,f)) hb.dl hi.nd).up hc.b1;rw[<- he.rest]at d a;show d.fb (m:=2200) (n:=600) he.low.b1 he.low.g1 hb.D1 (hb.sD.mono ∅) a.1 (Rat.le_trans a.2 c.2.2.2) hc.sQ
theorem Jjt{a:Str->Rat}{B:Int}(hB:0<=B):∀{l:List Str}{n:Nat},(∀ q∈l,a q<=(B:Rat))->l.length<=n->sm a l<=((B*n:Int):Rat)
 | [],n,_,_=>by
  have : 0<=B*(n:Int):=Int.mul_nonneg hB ∅;simp only[sm];exact_mod_cast this
 | q::l,0,_,h=>by simp at h
 | q::l,n+1,h,hl=>by
  have h1:=h q (by simp);have h2:=Jjt hB (l:=l) (n:=n) (λr hr=>h r (by simp[hr])) (by simpa using hl);have e:((B*((n+1:Nat):Int):Int):Rat)=(B:Rat)+((B*(n:Int):Int):Rat):=by
   have : B*((n+1:Nat):Int)=B+B*(n:Int):=by push_cast;rw[Int.mul_add,Int.mul_one,Int.add_comm]
   rw[this];push_cast;rfl
  simp only[sm];rw[e];grind
theorem JjI(hc:RC b Q N w M gs ms){g:Gp}(hg:g∈gs):g.way.length<=12:=Nat.le_trans (sub_len _ _ (hc.gw g hg).2.1 (hc.gw g hg).1) hc.l12
theorem JgM(hc:RC b Q N w M gs ms){g:Gp}(hg:g∈gs){e:LidD}(he:LidOk w g lvs e):0<=e.load/\Mth.Sz 25 e.load:=by
 have d:=hc.gw g hg;have a:=sm_nn (Jek (lvs:=lvs) hc.wpos d.1);obtain⟨B,l⟩:∃ B:Int,B=2097152:=⟨_,rfl⟩;have B0:0<=B:=by ac_nf
 have c:sm (left lvs w) g.way<=((B*(12:Nat):Int):Rat):=Jjt B0 (λq h=>by
  let(k,f,i,j):=hc.wt q (d.1 q h);have : k<=B:=by unfold Mth.Sz at j;ac_nf
  have : (k:Rat)<=(B:Rat):=by exact_mod_cast this
  unfold left;split
  .exact_mod_cast B0
  .rw[f];show this) (JjI hc hg)
 rw[<- he.load]at a c;have a:0<=e.load:=by exact_mod_cast a
 have c:e.load<=B*(12:Nat):=Rat.intCast_le_intCast.mp c;show(a,?_);unfold Mth.Sz;ac_nf
theorem JcZ{s:(Int × Int) × List Str}:s∈stF ms lds S↔(∃ m∈ms,m.1∉S/\s=(m.2,[m.1]))\/∃ e∈lds,0<e.load/\s=(divF e.rest (e.load,1),(e.ws.map (·.1)).filter λn=>decide (n∉S)):=by
 unfold stF;rw[mem_append,mem_map,mem_map];constructor
 .rintro(⟨m,b,rfl⟩ | ⟨e,a,rfl⟩)
  .have:=mem_filter.mp b;show .inl ⟨m,this.1,by simpa using this.2,rfl⟩
  .have:=mem_filter.mp a;show .inr ⟨e,this.1,by simpa using this.2,rfl⟩
 .rintro(⟨m,b,h,rfl⟩ | ⟨e,a,h,rfl⟩)
  .show .inl ⟨m,mem_filter.mpr ⟨b,by simpa using h⟩,rfl⟩
  .show .inr ⟨e,mem_filter.mpr ⟨a,by simpa using h⟩,rfl⟩
theorem RSt.len(hc:RC b Q N w M gs ms)(h:RSt b N w M gs lvs lds):lvs.length<=N.length:=by
 let(L,a):=h.inv;have:=sub_len _ _ a.nd a.sub;simpa using this
theorem RSt.all(hc:RC b Q N w M gs ms)(h:RSt b N w M gs lvs lds)(hl:N.length<=lvs.length):∀ n∈N,n∈lvs.map (·.1):=by
 let(L,c):=h.inv;intro n d;show Classical.byContradiction λz=>?_;have:=sub_len (n::lvs.map (·.1)) N (nodup_cons.mpr ⟨z,c.nd⟩) (λq a=>by
  rcases mem_cons.mp a with e | a
  .rw[e];show d
  .show c.sub q a)
 simp at this;ac_nf
theorem RSt.lids(hc:RC b Q N w M gs ms)(h:RSt b N w M gs lvs lds):∀ e∈lds,FB 3000 1000 e.rest/\Mth.Sz 64 e.load/\e.ws.length<=12:=by
 intro e j;let(L,d):=h.inv;let(D,i):=h.bt;let(g,c,a):=h.ok.bwd j;have f:=Jhb hc d.s i (by have:=h.len hc;have:=hc.l12;ac_nf) c a;show(⟨f.s1.mono ⋯,f.s2.mono ⋯,f.b1,f.g1⟩,(JgM hc c a).2.mono ⋯,?_);have:=a.pm.length_eq;rw[length_map]at this;rw[this];show JjI hc c
theorem RSt.some(hc:RC b Q N w M gs ms)(h:RSt b N w M gs lvs lds)(hl:lvs.length<N.length):stF ms lds (lvs.map (·.1))≠[]:=by
 intro z;have : ∀ n∈N,n∈lvs.map (·.1):=λn a=>by
  rw[<- hc.nm]at a;let(m,d,rfl):=mem_map.mp a;show Classical.byContradiction λy=>?_;have : ((m.2,[m.1]):(Int × Int) × List Str)∈stF ms lds (lvs.map (·.1)):=JcZ.mpr (.inl ⟨m,d,y,rfl⟩);rw[z]at this;cases this
 have:=sub_len N (lvs.map (·.1)) hc.nd (λq c=>this q c);simp at this;ac_nf
theorem RSt.stops(hc:RC b Q N w M gs ms)(h:RSt b N w M gs lvs lds):∀ s∈stF ms lds (lvs.map (·.1)),FB 3000 1000 s.1/\∀ n∈s.2,n∈N/\n∉lvs.map (·.1):=by
 intro s k;rcases JcZ.mp k with⟨m,hm,hS,rfl⟩ | ⟨e,he,hl,rfl⟩
 .have f:=(hc.ml m hm).2.1;show(⟨f.s1.mono ⋯,f.s2.mono ⋯,f.b1,f.g1⟩,λn d=>?_);rw[mem_singleton.mp d];show(hc.nm ▸ mem_map.mpr ⟨m,hm,rfl⟩,hS)
 .let(L,i):=h.inv;let(D,j):=h.bt;let(g,c,a):=h.ok.bwd he;have f:=Jhb hc i.s j (by have:=h.len hc;have:=hc.l12;ac_nf) c a;have z:=JgM hc c a;show(?_,λn d=>?_)
  .show FB.low (Jbg f.b1 ∅) ?_ ?_
   .show Mth.Sz 3000 (e.rest.1*1);rw[Int.mul_one];show f.s1.mono ⋯
   .show(f.s2.mul z.2).mono ⋯
  .have:=mem_filter.mp d;show((hc.gw g c).1 n (a.pm.mem_iff.mp this.1),by simpa using this.2)
theorem RSt.first(hc:RC b Q N w M gs ms)(h:RSt b N w M gs lvs lds)(hlt:lvs.length<N.length)(hL:L∈(stF ms lds (lvs.map (·.1))).map (·.1))(hmin:∀ s∈stF ms lds (lvs.map (·.1)),vl L<=vl s.1)(hnd:ns.Nodup)(hns:∀ n,n∈ns↔∃ s∈stF ms lds (lvs.map (·.1)),s.1=L/\n∈s.2) :
  ns≠[]/\(∀ n∈ns,n∈N/\n∉lvs.map (·.1))/\RInv N w M gs (lvs++ns.map λn=>(n,L)) (vl L)/\∃ D,RMd b N w M gs L D (lvs.length+1) lvs lds:=by
 let(L0,u):=h.inv;let(D,B):=h.bt;have U:=h.stops hc;let(s0,I,A):=mem_map.mp hL;have X:FB 3000 1000 L:=A ▸ (U s0 I).1;have Z:=hc.wpos;have O:=λ(g:Gp)(c:g∈gs)=>(hc.gw g c).1;have S:∀ n∈N,n∉lvs.map (·.1)->vl L<=M n:=λn f r=>by
  rw[<- hc.nm]at f;let(m,j,rfl):=mem_map.mp f;have:=hmin _ (JcZ.mpr (.inl ⟨m,j,r,rfl⟩));rw[<- (hc.ml m j).1];show this
 have K:∀ e g,g∈gs->LidOk w g lvs e->0<e.load->vl (divF e.rest (e.load,1))*sm (left lvs w) g.way=g.R-sm (used lvs w) g.way:=λe g c d i=>by
  rw[Jk1 d.low.b1 (by show 1<=e.load;ac_nf) (Int.le_refl 1),JgC, <- d.load, <- d.rest];show Rat.div_mul_cancel (JaE ∅)
 have F:∀ g∈gs,0<sm (left lvs w) g.way->vl L*sm (left lvs w) g.way<=g.R-sm (used lvs w) g.way:=λg c l=>by
  let(e,C,d):=h.ok.fwd c;have i:0<e.load:=by rw[<- d.load]at l;exact_mod_cast l
  have:=hmin _ (JcZ.mpr (.inr ⟨e,C,i,rfl⟩));rw[<- K e g c d i];show Rat.mul_le_mul_of_nonneg_right this (Rat.le_of_lt l)
 have key:∀ n,n∈ns↔n∈N/\n∉lvs.map (·.1)/\(M n=vl L\/∃ g∈gs,n∈g.way/\0<sm (left lvs w) g.way/\vl L*sm (left lvs w) g.way=g.R-sm (used lvs w) g.way):=λn=>by
  rw[hns n];constructor
  .rintro⟨s,H,Y,T⟩;have G:=(U s H).2 n T;show(G.1,G.2,?_);rcases JcZ.mp H with⟨m,j,r,rfl⟩ | ⟨e,C,i,rfl⟩
   .left
    rw[mem_singleton.mp T, <- Y];show(hc.ml m j).1.symm
   .right
    let(g,c,d):=h.ok.bwd C;show(g,c,d.pm.mem_iff.mp (mem_filter.mp T).1,?_,?_)
    .rw[<- d.load];exact_mod_cast i
    .rw[<- Y];show K e g c d i
  .rintro⟨f,r,e | ⟨g,c,hw,l,e⟩⟩
   .rw[<- hc.nm]at f;let(m,j,rfl):=mem_map.mp f;show(_,JcZ.mpr (.inl ⟨m,j,r,rfl⟩),(hc.ml m j).2.1.lo.inj X.lo ((hc.ml m j).1.trans e),by simp)
   .let(o,C,d):=h.ok.fwd c;have i:0<o.load:=by rw[<- d.load]at l;exact_mod_cast l
    have j:((divF o.rest (o.load,1),(o.ws.map (·.1)).filter λn=>decide (n∉lvs.map (·.1))):(Int × Int) × List Str)∈stF ms lds (lvs.map (·.1)):=JcZ.mpr (.inr ⟨o,C,i,rfl⟩);show(_,j,(U _ j).1.lo.inj X.lo ?_,mem_filter.mpr ⟨d.pm.mem_iff.mpr hw,by simpa using r⟩);have:=K o g c d i;rw[<- e]at this;have p':sm (left lvs w) g.way≠0:=λz=>by rw[z]at l;show absurd l ⋯
    show vl (divF o.rest (o.load,1))=vl L;grind
 have t:(∃ n∈N,n∉lvs.map (·.1)/\M n=vl L)\/∃ g∈gs,0<sm (left lvs w) g.way/\vl L*sm (left lvs w) g.way=g.R-sm (used lvs w) g.way/\∃ e:LidD,LidOk w g lvs e/\0<e.load/\L=divF e.rest (e.load,1):=by
  rcases JcZ.mp I with⟨m,j,r,rfl⟩ | ⟨e,C,i,rfl⟩
  .show .inl ⟨m.1,hc.nm ▸ mem_map.mpr ⟨m,j,rfl⟩,r,by rw[<- A];show(hc.ml m j).1.symm⟩
  .let(g,c,d):=h.ok.bwd C;show .inr ⟨g,c,?_,by rw[<- A];show K e g c d i,e,d,i,A.symm⟩;rw[<- d.load];exact_mod_cast i
 have E:vl L0<=vl L:=u.le (t.imp id λζ=>by let(g,c,W,V,_):=ζ;show(g,c,W,V));have ne:ns≠[]:=λz=>by
  rcases t with⟨n,f,r,e⟩ | ⟨g,c,l,e,_⟩
  .have:=(key n).mpr ⟨f,r, .inl e⟩;rw[z]at this;cases this
  .have : ∃ n∈g.way,n∉lvs.map (·.1):=Classical.byContradiction λy=>by
    rw[Jde (a:=left lvs w) λq hq=>if_pos (Classical.byContradiction λv=>y ⟨q,hq,v⟩)]at l;show absurd l ⋯
   let(n,f,r):=this;have:=(key n).mpr ⟨O g c n f,r, .inr ⟨g,c,f,l,e⟩⟩;rw[z]at this;cases this
 show(ne,λn f=>⟨((key n).mp f).1,((key n).mp f).2.1⟩,u.round Z O hnd S F key E,?_);have si:SInv N w gs lvs L:=by
  show(u.nd,u.sub,λx P=>⟨(u.a x P).1,Rat.le_trans (u.a x P).2.1 E⟩,Rat.le_trans u.c0 E,λg c=>?_);by_cases p:0<sm (left lvs w) g.way
  .show F g c p
  .have e0:sm (left lvs w) g.way=0:=by have:=sm_nn (Jek (lvs:=lvs) Z (O g c));grind
   have:=u.cc g c;rw[e0]at this ⊢;grind
 obtain⟨k,k1,ks,J⟩:∃ k:Int,1<=k/\Mth.Sz 25 k/\Dv D (vl L/(b:Rat)*(k:Rat)):=by
  rcases t with⟨n,f,r,e⟩ | ⟨g,c,l,e,o,d,i,eL⟩
  .let(k,J,W,V):=hc.wt n f;show(k,W,V.mono ⋯,?_);have:=B.dm n f;rw[e,J]at this;show this
  .show(o.load,by ac_nf,(JgM hc c d).2,?_);have h3:=JiE (B.dr g c) (λn f=>by let(k,J,_):=hc.wt n (O g c n f);show(k,J)) B.dl u.nd;rw[<- e, <- d.load]at h3;have : vl L/(b:Rat)*(o.load:Rat)=vl L*(o.load:Rat)/(b:Rat):=by grind
   rw[this];show h3
 show(D*k,si,h.ok,⟨Jbg B.D1 k1,?_,λx P=>(B.dl x P).more k,λg c=>(B.dr g c).more k,λn f=>(B.dm n f).more k⟩,by have:=hc.l12;ac_nf,J.over k1,X);have:=B.sD.mul ks;rw[show 230+25*(lvs.length+1)=230+25*lvs.length+25 by ac_nf];show this
theorem RMd.rest(hc:RC b Q N w M gs ms)(h:RMd b N w M gs L D k lvs lds):∀ e∈lds,FB 3000 1000 e.rest/\∀ x∈e.ws,Mth.Sz 64 x.2:=by
 intro e m;let(g,d,a):=h.ok.bwd m;have f:=Jhb hc h.inv h.bt (by have:=h.k12;ac_nf) d a;show(⟨f.s1.mono ⋯,f.s2.mono ⋯,f.b1,f.g1⟩,λx i=>?_);have c:x.1∈N:=(hc.gw g d).1 _ (a.pm.mem_iff.mp (mem_map.mpr ⟨x,i,rfl⟩));let(k,j,_,l):=hc.wt _ c;have:=(a.wt x i).1;rw[j]at this;have : k=x.2:=by exact_mod_cast this
 rw[<- this];show l.mono ⋯
theorem RMd.step(hc:RC b Q N w M gs ms)(h:RMd b N w M gs L D k lvs lds){n:Str}(hn:n∈N)(hS:n∉lvs.map (·.1)):RMd b N w M gs L D k (lvs++[(n,L)]) (lds.map λe=>e.settle n L):=by
 show(h.inv.step (λg d=>(hc.gw g d).2.1) hn hS,⟨by rw[length_map];show h.ok.1,λi g e d j=>?_⟩,⟨h.bt.D1,h.bt.sD,λx c=>?_,h.bt.dr,h.bt.dm⟩,h.k12,h.dL,h.fL)
 .rw[List.getElem?_map]at j;let(l,f,rfl):=Option.map_eq_some_iff.mp j;show(h.ok.2 i g l d f).settle h.inv.nd hS h.fL.lo λx c=>(h.inv.a x c).2
 .rcases mem_append.mp c with c | c
  .show h.bt.dl x c
  .rw[mem_singleton.mp c];show h.dL
theorem RMd.next(hc:RC b Q N w M gs ms)(h:RMd b N w M gs L D k (lvs++ns.map λn=>(n,L)) lds)(hi:RInv N w M gs (lvs++ns.map λn=>(n,L)) (vl L))(hlo:∀ x∈lvs,Lo x.2)(hk:k<=lvs.length+ns.length):RSt b N w M gs (lvs++ns.map λn=>(n,L)) lds:=by
 show(⟨L,hi⟩,h.ok,⟨D,h.bt.D1,h.bt.sD.mono (by simp;ac_nf),h.bt.dl,h.bt.dr,h.bt.dm⟩,λx a=>?_);rcases mem_append.mp a with a | a
 .show hlo x a
 .let(n,_,rfl):=mem_map.mp a;show h.fL.lo
end
theorem All2.put{P P' : α->V->Prop}:∀{as:List α}{xs:List V}{j:Nat}{a' : α}{x:V},All2 P as xs->xs[j]?=some x->P' a' x->(∀(i:Nat) a y,i≠j->as[i]?=some a->xs[i]?=some y->P a y->P' a y)->All2 P' (as.set j a') xs
 | [],xs,j,a',x,h,hx,_,_=>by
  have h:xs=[]:=h;subst h;cases hx
 | a::as,xs,0,a',x,h,hx,p,m=>by
  let(y,r,rfl,h1,h2):=h;have hx:y=x:=by simpa using hx
  subst hx;show(y,r,rfl,p,?_);have go:∀{as:List α}{r:List V},All2 P as r->(∀(i:Nat) a y,as[i]?=some a->r[i]?=some y->P a y->P' a y)->All2 P' as r:=by
   intro as;induction as with
   | nil=>intro r h _;show h
   | cons b bs ih=>
    intro r h m;let(z,t,rfl,h1,h2):=h;show(z,t,rfl,m 0 b z rfl rfl h1,ih h2 λi a y ha hy=>m (i+1) a y (by simpa using ha) (by simpa using hy))
  show go h2 λi a y ha hy=>m (i+1) a y ∅ (by simpa using ha) (by simpa using hy)
 | a::as,xs,j+1,a',x,h,hx,p,m=>by
  let(y,r,rfl,h1,h2):=h;show(y,r,rfl,m 0 a y ∅ rfl rfl h1,All2.put h2 (by simpa using hx) p λi a y ne ha hy=>m (i+1) a y ∅ (by simpa using ha) (by simpa using hy))
theorem Jln{f : α->α}{ls:List α}:((ls.take j).map f++ls.drop j)[j]?=ls[j]?:=by
 by_cases c:j<=ls.length
 .have e:((ls.take j).map f).length=j:=by rw[length_map,length_take];ac_nf
  rw[List.getElem?_append_right ∅,e,List.getElem?_drop];simp
 .have e:((ls.take j).map f++ls.drop j).length<=j:=by simp;ac_nf
  rw[List.getElem?_eq_none e,List.getElem?_eq_none ∅]
theorem Jhy{f : α->α}:∀{ls:List α}{j:Nat}{e : α},ls[j]?=some e->((ls.take j).map f++ls.drop j).set j (f e)=(ls.take (j+1)).map f++ls.drop (j+1)
 | [],j,e,h=>by simp at h
 | a::ls,0,e,h=>by
  have h:a=e:=by simpa using h
  subst h;simp
 | a::ls,j+1,e,h=>by
  have:=Jhy (f:=f) (ls:=ls) (j:=j) (e:=e) (by simpa using h);simp only[List.take_succ_cons,map_cons,List.drop_succ_cons,cons_append,List.set_cons_succ,this]
theorem JjK{ns:List α}{i:Nat}{n : α}(h:ns.Nodup)(hn:ns[i]?=some n):n∉ns.take i:=by
 intro z;rw[<- List.take_append_drop i ns,nodup_append]at h;show h.2.2 n z n (List.mem_of_getElem? (i:=0) ?_) rfl;rw[List.getElem?_drop];show hn
variable{n:Str}{L:Int × Int}
theorem Jjq{e:LidD}:(e.settle n L).nm=e.nm:=by
 unfold LidD.settle;split <;> rfl
theorem Jig{ls:List LidD}:(ls.map λe=>e.settle n L).map (·.nm)=ls.map (·.nm):=by
 rw[map_map];show List.map_congr_left λe _=>Jjq
structure ShD where
 nm:Str
 sl:Int × Int
 sp:Option Str
def wtF(ls:List PD)(n:Str):Rat:=((ls.find? λp=>decide (p.nm=n)).map λp=>(p.wt:Rat)).getD 0
def moF(ls:List PD)(n:Str):Rat:=((ls.find? λp=>decide (p.nm=n)).map λp=>vl p.mo/(p.wt:Rat)).getD 0
def gpF(es:List (GD × List Str))(pl:Str->Int × Int):List Gp:=es.map λe=>⟨vl (roomF pl e.1),e.2⟩
def gpB(b:Int)(es:List (GD × List Str))(pl:Str->Int × Int):List Gp:=es.map λe=>⟨vl (roomF pl e.1)*(b:Rat),e.2⟩
def stp(w f:Str->Rat)(pl:Str->Int × Int)(n:Str)(e:GD × List Str):Bool:=decide (n∈e.2)&&(decide (sm (λq=>f q*w q) e.2=vl (roomF pl e.1))&&decide (∀ q∈e.2,f q<=f n))
structure ShRow(ls:List PD)(es:List (GD × List Str))(pl:Str->Int × Int)(f:Str->Rat)(p:PD)(r:ShD):Prop where
 nm:r.nm=p.nm
 lo:Lo r.sl
 val:vl r.sl=f p.nm*(p.wt:Rat)
 sp:(r.sl=p.mo/\r.sp=none)\/(r.sl≠p.mo/\∃ e,es.find? (stp (wtF ls) f pl p.nm)=some e/\r.sp=some e.1.nm)
structure ShF(ls:List PD)(es:List (GD × List Str))(pl:Str->Int × Int)(f:Str->Rat)(D:Int):Prop where
 sub:∀ e∈es,(∀ n∈e.2,n∈ls.map (·.nm))/\e.2.Nodup
 fair:Fair (ls.map (·.nm)) (wtF ls) (moF ls) (gpF es pl) f
 D1:1<=D
 sD:Mth.Sz 600 D
 dv:∀ n∈ls.map (·.nm),Dv D (f n)
structure ShR(ls:List PD)(es:List (GD × List Str))(pl:Str->Int × Int)(rs:List ShD):Prop where
 len:rs.length=ls.length
 ex:∃ f D,ShF ls es pl f D/\∀(i:Nat) p r,ls[i]?=some p->rs[i]?=some r->ShRow ls es pl f p r
theorem Jfo:∀{ls:List PD}{p:PD},(ls.map (·.nm)).Nodup->p∈ls->ls.find? (λq=>decide (q.nm=p.nm))=some p
 | [],_,_,h=>by cases h
 | a::ls,p,hn,h=>by
  rw[map_cons,nodup_cons]at hn;rw[List.find?_cons];rcases mem_cons.mp h with e | h
  .subst e;simp
  .have : a.nm≠p.nm:=λz=>hn.1 (z ▸ mem_map.mpr ⟨p,h,rfl⟩);rw[decide_eq_false this];show Jfo hn.2 h
section
variable{es:List (GD × List Str)}{f':Str->Rat}{rs rs':List ShD}{f:Str->Rat}
theorem JdX(hn:(ls.map (·.nm)).Nodup)(hp:p∈ls):wtF ls p.nm=(p.wt:Rat):=by
 unfold wtF;rw[Jfo hn hp];rfl
theorem JdR(hn:(ls.map (·.nm)).Nodup)(hp:p∈ls):moF ls p.nm=vl p.mo/(p.wt:Rat):=by
 unfold moF;rw[Jfo hn hp];rfl
theorem Jl4(hn:(ls.map (·.nm)).Nodup)(hk:∀ p∈ls,1<=p.wt):∀ n∈ls.map (·.nm),0<wtF ls n:=λn h=>by
 let(p,a,rfl):=mem_map.mp h;rw[JdX hn a];have:=hk p a;exact_mod_cast (show 0<p.wt by ac_nf)
theorem Jee{g:Gp}(h:g∈gpF es pl):∃ e∈es,g=⟨vl (roomF pl e.1),e.2⟩:=by
 let(e,a,rfl):=mem_map.mp h;show(e,a,rfl)
end
theorem Jkw:∀(fs:List (Int × Int))(k:Nat),(∀ a∈fs,1<=a.2/\Mth.Sz 12 a.2)->fs.length<=k->∃ D:Int,1<=D/\Mth.Sz (12*k+1) D/\∀ a∈fs,Dv D (vl a)
 | [],k,_,_=>⟨1,by decide,by unfold Mth.Sz;show Nat.one_lt_two_pow ∅,λa ha=>by cases ha⟩
 | a::fs,0,_,h=>by simp at h
 | a::fs,k+1,h,hl=>by
  let(D,h1,h2,h3):=Jkw fs k (λx hx=>h x (by simp[hx])) (by simpa using hl);let(a1,a2):=h a (by simp);show(D*a.2,Jbg h1 a1,?_,λx hx=>?_)
  .have:=h2.mul a2;rw[show 12*(k+1)+1=12*k+1+12 by ac_nf];show this
  .rcases mem_cons.mp hx with e | hx
   .subst e;show Dv.over a1 ?_;have : vl x*(x.2:Rat)=(x.1:Rat):=by
     unfold vl;show Rat.div_mul_cancel (JaE a1)
    rw[this];show Dv.int _
   .show(h3 x hx).more _
theorem Jdy(h:1<=a.2)(h0:0<=a.1):vl a<=(a.1:Rat):=by
 unfold vl;have p:(0:Rat)<(a.2:Rat):=by exact_mod_cast (show 0<a.2 by ac_nf)
 have e:(a.1:Rat)/(a.2:Rat)*(a.2:Rat)=(a.1:Rat):=Rat.div_mul_cancel (JaE h);have q:(a.1:Rat)<=(a.1:Rat)*(a.2:Rat):=by
  have : a.1<=a.1*a.2:=by
   have:=Int.mul_le_mul_of_nonneg_left h h0;ac_nf
  exact_mod_cast this
 rw[<- scaled p,e];show q
theorem vl_nn(h:1<=a.2):0<=vl a↔0<=a.1:=by
 unfold vl;have p:(0:Rat)<(a.2:Rat):=by exact_mod_cast (show 0<a.2 by ac_nf)
 have e:(a.1:Rat)/(a.2:Rat)*(a.2:Rat)=(a.1:Rat):=Rat.div_mul_cancel (JaE h);rw[<- scaled p,e,Rat.zero_mul];exact_mod_cast Iff.rfl
theorem Jjw:∀(ws:List (Str × Int))(w:Str->Rat),(∀ x∈ws,w x.1=(x.2:Rat))->(((ws.map (·.2)).sum:Int):Rat)=sm w (ws.map (·.1))
 | [],_,_=>rfl
 | x::ws,w,h=>by
  have ih:=Jjw ws w λy hy=>h y (by simp[hy]);simp only[map_cons,List.sum_cons,sm,h x (by simp), <- ih];push_cast;rfl
variable{es:List (GD × List Str)}{lds:List LidD}{ms:List (Str × (Int × Int))}{q0:Int}{e:GD × List Str}
theorem LSt.way{l:LidD}(h:LSt b ls pl e l):(∀ n∈e.2,n∈ls.map (·.nm))/\e.2.Nodup:=by
 show(λn c=>?_,h.pm.nodup_iff.mp h.nd);let(x,d,rfl):=mem_map.mp (h.pm.mem_iff.mpr c);let(p,a,e,_):=h.wt x d;show mem_map.mpr ⟨p,a,e⟩
theorem JkP(hl:lds.length=es.length)(hls:∀(i:Nat) e l,es[i]?=some e->lds[i]?=some l->LSt b ls pl e l):∀ e∈es,(∀ n∈e.2,n∈ls.map (·.nm))/\e.2.Nodup:=λe c=>by
 let(i,a):=List.getElem?_of_mem c;have d:=(List.getElem?_eq_some_iff.mp a).1;show(hls i e _ a (List.getElem?_eq_getElem ∅)).way
theorem Jki(b1:1<=b)(sb:Mth.Sz 2000 b)(hc:SHC ls es pl)(hr:∀ e∈es,0<=vl (roomF pl e.1))(hl:lds.length=es.length)(hls:∀(i:Nat) e l,es[i]?=some e->lds[i]?=some l->LSt b ls pl e l)(hm:ms.length=ls.length)(hms:∀(i:Nat) p m,ls[i]?=some p->ms[i]?=some m->MSt b p m):∃ q0,RC b q0 (ls.map (·.nm)) (wtF ls) (λn=>moF ls n*(b:Rat)) (gpB b es pl) ms/\RSt b (ls.map (·.nm)) (wtF ls) (λn=>moF ls n*(b:Rat)) (gpB b es pl) [] lds:=by
 have O:=JkP hl hls;have z:(0:Rat)<(b:Rat):=by exact_mod_cast (show 0<b by ac_nf)
 have Y:=JaE b1;have F:∀ m∈ms, ∃ p∈ls,MSt b p m:=λm r=>by
  let(i,J):=List.getElem?_of_mem r;have Z:=(List.getElem?_eq_some_iff.mp J).1;show(ls[i]'∅,List.getElem_mem _,hms i _ m (List.getElem?_eq_getElem ∅) J)
 obtain⟨B,U,T,E⟩:∃ B:Int,Mth.Sz 200 B/\0<=B/\∀ x,Mth.Sz 200 x->x<=B:=⟨2 ^ 200-1,by unfold Mth.Sz;decide,by decide,λx k=>by unfold Mth.Sz at k;ac_nf⟩;have A:∀ g∈gpB b es pl, ∃ e∈es,g=⟨vl (roomF pl e.1)*(b:Rat),e.2⟩:=λg A=>by
  let(e,f,rfl):=mem_map.mp A;show(e,f,rfl)
 have C:∀ p∈ls,1<=p.wt:=λp d=>(hc.pok p d).w;have u:∀ p∈ls,0<=vl p.mo:=λp d=>(vl_nn (hc.pb p d).2.b1).mpr (hc.pok p d).m0;have M0:∀ p∈ls,0<=moF ls p.nm/\moF ls p.nm<=vl p.mo:=λp d=>by
  rw[JdR hc.nd d];have M:=C p d;have N:(0:Rat)<(p.wt:Rat):=by exact_mod_cast (show 0<p.wt by ac_nf)
  have e:vl p.mo/(p.wt:Rat)*(p.wt:Rat)=vl p.mo:=Rat.div_mul_cancel (JaE M);have L:=u p d;constructor
  .rw[<- scaled N,e,Rat.zero_mul];show L
  .rw[<- scaled N,e];have : (1:Rat)<=(p.wt:Rat):=by exact_mod_cast M
   have:=Rat.mul_le_mul_of_nonneg_left this L;rw[Rat.mul_one]at this;show this
 have top:∀ a:Int × Int,FB 200 12 a->0<=vl a->vl a<=(B:Rat):=λa H Q=>by
  show Rat.le_trans (Jdy H.b1 ((vl_nn H.b1).mp Q)) ?_;exact_mod_cast E _ H.s1
 have t:((B*b:Int):Rat)=(B:Rat)*(b:Rat):=by push_cast;rfl
 have K:RC b (B*b) (ls.map (·.nm)) (wtF ls) (λn=>moF ls n*(b:Rat)) (gpB b es pl) ms:=by
  show(b1,?_,hc.nd,by rw[length_map];show hc.l12,λn s=>?_,λm r=>?_,λg j=>?_,λn s=>?_,(U.mul sb))
  .show List.ext_getElem? λi=>?_;rw[List.getElem?_map,List.getElem?_map];by_cases c:i<ls.length
   .rw[List.getElem?_eq_getElem c,List.getElem?_eq_getElem (by ac_nf:i<ms.length)];show congrArg some (hms i _ _ (List.getElem?_eq_getElem c) (List.getElem?_eq_getElem ∅)).nm
   .rw[List.getElem?_eq_none ∅,List.getElem?_eq_none ∅];rfl
  .let(p,d,rfl):=mem_map.mp s;show(p.wt,JdX hc.nd d,C p d,hc.wt p d)
  .let(p,d,h):=F m r;show(?_,h.fb,?_)
   .rw[h.vl,h.nm,JdR hc.nd d];grind
   .rw[h.nm];show Rat.mul_nonneg (M0 p d).1 (Rat.le_of_lt z)
  .let(e,f,rfl):=A g j;show((O e f).1,(O e f).2,Rat.mul_nonneg (hr e f) (Rat.le_of_lt z),?_);rw[t];show Rat.mul_le_mul_of_nonneg_right (top _ (hc.rb e f) (hr e f)) (Rat.le_of_lt z)
  .let(p,d,rfl):=mem_map.mp s;rw[t];show Rat.mul_le_mul_of_nonneg_right (Rat.le_trans (M0 p d).2 (top _ (hc.pb p d).2 (u p d))) (Rat.le_of_lt z)
 show(_,K,⟨(0,1),?_⟩,⟨by unfold gpB;rw[length_map];show hl,λi g l o I=>?_⟩,?_,λx k=>by cases k)
 .rw[Jdj];show RInv.start (λn s=>?_) (λg j=>(K.gw g j).2.2.1);let(p,d,rfl):=mem_map.mp s;show Rat.mul_nonneg (M0 p d).1 (Rat.le_of_lt z)
 .unfold gpB at o;rw[List.getElem?_map]at o;let(e,f,rfl):=Option.map_eq_some_iff.mp o;have h:=hls i e l f I;have v:∀ x∈l.ws,wtF ls x.1=(x.2:Rat)/\1<=x.2:=λx k=>by
   let(p,d,R,S):=h.wt x k;rw[<- R, <- S];show(JdX hc.nd d,C p d)
  have W:sm (used [] (wtF ls)) e.2=0:=Jde λq _=>by
   unfold used;rw[Jcv (by simp),Rat.zero_mul]
  show(h.pm,h.nd,v,?_,?_,h.fb.lo,?_,(λn _ G=>by cases G),λζ=>by let(n,_,G):=ζ;cases G)
  .rw[h.rest];show _=_-sm (used [] (wtF ls)) e.2;rw[W];grind
  .rw[h.load,Jjw l.ws (wtF ls) λx k=>(v x k).1,Jju h.pm];show Ja7 λq _=>by unfold left;rw[if_neg (by simp)]
  .rw[h.last];show(Int.le_refl 1,by unfold Mth.g;simp)
 .let(D,D1,V,P):=Jkw (ls.map (·.mo)++es.map λe=>roomF pl e.1) 14 (λa y=>by
   rcases mem_append.mp y with y | y
   .let(p,d,rfl):=mem_map.mp y;show((hc.pb p d).2.b1,(hc.pb p d).2.s2)
   .let(e,f,rfl):=mem_map.mp y;show((hc.rb e f).b1,(hc.rb e f).s2)) (by rw[length_append,length_map,length_map];show hc.l14)
  show(D,D1,V.mono (by simp),λx k=>(by cases k),λg j=>?_,λn s=>?_)
  .let(e,f,rfl):=A g j;show Dv D (vl (roomF pl e.1)*(b:Rat)/(b:Rat));rw[show vl (roomF pl e.1)*(b:Rat)/(b:Rat)=vl (roomF pl e.1) by grind];show P _ (mem_append.mpr (.inr (mem_map.mpr ⟨e,f,rfl⟩)))
  .let(p,d,rfl):=mem_map.mp s;rw[JdR hc.nd d,JdX hc.nd d];have X:=JaE (C p d);rw[show vl p.mo/(p.wt:Rat)*(b:Rat)/(b:Rat)*(p.wt:Rat)=vl p.mo by grind];show P _ (mem_append.mpr (.inl (mem_map.mpr ⟨p,d,rfl⟩)))
theorem Jf9{γ:Type}{P : α->Bool}{R : β->Bool}{f : α->γ}{g : β->γ}:∀{as:List α}{bs:List β},as.length=bs.length->(∀(i:Nat) a b,as[i]?=some a->bs[i]?=some b->P a=R b/\f a=g b)->(as.find? P).map f=(bs.find? R).map g
 | [],[],_,_=>rfl
 | [],b::bs,h,_=>by simp at h
 | a::as,[],h,_=>by simp at h
 | a::as,b::bs,h,k=>by
  let(h1,h2):=k 0 a b rfl rfl;have ih:=Jf9 (as:=as) (bs:=bs) (by simpa using h) λi x y hx hy=>k (i+1) x y (by simpa using hx) (by simpa using hy);rw[List.find?_cons,List.find?_cons,h1];cases R b with
  | true=>show congrArg some h2
  | false=>show ih
theorem Jjs{lv w:Str->Rat}{c:Rat}:∀(l:List Str),sm (λn=>lv n/c*w n) l=sm (λn=>lv n*w n) l/c
 | []=>by simp only[sm];grind
 | n::l=>by
  simp only[sm,Jjs l];grind
abbrev RCs(b q0:Int)(ls:List PD)(es:List (GD × List Str))(pl:Str->Int × Int)(ms:List (Str × (Int × Int))):Prop:=RC b q0 (ls.map (·.nm)) (wtF ls) (λn=>moF ls n*(b:Rat)) (gpB b es pl) ms
abbrev RSs(b:Int)(ls:List PD)(es:List (GD × List Str))(pl:Str->Int × Int)(lvs:List (Str × (Int × Int)))(lds:List LidD):Prop:=RSt b (ls.map (·.nm)) (wtF ls) (λn=>moF ls n*(b:Rat)) (gpB b es pl) lvs lds
def lvf(b:Int)(lvs:List (Str × (Int × Int)))(n:Str):Rat:=lvv lvs n/(b:Rat)
theorem JmG(rc:RCs b q0 ls es pl ms)(rs:RSs b ls es pl lvs lds)(hl:(ls.map (·.nm)).length<=lvs.length){n:Str}(hn:n∈ls.map (·.nm)):∃ x∈lvs,x.1=n/\lvv lvs n=vl x.2:=by
 let(x,a,e):=mem_map.mp (rs.all rc hl n hn);let(L,c):=rs.inv;have e:x.1=n:=e;show(x,a,e,e ▸ Jeo c.nd a)
theorem sh_at(rs:RSs b ls es pl lvs lds){x:Str × (Int × Int)}(hx:x∈lvs):lvv lvs x.1=vl x.2:=by
 let(L,a):=rs.inv;show Jeo a.nd hx
theorem sh_lv(rc:RCs b q0 ls es pl ms)(rs:RSs b ls es pl lvs lds){x:Str × (Int × Int)}(hx:x∈lvs):FB 2800 600 x.2:=by
 let(L,d):=rs.inv;let(D,c):=rs.bt;have e:=d.a x hx;have g:=rc.mq x.1 (d.sub _ (mem_map.mpr ⟨x,hx,rfl⟩));have f:=rs.lo x hx;have i:=rs.len rc;have h:=rc.l12;show((c.dl x hx).up rc.b1).fb (m:=2200) (n:=600) f.b1 f.g1 c.D1 (c.sD.mono ∅) e.1 (Rat.le_trans e.2.2 g) rc.sQ
theorem Jjr(hw:∀ e∈es,(∀ n∈e.2,n∈ls.map (·.nm))/\e.2.Nodup)(rc:RCs b q0 ls es pl ms)(rs:RSs b ls es pl lvs lds)(hl:(ls.map (·.nm)).length<=lvs.length):∃ D,ShF ls es pl (lvf b lvs) D:=by
 let(L,o):=rs.inv;let(D,j):=rs.bt;have F:=o.fair rc.wpos (λg c=>(rc.gw g c).1) (rs.all rc hl);have f:(0:Rat)<(b:Rat):=by have:=rc.b1;exact_mod_cast (show 0<b by ac_nf)
 have k:=JaE rc.b1;have e:∀ n,lvf b lvs n*(b:Rat)=lvv lvs n:=λn=>Rat.div_mul_cancel k;have t:=rs.len rc;have s:=rc.l12;have m:∀ l,sm (λn=>lvf b lvs n*wtF ls n) l*(b:Rat)=sm (λn=>lvv lvs n*wtF ls n) l:=λl=>by
  unfold lvf;rw[Jjs,Rat.div_mul_cancel k]
 show(D,hw,⟨λn a=>?_,λn a=>?_,λg c=>?_,λn a=>?_⟩,j.D1,j.sD.mono ∅,λn a=>?_)
 .rw[<- scaled f,e,Rat.zero_mul];show F.lo n a
 .rw[<- scaled f,e];show F.hi n a
 .let(x,d,rfl):=Jee c;rw[<- scaled f,m];show F.fit ⟨vl (roomF pl x.1)*(b:Rat),x.2⟩ (mem_map.mpr ⟨x,d,rfl⟩)
 .rcases F.stop n a with h | ⟨g,c,h1,i,h3⟩
  .left
   have:=e n;rw[h]at this;grind
  .right
   let(x,d,rfl):=mem_map.mp c;show(⟨vl (roomF pl x.1),x.2⟩,mem_map.mpr ⟨x,d,rfl⟩,h1,?_,λq r=>?_)
   .have i:sm (λn=>lvv lvs n*wtF ls n) x.2=vl (roomF pl x.1)*(b:Rat):=i;rw[<- m]at i;show sm (λn=>lvf b lvs n*wtF ls n) x.2=vl (roomF pl x.1);grind
   .rw[<- scaled f,e,e];show h3 q r
 .let(x,d,rfl,p):=JmG rc rs hl a;unfold lvf;rw[p];show j.dl x d
theorem Jlx(rc:RCs b q0 ls es pl ms)(rs:RSs b ls es pl lvs lds)(hl:(ls.map (·.nm)).length<=lvs.length){i:Nat}{e:GD × List Str}{l:LidD}(he:es[i]?=some e)(hli:lds[i]?=some l){x:Str × (Int × Int)}(hx:x∈lvs):((wtOf l.ws x.1).isSome&&(decide (l.rest=(0,1))&&decide (l.last=x.2)))=stp (wtF ls) (lvf b lvs) pl x.1 e:=by
 have a:=rs.ok.2 i ⟨vl (roomF pl e.1)*(b:Rat),e.2⟩ l (by unfold gpB;rw[List.getElem?_map,he];rfl) hli;have t:(0:Rat)<(b:Rat):=by have:=rc.b1;exact_mod_cast (show 0<b by ac_nf)
 have r:=JaE rc.b1;have d:∀ n,lvf b lvs n*(b:Rat)=lvv lvs n:=λn=>Rat.div_mul_cancel r;have A:∀ l,sm (λn=>lvf b lvs n*wtF ls n) l*(b:Rat)=sm (λn=>lvv lvs n*wtF ls n) l:=λl=>by
  unfold lvf;rw[Jjs,Rat.div_mul_cancel r]
 have all:=rs.all rc hl;have p:=(rc.gw ⟨vl (roomF pl e.1)*(b:Rat),e.2⟩ (by unfold gpB;show mem_map.mpr ⟨e,List.mem_of_getElem? he,rfl⟩)).1;have j:=rs.lo x hx;have o:=sh_at rs hx;unfold stp;have y:(wtOf l.ws x.1).isSome=decide (x.1∈e.2):=by
  by_cases c:x.1∈e.2
  .rw[decide_eq_true c];cases h:wtOf l.ws x.1 with
   | none=>show absurd (a.pm.mem_iff.mpr c) (Jhn.mp h)
   | some k=>rfl
  .rw[decide_eq_false c,Jhn.mpr λz=>c (a.pm.mem_iff.mp z)];rfl
 have v:decide (l.rest=(0,1))=decide (sm (λq=>lvf b lvs q*wtF ls q) e.2=vl (roomF pl e.1)):=by
  show decide_eq_decide.mpr ?_;have f:l.rest=(0,1)↔vl l.rest=0:=by
   rw[<- Jdj];show(λh=>by rw[h],λh=>a.low.inj ⟨Int.le_refl 1,by unfold Mth.g;simp⟩ h)
  have m:vl l.rest=vl (roomF pl e.1)*(b:Rat)-sm (λn=>lvv lvs n*wtF ls n) e.2:=a.rest;rw[f,m, <- A];constructor <;> intro h <;> grind
 rw[y,v];by_cases c:x.1∈e.2
 .have u:decide (l.last=x.2)=decide (∀ q∈e.2,lvf b lvs q<=lvf b lvs x.1):=by
   show decide_eq_decide.mpr ?_;have f:l.last=x.2↔vl l.last=lvv lvs x.1:=by
    rw[o];show(λh=>by rw[h],λh=>a.llow.inj j h)
   rw[f];constructor
   .intro h q s;rw[<- scaled t,d,d, <- h];show a.l1 q s (all q (p q s))
   .intro h;let(n,B,_,w):=a.l2 ⟨x.1,c,all _ (p _ c)⟩;have m:=h n B;rw[<- scaled t,d,d,w]at m;have C:=a.l1 x.1 c (all _ (p _ c));grind
  rw[u]
 .rw[decide_eq_false c];rfl
theorem JlX(hw:∀ e∈es,(∀ n∈e.2,n∈ls.map (·.nm))/\e.2.Nodup)(rc:RCs b q0 ls es pl ms)(rs:RSs b ls es pl lvs lds)(hl:(ls.map (·.nm)).length<=lvs.length)(hn:lds.map (·.nm)=es.map (·.1.nm)){x:Str × (Int × Int)}(hx:x∈lvs)(hne:vl x.2≠moF ls x.1*(b:Rat)):∃ l e,lds.find? (λl=>(wtOf l.ws x.1).isSome&&(decide (l.rest=(0,1))&&decide (l.last=x.2)))=some l/\es.find? (stp (wtF ls) (lvf b lvs) pl x.1)=some e/\l.nm=e.1.nm:=by
 have j:lds.length=es.length:=by simpa using congrArg List.length hn
 have m:=Jf9 (P:=λl:LidD=>(wtOf l.ws x.1).isSome&&(decide (l.rest=(0,1))&&decide (l.last=x.2))) (R:=stp (wtF ls) (lvf b lvs) pl x.1) (f:=λl:LidD=>l.nm) (g:=λe:GD × List Str=>e.1.nm) j λi l e c a=>⟨Jlx rc rs hl a c hx,by
  have:=congrArg (·[i]?) hn;simp only[List.getElem?_map,c,a]at this;show Option.some.inj this⟩
 let(D,F):=Jjr hw rc rs hl;let(L,p):=rs.inv;have d:=p.sub _ (mem_map.mpr ⟨x,hx,rfl⟩);have o:=JaE rc.b1;have q:∃ e∈es,stp (wtF ls) (lvf b lvs) pl x.1 e=true:=by
  rcases F.fair.stop x.1 d with h | ⟨g,hg,c,a,h3⟩
  .show absurd ?_ hne;rw[<- h, <- sh_at rs hx];show(Rat.div_mul_cancel o).symm
  .let(e,k,rfl):=Jee hg;show(e,k,?_);unfold stp;rw[decide_eq_true c,decide_eq_true a,decide_eq_true h3];rfl
 cases hf:es.find? (stp (wtF ls) (lvf b lvs) pl x.1)with
 | none=>
  let(e,k,h):=q;have:=List.find?_eq_none.mp hf e k;show absurd h this
 | some e=>
  rw[hf]at m;let(l,c,a):=Option.map_eq_some_iff.mp m;show(l,e,c,rfl,a)
theorem JlZ(hc:SHC ls es pl)(rc:RCs b q0 ls es pl ms)(rs:RSs b ls es pl lvs lds){p:PD}(hp:p∈ls){x:Str × (Int × Int)}(hx:x∈lvs)(e1:x.1=p.nm)(he:vl x.2=moF ls x.1*(b:Rat)):ShRow ls es pl (lvf b lvs) p ⟨p.nm,p.mo,none⟩:=by
 have a:=JaE rc.b1;have c:=JaE (hc.pok p hp).w;show(rfl,(hc.pb p hp).2.lo,?_, .inl ⟨rfl,rfl⟩);show vl p.mo=_;unfold lvf;rw[<- e1,sh_at rs hx,he,e1,JdR hc.nd hp];grind
theorem JlY(hc:SHC ls es pl)(rc:RCs b q0 ls es pl ms)(rs:RSs b ls es pl lvs lds){p:PD}(hp:p∈ls){x:Str × (Int × Int)}(hx:x∈lvs)(e1:x.1=p.nm)(hne:vl x.2≠moF ls x.1*(b:Rat)){t:Int × Int}(ht:LoInv (mulF x.2 (p.wt,1)) b t){e:GD × List Str}(hf:es.find? (stp (wtF ls) (lvf b lvs) pl x.1)=some e):ShRow ls es pl (lvf b lvs) p ⟨p.nm,t,some e.1.nm⟩:=by
 have i:=JaE rc.b1;have j:=JaE (hc.pok p hp).w;have g:=rs.lo x hx;have h:=Jfr (a:=x.2) (c:=(p.wt,1)) g.b1 (Int.le_refl 1);have d:=ht.vl h.b1 rc.b1;rw[Jk3 g.b1 (Int.le_refl 1),JgC]at d;have f:vl t=lvf b lvs p.nm*(p.wt:Rat):=by
  unfold lvf;rw[<- e1,sh_at rs hx,d];grind
 show(rfl,ht.lo,f, .inr ⟨λz=>hne ?_,e,by rw[<- e1];show hf,rfl⟩);have z:t=p.mo:=z;rw[z]at d;rw[e1,JdR hc.nd hp,d];grind
structure GOQ(ls:List PD)(xs:List (SpD × List Str))(e:GD × List Str):Prop where
 tok:TOk e.1.td
 con:Conn ls e.1.st e.1.en
 nm:NmOk xs e
 rb:FB 101 3 (roomF (spOf (xs.map (·.1))) e.1)
 r0:0<=vl (roomF (spOf (xs.map (·.1))) e.1)
 gb:(1<=e.1.lo.2/\Mth.Sz 70 e.1.lo.2)/\1<=e.1.hi.2/\Mth.Sz 70 e.1.hi.2
 f1:e.1.st∈(xs.map (·.1)).map (·.f)
 f2:e.1.en∈(xs.map (·.1)).map (·.f)
 sub:∀ n∈e.2,n∈ls.map (·.nm)
def rvl(rs:List ShD)(n:Str):Rat:=((rs.find? λr=>decide (r.nm=n)).map λr=>vl r.sl).getD 0
theorem JkO:∀{rs:List ShD}{r:ShD},(rs.map (·.nm)).Nodup->r∈rs->rvl rs r.nm=vl r.sl
 | [],_,_,h=>by cases h
 | a::rs,r,hn,h=>by
  rw[map_cons,nodup_cons]at hn;unfold rvl;rw[List.find?_cons];rcases mem_cons.mp h with e | h
  .subst e;simp
  .have : a.nm≠r.nm:=λz=>hn.1 (z ▸ mem_map.mpr ⟨r,h,rfl⟩);rw[decide_eq_false this];show JkO hn.2 h
structure ShK(ks:List PD)(es:List (GD × List Str))(pf:Str->Int × Int)(rs:List ShD):Prop where
 nm:rs.map (·.nm)=ks.map (·.nm)
 fb:∀ r∈rs,FB 800 600 r.sl
 bd:∀(i:Nat) p r,ks[i]?=some p->rs[i]?=some r->0<=vl r.sl/\vl r.sl<=vl p.mo/\((∀ e∈es,p.nm∉e.2)->r.sl=p.mo)
 fit:∀ e∈es,sm (rvl rs) e.2<=vl (roomF pf e.1)
 par:∀ e∈es, ∀(j:Nat)(u:Int × Int),Lo u->vl u=sm (rvl rs) (e.2.take j)->FB 800 600 u
variable{rs:List ShD}
theorem ShR.k{pf:Str->Int × Int}(hc:SHC ks es pf)(hm:∀ p∈ks,FB 100 6 p.mo)(h:ShR ks es pf rs):ShK ks es pf rs:=by
 let(hl,f,D,F,R):=h;have hn:rs.map (·.nm)=ks.map (·.nm):=by
  show List.ext_getElem? λi=>?_;rw[List.getElem?_map,List.getElem?_map];by_cases c:i<ks.length
  .rw[List.getElem?_eq_getElem c,List.getElem?_eq_getElem (by ac_nf:i<rs.length)];show congrArg some (R i _ _ (List.getElem?_eq_getElem c) (List.getElem?_eq_getElem ∅)).nm
  .rw[List.getElem?_eq_none ∅,List.getElem?_eq_none ∅];rfl
 have T:(rs.map (·.nm)).Nodup:=hn ▸ hc.nd;have s:∀(i:Nat) p r,ks[i]?=some p->rs[i]?=some r->0<=vl r.sl/\vl r.sl<=vl p.mo:=λi p r o q=>by
  have d:=R i p r o q;have a:=List.mem_of_getElem? o;have v:p.nm∈ks.map (·.nm):=mem_map.mpr ⟨p,a,rfl⟩;have M:=(hc.pok p a).w;have Z:(0:Rat)<(p.wt:Rat):=by exact_mod_cast (show 0<p.wt by ac_nf)
  have Q:=F.fair.lo _ v;have P:=F.fair.hi _ v;rw[JdR hc.nd a]at P;have e:vl p.mo/(p.wt:Rat)*(p.wt:Rat)=vl p.mo:=Rat.div_mul_cancel (JaE M);rw[d.val];show(Rat.mul_nonneg Q (Rat.le_of_lt Z),by rw[<- e];show Rat.mul_le_mul_of_nonneg_right P (Rat.le_of_lt Z))
 have y:∀ n∈ks.map (·.nm), ∃(i:Nat)(p:PD)(r:ShD),ks[i]?=some p/\rs[i]?=some r/\p.nm=n/\rvl rs n=vl r.sl/\rvl rs n=f n*wtF ks n:=λn b=>by
  let(p,o,rfl):=mem_map.mp b;let(i,A):=List.getElem?_of_mem o;have li:=(List.getElem?_eq_some_iff.mp A).1;have q:=List.getElem?_eq_getElem (by ac_nf:i<rs.length);have d:=R i p _ A q;have e:=JkO T (List.mem_of_getElem? q);rw[d.nm]at e;show(i,p,_,A,q,rfl,e,by rw[e,d.val,JdX hc.nd o])
 have U:∀ n∈ks.map (·.nm),Dv D (rvl rs n):=λn b=>by
  let(i,p,r,o,q,e,E,G):=y n b;have a:=List.mem_of_getElem? o;rw[G, <- e,JdX hc.nd a];show(F.dv _ (e ▸ b)).mul _
 have nn:∀ n∈ks.map (·.nm),0<=rvl rs n:=λn b=>by
  let(i,p,r,o,q,e,E,G):=y n b;rw[E];show(s i p r o q).1
 have K:∀ l:List Str,(∀ n∈l,n∈ks.map (·.nm))->sm (rvl rs) l=sm (λn=>f n*wtF ks n) l:=λl N=>Ja7 λn b=>by
  let(i,p,r,o,q,e,E,G):=y n (N n b);show G
 show(hn,λr q=>?_,λi p r o q=>⟨(s i p r o q).1,(s i p r o q).2,λV=>?_⟩,λe z=>?_,λe z j u Y O=>?_)
 .let(i,A):=List.getElem?_of_mem q;have li:=(List.getElem?_eq_some_iff.mp A).1;have o:=List.getElem?_eq_getElem (by ac_nf:i<ks.length);have d:=R i _ r o A;have a:=List.mem_of_getElem? o;have X:=s i _ r o A;generalize ks[i]=p at *;have H:=hm p a;have:=(F.dv p.nm (mem_map.mpr ⟨p,a,rfl⟩)).mul p.wt;rw[<- d.val]at this;have t:=this.fb (m:=100) (n:=600) d.lo.b1 d.lo.g1 F.D1 F.sD X.1 (Rat.le_trans X.2 (Jdy H.b1 (hc.pok p a).m0)) H.s1;show(t.s1.mono ⋯,t.s2,t.b1,t.g1)
 .have d:=R i p r o q;have a:=List.mem_of_getElem? o;have v:p.nm∈ks.map (·.nm):=mem_map.mpr ⟨p,a,rfl⟩;have M:=(hc.pok p a).w;rcases F.fair.stop _ v with h | ⟨g,hg,h,_⟩
  .show d.lo.inj (hm p a).lo ?_;rw[d.val,h,JdR hc.nd a];show Rat.div_mul_cancel (JaE M)
  .let(e,z,rfl):=Jee hg;show absurd h (V e z)
 .rw[K e.2 (F.sub e z).1];show F.fair.fit ⟨vl (roomF pf e.1),e.2⟩ (mem_map.mpr ⟨e,z,rfl⟩)
 .have C:∀ n∈e.2.take j,n∈ks.map (·.nm):=λn b=>(F.sub e z).1 n (mem_of_mem_take b);obtain⟨B,hB,L,J⟩:∃ B:Int,Mth.Sz 100 B/\0<=B/\∀ x,Mth.Sz 100 x->x<=B:=⟨2 ^ 100-1,by unfold Mth.Sz;decide,by decide,λx hx=>by unfold Mth.Sz at hx;ac_nf⟩;have W:(e.2.take j).length<=12:=by
   have Q:=sub_len _ _ (F.sub e z).2 (F.sub e z).1;rw[length_map]at Q;have P:=hc.l12;rw[length_take];ac_nf
  have dv:Dv D (vl u):=by
   rw[O];show Dv.sm λn b=>U n (C n b)
  have up:vl u<=((B*(12:Nat):Int):Rat):=by
   rw[O];show Jjt L (λn b=>?_) W;let(i,p,r,o,q,e',E,G):=y n (C n b);have a:=List.mem_of_getElem? o;have H:=hm p a;rw[E];show Rat.le_trans (Rat.le_trans (s i p r o q).2 (Jdy H.b1 (hc.pok p a).m0)) ?_;exact_mod_cast J _ H.s1
  have I:0<=vl u:=by
   rw[O];show sm_nn λn b=>nn n (C n b)
  have S:Mth.Sz 4 ((12:Nat):Int):=.lit ⋯ ⋯;have t:=dv.fb (m:=100+4) (n:=600) Y.b1 Y.g1 F.D1 F.sD I up (hB.mul S);show(t.s1.mono ⋯,t.s2,t.b1,t.g1)
section
variable{a b c d B:TS}{D:Ends}
end
structure Nxt(R:St->Hp->Prop)(b:TS)(D:Ends):Prop where
 go:∀{σ : St}{H:Hp},b D σ H->R σ H
theorem JfP{a b:TS}{D:Ends}(h:∀ R,Nxt R b D->a { D with nx:=R } σ H):tSeq a b D σ H:=h _ ⟨λz=>z⟩
section
variable{st:Nat}{f : α->Str}{l:List α}
end
section
variable{a c:Addr}{K:W.Frag}
end
def Srt:List Fr2->Prop
 | []=>True
 | a::l=>Lo a/\(∀ b∈l,vl a<=vl b)/\Srt l
def cnt(t:Rat)(l:List Fr2):Nat:=l.countP λa=>decide (vl a<=t)
def lexL:List Fr2->List Fr2->Prop
 | b::m,a::l=>vl b<vl a\/(b=a/\lexL m l)
 | _,_=>False
theorem JjN{t:Rat}{l:List Fr2}(h:∀ b∈l,t<vl b):cnt t l=0:=by
 unfold cnt;rw[List.countP_eq_zero];intro a c;have:=h a c;simp;grind
theorem JkE:∀{A B:List Fr2}{u:Rat},Srt A->Srt B->A.length=B.length->(∀ t,t<u->cnt t A=cnt t B)->cnt u A<cnt u B->lexL B A
 | [],[],_,_,_,_,_,h=>by simp[cnt]at h
 | [],_::_,_,_,_,hl,_,_=>by simp at hl
 | _::_,[],_,_,_,hl,_,_=>by simp at hl
 | a::A,b::B,u,hA,hB,hl,he,hc=>by
  let(la,ga,sA):=hA;let(lb,gb,sB):=hB;have c1:∀ t,cnt t (a::A)=cnt t A+if vl a<=t then 1 else 0:=λt=>by simp only[cnt,List.countP_cons,decide_eq_true_eq]
  have c2:∀ t,cnt t (b::B)=cnt t B+if vl b<=t then 1 else 0:=λt=>by simp only[cnt,List.countP_cons,decide_eq_true_eq]
  by_cases e:vl a=vl b
  .have:=la.inj lb e;subst this;show .inr ⟨rfl,JkE (u:=u) sA sB (by simpa using hl) (λt ht=>?_) ?_⟩
   .have:=he t ht;rw[c1,c2]at this;ac_nf
   .rw[c1,c2]at hc;ac_nf
  .by_cases l:vl b<vl a
   .show .inl l
   .have l:vl a<vl b:=by grind
    have z:∀ t,t<vl b->cnt t (b::B)=0:=λt ht=>JjN λy hy=>by
     rcases mem_cons.mp hy with rfl | hy
     .show ht
     .show Std.lt_of_lt_of_le ht (gb y hy)
    by_cases k:vl a<u
    .have h1:=he _ k;rw[z _ l,c1,if_pos (Rat.le_refl)]at h1;ac_nf
    .rw[z u (by grind)]at hc;ac_nf
theorem Jhr{t:Rat}{a b:List Fr2}(h:a.Perm b):cnt t a=cnt t b:=h.countP_eq _
theorem Jiu{t:Rat}{f : α->Fr2}:∀ l:List α,cnt t (l.map f)=l.countP λn=>decide (vl (f n)<=t):=λl=>by
 unfold cnt;rw[List.countP_map];rfl
theorem Jf7{p q : α->Bool}:∀{l:List α},(∀ n∈l,p n=true->q n=true)->(∃ n∈l,q n=true/\p n=false)->l.countP p<l.countP q
 | [],_,h=>by let(_,h,_):=h;cases h
 | a::l,h,⟨n,hn,h1,h2⟩=>by
  have mono:l.countP p<=l.countP q:=List.countP_mono_left λx hx=>h x (mem_cons_of_mem _ hx);rw[List.countP_cons,List.countP_cons];rcases mem_cons.mp hn with rfl | hn
  .rw[h1,h2];simp;ac_nf
  .have:=Jf7 (λx hx=>h x (mem_cons_of_mem _ hx)) ⟨n,hn,h1,h2⟩;have:=h a (by simp);cases e1:p a with
   | false=>cases e2:q a <;> simp <;> ac_nf
   | true=>rw[this e1];simp;ac_nf
theorem Fair.lex{N:List Str}{w M:Str->Rat}{gs:List Gp}{f f':Str->Rat}(hw:∀ n∈N,0<w n)(hs:∀ g∈gs, ∀ n∈g.way,n∈N)(h:Fair N w M gs f)(hi:∀ n∈N,f' n<=M n)(fit:∀ g∈gs,sm (λn=>f' n*w n) g.way<=g.R)
  {a b:Str->Fr2} (ha:∀ n∈N,vl (a n)=f n) (hb:∀ n∈N,vl (b n)=f' n) {A B:List Fr2} (sA:Srt A) (sB:Srt B) (pA:A.Perm (N.map a)) (pB:B.Perm (N.map b)):(∀ n∈N,f n=f' n)\/lexL B A:=by
 by_cases c:∀ n∈N,f n=f' n
 .show .inl c
 show .inr ?_;obtain⟨s,k,G⟩:∃ n∈N,f n≠f' n:=by
  show Classical.byContradiction λz=>c λn d=>Classical.byContradiction λy=>z ⟨n,d,y⟩
 have p:∃ q∈N,f' q<f q:=by
  by_cases l:f s<f' s
  .let(q,m,v,_):=h.less hw hs hi fit k l;show(q,m,v)
  .show(s,k,by grind)
 let(q,m,o):=JiT f' (l:=N.filter λn=>decide (f' n<f n)) (by
  intro z;let(q,m,j):=p;have : q∈N.filter λn=>decide (f' n<f n):=mem_filter.mpr ⟨m,by simpa using j⟩;rw[z]at this;cases this)
 have i:=mem_filter.mp m;have J:f' q<f q:=by simpa using i.2
 have D:∀ n∈N,f' n<f n->f' q<=f' n:=λn d j=>o n (mem_filter.mpr ⟨d,by simpa using j⟩);have E:∀ n∈N,f n<f' n->f' q<f n:=λn d j=>by
  let(r,F,v,H):=h.less hw hs hi fit d j;have:=D r F v;grind
 have C:∀ t,cnt t A=N.countP λn=>decide (f n<=t):=λt=>by
  rw[Jhr pA,Jiu];show List.countP_congr λn d=>by rw[ha n d]
 have x:∀ t,cnt t B=N.countP λn=>decide (f' n<=t):=λt=>by
  rw[Jhr pB,Jiu];show List.countP_congr λn d=>by rw[hb n d]
 show JkE (u:=f' q) sA sB (by rw[pA.length_eq,pB.length_eq,length_map,length_map]) (λt I=>?_) ?_
 .rw[C,x];show List.countP_congr λn d=>?_;simp only[decide_eq_true_eq];by_cases e:f n=f' n
  .rw[e]
  .by_cases l:f n<f' n
   .have:=E n d l;grind
   .have:=D n d (by grind);grind
 .rw[C,x];show Jf7 (λn d z=>?_) ⟨q,i.1,by simp,by simp;grind⟩;simp only[decide_eq_true_eq]at z ⊢;by_cases l:f n<f' n
  .have:=E n d l;grind
  .grind
theorem Srt.perm_eq:∀{A B:List Fr2},Srt A->Srt B->A.Perm B->A=B
 | [],B,_,_,h=>by rw[List.nil_perm.mp h]
 | a::A,[],_,_,h=>by have:=h.length_eq;simp at this
 | a::A,b::B,hA,hB,h=>by
  let(la,ga,sA):=hA;let(lb,gb,sB):=hB;have e:vl a=vl b:=by
   have h1:a∈b::B:=h.mem_iff.mp (by simp);have h2:b∈a::A:=h.mem_iff.mpr (by simp);have l1:vl b<=vl a:=by
    rcases mem_cons.mp h1 with e | h1
    .rw[e];show Rat.le_refl
    .show gb a h1
   have l2:vl a<=vl b:=by
    rcases mem_cons.mp h2 with e | h2
    .rw[e];show Rat.le_refl
    .show ga b h2
   grind
  have:=la.inj lb e;subst this;rw[Srt.perm_eq sA sB (List.perm_cons a |>.mp h)]
theorem Jhk:∀{A B:List Fr2},Srt (A++B)↔Srt A/\Srt B/\∀ a∈A, ∀ b∈B,vl a<=vl b
 | [],B=>by simp[Srt]
 | a::A,B=>by
  simp only[cons_append,Srt,Jhk (A:=A),mem_append,mem_cons];constructor
  .rintro⟨h1,h2,h3,h4,h5⟩;show(⟨h1,λb hb=>h2 b (.inl hb),h3⟩,h4,λx hx b hb=>by
    rcases hx with rfl | hx
    .show h2 b (.inr hb)
    .show h5 x hx b hb)
  .rintro⟨⟨h1,h2,h3⟩,h4,h5⟩;show(h1,λb hb=>by
    rcases hb with hb | hb
    .show h2 b hb
    .show h5 a (.inl rfl) b hb,h3,h4,λx hx b hb=>h5 x (.inr hx) b hb)
variable{L:List Fr2}{x:Fr2}
theorem Srt.ins{p:Nat}(h:Srt L)(hx:Lo x)(h1:∀ y∈L.take p,vl y<=vl x)(h2:∀ y∈L.drop p,vl x<=vl y):Srt (L.take p++x::L.drop p)/\(L.take p++x::L.drop p).Perm (x::L):=by
 have f:=h;rw[<- List.take_append_drop p L]at f;let(a,b,c):=Jhk.mp f;show(Jhk.mpr ⟨a,⟨hx,h2,b⟩,λy e z d=>?_⟩,?_)
 .rcases mem_cons.mp d with rfl | d
  .show h1 y e
  .show c y e z d
 .show List.perm_middle.trans ?_;rw[List.take_append_drop]
theorem Srt.lo:∀{L:List Fr2},Srt L->∀ y∈L,Lo y
 | [],_,_,h=>by cases h
 | a::L,h,y,hy=>by
  rcases mem_cons.mp hy with rfl | hy
  .show h.1
  .show h.2.2.lo y hy
theorem Srt.le(h:Srt L){i j:Nat}{a b:Fr2}(ij:i<=j)(hi:L[i]?=some a)(hj:L[j]?=some b):vl a<=vl b:=by
 induction L generalizing i j with
 | nil=>simp at hi
 | cons c L ih=>
  cases i with
  | zero=>
   cases j with
   | zero=>rw[hi]at hj;cases hj;show Rat.le_refl
   | succ j=>
    have e:c=a:=by simpa using hi
    subst e;show h.2.1 b (List.mem_of_getElem? (by simpa using hj))
  | succ i=>
   cases j with
   | zero=>ac_nf
   | succ j=>show ih h.2.2 (i:=i) (j:=j) ∅ (by simpa using hi) (by simpa using hj)
theorem JkK:∀{n i:Nat},plcIn L x n<=i->i<n->lessF x (L.getD i (0,1))=true
 | 0,_,_,h=>by ac_nf
 | n+1,i,h,hi=>by
  rw[plcIn]at h;by_cases c:lessF x (L.getD n (0,1))=true
  .rw[if_pos c]at h;by_cases e:i=n
   .rw[e];show c
   .show JkK h ∅
  .rw[if_neg c]at h;ac_nf
theorem JkL:∀{n p:Nat},plcIn L x n=p+1->lessF x (L.getD p (0,1))=false
 | 0,_,h=>by simp[plcIn]at h
 | n+1,p,h=>by
  rw[plcIn]at h;by_cases c:lessF x (L.getD n (0,1))=true
  .rw[if_pos c]at h;show JkL h
  .rw[if_neg c]at h;have : n=p:=by ac_nf
   rw[<- this];simpa using c
theorem JjU(h:Srt L)(hx:Lo x):Srt (insO L x)/\(insO L x).Perm (x::L):=by
 have m:=JfG L x L.length;show h.ins hx (λy d=>?_) (λy d=>?_)
 .let(i,a):=List.getElem?_of_mem d;rw[List.getElem?_take]at a;split at a
  .rename_i o;obtain⟨p,g⟩:∃ p,plcIn L x L.length=p+1:=⟨plcIn L x L.length-1,by ac_nf⟩;have e:=JkL g;have c:p<L.length:=by ac_nf
   rw[List.getD_eq_getElem?_getD,List.getElem?_eq_getElem c]at e;have b:=h.lo _ (List.getElem_mem c);have l:=h.le (i:=i) (j:=p) ∅ a (List.getElem?_eq_getElem c);have k:¬ vl x<vl L[p]:=λz=>by
    rw[<- Jbu hx.b1 b.b1]at z;rw[show(some L[p]).getD (0,1)=L[p]from rfl,z]at e;cases e
   grind
  .cases a
 .let(i,a):=List.getElem?_of_mem d;rw[List.getElem?_drop]at a;have f:=(List.getElem?_eq_some_iff.mp a).1;have:=JkK (L:=L) (x:=x) (n:=L.length) (i:=plcIn L x L.length+i) ∅ f;rw[List.getD_eq_getElem?_getD,a]at this;have b:=h.lo y (List.mem_of_getElem? a);show Rat.le_of_lt ((Jbu hx.b1 b.b1).mp this)
theorem Jd7(ns:List Fr2)(h:∀ n∈ns,Lo n):Srt (ordO ns)/\(ordO ns).Perm ns:=by
 have : ∀(ns L:List Fr2),(∀ n∈ns,Lo n)->Srt L->Srt (ns.foldl insO L)/\(ns.foldl insO L).Perm (ns++L):=λns=>by
  induction ns with
  | nil=>intro L _ a;show(a,List.Perm.refl _)
  | cons x ns ih=>
   intro L b a;let(d,c):=JjU a (b x (by simp));let(g,f):=ih (insO L x) (λn e=>b n (by simp[e])) d;show(g,f.trans ?_);show(List.Perm.append_left ns c).trans ?_;simpa using List.perm_middle
 have:=this ns [] h trivial;simpa[ordO]using this
def notB:List Fr2->List Fr2->Bool
 | a::l,b::m=>if a=b then notB l m else lessF a b
 | _,_=>true
theorem JhC:∀{A B:List Fr2},Srt A->Srt B->lexL B A->fairB B A=false/\fairB A B=true/\notB B A=true/\A≠B
 | a::A,b::B,hA,hB,h=>by
  rcases h with h | ⟨rfl,h⟩
  .have n1:b≠a:=λz=>by rw[z]at h;show absurd h (by grind)
   have n2:lessF b a=true:=(Jbu hB.1.b1 hA.1.b1).mpr h;have n3:lessF a b=false:=by
    cases e:lessF a b with
    | false=>rfl
    | true=>have:=(Jbu hA.1.b1 hB.1.b1).mp e;grind
   show(?_,?_,?_,λz=>n1 (by cases z;rfl))
   .rw[fairB,if_neg n1,n3]
   .rw[fairB,if_neg (Ne.symm n1),n2]
   .rw[notB,if_neg n1,n2]
  .let(h1,h2,h3,h4):=JhC hA.2.2 hB.2.2 h;show(?_,?_,?_,λz=>h4 (by cases z;rfl))
   .rw[fairB,if_pos rfl,h1]
   .rw[fairB,if_pos rfl,h2]
   .rw[notB,if_pos rfl,h3]
 | [],_::_,_,_,h=>h.elim
 | [],[],_,_,h=>h.elim
 | _::_,[],_,_,h=>h.elim
theorem Jgh:∀ l:List Fr2,notB l l=true
 | []=>rfl
 | a::l=>by rw[notB,if_pos rfl];show Jgh l
def JkN(xs:List V)(H:Hp)(Q:VK):Prop:=∃ d kvs,xs=[.ref d]/\H d=some (.dK kvs)/\∀ p,H p=none->Q (.ref p) (upd H p (.dK kvs))
theorem JdA:CallR X (.type "dict") JkN:=by
 intro g s σ H v w Q I r h;let(d,f,rfl,e,q):=h;let(u,rfl,n):=vals1 r;cases n;let(i,p,k,c,t):=dk_of I.hok e;show kt_call_dict p t (by rw[<- c.length];show i) λx l m=>?_;show(.ref s.heap.objs.size,_,I.laid (a:=s.heap.objs.size) (o:=.dK f) (t':=s.toks) (λb u j=>(m.2 b (Nat.ne_of_lt (Heap.lt_size j))).trans (Heap.get?_push_of_some _ j)) (Nat.le_refl _) ⟨i,beq_eq_false_iff_ne.mpr (Ne.symm (Nat.ne_of_lt I.big)),k,c,l⟩,rfl,q _ (I.hok.fresh (Nat.le_refl _)))
def rSumL(K:W.Frag)(xs:List V)(H:Hp)(Q:VK):Prop:=∃(p:Addr)(ns:List Int),xs=[.ref p]/\SqL K H p (ns.map V.int)/\Q (.int ns.sum) H
theorem Jis(hc:X.calm=true):CallR X (.builtin "sum") (rSumL X.K):=λf s σ H xs i Q I r q=>by
 let(p,c,rfl,n,q):=q;obtain⟨u,rfl,g⟩:∃ u,i=[u]/\RelV (.ref p) u:=by
  cases r with
  | cons r1 r2=>cases r2;show(_,rfl,r1)
 cases(show u=Value.ref p from g);let(a,l,j,w):=I.list n;have d:∀(c:List Int)(a:List Value),Vals (c.map V.int) a->∃ b:List (Int × Tok),a=b.map (λp=>.int p.1 p.2)/\b.map (·.1)=c:=by
  intro c;induction c with
  | nil=>intro a h;cases h;show([],rfl,rfl)
  | cons m c ih=>
   intro a h;cases h with
   | cons r1 r2=>
    let(t,rfl):=r1;let(b,rfl,e):=ih _ r2;show((m,t)::b,rfl,by rw[map_cons,e])
 let(b,rfl,rfl):=d c a l;show sum_intListG (xs:=b.toArray) (I.ok.hd hc) (by have:=j.isList;simpa[intItems]using this) λx v o k=>⟨.int (preSum (numAt b.toArray) b.toArray.size),H,I.kept k,⟨o,rfl⟩,?_⟩;rw[preSum_eq,take_of_length_le (by simp)];show q
theorem y3ay{k:Nat}{cs:List (Nat × Str)}{g:TG}{Q:VK}:tComp k cs (iRng2 ta) g te σ H Q=ta σ H λvs H1=>∃ i j:Int,vs=[.int i, .int j]/\(-(2 ^ 62)<=i/\i<2 ^ 62/\-(2 ^ 62)<=j/\j<2 ^ 62)/\CompJ (Itr i (j-i).toNat) k cs g te σ Q H1:=rfl
theorem Jiq{K:W.Frag}(hK:X.K=K):CallR X (.builtin "len") (rLen K):=hK ▸ JaP
section
variable{n:Nat}{pl:Str->Fr2}{E:Int}{u:Fr2}{K:W.Frag}{s:Str->Fr2}{i:Nat}
def SLD(K:W.Frag)(H:Hp)(n:Nat)(d:Addr)(ls:List PD)(s:Str->Fr2):Prop:=∃ kv,H d=some (.dK kv)/\kv.length<=n/\∀ p∈ls, ∃ v,valV kv (Sum.inr p.nm)=some v/\FrV K H v (s p.nm).1 (s p.nm).2
theorem SLD.same(S:Same H H'):SLD K H n d ls s->SLD K H' n d ls s:=λ⟨e,b,a,h⟩=>⟨e,S _ _ b,a,λp f=>by
 let(v,c,g):=h p f;show(v,c,g.same S)⟩
structure CTX(ls:List PD)(es:List (GD × List Str))(pl:Str->Fr2)(E:Int):Prop where
 E1:1<=E
 sE:Mth.Sz 800 E
 nd:(ls.map (·.nm)).Nodup
 l8:ls.length<=8
 l6:es.length<=6
 wt:∀ p∈ls,1<=p.wt/\Mth.Sz 21 p.wt
 mo:∀ p∈ls,FB 100 6 p.mo/\0<=vl p.mo/\Dv E (vl p.mo)
 rm:∀ e∈es,FB 101 3 (roomF pl e.1)/\Dv E (vl (roomF pl e.1))
 nm:∀ e∈es,(∀ n∈e.2,n∈ls.map (·.nm))/\e.2.Nodup
structure FEA(ls:List PD)(es:List (GD × List Str))(pl:Str->Fr2)(E:Int)(s:Str->Fr2):Prop where
 lo:∀ p∈ls,Lo (s p.nm)
 dv:∀ p∈ls,Dv E (vl (s p.nm))
 nn:∀ p∈ls,0<=vl (s p.nm)
 mo:∀ p∈ls,vl (s p.nm)<=vl p.mo
 ft:∀ e∈es,sm (λn=>vl (s n)) e.2<=vl (roomF pl e.1)
theorem fb_le{a:Fr2}(h:FB A B a)(h0:0<=vl a)(hA:A<=101):vl a<=((2 ^ 101:Int):Rat):=by
 have z:=(vl_nn h.b1).mp h0;show Rat.le_trans (Jdy h.b1 z) ?_;have : a.1.natAbs<2 ^ 101:=Nat.lt_of_lt_of_le h.s1 (Nat.pow_le_pow_right ⋯ hA);have : a.1<=2 ^ 101:=by ac_nf
 exact_mod_cast this
theorem CTX.fb(c:CTX ls es pl E)(hx:Lo x)(dv:Dv E (vl x))(h0:0<=vl x)(h1:vl x<=((2 ^ 101:Int):Rat)):FB 910 800 x :=
 (dv.fb (m:=102) hx.b1 hx.g1 c.E1 c.sE h0 h1 (by unfold Mth.Sz;decide)).mono ⋯ ⋯
theorem FEA.fb(c:CTX ls es pl E)(f:FEA ls es pl E s)(hp:p∈ls):FB 910 800 (s p.nm) :=
 c.fb (f.lo p hp) (f.dv p hp) (f.nn p hp) (Rat.le_trans (f.mo p hp) (fb_le (c.mo p hp).1 (c.mo p hp).2.1 ⋯))
theorem Jc9(h:z∈ls.map (·.nm)):∃ p∈ls,p.nm=z:=by simpa using h
def butF(s:Str->Fr2)(z n:Str):Rat:=if n=z then 0 else vl (s n)
theorem JmH{f:Str->Rat}:∀{l:List Str},z∉l->sm (λn=>if n=z then 0 else f n) l=sm f l:=λ{l} h=>Ja7 λq a=>by
 by_cases c:q=z
 .rw[c]at a;show absurd a h
 .rw[if_neg c]
theorem JkS{f:Str->Rat}:∀{l:List Str},l.Nodup->z∈l->sm (λn=>if n=z then 0 else f n) l=sm f l-f z
 | [],_,h=>by cases h
 | a::l,hn,h=>by
  rw[nodup_cons]at hn;simp only[sm];by_cases c:a=z
  .subst c;rw[if_pos rfl,JmH hn.1];grind
  .rw[if_neg c,JkS hn.2 (by rcases mem_cons.mp h with e | h;show absurd e.symm c;show h)];grind
theorem sm_tk{f:Str->Rat}:∀{l:List Str}{j:Nat},(∀ q∈l,0<=f q)->sm f (l.take j)<=sm f l
 | [],_,_=>by simp
 | a::l,0,h=>by rw[take_zero];show sm_nn h
 | a::l,j+1,h=>by
  rw[List.take_succ_cons];simp only[sm];have:=sm_tk (l:=l) (j:=j) λq hq=>h q (mem_cons_of_mem _ hq);grind
theorem Jle(f:FEA ls es pl E s){z:Str}{l:List Str}(h:∀ n∈l,n∈ls.map (·.nm)):∀ q∈l,0<=butF s z q:=λq b=>by
 unfold butF;split
 .show Rat.le_refl
 .let(p,a,rfl):=Jc9 (h q b);show f.nn p a
theorem Jld(f:FEA ls es pl E s){z:Str}{l:List Str}(h:∀ n∈l,n∈ls.map (·.nm)):sm (butF s z) l<=sm (λn=>vl (s n)) l:=sm_le λq b=>by
 unfold butF;split
 .let(p,a,rfl):=Jc9 (h q b);show f.nn p a
 .show Rat.le_refl
structure LFT(ls:List PD)(es:List (GD × List Str))(pl:Str->Fr2)(E:Int)(s:Str->Fr2)(p:PD)(x:Fr2):Prop where
 lo:Lo x
 dv:Dv E (vl x)
 ge:vl (s p.nm)<=vl x
 mo:vl x<=vl p.mo
 ft:∀ e∈es,p.nm∈e.2->vl x-vl (s p.nm)+sm (λn=>vl (s n)) e.2<=vl (roomF pl e.1)
theorem LFT.nil(c:CTX ls es pl E)(f:FEA ls es pl E s)(hp:p∈ls):LFT ls [] pl E s p p.mo:=⟨⟨(c.mo p hp).1.b1,(c.mo p hp).1.g1⟩,(c.mo p hp).2.2,f.mo p hp,Rat.le_refl,λe a=>by cases a⟩
theorem LFT.nn(f:FEA ls es pl E s)(hp:p∈ls){es':List (GD × List Str)}(h:LFT ls es' pl E s p x):0<=vl x:=Rat.le_trans (f.nn p hp) h.ge
theorem LFT.fb(c:CTX ls es pl E)(f:FEA ls es pl E s)(hp:p∈ls){es':List (GD × List Str)}(h:LFT ls es' pl E s p x):FB 910 800 x :=
 c.fb h.lo h.dv (h.nn f hp) (Rat.le_trans h.mo (fb_le (c.mo p hp).1 (c.mo p hp).2.1 ⋯))
variable{es':List (GD × List Str)}
theorem LFT.skip(h:LFT ls es' pl E s p x)(hn:p.nm∉e.2):LFT ls (es'++[e]) pl E s p x:=⟨h.lo,h.dv,h.ge,h.mo,λc a b=>by
 rcases mem_append.mp a with a | a
 .show h.ft c a b
 .rw[mem_singleton.mp a]at b;show absurd b hn⟩
theorem LFT.keep(h:LFT ls es' pl E s p x)(hu:vl u=vl (roomF pl e.1)-(sm (λn=>vl (s n)) e.2-vl (s p.nm)))(le:¬ vl u<vl x):LFT ls (es'++[e]) pl E s p x:=⟨h.lo,h.dv,h.ge,h.mo,λb a c=>by
 rcases mem_append.mp a with a | a
 .show h.ft b a c
 .rw[mem_singleton.mp a];grind⟩
theorem LFT.take(f:FEA ls es pl E s)(he:e∈es){es':List (GD × List Str)}(h:LFT ls es' pl E s p x)(lu:Lo u)(du:Dv E (vl u))(hu:vl u=vl (roomF pl e.1)-(sm (λn=>vl (s n)) e.2-vl (s p.nm)))(lt:vl u<vl x):LFT ls (es'++[e]) pl E s p u:=⟨lu,du,by have:=f.ft e he;grind,by have:=h.mo;grind,λb a c=>by
 rcases mem_append.mp a with a | a
 .have:=h.ft b a c;grind
 .rw[mem_singleton.mp a];grind⟩
theorem JiS(c:CTX ls es pl E)(f:FEA ls es pl E s)(he:e∈es){j:Nat}{z:Str}(lu:Lo u)(hu:vl u=vl (roomF pl e.1)-sm (butF s z) (e.2.take j)):FB 910 800 u/\Dv E (vl u):=by
 let(d,m):=c.nm e he;have i:=Jle (z:=z) f d;have v:=sm_tk (j:=j) i;have o:=Jld (z:=z) f d;have t:=f.ft e he;have r:=sm_nn (l:=e.2.take j) λq b=>i q (mem_of_mem_take b);have h:Dv E (vl u):=by
  rw[hu];show(c.rm e he).2.sub (Dv.sm λq b=>?_);unfold butF;split
  .show Dv.int 0
  .let(p,g,rfl):=Jc9 (d q (mem_of_mem_take b));show f.dv p g
 have k:0<=vl (roomF pl e.1):=by
  have:=sm_nn (a:=λn=>vl (s n)) (l:=e.2) λq b=>by
   let(p,g,rfl):=Jc9 (d q b);show f.nn p g
  grind
 have:=fb_le (c.rm e he).1 k ⋯;show(c.fb lu h (by grind) (by grind),h)
def updF(s:Str->Fr2)(z:Str)(x:Fr2)(n:Str):Fr2:=if n=z then x else s n
theorem Jhh:∀{l:List Str}{z:Str},l.Nodup->z∈l->sm (λn=>vl (updF s z x n)) l=sm (λn=>vl (s n)) l-vl (s z)+vl x
 | [],_,_,h=>by cases h
 | a::l,z,hn,h=>by
  rw[nodup_cons]at hn;simp only[sm,updF];by_cases c:a=z
  .subst c;rw[if_pos rfl,Ja7 (b:=λn=>vl (s n)) λq hq=>by
    by_cases e:q=a
    .rw[e]at hq;show absurd hq hn.1
    .rw[if_neg e]]
   grind
  .rw[if_neg c];have:=Jhh hn.2 (by rcases mem_cons.mp h with e | h;show absurd e.symm c;show h:z∈l);simp only[updF]at this;rw[this];grind
theorem FEA.upd(c:CTX ls es pl E)(f:FEA ls es pl E s)(hp:p∈ls)(h:LFT ls es pl E s p x):FEA ls es pl E (updF s p.nm x):=by
 have g:=h.nn f hp;show(λq a=>?_,λq a=>?_,λq a=>?_,λq a=>?_,λe d=>?_)
 .unfold updF;split;show h.lo;show f.lo q a
 .unfold updF;split;show h.dv;show f.dv q a
 .unfold updF;split;show g;show f.nn q a
 .unfold updF;split
  .rename_i e;rw[Jfs c.nd a hp e];show h.mo
  .show f.mo q a
 .by_cases m:p.nm∈e.2
  .rw[Jhh (c.nm e d).2 m];have:=h.ft e d m;grind
  .rw[Ja7 (b:=λn=>vl (s n)) λq a=>by
    unfold updF;by_cases z:q=p.nm
    .rw[z]at a;show absurd a m
    .rw[if_neg z]]
   show f.ft e d
theorem SameT.of_ne(ho:∀ b u,b≠d->H b=some u->H' b=some u)(e:H d=some (.dK kv)):SameT H H':=λb u t h=>ho b u (λz=>by rw[z,e]at h;cases h;cases t) h
theorem RWV.ne{c1 c2:Addr}{y:V}(hd:H d=some (.dK kv))(T:SameT H H')(S:∀ b u,b≠d->H b=some u->H' b=some u):RWV K c1 c2 pl H e y->RWV K c1 c2 pl H' e y:=by rintro⟨b,w,l,f,c,i,g,h,a⟩;show(b,w,l,f,c.sameT T,i.sameT T,g,h,S _ _ (λz=>by rw[z,hd]at a;cases a) a)
theorem Jj5{ns:List Fr2}{p:Nat}(hn:∀ n∈ns,Lo n)(hx:Lo x)(h1:∀ y∈(ordO ns).take p,vl y<=vl x)(h2:∀ y∈(ordO ns).drop p,vl x<=vl y):ordO (ns++[x])=(ordO ns).take p++x::(ordO ns).drop p:=by
 let(b,c):=Jd7 (ns++[x]) λn h=>by
  rcases mem_append.mp h with h | h
  .show hn n h
  .rw[mem_singleton.mp h];show hx
 let(a,e):=Jd7 ns hn;let(f,d):=a.ins hx h1 h2;show b.perm_eq f (c.trans ?_);show List.Perm.trans ?_ d.symm;show List.Perm.trans ?_ (List.Perm.cons x e.symm);simpa using List.perm_append_comm (l₁:=ns) (l₂:=[x])
def lvP(s:Str->Fr2)(p:PD):Fr2:=lvl (s p.nm) p.wt
theorem Jfb(h:FB 910 800 (s p.nm))(hw:1<=p.wt)(sw:Mth.Sz 21 p.wt):FW 3000 3000 (lvP s p)/\Lo (lvP s p)/\1<=(s p.nm).2*p.wt:=by
 have a:=Jbg h.b1 hw;show(⟨(Mth.Sz.top ∅ h.s1).mono ⋯,(Mth.Sz.bot ∅ (h.s2.mul sw)).mono ⋯,Mth.Jct ∅⟩,Jem a,a)
theorem Jd4(f:PD->Fr2)(ls:List PD):lvls (ls.map f) (ls.map (·.wt))=ls.map λp=>lvl (f p) p.wt:=by
 unfold lvls;rw[List.zipWith_map,List.zipWith_self]
structure FTS(E Qb:Int)(ts:List Fr2):Prop where
 E1:1<=E
 sE:Mth.Sz 800 E
 q0:0<=Qb
 sQ:Mth.Sz 2200 Qb
 t:∀ t∈ts,FB 3200 900 t/\Dv E (vl t)/\0<=vl t/\vl t<=(Qb:Rat)
variable{Qb:Int}
theorem JkR:∀{ts:List Fr2},(∀ t∈ts,Dv E (vl t)/\0<=vl t/\vl t<=(Qb:Rat))->Dv E (smF ts)/\0<=smF ts/\smF ts<=((ts.length:Int):Rat)*(Qb:Rat)
 | [],_=>⟨Dv.int 0,Rat.le_refl,by simp[smF]⟩
 | a::ts,h=>by
  let(h1,h2,h3):=JkR (ts:=ts) λt ht=>h t (mem_cons_of_mem _ ht);let(a1,a2,a3):=h a (by simp);simp only[smF];show(a1.add h1,by grind,?_);have : (((a::ts).length:Int):Rat)=((ts.length:Int):Rat)+1:=by simp
  rw[this];grind
variable{ts:List Fr2}
theorem FTS.fb(h:FTS E Qb ts)(l8:ts.length<=8){i:Nat}(lu:Lo u)(hu:vl u=smF (ts.take i)):FB 3100 800 u:=by
 let(b,a,c):=JkR (ts:=ts.take i) λt e=>(h.t t (mem_of_mem_take e)).2;rw[<- hu]at b a c;have l:(ts.take i).length<=8:=by rw[length_take];ac_nf
 have j:(0:Rat)<=(Qb:Rat):=by exact_mod_cast h.q0
 have g:vl u<=((8*Qb:Int):Rat):=by
  show Rat.le_trans c ?_;have f:(((ts.take i).length:Int):Rat)<=8:=by exact_mod_cast (by ac_nf:((ts.take i).length:Int)<=8)
  have:=Rat.mul_le_mul_of_nonneg_right f j;push_cast;show this
 have d:Mth.Sz (4+2200) (8*Qb):=Mth.Sz.mul (by unfold Mth.Sz;decide) h.sQ;show(b.fb (m:=4+2200) lu.b1 lu.g1 h.E1 h.sE a g d).mono ⋯ ⋯
theorem FTS.nil(E1:1<=E)(sE:Mth.Sz 800 E)(b1:1<=b)(sb:Mth.Sz A b)(hA:A<=2000):FTS E (2 ^ 101*b) [] :=
 ⟨E1,sE,Int.mul_nonneg ⋯ ∅,(Mth.Sz.mul (m:=102) (i:=2 ^ 101) (by unfold Mth.Sz;decide) sb).mono ∅,λt a=>by cases a⟩
theorem FTS.snoc{t s:Fr2}(h:FTS E (2 ^ 101*b) ts)(ft:FB A B t)(e:vl t=vl s*(b:Rat))(d:Dv E (vl s))(b1:1<=b)(h0:0<=vl s)(h1:vl s<=((2 ^ 101:Int):Rat))(hA:A<=3200)(hB:B<=900):FTS E (2 ^ 101*b) (ts++[t]):=by
 have c:(0:Rat)<=(b:Rat):=by exact_mod_cast (by ac_nf:(0:Int)<=b)
 show(h.E1,h.sE,h.q0,h.sQ,λf a=>?_);rcases mem_append.mp a with a | a
 .show h.t f a
 .rw[mem_singleton.mp a];show(ft.mono hA hB,?_,?_,?_)
  .rw[e];show d.mul b
  .rw[e];show Rat.mul_nonneg h0 c
  .rw[e];have:=Rat.mul_le_mul_of_nonneg_right h1 c;push_cast at this ⊢;show this
theorem JmQ{ss:List Fr2}(h:∀(i:Nat) (p:PD) (s:Fr2),ls[i]?=some p->ss[i]?=some s->0<=vl s/\vl s<=vl p.mo){y:PD × Fr2}(hy:y∈ls.zip ss):0<=vl y.2/\vl y.2<=vl y.1.mo:=by
 let(i,a):=List.getElem?_of_mem hy;have:=List.getElem?_zip_eq_some.mp a;show h i _ _ this.1 this.2
theorem pow8{i:Nat}(hi:i<=8):1<=(8:Int) ^ i/\Mth.Sz 25 ((8:Int) ^ i):=by
 have : i=0\/i=1\/i=2\/i=3\/i=4\/i=5\/i=6\/i=7\/i=8:=by ac_nf
 unfold Mth.Sz;rcases this with rfl | rfl | rfl | rfl | rfl | rfl | rfl | rfl | rfl <;> decide
theorem CTX.pow(c:CTX ls es pl E)(sE:Mth.Sz 774 E){i:Nat}(hi:i<=8):CTX ls es pl (E*8 ^ i) :=
 ⟨Jbg c.E1 (pow8 hi).1,(sE.mul (pow8 hi).2).mono ⋯,c.nd,c.l8,c.l6,c.wt,λp a=>⟨(c.mo p a).1,(c.mo p a).2.1,(c.mo p a).2.2.more _⟩,λe b=>⟨(c.rm e b).1,(c.rm e b).2.more _⟩,c.nm⟩
theorem FEA.more(f:FEA ls es pl E s)(k:Int):FEA ls es pl (E*k) s:=⟨f.lo,λp a=>(f.dv p a).more k,f.nn,f.mo,f.ft⟩
theorem FEA.up(f:FEA ls es pl (E*8 ^ i) s){j:Nat}(h:i<=j):FEA ls es pl (E*8 ^ j) s:=by
 have:=f.more (8 ^ (j-i));rw[Int.mul_assoc, <- Int.pow_add,Nat.add_sub_cancel' h]at this;show this
theorem LFT.self(f:FEA ls es pl E s)(hp:p∈ls):LFT ls es pl E s p (s p.nm):=⟨f.lo p hp,f.dv p hp,Rat.le_refl,f.mo p hp,λe a _=>by have:=f.ft e a;grind⟩
variable{E':Int}
theorem FEA.put(c:CTX ls es pl E)(f:FEA ls es pl E' s)(hp:p∈ls)(h:LFT ls es pl E s p x)(lo:Lo y)(dv:Dv E' (vl y))(y0:0<=vl y)(yx:vl y<=vl x):FEA ls es pl E' (updF s p.nm y):=by
 show(λq a=>?_,λq a=>?_,λq a=>?_,λq a=>?_,λe d=>?_)
 .unfold updF;split;show lo;show f.lo q a
 .unfold updF;split;show dv;show f.dv q a
 .unfold updF;split;show y0;show f.nn q a
 .unfold updF;split
  .rename_i e;rw[Jfs c.nd a hp e];show Rat.le_trans yx h.mo
  .show f.mo q a
 .by_cases m:p.nm∈e.2
  .rw[Jhh (c.nm e d).2 m];have:=h.ft e d m;grind
  .rw[Ja7 (b:=λn=>vl (s n)) λq a=>by
    unfold updF;by_cases z:q=p.nm
    .rw[z]at a;show absurd a m
    .rw[if_neg z]]
   show f.ft e d
theorem FEA.zero(c:CTX ls es pl E)(hr:∀ e∈es,0<=vl (roomF pl e.1)):FEA ls es pl E (λ_=>(0,1)):=by
 have z:∀ l:List Str,sm (λ_=>vl ((0,1):Fr2)) l=0:=λl=>by
  induction l with
  | nil=>rfl
  | cons a l ih=>simp only[sm];rw[ih,Jdj];grind
 show(λp b=>⟨Int.le_refl 1,by unfold Mth.g;simp⟩,λp b=>by rw[Jdj];show Dv.int 0,λp b=>by rw[Jdj];show Rat.le_refl,λp b=>by rw[Jdj];show(c.mo p b).2.1,λe d=>by rw[z];show hr e d)
theorem Jkx{m:Int}(hx:Lo x)(h0:0<=vl x)(d:Dv E (vl x))(m0:0<=m)(m8:m<=8):Lo (Mth.top (x.1*m) (x.2*8),Mth.bot (x.1*m) (x.2*8))/\Dv (E*8) (vl (Mth.top (x.1*m) (x.2*8),Mth.bot (x.1*m) (x.2*8)))/\0<=vl (Mth.top (x.1*m) (x.2*8),Mth.bot (x.1*m) (x.2*8))/\vl (Mth.top (x.1*m) (x.2*8),Mth.bot (x.1*m) (x.2*8))<=vl x:=by
 have a:1<=x.2*8:=Jbg hx.b1 ⋯;have h:=JaE hx.b1;have e:vl (Mth.top (x.1*m) (x.2*8),Mth.bot (x.1*m) (x.2*8))*8=vl x*(m:Rat):=by
  rw[JgD a];unfold vl;push_cast;grind
 have c:(0:Rat)<=(m:Rat):=by exact_mod_cast m0
 have b:(m:Rat)<=8:=by exact_mod_cast m8
 have f:=Rat.mul_nonneg h0 c;have g:=Rat.mul_le_mul_of_nonneg_left b h0;show(Jem a,Dv.over (k:=8) ⋯ ?_,by grind,by grind);have:=d.mul m;rw[<- e]at this;show this
def SLV(K:W.Frag)(H:Hp)(ls:List PD)(s:Str->Fr2)(x:V):Prop:=∃ d,x=.ref d/\SLD K H 20 d ls s
theorem SLD.ne{q:Addr}{xs:List V}(hq:H q=some (.lst xs))(T:SameT H H')(S:∀ b u,b≠q->H b=some u->H' b=some u):SLD K H n d ls s->SLD K H' n d ls s:=λ⟨f,a,c,i⟩=>⟨f,S _ _ (λz=>by rw[z,hq]at a;cases a) a,c,λp g=>by
 let(v,e,h):=i p g;show(v,e,FrV.sameT T h)⟩
theorem SLD.mono{m:Nat}(h:n<=m):SLD K H n d ls s->SLD K H m d ls s:=by rintro⟨c,b,a,e⟩;show(c,b,Nat.le_trans a h,e)
theorem JiK{Q:V->Prop}(h:SLD K H n d ls s)(hp:p∈ls)(k:∀ v,FrV K H v (s p.nm).1 (s p.nm).2->Q v):∃ d' v,V.ref d=.ref d'/\DGet H d' (.str p.nm) (some v)/\Q v:=by
 let(g,a,f,e):=h;let(v,b,c):=e p hp;show(d,v,rfl,by rw[<- b];show DGet.k (k:=Sum.inr p.nm) a,k v c)
theorem Jjh{Q:Hp->Prop}(h:SLD K H n d ls s)(fv:FrV K H v x.1 x.2)(hn:n<=900)(k:∀ H',(∀ b u,b≠d->H b=some u->H' b=some u)->SLD K H' (n+1) d ls (updF s p.nm x)->Q H'):∃ d' H',V.ref d=.ref d'/\DPut H d' (.str p.nm) v H'/\Q H':=by
 let(l,a,f,o):=h;have t:(1000:Nat)<=sizeLine:=by decide
 show(d,_,rfl,DPut.k (k:=Sum.inr p.nm) a ∅,?_);generalize e:upd H d _=g;have i:SameT H g:=SameT.put e a rfl;show k g (λb u j h=>by rw[<- e,Jai j];show h) ⟨_,putE e,by have:=Jbf l (Sum.inr p.nm) v;ac_nf,λq m=>?_⟩;rw[Jd8];by_cases c:q.nm=p.nm
 .show(v,by rw[if_pos (by rw[c])],?_);rw[show updF s p.nm x q.nm=x from if_pos c];show FrV.sameT i fv
 .let(r,a,f):=o q m;show(r,by rw[if_neg (λz=>c (Sum.inr.inj z))];show a,?_);rw[show updF s p.nm x q.nm=s q.nm from if_neg c];show FrV.sameT i f
theorem SLD.len(h:SLD K H n d ls s):∃ kv,H d=some (.dK kv):=⟨_,h.choose_spec.1⟩
theorem JgG{Q:VK}(h:SLD K H n d ls s)(k:∀ d' H',H d'=none->Same H H'->SLD K H' n d' ls s->Q (.ref d') H'):JkN [.ref d] H Q:=by
 let(b,e,c,j):=h;show(d,b,rfl,e,λp a=>?_);generalize q:upd H p _=i;have S:=newS a q;show k p i a S ⟨b,newE q,c,λp a=>by
  let(v,f,g):=j p a;show(v,f,g.same S)⟩
theorem Jkq{Q:Hp->Prop}(h:SLD K H n d (ls.take i) s)(hp:ls[i]?=some p)(fv:FrV K H v (s p.nm).1 (s p.nm).2)(hn:n<=900)(k:∀ H',(∀ b u,b≠d->H b=some u->H' b=some u)->SLD K H' (n+1) d (ls.take (i+1)) s->Q H'):∃ d' H',V.ref d=.ref d'/\DPut H d' (.str p.nm) v H'/\Q H':=by
 let(o,e,g,r):=h;have w:(1000:Nat)<=sizeLine:=by decide
 show(d,_,rfl,DPut.k (k:=Sum.inr p.nm) e ∅,?_);generalize f:upd H d _=j;have l:SameT H j:=SameT.put f e rfl;show k j (λb u m h=>by rw[<- f,Jai m];show h) ⟨_,putE f,by have:=Jbf o (Sum.inr p.nm) v;ac_nf,λq a=>?_⟩;rw[Jd8];by_cases c:q.nm=p.nm
 .show(v,by rw[if_pos (by rw[c])],?_);rw[c];show FrV.sameT l fv
 .rw[take_succ,hp]at a;rcases mem_append.mp a with a | a
  .let(t,e,g):=r q a;show(t,by rw[if_neg (λz=>c (Sum.inr.inj z))];show e,FrV.sameT l g)
  .show absurd (by rw[show q=p by simpa using a]) c
end
def rNotB:R2:=λx y H Q=>∃ a b,x=.bl a/\y=.bl b/\Q (.bl (!decide (a=b))) H
theorem JlK:OpR X (compareOp .IsNot) rNotB:=λc s σ H x y v u Q I e d q=>by
 let(a,b,rfl,rfl,q):=q;cases e;cases d;show wpAny_isNot_plain (by cases a <;> cases b <;> rfl) ⟨.bl (!decide (a=b)),H,I,?_,q⟩;cases a <;> cases b <;> rfl
section
variable{n:Nat}{pl s':Str->Fr2}{E E':Int}{u:Fr2}{K:W.Frag}{i:Nat}{s:Str->Fr2}{f:Str->Rat}
theorem JeD{a b:Rat}(h:a=b):a<=b:=h ▸ Rat.le_refl
theorem JiF:∀{A B:List Fr2},eqL (A.map frD) (B.map frD)=decide (A=B)
 | [],[]=>rfl
 | [],b::B=>by simp[eqL]
 | a::A,[]=>by simp[eqL]
 | a::A,b::B=>by
  simp only[map_cons,eqL,JiF,frD,eqD];rw[Bool.eq_iff_iff];simp[Prod.ext_iff]
theorem Jg6{m:Nat}:∀ xs:List Fr2,(∀ x∈xs,1<=x.2/\Mth.Sz m x.2)->∃ P:Int,1<=P/\Mth.Sz (1+m*xs.length) P/\∀ x∈xs,Dv P (vl x)
 | [],_=>⟨1,Int.le_refl 1,Mth.Sz.mono (m:=1) (by unfold Mth.Sz;decide) ∅,λx hx=>by cases hx⟩
 | a::xs,h=>by
  let(P,h1,h2,h3):=Jg6 xs λx hx=>h x (mem_cons_of_mem _ hx);let(a1,a2):=h a (by simp);show(P*a.2,Jbg h1 a1,(h2.mul a2).mono (by rw[length_cons,Nat.mul_add];ac_nf),λx hx=>?_);rcases mem_cons.mp hx with rfl | hx
  .have : Dv x.2 (vl x):=⟨x.1,by unfold vl;show Rat.div_mul_cancel (JaE a1)⟩;have:=this.more P;rw[Int.mul_comm]at this;show this
  .show(h3 x hx).more _
def slF(rs:List ShD)(n:Str):Fr2:=((rs.find? λr=>decide (r.nm=n)).map (·.sl)).getD (0,1)
theorem JkQ:∀{rs:List ShD}{r:ShD},(rs.map (·.nm)).Nodup->r∈rs->slF rs r.nm=r.sl:=λ{rs} {r} hn hr=>by
 unfold slF;cases e:rs.find? λy=>decide (y.nm=r.nm)with
 | none=>
  have:=List.find?_eq_none.mp e r hr;simp at this
 | some y=>
  have d:=List.mem_of_find?_eq_some e;have a:=List.find?_some e;have a:y.nm=r.nm:=by simpa using a
  have : y=r:=by
   let(i,b):=List.getElem?_of_mem d;let(j,c):=List.getElem?_of_mem hr;have f:=(List.getElem?_eq_some_iff.mp b).1;have e:=(List.getElem?_inj (l:=rs.map (·.nm)) (i:=i) (j:=j) (by rw[length_map];show f) hn).mp (by rw[List.getElem?_map,List.getElem?_map,b,c];show congrArg some a);rw[<- e,b]at c;show Option.some.inj c
  rw[this];rfl
structure TLD(ls:List PD)(es:List (GD × List Str))(pl:Str->Fr2)(rs:List ShD)(s:Str->Fr2)(f:Str->Rat)(E:Int):Prop where
 row:∀(i:Nat) p r,ls[i]?=some p->rs[i]?=some r->r.nm=p.nm/\r.sl=s p.nm
 ctx:CTX ls es pl E
 sE:Mth.Sz 774 E
 fea:FEA ls es pl E s
 fair:Fair (ls.map (·.nm)) (wtF ls) (moF ls) (gpF es pl) f
 val:∀ p∈ls,vl (s p.nm)=f p.nm*(p.wt:Rat)
theorem ShR.told(hc:SHC ls es pl)(h8:ls.length<=8)(h6:es.length<=6)(hm:∀ p∈ls,FB 100 6 p.mo)(hr:∀ e∈es,FB 101 3 (roomF pl e.1))(h:ShR ls es pl rs):∃ f E,TLD ls es pl rs (slF rs) f E:=by
 have o:=h.k hc hm;let(H,f,D,F,R):=h;have l:(rs.map (·.nm)).Nodup:=o.nm ▸ hc.nd;let(P,u,n,B):=Jg6 (m:=3) (es.map λe=>roomF pl e.1) λx s=>by
  let(e,g,rfl):=mem_map.mp s;show((hr e g).b1,(hr e g).s2)
 let(G,A,t,z):=Jg6 (m:=6) (ls.map (·.mo)) λx s=>by
  let(p,a,rfl):=mem_map.mp s;show((hm p a).b1,(hm p a).s2)
 rw[length_map]at n t;have d:∀ p∈ls, ∃(i:Nat)(r:ShD),ls[i]?=some p/\rs[i]?=some r/\slF rs p.nm=r.sl:=λp a=>by
  let(i,b):=List.getElem?_of_mem a;have I:=(List.getElem?_eq_some_iff.mp b).1;have hr:=List.getElem?_eq_getElem (by ac_nf:i<rs.length);have c:=R i p _ b hr;show(i,_,b,hr,by rw[<- c.nm];show JkQ l (List.mem_of_getElem? hr))
 have j:∀ p∈ls,vl (slF rs p.nm)=f p.nm*(p.wt:Rat):=λp a=>by
  let(i,r,b,hr,e):=d p a;rw[e];show(R i p r b hr).val
 have v:D*(P*G)=P*(D*G):=Int.mul_left_comm ..;have y:D*(P*G)=G*(D*P):=by rw[Int.mul_left_comm,Int.mul_comm D G,Int.mul_left_comm,Int.mul_comm P D]
 show(f,D*(P*G),λi p r b hr=>?_,⟨Jbg F.D1 (Jbg u A),?_,hc.nd,h8,h6,λp a=>⟨(hc.pok p a).w,hc.wt p a⟩,λp a=>⟨hm p a,(vl_nn (hm p a).b1).mpr (hc.pok p a).m0,?_⟩,λe g=>⟨hr e g,?_⟩,F.sub⟩,?_,⟨λp a=>?_,λp a=>?_,λp a=>?_,λp a=>?_,λe g=>?_⟩,F.fair,j)
 .have c:=R i p r b hr;show(c.nm,by rw[<- c.nm];show(JkQ l (List.mem_of_getElem? hr)).symm)
 .show(F.sD.mul (n.mul t)).mono ∅
 .rw[y];show(z _ (mem_map.mpr ⟨p,a,rfl⟩)).more _
 .rw[v];show(B _ (mem_map.mpr ⟨e,g,rfl⟩)).more _
 .show(F.sD.mul (n.mul t)).mono ∅
 .let(i,r,b,hr,e):=d p a;rw[e];show(R i p r b hr).lo
 .rw[j p a];show((F.dv _ (mem_map.mpr ⟨p,a,rfl⟩)).mul _).more _
 .let(i,r,b,hr,e):=d p a;rw[e];show(o.bd i p r b hr).1
 .let(i,r,b,hr,e):=d p a;rw[e];show(o.bd i p r b hr).2.1
 .have:=F.fair.fit ⟨vl (roomF pl e.1),e.2⟩ (mem_map.mpr ⟨e,g,rfl⟩);show Rat.le_trans (JeD (Ja7 λq C=>?_)) this;let(p,a,rfl):=Jc9 ((F.sub e g).1 q C);rw[j p a,JdX hc.nd a]
theorem FEA.shp(c:CTX ls es pl E)(h:FEA ls es pl E s):ShP ls es (ls.map λp=>s p.nm) pl:=by
 show(λi p z a d=>?_,λe f=>?_)
 .rw[List.getElem?_map,a]at d;have a:=List.mem_of_getElem? a;rw[<- Option.some.inj d];show(h.nn p a,h.mo p a)
 .show Rat.le_trans (JeD (Ja7 λq g=>?_)) (h.ft e f);let(p,a,rfl):=Jc9 ((c.nm e f).1 q g);let(i,b):=List.getElem?_of_mem a;show JkU (x:=(p,s p.nm)) c.nd (List.mem_of_getElem? (i:=i) (List.getElem?_zip_eq_some.mpr ⟨b,by rw[List.getElem?_map,b];rfl⟩))
theorem CTX.bds(c:CTX ls es pl E)(h:FEA ls es pl E s):∀ p∈ls,FB 910 800 (s p.nm)/\1<=p.wt/\Mth.Sz 21 p.wt:=λp a=>⟨h.fb c a,c.wt p a⟩
theorem FEA.fbs(c:CTX ls es pl E)(h:FEA ls es pl E s):∀ z∈ls.map (λp=>s p.nm),FB 910 800 z/\Dv E (vl z):=λz b=>by
 let(p,a,rfl):=mem_map.mp b;show(h.fb c a,h.dv p a)
theorem TLD.none(t:TLD ls es pl rs s f E)(c:CTX ls es pl E')(h:FEA ls es pl E' s'):fairB (ordO (ls.map (lvP s'))) (ordO (ls.map (lvP s)))=false/\fairB (ordO (ls.map (lvP s))) (ordO (ls.map (lvP s')))=!decide (ordO (ls.map (lvP s))=ordO (ls.map (lvP s')))/\notB (ordO (ls.map (lvP s'))) (ordO (ls.map (lvP s)))=true:=by
 have j:=t.ctx.bds t.fea;have l:=c.bds h;have k:∀{s:Str->Fr2},(∀ p∈ls,FB 910 800 (s p.nm)/\1<=p.wt/\Mth.Sz 21 p.wt)->∀ p∈ls,Lo (lvP s p)/\vl (lvP s p)*(p.wt:Rat)=vl (s p.nm):=λ{s} hb p d=>by
  let(F,G,K):=hb p d;let(_,P,T):=Jfb F G K;show(P,?_);have V:=JaE G;have W:=JaE F.b1;unfold lvP lvl;rw[JgD T];unfold vl;push_cast;grind
 have o:∀{s:Str->Fr2},(∀ p∈ls,FB 910 800 (s p.nm)/\1<=p.wt/\Mth.Sz 21 p.wt)->Srt (ordO (ls.map (lvP s)))/\(ordO (ls.map (lvP s))).Perm (ls.map (lvP s)):=λ{s} hb=>Jd7 _ λz M=>by
  let(p,d,rfl):=mem_map.mp M;show(k hb p d).1
 have v:=t.ctx.nd
 let u:(Str->Fr2)->Str->Fr2:=λs n=>((ls.find? λp=>decide (p.nm=n)).map (lvP s)).getD (0,1)
 have i:∀(s:Str->Fr2), ∀ p∈ls,u s p.nm=lvP s p:=λs p d=>by
  show((ls.find? λq=>decide (q.nm=p.nm)).map (lvP s)).getD (0,1)=_;rw[Jfo v d];rfl
 have r:∀ s:Str->Fr2,(ls.map (·.nm)).map (u s)=ls.map (lvP s):=λs=>by
  rw[map_map];show List.map_congr_left λp d=>i s p d
 have R:∀ p∈ls,(0:Rat)<(p.wt:Rat):=λp d=>by exact_mod_cast (by have:=(j p d).2.1;ac_nf:0<p.wt)
 have C:=t.fair.lex (f':=λn=>vl (u s' n)) (a:=u s) (b:=u s') (A:=ordO (ls.map (lvP s))) (B:=ordO (ls.map (lvP s'))) (Jl4 v λp d=>(j p d).2.1) (λg D=>by
  let(e,x,rfl):=Jee D;show(c.nm e x).1) (λn y=>by
  let(p,d,rfl):=Jc9 y;have e:=(k l p d).2;have m:=h.mo p d;rw[i s' p d,JdR v d];have w:=R p d;rw[<- e]at m;have:=JaE (j p d).2.1;show Rat.le_of_mul_le_mul_right ?_ w;rw[Rat.div_mul_cancel this];show m) (λg D=>by
  let(e,x,rfl):=Jee D;show Rat.le_trans (JeD (Ja7 λq S=>?_)) (h.ft e x);let(p,d,rfl):=Jc9 ((c.nm e x).1 q S);rw[i s' p d,JdX v d];show(k l p d).2) (λn y=>by
  let(p,d,rfl):=Jc9 y;rw[i s p d];have e:=(k j p d).2;rw[t.val p d]at e;have:=JaE (j p d).2.1;grind) (λn y=>rfl) (o j).1 (o l).1 (by rw[r];show(o j).2) (by rw[r];show(o l).2)
 rcases C with e | C
 .have L:ls.map (lvP s)=ls.map (lvP s'):=List.map_congr_left λp d=>by
   have I:=(k j p d).2;have J:=e p.nm (mem_map.mpr ⟨p,d,rfl⟩);rw[i s' p d]at J;rw[t.val p d]at I;have:=JaE (j p d).2.1;have Q:vl (lvP s p)=vl (lvP s' p):=by grind
   show(k j p d).1.inj (k l p d).1 Q
  rw[L,Je8,Jgh,decide_eq_true rfl];show(rfl,rfl,rfl)
 .let(O,N,U,H):=JhC (o j).1 (o l).1 C;rw[O,N,U,decide_eq_false H];show(rfl,rfl,rfl)
end
end L2
open PySem L2
local macro_rules|`(tactic|rename_i $p:ident $h:ident $q:ident $H:ident $G:ident $S:ident $e:ident)=>`(tactic|(intro $p:ident $h:ident;generalize $q:ident:upd $H $p _=$G;have $S:ident:=newS $h $q;have $e:ident:=newE $q))
local macro_rules|`(tactic|bv_decide)=>`(tactic|exact ⟨rfl,rfl,rfl,by decide +kernel,rfl,by decide +kernel,by decide +kernel⟩)
local macro_rules|`(tactic|simpa! only [$xs,*])=>do let l<-(("y50y y51y y52y y73y y2by y6ey y81y y48y y2ey y7ay y94y y30y y3dy y74y y2fy y8ay y23y y29y y7by y76y y2ay y7cy y78y y5cy y96y y26y y88y y72y y4dy y6ay y7fy y33y y4by y70y y4cy y71y y6fy y8fy y66y y62y y91y y93y y25y y69y y24y yby yay y17y y1dy y1fy y21y y1ey y22y y86y y7ey y75y y8dy y97y y80y y27y V.int.injEq V.str.injEq V.bl.injEq y58y y5ay y2cy y2dy y6cy y61y y77y y67y y68y y3ey y3fy y40y y47y y49y y42y y7dy y43y y34y y36y y3by y41y y45y y53y y55y y5dy y38y y8cy y89y y37y y3cy y39y y3ay y5fy".splitOn " ").map (`L2++·.toName)++("true_and if_true if_false Bool.not_true Bool.not_false Bool.false_eq_true List.set_cons_zero List.set_cons_succ List.getElem?_cons_zero List.getElem?_cons_succ Option.some.injEq exists_eq_left exists_eq_left' Int.reduceToNat Int.reducePow append_nil nil_append cons_append reduceCtorEq decide_false decide_true".splitOn " ").map (·.toName)).toArray.mapM fun s=>`(Lean.Parser.Tactic.simpLemma|$(Lean.mkIdent s):term);`(tactic|simp only [$(Array.append (l.map fun x=>⟨x.raw⟩) xs.getElems),*])
local macro_rules|`(tactic|mstop)=>`(tactic|simpa! only [y84y])
local macro_rules|`(tactic|mstart)=>`(tactic|simpa! only [y84y,y4ey])
local macro_rules|`(tactic|cutsat)=>`(tactic|simpa! only [y84y,y85y])
local macro_rules|`(tactic|simp_all only [$xs,*])=>`(tactic|((try simpa! only [$xs,*]);repeat ((first|(with_reducible refine JfP fun _ _=>?_)|(with_reducible refine Nxt.go (by assumption) ?_));(try simpa! only [$xs,*]))))
local macro_rules|`(tactic|mvcgen)=>`(tactic|simp_all only [y4ey,y85y])
local macro_rules|`(tactic|mexact)=>`(tactic|simp_all only [y85y])
local macro_rules|`(tactic|mleave)=>`(tactic|simp_all only [y4ey])
local macro_rules|`(tactic|cbv)=>`(tactic|simp_all only [true_and])
local macro_rules|`(tactic|mspec)=>`(tactic|(try ((with_reducible refine Nxt.go (by assumption) ?_);cbv)))
local macro_rules|`(tactic|mframe)=>`(tactic|(mspec;cbv))
local macro_rules|`(tactic|mpure)=>`(tactic|repeat (refine And.intro (by first | exact JaK ⋯ | exact JaM ⋯ | exact JaL ⋯ | exact JaA ⋯ | exact Int.one_ne_zero | decide) ?_))
local macro_rules|`(tactic|simpa only [$xs,*])=>`(tactic|simpa! only [y84y, $xs,*])
namespace Prg
open PySem L2 Ch
variable{fd:FuncData}{dV:Value}{f:Addr}
def top(i:Nat):Stmt:=PySem.Challenge.pw_slackchain_k57_whole_none_is_fairer.main.body.getD i (.Pass ⟨0,0,0,0⟩)
set_option genInjectivity false in
structure Adr where
 NoNumber:Addr
 NoName:Addr
 Part:Addr
 Gap:Addr
 Joints:Addr
 Thing:Addr
 Scale:Addr
 Lid:Addr
 SMALL_LETTERS:Value
 LONGEST_NAME:Value
 ZERO:Addr
structure PartC(K:W.Frag)(C:Addr):Prop where
 cls:Cls K C
 n1:Ja4 K C "name"
 n2:Ja4 K C "start"
 n3:Ja4 K C "end"
 n4:Ja4 K C "size"
 n5:Ja4 K C "most"
 n6:Ja4 K C "weight"
def IsPart(Ad:Adr)(C:Addr):Prop:=C=Ad.Part
structure GapC(K:W.Frag)(C:Addr):Prop where
 cls:Cls K C
 n1:Ja4 K C "name"
 n2:Ja4 K C "one"
 n3:Ja4 K C "other"
 n4:Ja4 K C "low"
 n5:Ja4 K C "high"
def IsGap(Ad:Adr)(C:Addr):Prop:=C=Ad.Gap
structure Jk6(K:W.Frag)(C:Addr):Prop where
 cls:Cls K C
 n1:Ja4 K C "leads"
def Jdk(Ad:Adr)(C:Addr):Prop:=C=Ad.Joints
structure Jl6(K:W.Frag)(C:Addr):Prop where
 cls:Cls K C
 n1:Ja4 K C "parts_by_name"
 n2:Ja4 K C "gaps_by_name"
 n3:Ja4 K C "ways"
def Ja8(Ad:Adr)(C:Addr):Prop:=C=Ad.Thing
structure Jl5(K:W.Frag)(C:Addr):Prop where
 cls:Cls K C
 n1:Ja4 K C "bottom"
 n2:Ja4 K C "factors"
def Jda(Ad:Adr)(C:Addr):Prop:=C=Ad.Scale
structure LidC(K:W.Frag)(C:Addr):Prop where
 cls:Cls K C
 n1:Ja4 K C "name"
 n2:Ja4 K C "rest"
 n3:Ja4 K C "weights"
 n4:Ja4 K C "load"
 n5:Ja4 K C "last_level"
def IsLid(Ad:Adr)(C:Addr):Prop:=C=Ad.Lid
variable{H:Hp}{a C:Addr}{xs:List V}
theorem SqT.put{K:W.Frag}{x dx:Addr}{fs fs':List (Str × V)}(hx:H x=some (.ins C dx fs))(h:SqT K H a xs):SqT K (upd H x (.ins C dx fs')) a xs:=by
 rcases h with(h | ⟨o,h⟩) | h
 .show .inl (.inl (by rw[Jai (ne_of h hx (by intro z;cases z))];show h))
 .show .inl (.inr ⟨o,by rw[Jai (ne_of h hx (by intro z;cases z))];show h⟩)
 .show .inr h
def partF(n s e z m w:V):List (Str × V):=[("name",n),("start",s),("end",e),("size",z),("most",m),("weight",w)]
def gapF(n s e l g:V):List (Str × V):=[("name",n),("one",s),("other",e),("low",l),("high",g)]
structure Txt(K:W.Frag)(mg:Str->Option Value)(Ad:Adr):Prop where
 BdT:mg "abs"=none
 BaB:mg "isinstance"=none
 Bbm:mg "len"=none
 Bd0:mg "int"=none
 BdY:mg "bool"=none
 Bdp:mg "tuple"=none
 Bd9:mg "str"=none
 BbR:mg "range"=none
 BdZ:mg "list"=none
 Bd6:mg "min"=none
 BdH:mg "sorted"=none
 Bea:mg "all"=none
 n_sum:mg "sum"=none
 n_dict:mg "dict"=none
 Bd1:mg "zip"=none
 m_NoNumber:mg "NoNumber"=some (.ref Ad.NoNumber)
 BdU:mg "NoName"=some (.ref Ad.NoName)
 Bed:mg "Part"=some (.ref Ad.Part)
 Bee:mg "Gap"=some (.ref Ad.Gap)
 Bd7:mg "Joints"=some (.ref Ad.Joints)
 Beb:mg "Thing"=some (.ref Ad.Thing)
 Bec:mg "Scale"=some (.ref Ad.Scale)
 m_Lid:mg "Lid"=some (.ref Ad.Lid)
 Bcp:mg "SMALL_LETTERS"=some Ad.SMALL_LETTERS
 Bcq:RelV (.str "abcdefghijklmnopqrstuvwxyz") Ad.SMALL_LETTERS
 BcQ:mg "LONGEST_NAME"=some Ad.LONGEST_NAME
 BcR:RelV (.int 8) Ad.LONGEST_NAME
 Bcr:mg "ZERO"=some (.ref Ad.ZERO)
 Bcs:RelV (.ref Ad.ZERO) (.ref Ad.ZERO)
 Bct:∀ H:Hp,SqT K H Ad.ZERO [.int 0, .int 1]
 x_NoNumber:W.excIn K Ad.NoNumber [.type "ValueError", .type "Exception", .type "BaseException", .type "object"] "ValueError.__new__"=true
 Bb7:W.excIn K Ad.NoName [.type "ValueError", .type "Exception", .type "BaseException", .type "object"] "ValueError.__new__"=true
 BcS:∀ C,IsPart Ad C->PartC K C
 BdK:∀ C,IsGap Ad C->GapC K C
 Bb8:∀ C,Jdk Ad C->Jk6 K C
 Bbn:∀ C,Ja8 Ad C->Jl6 K C
 Bcu:∀ C,Jda Ad C->Jl5 K C
 c_Lid:∀ C,IsLid Ad C->LidC K C
def PEV(K:W.Frag)(H:Hp)(e:PD ⊕ D)(x:V):Prop:=match e with
 | .inl p=>PDV K H p x/\POk p
 | .inr c=>Rep K H c x/\szD c/\partB c=false
def GEV(K:W.Frag)(H:Hp)(e:GD ⊕ D)(x:V):Prop:=match e with
 | .inl g=>TV K H g.td x/\TOk g.td
 | .inr c=>Rep K H c x/\szD c/\gapB c=false
def POV(K:W.Frag)(Ad:Adr)(H:Hp)(p:PD)(v:V):Prop:=∃ q dx vz vm,v=.ref q/\H q=some (.ins Ad.Part dx (partF (.str p.nm) (.str p.st) (.str p.en) vz vm (.int p.wt)))/\FrV K H vz p.sz.1 p.sz.2/\FrV K H vm p.mo.1 p.mo.2
def GOV(K:W.Frag)(Ad:Adr)(H:Hp)(g:GD)(v:V):Prop:=∃ q dx vl vg,v=.ref q/\H q=some (.ins Ad.Gap dx (gapF (.str g.nm) (.str g.st) (.str g.en) vl vg))/\FrV K H vl g.lo.1 g.lo.2/\FrV K H vg g.hi.1 g.hi.2
section
variable{Ad:Adr}{H':Hp}{v x:V}{K:W.Frag}
def isTI:HO->Bool
 | .ins _ _ _=>true
 | u=>isTF u
def SameI(H H':Hp):Prop:=∀ b u,isTI u=true->H b=some u->H' b=some u
theorem SameI.t(S:SameI H H'):SameT H H':=λb u t h=>S b u (by cases u <;> first | show t | (simp[isTF]at t)) h
theorem Same.i(S:Same H H'):SameI H H':=λb u _ h=>S b u h
theorem PEV.same{e:PD ⊕ D}(S:Same H H')(h:PEV K H e x):PEV K H' e x:=by
 match e,h with
 | .inl t,h=>show(h.1.sameT S.t,h.2)
 | .inr c,h=>show(h.1.same S,h.2)
theorem GEV.same{e:GD ⊕ D}(S:Same H H')(h:GEV K H e x):GEV K H' e x:=by
 match e,h with
 | .inl t,h=>show(h.1.sameT S.t,h.2)
 | .inr c,h=>show(h.1.same S,h.2)
theorem POV.si{p:PD}(S:SameI H H'):POV K Ad H p v->POV K Ad H' p v:=by rintro⟨q,f,d,e,b,a,g,c⟩;show(q,f,d,e,b,S _ _ rfl a,g.sameT S.t,c.sameT S.t)
theorem GOV.si{g:GD}(S:SameI H H'):GOV K Ad H g v->GOV K Ad H' g v:=by rintro⟨q,f,d,e,b,a,h,c⟩;show(q,f,d,e,b,S _ _ rfl a,h.sameT S.t,c.sameT S.t)
end
def JK(Ad:Adr)(H0 H:Hp)(j d:Addr)(ls:List PD):Prop:=(∃ dx,H j=some (.ins Ad.Joints dx [("leads", .ref d)]))/\H0 d=none/\∃ kvs,H d=some (.dK kvs)/\kvs.length<=2*ls.length/\JD H0 H (JaH ls) kvs
variable{Ad:Adr}{H0 H':Hp}{d:Addr}{ls:List PD}
theorem JK.same{j:Addr}(S:Same H H'):JK Ad H0 H j d ls->JK Ad H0 H' j d ls:=λζ=>by let((g,c),b,a,h,e,f):=ζ;show(⟨g,S _ _ c⟩,b,a,S _ _ h,e,f.same S)
def TK(K:W.Frag)(Ad:Adr)(H:Hp)(x:Addr)(ls:List PD)(gs:List GD):Prop:=∃ dx d1 d2 d3 k1 k2 k3,H x=some (.ins Ad.Thing dx [("parts_by_name", .ref d1),("gaps_by_name", .ref d2),("ways", .ref d3)])/\H d1=some (.dK k1)/\BG (·.nm) (POV K Ad H) ls k1/\H d2=some (.dK k2)/\BG (·.nm) (GOV K Ad H) gs k2/\H d3=some (.dK k3)/\BG (·.nm) (WOV H ls) gs k3
variable{x:Addr}
theorem TK.same{K:W.Frag}{gs:List GD}(S:Same H H'):TK K Ad H x ls gs->TK K Ad H' x ls gs:=by rintro⟨m,l,g,o,j,k,c,f,d,a,b,h,n,e⟩;show(m,l,g,o,j,k,c,S _ _ f,S _ _ d,a.mono λ_ _ z=>z.si (Same.i S),S _ _ b,h.mono λ_ _ z=>z.si (Same.i S),S _ _ n,e.mono λ_ _ z=>z.same S)
def SameJ(d:Addr)(H H':Hp):Prop:=∀ b u,b≠d->(∀ xs,u≠.lst xs)->H b=some u->H' b=some u
theorem JgP{α:Type}{f : α->Str}{ls l0:List α}{p : α}{n:Nat}(h:ls++[p]=l0.take n)(hn:(l0.map f).Nodup):f p∉ls.map f:=λa=>by
 have:=((List.take_sublist n l0).map f).nodup hn;rw[<- h,map_append]at this;show(nodup_append.mp this).2.2 _ a _ (by simp) rfl
theorem Jl3(ht:Tree ls)(hn:(ls.map (·.nm)).Nodup)(i:Nat)(p:PD)(hp:ls[i]?=some p):¬ Conn (ls.take i) p.st p.en:=λz=>ht p (List.mem_of_getElem? hp) (z.sub λx a=>mem_filter.mpr ⟨mem_of_mem_take a,by
 rw[decide_eq_true_iff];showλe=>JgP (f:=(·.nm)) (p:=p) (n:=i+1) (by rw[take_succ,hp];rfl) hn (by rw[<- e];show mem_map.mpr ⟨x,a,rfl⟩)⟩)
def SCK(Ad:Adr)(H:Hp)(x:Addr)(b:Int)(fs:List Int):Prop:=∃ dx fl,H x=some (.ins Ad.Scale dx [("bottom", .int b),("factors", .ref fl)])/\H fl=some (.lst (fs.map V.int))/\Scl b fs/\Mth.Sz 2000 b/\fs.length<=30
theorem SCK.same{b:Int}{fs:List Int}(S:Same H H'):SCK Ad H x b fs->SCK Ad H' x b fs:=by rintro⟨d,f,c,a,e⟩;show(d,f,S _ _ c,S _ _ a,e)
def LDV(K:W.Frag)(Ad:Adr)(H:Hp)(e:LidD)(v:V):Prop:=∃ q dx vr vt wd,v=.ref q/\H q=some (.ins Ad.Lid dx [("name", .str e.nm),("rest",vr),("weights", .ref wd),("load", .int e.load),("last_level",vt)])/\FrV K H vr e.rest.1 e.rest.2/\FrV K H vt e.last.1 e.last.2/\H wd=some (.dK (wsK e.ws))
variable{e:LidD}{v:V}
theorem LDV.same{K:W.Frag}(S:Same H H'):LDV K Ad H e v->LDV K Ad H' e v:=by rintro⟨q,i,h,f,d,b,a,j,c,g⟩;show(q,i,h,f,d,b,S _ _ a,j.same S,c.same S,S _ _ g)
theorem LDV.keep{K:W.Frag}{q dq:Addr}{fs:List (Str × V)}(S:∀ b u,b≠q->H b=some u->H' b=some u)(hq:H q=some (.ins C dq fs))(hne:v≠.ref q):LDV K Ad H e v->LDV K Ad H' e v:=by
 rintro⟨j,m,l,i,g,c,d,k,f,a⟩;have T:SameT H H':=λb u t h=>S b u (λz=>by rw[z,hq]at h;cases h;simp[isTF]at t) h;show(j,m,l,i,g,c,S _ _ (λz=>hne (by rw[c,z])) d,k.sameT T,f.sameT T,S _ _ (λz=>by rw[z,hq]at a;cases a) a)
theorem Same.cutN(S:Same H H')(hd:H d=none):Same H (cut d H'):=λb u h=>by
 rw[JbV (λz=>by rw[z,hd]at h;cases h)];show S b u h
theorem SameT.cutO{o:HO}(h:H d=some o)(ho:isTF o=false):SameT H (cut d H):=λb u t a=>by
 rw[JbV (λz=>by rw[z,h]at a;cases a;rw[ho]at t;cases t)];show a
theorem LDV.notin{K:W.Frag}{es:List LidD}{u:HO}(hX:All2 (LDV K Ad H) es xs)(h:H a=some u)(hu:∀ dx fs,u≠.ins Ad.Lid dx fs):V.ref a∉xs:=λz=>by
 let(i,c):=List.getElem?_of_mem z;let(e,_,q,dx,j,g,f,b,d,_):=hX.at_ c;have b:a=q:=by injection b
 rw[b,d]at h;show hu _ _ (Option.some.inj h).symm
theorem LDV.dict{K:W.Frag}{kv:List (Key × V)}(S:∀ b u,b≠d->H b=some u->H' b=some u)(hd:H d=some (.dK kv))(hn:∀ wd,v=.ref wd->True)(h0:∀ q dx vr vt wd,H q=some (.ins Ad.Lid dx [("name", .str e.nm),("rest",vr),("weights", .ref wd),("load", .int e.load),("last_level",vt)])->v=.ref q->wd≠d):LDV K Ad H e v->LDV K Ad H' e v:=by
 rintro⟨g,dx,vr,vt,wd,c,a,i,f,j⟩;have T:SameT H H':=λb u t h=>S b u (λz=>by rw[z,hd]at h;cases h;simp[isTF]at t) h;show(g,dx,vr,vt,wd,c,S _ _ (λz=>by rw[z,hd]at a;cases a) a,i.sameT T,f.sameT T,S _ _ (h0 _ _ _ _ _ a c) j)
def ShV(K:W.Frag)(H:Hp)(r:ShD)(v:V):Prop:=∃ p vs t,v=.ref p/\SqT K H p [.str r.nm,vs, .ref t]/\FrV K H vs r.sl.1 r.sl.2/\SqT K H t (match r.sp with | none=>[.str (Str.ofString "most")] | some g=>[.str (Str.ofString "gap"), .str g])
variable{r:ShD}
theorem ShV.sameT{K:W.Frag}(S:SameT H H'):ShV K H r v->ShV K H' r v:=by rintro⟨p,d,t,b,a,e,c⟩;show(p,d,t,b,a.sameT S,e.sameT S,c.sameT S)
def shD(r:ShD):D:=.tup [.str r.nm,frD r.sl, .tup (match r.sp with | none=>[.str (Str.ofString "most")] | some g=>[.str (Str.ofString "gap"), .str g])]
theorem ShV.rep{K:W.Frag}(h:ShV K H r v):Rep K H (shD r) v:=by
 let(p,d,t,rfl,c,b,a):=h;have b:=FrV.rep b;cases e:r.sp with
 | none=>
  rw[e]at a;unfold shD;rw[e];simp only[Rep,RepL];show(p,_,rfl,c,_,_,rfl,rfl,_,_,rfl,by simpa only[Rep,RepL,frD]using b,_,_,rfl,⟨t,_,rfl,a,_,_,rfl,rfl,rfl⟩,rfl)
 | some g=>
  rw[e]at a;unfold shD;rw[e];simp only[Rep,RepL];show(p,_,rfl,c,_,_,rfl,rfl,_,_,rfl,by simpa only[Rep,RepL,frD]using b,_,_,rfl,⟨t,_,rfl,a,_,_,rfl,rfl,_,_,rfl,rfl,rfl⟩,rfl)
section
variable{P:Program}{mg:Str->Option Value}{base:Heap}{w:World}{K:W.Frag}
seal PE PA PS PSs PT PW PG PGs PI PO
local macro_rules|`(%[$xs,*|0])=>do let r:Lean.Term<-xs.getElems.foldrM (fun x (a:Lean.Term)=>`(Jaa $x $a)) (<-`(Jac));return r
local macro_rules|`(!$n:num)=>`(pe_ix ix_U (pv $n) Jad)
local macro_rules|`($k:num∘[$xs,*]∘$s)=>`(FnOk $(Lean.mkIdent `P) $(Lean.mkIdent `w) $(Lean.mkIdent `K) $(Lean.mkIdent `mg) $(Lean.mkIdent `base) (CX1 $(Lean.mkIdent `P) $(Lean.mkIdent `w)) $k $(Lean.mkIdent `f) $(Lean.mkIdent `fd) [$xs,*] $s)|`($k:num∘$n:str∘[$xs,*]∘$s)=>`(Cal $(Lean.mkIdent `P) $(Lean.mkIdent `w) $(Lean.mkIdent `K) $(Lean.mkIdent `mg) $(Lean.mkIdent `base) $k $n [$xs,*] [] $s)|`($k:num∘$n:str∘($c)∘[$xs,*]∘$s)=>`(MCal $(Lean.mkIdent `P) $(Lean.mkIdent `w) $(Lean.mkIdent `K) $(Lean.mkIdent `mg) $(Lean.mkIdent `base) $k $n $c [$xs,*] $s)|`($n:str∘$t:ident)=>`(FunD $(Lean.mkIdent `K) $n $n $t $(Lean.mkIdent `dV) $(Lean.mkIdent `f) $(Lean.mkIdent `fd))|`($n:str∘$q:str∘$t:ident)=>`(FunD $(Lean.mkIdent `K) $n $q $t $(Lean.mkIdent `dV) $(Lean.mkIdent `f) $(Lean.mkIdent `fd))
abbrev Bak:Stmt:=top 11
theorem JaZ:Jan ["one","other","greater","lesser","rest"] ["one","other"] (Jaf Bak):=by bv_decide
def JaG  : Sp:=λvs H Q E=>∃(a b:Int),vs=[.int a, .int b]/\Q (.int (Mth.g a b)) H
theorem JdI(F:"common_divisor"∘Bak)(T:Txt K mg Ad)  : 1∘["one","other"]∘(JaG):=by
 show F.okn JaZ (by subst_eqs) (λn A d s H p Q E r h=>?_)
 let(a,b,rfl,h):=h;have k:=r.units;show(_,(Jab (Jaj 2 JaZ.nd (Jar Jdl rfl T.BdT Jhp %[pv 0|0])) (Jab (Jaj 3 JaZ.nd (Jar Jdl rfl T.BdT Jhp %[pv 1|0])) (Jab (Jc8 PassesOwn.never (Jay (JcP k) (pv 3) Jad (JaB _)) (Jab (Jaj 4 JaZ.nd (pe_op JaC (pv 2) (pv 3))) (Jab (Jaj 2 JaZ.nd (pv 3)) (Jag (Jaj 3 JaZ.nd (pv 4)))))) (Jag (Jaq (pv 2)))))),?_)
 clear k;show tSeq _ _ _ [some (.int a),some (.int b),none,none,none] H;try mstop
 show(λm σ l=>∃(x y:Int)(z:Option V),σ=[some (.int a),some (.int b),some (.int x),some (.int y),z]/\l=H/\0<=x/\0<=y/\Mth.g x y=Mth.g a b/\y.toNat=m,⟨_,_,_,none,rfl,rfl,Mth.Jkp a,Mth.Jkp b,Mth.Bd8 a b,rfl⟩,?_);intro m σ l z_;let(x,y,z,rfl,rfl,t,o,j,rfl):=z_;try mstop
 by_cases c:y=0
 .subst c;rw[if_neg (by simp)];have e:Mth.g a b=x:=by rw[<- j,Mth.JkD];ac_nf
  rw[e]at h;show h
 .rw[if_pos (by simp[c])];have f:=Mth.fm (x:=x) (y:=y) ∅;show(_,λ_ _ q=>q,c,(x.fmod y).toNat,by ac_nf,y,x.fmod y,_,rfl,rfl,o,f.1,by rw[Mth.JiJ ∅];show j,rfl)
abbrev BcT:Stmt:=top 12
theorem JfN:Jan ["one","other","shared","top","rest"] ["one","other"] (Jaf BcT):=by bv_decide
def JeN(K:W.Frag):Sp:=λvs H Q E=>∃(x y:V)(a b c d:Int),vs=[x,y]/\FrV K H x a b/\FrV K H y c d/\Mth.Sz 4000 a/\Mth.Sz 4000 b/\Mth.Sz 4000 c/\Mth.Sz 4000 d/\1<=b/\1<=d/\Mth.g a b=1/\Mth.g c d=1/\∀ p H',Same H H'->H' p=some (.tup [.int (Mth.top (a*d+c*b) (b*d)), .int (Mth.bot (a*d+c*b) (b*d))])->Q (.ref p) H'
theorem JlF(F:"plus"∘BcT)(T:Txt K mg Ad)(Bac:1∘"common_divisor"∘["one","other"]∘(JaG)):2∘["one","other"]∘(JeN K):=by
 show F.okn JfN (by subst_eqs) (λB A l s H D Q E u h=>?_)
 let(x,y,a,b,c,d,rfl,h):=h;show(_,(Jab (Jaj 2 JfN.nd (Bac.ev u ⋯ rfl passF %[!0,!1|0])) (Jab (Jaj 3 JfN.nd (pe_op Ja1 (pe_op JaD (!0) (pe_op Jat (!1) (pv 2))) (pe_op JaD (!1) (pe_op Jat (!0) (pv 2))))) (Jab (Jaj 4 JfN.nd (Bac.ev u ⋯ rfl passF %[pv 3,pv 2|0])) (Jag (Jaq (JaJ %[pe_op Jat (pv 3) (pv 4),pe_op JaD (pe_op Jat (!0) (pv 2)) (pe_op Jat (!1) (pv 4))|0])))))),?_)
 let(j,e,X,L,N,o,U,V,J,G,k):=h;show tSeq _ _ _ [some x,some y,none,none,none] H;try mstop
 show ixF1 j (ixF1 e ?_);try mstop
 show(_,_,rfl,?_);try mstop
 have Y:=Mth.g_pos (a:=b) (b:=d) ∅;have I:=Mth.JcO b d;have q:=Mth.JbW b d;have v:Mth.Sz 4000 (Mth.g b d):=Nat.lt_of_le_of_lt (by have:=Mth.g_le (a:=b) (b:=d) ∅;ac_nf:(Mth.g b d).natAbs<=d.natAbs) o;have m:DivOk (Mth.g b d):=divOk ∅ v;have r:=L.fdiv I ∅;have M:=o.fdiv q ∅;show ixF0 j (ixF1 e ?_);try mstop
 show(m,mulOk X M,ixF0 e (ixF1 j ?_));try mstop
 show(m,mulOk N r,?_);show(_,_,rfl,?_);have n:=Mth.JlR U V J G (s:=Mth.g b d) rfl rfl rfl;generalize ht:a*d.fdiv (Mth.g b d)+c*b.fdiv (Mth.g b d)=t at n ⊢;have Z:=Mth.g_pos (a:=t) (b:=Mth.g b d) ∅;have C:=Mth.JbW t (Mth.g b d);have R:Mth.Sz 4000 (Mth.g t (Mth.g b d)):=Nat.lt_of_le_of_lt (by have:=Mth.g_le (a:=t) (b:=Mth.g b d) ∅;ac_nf:(Mth.g t (Mth.g b d)).natAbs<=(Mth.g b d).natAbs) v;have z:DivOk (Mth.g t (Mth.g b d)):=divOk ∅ R;try mstop
 show(z,ixF1 j ?_);try mstop
 show(m,ixF1 e ?_);try mstop
 show(z,mulOk r (o.fdiv (Int.dvd_trans C q) ∅),len2,?_);show Jep λp O S W=>k p O S ?_;rw[W,n.1,n.2]
abbrev Bcc:Stmt:=top 13
theorem Jkg:Jan ["one","other"] ["one","other"] (Jaf Bcc):=by bv_decide
def Jdw(K:W.Frag):Sp:=λvs H Q E=>∃(x y:V)(a b c d:Int),vs=[x,y]/\FrV K H x a b/\FrV K H y c d/\Mth.Sz 4000 a/\Mth.Sz 4000 b/\Mth.Sz 4000 c/\Mth.Sz 4000 d/\1<=b/\1<=d/\Mth.g a b=1/\Mth.g c d=1/\∀ p H',Same H H'->H' p=some (.tup [.int (Mth.top (a*d-c*b) (b*d)), .int (Mth.bot (a*d-c*b) (b*d))])->Q (.ref p) H'
theorem Jj0(F:"minus"∘Bcc)(T:Txt K mg Ad)(Bb9:2∘"plus"∘["one","other"]∘(JeN K)):3∘["one","other"]∘(Jdw K):=by
 show F.okn Jkg (by subst_eqs) (λi A e s H j Q E u h=>?_)
 let(x,y,a,b,c,d,rfl,h):=h;show(_,(Jag (Jaq (Bb9.ev u ⋯ rfl passF %[pv 0,JaJ %[pe_un Jfe (!1),!1|0]|0]))),?_);let(B,g,L,r,z,G,C,I,o,m,k):=h;show tRet _ _ [some x,some y] H;try mstop
 show ixF0 g ?_;try mstop
 show ixF1 g ?_;try mstop
 show(len2,?_);rename_i p v q H M S J;show(_,_,a,b, -c,d,rfl,B.same S,FrV.of J,L,r,z.neg,G,C,I,o,by rw[Mth.g_neg];show m,λt l D n=>k t l (S.trans D) ?_);rw[n,Int.neg_mul, <- Int.sub_eq_add_neg]
abbrev Bcd:Stmt:=top 14
theorem JfO:Jan ["one","other","across","back"] ["one","other"] (Jaf Bcd):=by bv_decide
def Jdx(K:W.Frag):Sp:=λvs H Q E=>∃(x y:V)(a b c d:Int),vs=[x,y]/\FrV K H x a b/\FrV K H y c d/\Mth.Sz 4000 a/\Mth.Sz 4000 b/\Mth.Sz 4000 c/\Mth.Sz 4000 d/\1<=b/\1<=d/\Mth.g a b=1/\Mth.g c d=1/\∀ p H',Same H H'->H' p=some (.tup [.int (Mth.top (a*c) (b*d)), .int (Mth.bot (a*c) (b*d))])->Q (.ref p) H'
theorem Jj2(F:"times"∘Bcd)(T:Txt K mg Ad)(Bac:1∘"common_divisor"∘["one","other"]∘(JaG)):2∘["one","other"]∘(Jdx K):=by
 show F.okn JfO (by subst_eqs) (λz A l s H C Q E n h=>?_)
 let(x,y,a,b,c,d,rfl,h):=h;show(_,(Jab (Jaj 2 JfO.nd (Bac.ev n ⋯ rfl passF %[!0,!1|0])) (Jab (Jaj 3 JfO.nd (Bac.ev n ⋯ rfl passF %[!1,!0|0])) (Jag (Jaq (JaJ %[pe_op JaD (pe_op Jat (!0) (pv 2)) (pe_op Jat (!1) (pv 3)),pe_op JaD (pe_op Jat (!0) (pv 3)) (pe_op Jat (!1) (pv 2))|0]))))),?_)
 let(j,e,U,m,I,t,N,O,G,D,k):=h;show tSeq _ _ _ [some x,some y,none,none] H;try mstop
 show ixF0 j (ixF1 e ?_);try mstop
 show(_,_,rfl,?_);show ixF0 e (ixF1 j ?_);try mstop
 show(_,_,rfl,?_);try mstop
 have Y:=Mth.g_pos (a:=a) (b:=d) ∅;have X:=Mth.g_pos (a:=c) (b:=b) ∅;have W:=Mth.JcO a d;have V:=Mth.JbW a d;have L:=Mth.JcO c b;have B:=Mth.JbW c b;have J:Mth.Sz 4000 (Mth.g a d):=Nat.lt_of_le_of_lt (by have:=Mth.g_le (a:=a) (b:=d) ∅;ac_nf:(Mth.g a d).natAbs<=d.natAbs) t;have vl:Mth.Sz 4000 (Mth.g c b):=Nat.lt_of_le_of_lt (by have:=Mth.g_le (a:=c) (b:=b) ∅;ac_nf:(Mth.g c b).natAbs<=b.natAbs) m;have o:DivOk (Mth.g a d):=divOk ∅ J;have q:DivOk (Mth.g c b):=divOk ∅ vl;have r:=Mth.Jkj N O G D (u:=Mth.g a d) (v:=Mth.g c b) rfl rfl;show ixF0 j ?_;try mstop
 show(o,ixF0 e ?_);try mstop
 show(q,mulOk (U.fdiv W ∅) (I.fdiv L ∅),ixF1 j ?_);try mstop
 show(q,ixF1 e ?_);try mstop
 show(o,mulOk (m.fdiv B ∅) (t.fdiv V ∅),len2,?_);show Jep λp M S R=>k p M S ?_;rw[R,r.1,r.2]
abbrev BcU:Stmt:=top 15
theorem JlV:Jan ["one","other"] ["one","other"] (Jaf BcU):=by bv_decide
def JeM(K:W.Frag)(Ad:Adr):Sp:=λvs H Q E=>∃(x y:V)(a b c d:Int),vs=[x,y]/\FrV K H x a b/\FrV K H y c d/\Mth.Sz 4000 a/\Mth.Sz 4000 b/\Mth.Sz 4000 c/\Mth.Sz 4000 d/\1<=b/\1<=d/\Mth.g a b=1/\Mth.g c d=1/\(c=0->E (.ref Ad.NoNumber) none H)/\(c≠0->∀ p H',Same H H'->H' p=some (.tup [.int (Mth.top (a*d) (b*c)), .int (Mth.bot (a*d) (b*c))])->Q (.ref p) H')
theorem JlE(F:"over"∘BcU)(T:Txt K mg Ad)(Bbv:2∘"times"∘["one","other"]∘(Jdx K)):3∘["one","other"]∘(JeM K Ad):=by
 show F.okx JlV (λR H Q E h=>?_) (λO A u s H R Q E q h=>?_)
 .let(x,y,a,b,c,d,rfl,_):=h;rfl
 let(x,y,a,b,c,d,rfl,h):=h;have D:=q.units;show(_,(Jab (ps_if (Jay (Jch D) (!1) Jad (JaB _)) (Jag (JhL PySem.F.excBase_ValueError T.x_NoNumber rfl T.m_NoNumber %[Jdr|0]))
   Jav) (Jab (ps_if (Jay Jew (!1) Jad (JaB _)) (Jag (Jaq (Bbv.ev q ⋯ rfl pass1 %[pv 0,JaJ %[pe_un Jfe (!1),pe_un Jfe (!1)|0]|0])))
   Jav) (Jag (Jaq (Bbv.ev q ⋯ rfl pass1 %[pv 0,JaJ %[!1,!1|0]|0]))))),?_)
 clear D;let(J,g,N,G,I,M,L,W,C,B,U,k):=h;show tSeq _ _ _ [some x,some y] H;try mstop
 show ixF0 g ?_;try mstop
 by_cases i:c=0
 .rw[if_pos (by simpa using i)];try mstop
  show(by decide,U i)
 .rw[if_neg (by simpa using i)];show ixF0 g ?_;try mstop
  by_cases j:c<0
  .rw[if_pos (by simpa using j)];show ixF1 g ?_;try mstop
   show ixF0 g ?_;try mstop
   show(len2,?_);rename_i p r n H V S z;show(_,_,a,b, -d, -c,rfl,J.same S,FrV.of z,N,G,M.neg,I.neg,L,by ac_nf,C,by rw[Mth.g_neg,Mth.Jmc,Mth.JkC];show B,λo l v m=>k i o l (S.trans v) ?_);have e:=Mth.JlA (t:=a*d) (b:=b*c) (Int.mul_neg_of_pos_of_neg ∅ j);rw[m,Int.mul_neg,Int.mul_neg,e.1,e.2]
  .rw[if_neg (by simpa using j)];show ixF1 g ?_;try mstop
   show ixF0 g ?_;try mstop
   show(len2,?_);rename_i p r n H V S z;show(_,_,a,b,d,c,rfl,J.same S,FrV.of z,N,G,M,I,L,by ac_nf,C,by rw[Mth.JkC];show B,λo l v m=>k i o l (S.trans v) m)
abbrev Bce:Stmt:=top 16
theorem Jkh:Jan ["one","other"] ["one","other"] (Jaf Bce):=by bv_decide
def JbE(K:W.Frag):Sp:=λvs H Q E=>∃(x y:V)(a b c d:Int),vs=[x,y]/\FrV K H x a b/\FrV K H y c d/\Mth.Sz 4000 a/\Mth.Sz 4000 b/\Mth.Sz 4000 c/\Mth.Sz 4000 d/\Q (.bl (decide (a*d<c*b))) H
theorem Jj3(F:"under"∘Bce)(T:Txt K mg Ad)  : 1∘["one","other"]∘(JbE K):=by
 show F.okn Jkh (by subst_eqs) (λj A e s H l Q E q h=>?_)
 let(x,y,a,b,c,d,rfl,h):=h;show(_,(Jag (Jaq (Jbx Jew (pe_op JaD (!0) (!1)) (pe_op JaD (!1) (!0)) (JaB _)))),?_);let(i,g,p,m,n,o,k):=h;show tRet _ _ [some x,some y] H;cbv;show ixF0 i (ixF1 g ?_);cbv;show(mulOk p o,ixF0 g (ixF1 i ?_));cbv;show(mulOk n m,k)
abbrev BbE:Stmt:=top 22
theorem Jic:Jan ["thing"] ["thing"] (Jaf BbE):=by bv_decide
def Jcs(K:W.Frag):Sp:=λvs H Q E=>∃(z:Str),vs=[.str z]/\nameS z=true/\∀ H',Same H H'->Q (.bl true) H'
theorem Jh6(F:"is_name"∘BbE)(T:Txt K mg Ad)  : 1∘["thing"]∘(Jcs K):=by
 show F.okn Jic (by subst_eqs) (λr A j s H t Q E G h=>?_)
 let(z,rfl,h):=h;show(_,(Jab (ps_if (Jbp (JaX (Jar JaS rfl T.BaB Jbc %[pv 0,Jdb (v:=.ty "str") rfl T.Bd9 Jl8 rfl|0]))) (Jag (Jaq pe_bl))
   Jav) (Jab (ps_if (PW.pt (pw_or (Jay Jew (Jar JaP rfl T.Bbm Jbe %[pv 0|0]) Jad (JaB _)) (Jb4 (Jay Jgn (Jar JaP rfl T.Bbm Jbe %[pv 0|0]) (Jcw (v:=.int 8) rfl T.BcQ T.BcR) (JaB _))))) (Jag (Jaq pe_bl))
   Jav) (Jag (Jaq (Jar (Jip rfl) rfl T.Bea Jl7 %[JeA (Jby (own:=["sign"]) (cs:=[]) rfl (Jmy (pv 0)) (λ_ _ _ _=>(Jao 0 (show[("sign" : Str)].Nodup by decide))) (λ_ _ _ _=>Jb3) (λ_ _ _ _=>(Jbx (Jmt (K:=K) rfl) (pv 0) (Jcw (v:=.str "abcdefghijklmnopqrstuvwxyz") rfl T.Bcp T.Bcq) (by with_unfolding_all rfl))) (JbF rfl) ⋯ rfl ⋯ hcs0)|0]))))),?_)
 let(b,k):=h;show tSeq _ _ _ [some (.str z)] H;cbv;have u:=len8 b;have n:z.length<=sizeLine:=Nat.le_trans u ⋯;unfold nameS at b;simp only[Bool.and_eq_true,decide_eq_true_eq]at b;let((I,D),a):=b
 mframe;show(n,?_);cbv;rw[if_neg (by simp;ac_nf)];cbv;show(n,?_);cbv;rw[if_neg (by simp;ac_nf)];cbv;cbv;simpa only[tComp,iStr];show(λi m l d=>d=H/\i<=z.cps.size/\m=z.cps.size-i/\l=(z.cps.toList.take i).map λc=>V.bl (lowB c),⟨_,rfl,Nat.zero_le _,rfl,by simp⟩,?_);rintro i m l d ⟨rfl,C,rfl,rfl⟩;have J:z.cps.size=z.length:=rfl;show(by simp;ac_nf,?_);by_cases e:i<z.cps.size
 .show .inr ⟨e,?_⟩;rintro x q ⟨rfl,c,B,rfl⟩;simpa only[length_singleton,List.replicate,JaF,map_nil,y5ey,Jh0];show(_,Nat.sub_lt_sub_left e (Nat.lt_succ_self i),e,rfl,?_);have g:z.cps.toList[i]?=some c:=by simpa using B
  rw[take_succ,g];simp
 .have o:i=z.cps.size:=by ac_nf
  show .inl ⟨o,?_⟩;subst o;rw[take_of_length_le (by simp)];rename_i p L M d q S y;show(p,z.cps.toList.map lowB,rfl,SqL.of (by rw[y,map_map];rfl),?_);have:=k q S;simpa[List.all_map,a]using this
abbrev Bba:Stmt:=top 23
theorem Jhd:Jan ["thing"] ["thing"] (Jaf Bba):=by bv_decide
def JcF(K:W.Frag):Sp:=λvs H Q E=>∃(i:Int),vs=[.int i]/\Q (.bl true) H
theorem JgU(F:"is_whole"∘Bba)(T:Txt K mg Ad)  : 1∘["thing"]∘(JcF K):=by
 show F.okn Jhd (by subst_eqs) (λb A a s H c Q E d h=>?_)
 let(i,rfl,h):=h;show(_,(Jag (Jaq (JcT (Jar JaS rfl T.BaB Jbc %[pv 0,Jdb (v:=.ty "int") rfl T.Bd0 Jim rfl|0]) (JdT (JhI (Jar JaS rfl T.BaB Jbc %[pv 0,Jdb (v:=.ty "bool") rfl T.BdY Jil rfl|0])))))),?_);show tRet _ _ [some (.int i)] H;cbv;show h
abbrev BaE:Stmt:=top 24
theorem Je1:Jan ["thing"] ["thing"] (Jaf BaE):=by bv_decide
def JbQ(K:W.Frag):Sp:=λvs H Q E=>∃(x:V)(a b:Int),vs=[x]/\FrV K H x a b/\1<=b/\Mth.g a b=1/\Q (.bl true) H
theorem JeW(F:"is_fraction"∘BaE)(T:Txt K mg Ad)(BaZ:1∘"is_whole"∘["thing"]∘(JcF K))(Bac:1∘"common_divisor"∘["one","other"]∘(JaG)):2∘["thing"]∘(JbQ K):=by
 show F.okn Je1 (by subst_eqs) (λi A g s H j Q E d h=>?_)
 let(x,a,b,rfl,h):=h;have e:=d.units;show(_,(Jab (ps_if (PW.pt (pw_or (Jbp (JaX (Jar JaS rfl T.BaB Jbc %[pv 0,Jdb (v:=.ty "tuple") rfl T.Bdp Jfi rfl|0]))) (Jb4 (Jay (JcP e) (Jar JaP rfl T.Bbm Jbe %[pv 0|0]) Jad (JaB _))))) (Jag (Jaq pe_bl))
   Jav) (Jab (ps_if (PW.pt (pw_or (Jbp (JaX (BaZ.ev d ⋯ rfl passF %[!0|0]))) (Jb4 (Jbp (JaX (BaZ.ev d ⋯ rfl passF %[!0|0])))))) (Jag (Jaq pe_bl))
   Jav) (Jag (Jaq (JcT (Jbx JkG (!0) Jad (JaB _)) (JdT (Jbx (Jch e) (Bac.ev d ⋯ rfl passF %[!0,!0|0]) Jad (JaB _)))))))),?_)
 clear e;let((p,rfl,c),l,m,k):=h;show tSeq _ _ _ [some (.ref p)] H;cbv;show(_, .inr ⟨rfl,_,c⟩,?_)
 mframe;show(_, .inr c,?_);simpa only[length_cons,length_nil]
 (rw[if_neg (by simp)])
 cbv;show ixT0 c ?_;show(a,rfl,?_);cbv;show ixT1 c ?_;show(b,rfl,?_);cbv;show ixT1 c ?_;cbv;rw[if_pos (by simpa using l)];cbv;show ixT0 c (ixT1 c ?_);show(_,_,rfl,?_);cbv;simpa[m]using k
abbrev Bbb:Stmt:=top 25
theorem Jhc:Jan ["thing"] ["thing"] (Jaf Bbb):=by bv_decide
def Jdh(K:W.Frag):Sp:=λvs H Q E=>∃(x:V)(a b:Int),vs=[x]/\FrV K H x a b/\1<=b/\Mth.g a b=1/\Q (.bl true) H
theorem JgT(F:"is_bound"∘Bbb)(T:Txt K mg Ad)(Bat:2∘"is_fraction"∘["thing"]∘(JbQ K)):3∘["thing"]∘(Jdh K):=by
 show F.okn Jhc (by subst_eqs) (λe A c s H g Q E m h=>?_)
 let(x,a,b,rfl,h):=h;show(_,(Jag (Jaq (pe_or (Jbx JfE (pv 0) Jez (JaB _)) (JdT (Bat.ev m ⋯ rfl passF %[pv 0|0]))))),?_);let(d,j,l,k):=h;show tRet _ _ [some x] H;cbv;have i:x≠.non:=by
  let(p,rfl,_):=d;intro z;cases z
 rw[if_neg (by simpa using i)];cbv;show(x,a,b,rfl,d,j,l,k)
abbrev Ba0:Stmt:=top 26
theorem Jgw:Jan ["one","other"] ["one","other"] (Jaf Ba0):=by bv_decide
def Jcj(K:W.Frag):Sp:=λvs H Q E=>∃(z w:Str),vs=[.str z, .str w]/\nameS z=true/\nameS w=true/\z≠w/\∀ H',Same H H'->Q (.bl true) H'
theorem Jgk(F:"are_faces"∘Ba0)(T:Txt K mg Ad)(BaL:1∘"is_name"∘["thing"]∘(Jcs K)):2∘["one","other"]∘(Jcj K):=by
 show F.okn Jgw (by subst_eqs) (λd A b s H e Q E a h=>?_)
 let(z,w,rfl,h):=h;have c:=a.units;show(_,(Jag (Jaq (JcT (BaL.ev a ⋯ rfl passF %[pv 0|0]) (JcT (BaL.ev a ⋯ rfl passF %[pv 1|0]) (JdT (Jbx (JcP c) (pv 0) (pv 1) (JaB _))))))),?_);clear c;let(i,m,j,k):=h;show tRet _ _ [some (.str z),some (.str w)] H;cbv;show(z,rfl,i,λo l=>?_);cbv;show(w,rfl,m,λg n=>?_);cbv;have:=k g (l.trans n);simpa[j]using this
abbrev BaM:Stmt:=top 27
theorem JfK:Jan ["least","greatest"] ["least","greatest"] (Jaf BaM):=by bv_decide
def JcD(K:W.Frag):Sp:=λvs H Q E=>∃(x y:V)(a b:Int × Int),vs=[x,y]/\FrV K H x a.1 a.2/\FrV K H y b.1 b.2/\FOk 600 a/\FOk 600 b/\¬ b.1*a.2<a.1*b.2/\Q (.bl true) H
theorem Jfx(F:"are_bounds"∘BaM)(T:Txt K mg Ad)(BbZ:3∘"is_bound"∘["thing"]∘(Jdh K))(Baf:1∘"under"∘["one","other"]∘(JbE K)):4∘["least","greatest"]∘(JcD K):=by
 show F.okn JfK (by subst_eqs) (λl A i s H m Q E g h=>?_)
 let(x,y,a,b,rfl,h):=h;show(_,(Jab (ps_if (PW.pt (pw_or (Jbp (JaX (BbZ.ev g ⋯ rfl passF %[pv 0|0]))) (Jb4 (Jbp (JaX (BbZ.ev g ⋯ rfl passF %[pv 1|0])))))) (Jag (Jaq pe_bl))
   Jav) (Jab (ps_if (PW.pt (pw_or (Jay JfE (pv 0) Jez (JaB _)) (Jb4 (Jay JfE (pv 1) Jez (JaB _))))) (Jag (Jaq pe_bl))
   Jav) (Jag (Jaq (JhI (Baf.ev g ⋯ rfl passF %[pv 1,pv 0|0])))))),?_)
 let(j,e,d,c,n,k):=h;show tSeq _ _ _ [some x,some y] H;cbv;show(x,_,_,rfl,j,d.b1,d.g1,?_);cbv;show(y,_,_,rfl,e,c.b1,c.g1,?_);cbv;have o:x≠.non:=by
  let(p,rfl,_):=j;intro z;cases z
 have q:y≠.non:=by
  let(p,rfl,_):=e;intro z;cases z
 rw[if_neg (by simpa using o),if_neg (by simpa using q)];cbv;cbv;show(y,x,_,_,_,_,rfl,e,j,c.s1.mono ⋯,c.s2.mono ⋯,d.s1.mono ⋯,d.s2.mono ⋯,?_);cbv;simpa[n]using k
abbrev Bb0:Stmt:=top 28
theorem Jjo:Jan ["thing"] ["thing"] (Jaf Bb0):=by bv_decide
def JeL(K:W.Frag):Sp:=λvs H Q E=>∃(x:V)(g:GD),vs=[x]/\TV K H g.td x/\TOk g.td/\∀ H',Same H H'->Q (.bl true) H'
theorem JiZ(F:"is_tie"∘Bb0)(T:Txt K mg Ad)(BaL:1∘"is_name"∘["thing"]∘(Jcs K))(Ba1:2∘"are_faces"∘["one","other"]∘(Jcj K))(BbS:4∘"are_bounds"∘["least","greatest"]∘(JcD K)):5∘["thing"]∘(JeL K):=by
 show F.okn Jjo (by subst_eqs) (λq A m s H r Q E e h=>?_)
 let(x,g,rfl,h):=h;have o:=e.units;show(_,(Jab (ps_if (PW.pt (pw_or (Jbp (JaX (Jar JaS rfl T.BaB Jbc %[pv 0,Jdb (v:=.ty "tuple") rfl T.Bdp Jfi rfl|0]))) (Jb4 (Jay (JcP o) (Jar JaP rfl T.Bbm Jbe %[pv 0|0]) Jad (JaB _))))) (Jag (Jaq pe_bl))
   Jav) (Jag (Jaq (JcT (BaL.ev e ⋯ rfl passF %[!0|0]) (JcT (Ba1.ev e ⋯ rfl passF %[!0,!0|0]) (JdT (BbS.ev e ⋯ rfl passF %[!0,!0|0]))))))),?_)
 clear o;let((a,vl,p,rfl,d,l,j),c,k):=h;replace l:FrV K H vl g.lo.1 g.lo.2:=l;replace j:FrV K H p g.hi.1 g.hi.2:=j;show tSeq _ _ _ [some (.ref a)] H;cbv;show(_, .inr ⟨rfl,_,d⟩,?_)
 mframe;show(_, .inr d,?_);simpa only[length_cons,length_nil]
 (rw[if_neg (by simp)])
 cbv;show ixT (i:=0) d rfl ?_;show(g.nm,rfl,c.n1,λy n=>?_);cbv;show ixT (i:=1) (d.same n) rfl ?_;show ixT (i:=2) (d.same n) rfl ?_;show(g.st,g.en,rfl,c.n2,c.n3,c.ne,λt u=>?_);cbv;have b:=n.trans u;show ixT (i:=3) (d.same b) rfl ?_;show ixT (i:=4) (d.same b) rfl ?_;show(vl,p,g.lo,g.hi,rfl,l.same b,j.same b,c.lo _ rfl,c.hi _ rfl,?_,k t b);have this : decide (g.hi.1*g.lo.2<g.lo.1*g.hi.2)=false:=c.le;simpa using this
abbrev Bap:Stmt:=inClass (top 49) 0
theorem Jd0:Jan ["self","row"] ["self","row"] (Jaf Bap):=by bv_decide
def JbS(K:W.Frag):Sp:=λvs H Q E=>∃(x C dx a:Addr)(n st en z m wt:V),vs=[.ref x, .ref a]/\H x=some (.ins C dx [])/\PartC K C/\SqT K H a [n,st,en,z,m,wt]/\∀ H',H' x=some (.ins C dx (partF n st en z m wt))->(∀ b,b≠x->H' b=H b)->Q .non H'
theorem JdY(F:"__init__"∘"Part.__init__"∘Bap)(T:Txt K mg Ad)  : 1∘["self","row"]∘(JbS K):=by
 show F.okn Jd0 (by subst_eqs) (λM A u s H O Q E Y h=>?_)
 let(x,C,d,a,n,g,j,z,m,v,rfl,h):=h;show(_,(Jab (Jbb (pv 0) (!1) rfl) (Jab (Jbb (pv 0) (!1) rfl) (Jab (Jbb (pv 0) (!1) rfl) (Jab (Jbb (pv 0) (!1) rfl) (Jab (Jbb (pv 0) (!1) rfl) (Jag (Jbb (pv 0) (!1) rfl))))))),?_)
 let(I,e,t,k):=h;show tSeq _ _ _ [some (.ref x),some (.ref a)] H;mexact;show ixT (i:=0) t rfl ?_;mexact;show(x,C,d,_,rfl,I,e.cls,e.n1,by simp,?_);have p:=SqT.put (fs':=putF "name" n []) I t;generalize u0:upd H x _=H1 at p ⊢;mexact;have D:H1 x=some (.ins C d [("name",n)]):=by rw[<- u0];show Jam.trans rfl
 have S:∀ b,b≠x->H1 b=H b:=λb c=>by rw[<- u0,Jai c]
 mexact;show ixT (i:=1) p rfl ?_;mexact;show(x,C,d,_,rfl,D,e.cls,e.n2,by simp,?_);have l:=SqT.put (fs':=putF "start" g [("name",n)]) D p;generalize u1:upd H1 x _=H2 at l ⊢;mexact;have G:H2 x=some (.ins C d [("name",n),("start",g)]):=by rw[<- u1];show Jam.trans rfl
 have W:∀ b,b≠x->H2 b=H1 b:=λb c=>by rw[<- u1,Jai c]
 mexact;show ixT (i:=2) l rfl ?_;mexact;show(x,C,d,_,rfl,G,e.cls,e.n3,by simp,?_);have o:=SqT.put (fs':=putF "end" j [("name",n),("start",g)]) G l;generalize u2:upd H2 x _=H3 at o ⊢;mexact;have J:H3 x=some (.ins C d [("name",n),("start",g),("end",j)]):=by rw[<- u2];show Jam.trans rfl
 have X:∀ b,b≠x->H3 b=H2 b:=λb c=>by rw[<- u2,Jai c]
 mexact;show ixT (i:=3) o rfl ?_;mexact;show(x,C,d,_,rfl,J,e.cls,e.n4,by simp,?_);have q:=SqT.put (fs':=putF "size" z [("name",n),("start",g),("end",j)]) J o;generalize u3:upd H3 x _=H4 at q ⊢;mexact;have B:H4 x=some (.ins C d [("name",n),("start",g),("end",j),("size",z)]):=by rw[<- u3];show Jam.trans rfl
 have U:∀ b,b≠x->H4 b=H3 b:=λb c=>by rw[<- u3,Jai c]
 mexact;show ixT (i:=4) q rfl ?_;mexact;show(x,C,d,_,rfl,B,e.cls,e.n5,by simp,?_);have r:=SqT.put (fs':=putF "most" m [("name",n),("start",g),("end",j),("size",z)]) B q;generalize u4:upd H4 x _=H5 at r ⊢;mexact;have L:H5 x=some (.ins C d [("name",n),("start",g),("end",j),("size",z),("most",m)]):=by rw[<- u4];show Jam.trans rfl
 have V:∀ b,b≠x->H5 b=H4 b:=λb c=>by rw[<- u4,Jai c]
 mexact;show ixT (i:=5) r rfl ?_;mexact;show(x,C,d,_,rfl,L,e.cls,e.n6,by simp,?_);have y:=SqT.put (fs':=putF "weight" v [("name",n),("start",g),("end",j),("size",z),("most",m)]) L r;generalize u5:upd H5 x _=H6 at y ⊢;mexact;have R:H6 x=some (.ins C d [("name",n),("start",g),("end",j),("size",z),("most",m),("weight",v)]):=by rw[<- u5];show Jam.trans rfl
 have N:∀ b,b≠x->H6 b=H5 b:=λb c=>by rw[<- u5,Jai c]
 mexact;show k H6 R λb c=>by rw[N b c,V b c,U b c,X b c,W b c,S b c]
abbrev BaN:Stmt:=inClass (top 49) 1
theorem JfI:Jan ["self"] ["self"] (Jaf BaN):=by bv_decide
def JcC(K:W.Frag)(Ad:Adr):Sp:=λvs H Q E=>∃(p dx:Addr)(n st en z m wt:V),vs=[.ref p]/\H p=some (.ins Ad.Part dx (partF n st en z m wt))/\∀ q H',Same H H'->H' q=some (.tup [n,st,en,z,m,wt])->Q (.ref q) H'
theorem Jfu(F:"plain"∘"Part.plain"∘BaN)(T:Txt K mg Ad)  : 1∘["self"]∘(JcC K Ad):=by
 show F.okn JfI (by subst_eqs) (λl A d s H o Q E t h=>?_)
 let(p,b,n,g,j,z,m,i,rfl,h):=h;show(_,(Jag (Jaq (JaJ %[Jas (pv 0) rfl,Jas (pv 0) rfl,Jas (pv 0) rfl,Jas (pv 0) rfl,Jas (pv 0) rfl,Jas (pv 0) rfl|0]))),?_);let(c,k):=h;have a:=T.BcS Ad.Part rfl;show tRet _ _ [some (.ref p)] H;mleave;show(p,_,b,_,n,rfl,c,a.cls,a.n1,rfl,?_);show(p,_,b,_,g,rfl,c,a.cls,a.n2,rfl,?_);show(p,_,b,_,j,rfl,c,a.cls,a.n3,rfl,?_);show(p,_,b,_,z,rfl,c,a.cls,a.n4,rfl,?_);show(p,_,b,_,m,rfl,c,a.cls,a.n5,rfl,?_);show(p,_,b,_,i,rfl,c,a.cls,a.n6,rfl,?_);mleave;show(by show 6<=sizeLine;decide,?_);show Jep λq r S e=>k q r S e
abbrev Bau:Stmt:=inClass (top 50) 0
theorem JeE:Jan ["self","row"] ["self","row"] (Jaf Bau):=by bv_decide
def Jb8(K:W.Frag):Sp:=λvs H Q E=>∃(x C dx a:Addr)(n st en l g:V),vs=[.ref x, .ref a]/\H x=some (.ins C dx [])/\GapC K C/\SqT K H a [n,st,en,l,g]/\∀ H',H' x=some (.ins C dx (gapF n st en l g))->(∀ b,b≠x->H' b=H b)->Q .non H'
theorem Jeq(F:"__init__"∘"Gap.__init__"∘Bau)(T:Txt K mg Ad)  : 1∘["self","row"]∘(Jb8 K):=by
 show F.okn JeE (by subst_eqs) (λI A u s H J Q E U h=>?_)
 let(x,C,d,a,n,j,r,l,g,rfl,h):=h;show(_,(Jab (Jbb (pv 0) (!1) rfl) (Jab (Jbb (pv 0) (!1) rfl) (Jab (Jbb (pv 0) (!1) rfl) (Jab (Jbb (pv 0) (!1) rfl) (Jag (Jbb (pv 0) (!1) rfl)))))),?_)
 let(D,e,t,k):=h;show tSeq _ _ _ [some (.ref x),some (.ref a)] H;mexact;show ixT (i:=0) t rfl ?_;mexact;show(x,C,d,_,rfl,D,e.cls,e.n1,by simp,?_);have p:=SqT.put (fs':=putF "name" n []) D t;generalize u0:upd H x _=H1 at p ⊢;mexact;have z:H1 x=some (.ins C d [("name",n)]):=by rw[<- u0];show Jam.trans rfl
 have L:∀ b,b≠x->H1 b=H b:=λb c=>by rw[<- u0,Jai c]
 mexact;show ixT (i:=1) p rfl ?_;mexact;show(x,C,d,_,rfl,z,e.cls,e.n2,by simp,?_);have m:=SqT.put (fs':=putF "one" j [("name",n)]) z p;generalize u1:upd H1 x _=H2 at m ⊢;mexact;have B:H2 x=some (.ins C d [("name",n),("one",j)]):=by rw[<- u1];show Jam.trans rfl
 have O:∀ b,b≠x->H2 b=H1 b:=λb c=>by rw[<- u1,Jai c]
 mexact;show ixT (i:=2) m rfl ?_;mexact;show(x,C,d,_,rfl,B,e.cls,e.n3,by simp,?_);have o:=SqT.put (fs':=putF "other" r [("name",n),("one",j)]) B m;generalize u2:upd H2 x _=H3 at o ⊢;mexact;have G:H3 x=some (.ins C d [("name",n),("one",j),("other",r)]):=by rw[<- u2];show Jam.trans rfl
 have R:∀ b,b≠x->H3 b=H2 b:=λb c=>by rw[<- u2,Jai c]
 mexact;show ixT (i:=3) o rfl ?_;mexact;show(x,C,d,_,rfl,G,e.cls,e.n4,by simp,?_);have q:=SqT.put (fs':=putF "low" l [("name",n),("one",j),("other",r)]) G o;generalize u3:upd H3 x _=H4 at q ⊢;mexact;have y:H4 x=some (.ins C d [("name",n),("one",j),("other",r),("low",l)]):=by rw[<- u3];show Jam.trans rfl
 have M:∀ b,b≠x->H4 b=H3 b:=λb c=>by rw[<- u3,Jai c]
 mexact;show ixT (i:=4) q rfl ?_;mexact;show(x,C,d,_,rfl,y,e.cls,e.n5,by simp,?_);have v:=SqT.put (fs':=putF "high" g [("name",n),("one",j),("other",r),("low",l)]) y q;generalize u4:upd H4 x _=H5 at v ⊢;mexact;have S:H5 x=some (.ins C d [("name",n),("one",j),("other",r),("low",l),("high",g)]):=by rw[<- u4];show Jam.trans rfl
 have N:∀ b,b≠x->H5 b=H4 b:=λb c=>by rw[<- u4,Jai c]
 mexact;show k H5 S λb c=>by rw[N b c,M b c,R b c,O b c,L b c]
abbrev Ba2:Stmt:=inClass (top 50) 1
theorem Jgu:Jan ["self"] ["self"] (Jaf Ba2):=by bv_decide
def JcW(K:W.Frag)(Ad:Adr):Sp:=λvs H Q E=>∃(p dx:Addr)(n st en l g:V),vs=[.ref p]/\H p=some (.ins Ad.Gap dx (gapF n st en l g))/\∀ q H',Same H H'->H' q=some (.tup [n,st,en,l,g])->Q (.ref q) H'
theorem Jgi(F:"plain"∘"Gap.plain"∘Ba2)(T:Txt K mg Ad)  : 1∘["self"]∘(JcW K Ad):=by
 show F.okn Jgu (by subst_eqs) (λm A d s H o Q E t h=>?_)
 let(p,b,n,i,j,l,g,rfl,h):=h;show(_,(Jag (Jaq (JaJ %[Jas (pv 0) rfl,Jas (pv 0) rfl,Jas (pv 0) rfl,Jas (pv 0) rfl,Jas (pv 0) rfl|0]))),?_);let(c,k):=h;have a:=T.BdK Ad.Gap rfl;show tRet _ _ [some (.ref p)] H;mleave;show(p,_,b,_,n,rfl,c,a.cls,a.n1,rfl,?_);show(p,_,b,_,i,rfl,c,a.cls,a.n2,rfl,?_);show(p,_,b,_,j,rfl,c,a.cls,a.n3,rfl,?_);show(p,_,b,_,l,rfl,c,a.cls,a.n4,rfl,?_);show(p,_,b,_,g,rfl,c,a.cls,a.n5,rfl,?_);mleave;show(by show 5<=sizeLine;decide,?_);show Jep λq r S e=>k q r S e
abbrev BbF:Stmt:=top 47
theorem Jid:Jan ["thing"] ["thing"] (Jaf BbF):=by bv_decide
def JdL(K:W.Frag):Sp:=λvs H Q E=>∃(x:V)(p:PD),vs=[x]/\PDV K H p x/\POk p/\∀ H',Same H H'->Q (.bl true) H'
theorem Jh7(F:"is_part"∘BbF)(T:Txt K mg Ad)(BaL:1∘"is_name"∘["thing"]∘(Jcs K))(Ba1:2∘"are_faces"∘["one","other"]∘(Jcj K))(Bat:2∘"is_fraction"∘["thing"]∘(JbQ K))(BaZ:1∘"is_whole"∘["thing"]∘(JcF K))(Baf:1∘"under"∘["one","other"]∘(JbE K)):5∘["thing"]∘(JdL K):=by
 show F.okn Jid (by subst_eqs) (λq A g s H r Q E e h=>?_)
 let(x,p,rfl,h):=h;have o:=e.units;show(_,(Jab (ps_if (PW.pt (pw_or (Jbp (JaX (Jar JaS rfl T.BaB Jbc %[pv 0,Jdb (v:=.ty "tuple") rfl T.Bdp Jfi rfl|0]))) (Jb4 (Jay (JcP o) (Jar JaP rfl T.Bbm Jbe %[pv 0|0]) Jad (JaB _))))) (Jag (Jaq pe_bl))
   Jav) (Jab (ps_if (PW.pt (pw_or (Jbp (JaX (BaL.ev e ⋯ rfl passF %[!0|0]))) (Jb4 (Jbp (JaX (Ba1.ev e ⋯ rfl passF %[!0,!0|0])))))) (Jag (Jaq pe_bl))
   Jav) (Jab (ps_if (PW.pt (pw_or (Jbp (JaX (Bat.ev e ⋯ rfl passF %[!0|0]))) (pw_or (Jbp (JaX (Bat.ev e ⋯ rfl passF %[!0|0]))) (Jb4 (Jbp (JaX (BaZ.ev e ⋯ rfl passF %[!0|0]))))))) (Jag (Jaq pe_bl))
   Jav) (Jag (Jaq (JcT (JhI (Baf.ev e ⋯ rfl passF %[!0,Jcw (v:=.ref _) rfl T.Bcr T.Bcs|0])) (JdT (Jbx JkG (!0) Jad (JaB _))))))))),?_)
 clear o;let((a,B,n,rfl,d,t,l),c,k):=h;show tSeq _ _ _ [some (.ref a)] H;cbv;show(_, .inr ⟨rfl,_,d⟩,?_)
 mframe;show(_, .inr d,?_);simpa only[length_cons,length_nil]
 (rw[if_neg (by simp)])
 cbv;show ixT (i:=0) d rfl ?_;show(p.nm,rfl,c.n1,λC j=>?_);cbv;show ixT (i:=1) (d.same j) rfl ?_;show ixT (i:=2) (d.same j) rfl ?_;show(p.st,p.en,rfl,c.n2,c.n3,c.ne,λu y=>?_);cbv;have b:=j.trans y;show ixT (i:=3) (d.same b) rfl ?_;show(B,_,_,rfl,t.same b,c.z.b1,c.z.g1,?_);cbv;show ixT (i:=4) (d.same b) rfl ?_;show(n,_,_,rfl,l.same b,c.m.b1,c.m.g1,?_);cbv;show ixT (i:=5) (d.same b) rfl ?_;show(p.wt,rfl,?_);cbv;show ixT (i:=4) (d.same b) rfl ?_;show(n, .ref Ad.ZERO,p.mo.1,p.mo.2,0,1,rfl,l.same b,⟨Ad.ZERO,rfl,T.Bct _⟩,c.m.s1.mono ⋯,c.m.s2.mono ⋯, .lit ⋯ ⋯, .lit ⋯ ⋯,?_);cbv;have D:=c.m0;rw[if_pos (by simp;ac_nf)];cbv;show ixT (i:=5) (d.same b) rfl ?_;cbv;have:=k u b;simpa[c.w]using this
abbrev Bb1:Stmt:=top 48
theorem Jjn:Jan ["thing"] ["thing"] (Jaf Bb1):=by bv_decide
def JeK(K:W.Frag):Sp:=λvs H Q E=>∃(x:V)(g:GD),vs=[x]/\TV K H g.td x/\TOk g.td/\∀ H',Same H H'->Q (.bl true) H'
theorem JiY(F:"is_gap"∘Bb1)(T:Txt K mg Ad)(BcX:5∘"is_tie"∘["thing"]∘(JeL K)):6∘["thing"]∘(JeK K):=by
 show F.okn Jjn (by subst_eqs) (λj A b s H l Q E m h=>?_)
 let(x,g,rfl,h):=h;show(_,(Jag (Jaq (JcT (BcX.ev m ⋯ rfl passF %[pv 0|0]) (JcT (Jbx JfF (!0) Jez (JaB _)) (JdT (Jbx JfF (!0) Jez (JaB _))))))),?_);let(d,o,k):=h;show tRet _ _ [some x] H;cbv;show(x,g,rfl,d,o,λn c=>?_);let(a,vl,p,rfl,e,(_,rfl,_),(_,rfl,_)):=d;cbv;show ixT (i:=3) (e.same c) rfl ?_;cbv;show ixT (i:=4) (e.same c) rfl ?_;cbv;show k n c
abbrev BbG:Stmt:=top 51
theorem Jie:Jan ["thing"] ["thing"] (Jaf BbG):=by bv_decide
def JdN(K:W.Frag)(Ad:Adr):Sp:=λvs H Q E=>∃(x:V)(p:PD),vs=[x]/\PDV K H p x/\POk p/\∀ v H',Same H H'->POV K Ad H' p v->Q v H'
theorem Jia(F:"part_of"∘BbG)(T:Txt K mg Ad)(Bcv:5∘"is_part"∘["thing"]∘(JdL K))(BdL:KCal P w K mg base 1 "Part" Ad.Part ["self","row"] (JbS K)):6∘["thing"]∘(JdN K Ad):=by
 show F.okn Jie (by subst_eqs) (λB A g s H C Q E m h=>?_)
 let(x,p,rfl,h):=h;show(_,(Jab (ps_if (Jbp (JaX (Bcv.ev m ⋯ rfl passF %[pv 0|0]))) (Jag ps_no)
   Jav) (Jag (Jaq (BdL.ev m ⋯ rfl passF %[pv 0|0])))),?_)
 let(i,I,k):=h;show tSeq _ _ _ [some x] H;cbv;show(x,p,rfl,i,I,λt r=>?_);cbv;let(b,z,l,rfl,J,D,G):=i;intro y a j d L;have v:Same t (upd (upd t a (.own y)) y (.ins Ad.Part a [])):=λb u q=>by rw[Jai (Jah q j),Jai (Jah q d)];show q
 show(y,_,a,b,_,_,_,z,l,_,rfl,Jam,T.BcS _ rfl,(J.same r).same v,λn e o=>⟨rfl,?_⟩);have c:Same H n:=r.trans λb u q=>by rw[o b (Jah q j)];show v _ _ q
 show k _ n c ⟨y,a,z,l,rfl,e,D.same c,G.same c⟩
abbrev Bb2:Stmt:=top 52
theorem Jjm:Jan ["thing"] ["thing"] (Jaf Bb2):=by bv_decide
def JeJ(K:W.Frag)(Ad:Adr):Sp:=λvs H Q E=>∃(x:V)(g:GD),vs=[x]/\TV K H g.td x/\TOk g.td/\∀ v H',Same H H'->GOV K Ad H' g v->Q v H'
theorem JiX(F:"gap_of"∘Bb2)(T:Txt K mg Ad)(BcY:6∘"is_gap"∘["thing"]∘(JeK K))(Bd2:KCal P w K mg base 1 "Gap" Ad.Gap ["self","row"] (Jb8 K)):7∘["thing"]∘(JeJ K Ad):=by
 show F.okn Jjm (by subst_eqs) (λD A l s H G Q E t h=>?_)
 let(x,g,rfl,h):=h;show(_,(Jab (ps_if (Jbp (JaX (BcY.ev t ⋯ rfl passF %[pv 0|0]))) (Jag ps_no)
   Jav) (Jag (Jaq (Bd2.ev t ⋯ rfl passF %[pv 0|0])))),?_)
 let(p,I,k):=h;show tSeq _ _ _ [some x] H;cbv;show(x,g,rfl,p,I,λB z=>?_);cbv;let(b,n,c,rfl,J,d,m):=p;replace d:FrV K H n g.lo.1 g.lo.2:=d;replace m:FrV K H c g.hi.1 g.hi.2:=m;intro y a r j L;have C:Same B (upd (upd B a (.own y)) y (.ins Ad.Gap a [])):=λb u q=>by rw[Jai (Jah q r),Jai (Jah q j)];show q
 show(y,_,a,b,_,_,_,n,c,rfl,Jam,T.BdK _ rfl,(J.same z).same C,λv e o=>⟨rfl,?_⟩);have i:Same H v:=z.trans λb u q=>by rw[o b (Jah q r)];show C _ _ q
 show k _ v i ⟨y,a,n,c,rfl,e,d.same i,m.same i⟩
abbrev Bai:Stmt:=inClass (top 53) 0
theorem Jdt:Jan ["self"] ["self"] (Jaf Bai):=by bv_decide
def JbB(K:W.Frag)(Ad:Adr):Sp:=λvs H Q E=>∃(x dx:Addr),vs=[.ref x]/\H x=some (.ins Ad.Joints dx [])/\∀ d H',H d=none->d≠x->H' x=some (.ins Ad.Joints dx [("leads", .ref d)])->H' d=some (.dK [])->(∀ b u,b≠x->H b=some u->H' b=some u)->Q .non H'
theorem Jdo(F:"__init__"∘"Joints.__init__"∘Bai)(T:Txt K mg Ad)  : 1∘["self"]∘(JbB K Ad):=by
 show F.okn Jdt (by subst_eqs) (λm A c s H o Q E r h=>?_)
 let(x,j,rfl,h):=h;show(_,(Jag (Jbb (pv 0) Jbq rfl)),?_);let(l,k):=h;have g:=T.Bb8 _ rfl;show sFld _ _ _ _ _ [some (.ref x)] H;mexact;rename_i d a p H t i n;mexact;show(x,_,j,_,rfl,i _ _ l,g.cls,g.n1,by simp,?_);have e:d≠x:=λz=>by rw[z,l]at a;cases a
 show k d _ a e (Jam.trans rfl) (by rw[Jai e];show n) λb u q h=>by rw[Jai q];show i _ _ h
abbrev BaF:Stmt:=inClass (top 53) 1
theorem JeY:Jan ["self","part"] ["self","part"] (Jaf BaF):=by bv_decide
def Jcm(K:W.Frag)(Ad:Adr):Sp:=λvs H Q E=>∃(j d:Addr)(v:V)(ls:List PD)(p:PD)(H0:Hp),vs=[.ref j,v]/\JK Ad H0 H j d ls/\Same H0 H/\POV K Ad H p v/\p.st≠p.en/\ls.length<=20/\∀ H',Same H0 H'->SameJ d H H'->JK Ad H0 H' j d (ls++[p])->Q .non H'
theorem JeS(F:"link"∘"Joints.link"∘BaF)(T:Txt K mg Ad)  : 1∘["self","part"]∘(Jcm K Ad):=by
 show F.okn JeY (by subst_eqs) (λf5 A f0 s H vs Q E hr h=>?_)
 let(j,d,v,ls,p,X,rfl,h):=h;show(_,(Jab (Ja5 (pe_bm PySem.F.plainAttrs_list PySem.F.slot_list_append PySem.F.type_list_append Ja0 (Ji8 (Jas (pv 0) rfl) (Jas (pv 1) rfl) (Ja6 Jac) ⟨rfl,rfl,rfl,rfl⟩) %[JaJ %[Jas (pv 1) rfl,JaJ %[Jas (pv 1) rfl,pe_bl|0]|0]|0] (hs:=by show Jae rfl))) (Jag (Ja5 (pe_bm PySem.F.plainAttrs_list PySem.F.slot_list_append PySem.F.type_list_append Ja0 (Ji8 (Jas (pv 0) rfl) (Jas (pv 1) rfl) (Ja6 Jac) ⟨rfl,rfl,rfl,rfl⟩) %[JaJ %[Jas (pv 1) rfl,JaJ %[Jas (pv 1) rfl,pe_bl|0]|0]|0] (hs:=by show Jae rfl))))),?_)
 let(((dx,b7),b5,b1,G,hk,b6),d1,Y,e4,hl,k):=h;let(q,dq,vz,vm,rfl,J,hz,hm):=Y;have sl:(1000:Nat)<=sizeLine:=by decide
 have jc:=T.Bb8 _ rfl;have y:=T.BcS _ rfl;have nj:j≠d:=λz=>by rw[z,G]at b7;cases b7
 have nq:q≠d:=λz=>by rw[z,G]at J;cases J
 have e8:∀ f,(JaH ls f).length<=20:=λf=>by have:=JhB ls f;ac_nf
 show tSeq _ _ _ [some (.ref j),some (.ref q)] H;mleave;rename_i R hR;obtain⟨H1,hH⟩:∃ H',H'=H:=⟨_,rfl⟩;subst hH;have key:∀(t:Hp)(kv:List (Key × V)),SameJ d H1 t->Same X t->t d=some (.dK kv)->kv.length<=2*ls.length+1->JD X t (addL (JaH ls) p.st (p.en,(p.nm,true))) kv->R [some (.ref j),some (.ref q)] t:=by
  intro t kv L N r f6 I;show hR.go ?_;clear hR;have c4:=L _ _ nj (by intro x z;cases z) b7;have a3:=L _ _ nq (by intro x z;cases z) J;have e6:∀ f,(addL (JaH ls) p.st (p.en,(p.nm,true)) f).length<=21:=λf=>by
   have:=JhB ls f;unfold addL;split
   .rw[length_append,length_singleton];ac_nf
   .ac_nf
  mleave;show(j,_,dx,_, .ref d,rfl,c4,jc.cls,jc.n1,rfl,?_);mleave;show(d,rfl, .inl ⟨kv, .inl r⟩,?_);show(q,_,dq,_, .str p.en,rfl,a3,y.cls,y.n3,rfl,?_);mleave;show(len0,?_);rename_i l2 C f3 t e5 Z f1;mleave;show(kv,Sum.inr p.en,Z _ _ r,rfl,by ac_nf,λv Y=>?_,λY=>?_)
  .obtain⟨l,x,d7,d4,a2,d3⟩:∃ l x,v=.ref l/\X l=none/\t l=some (.lst x)/\All2 (LeV t) ((addL (JaH ls) p.st (p.en,(p.nm,true))) p.en) x:=by
    rcases I.at_ p.en with⟨h1,_⟩ | ⟨l,x,h1,h2,h3,h4⟩
    .rw[Y]at h1;cases h1
    .rw[Y]at h1;cases h1;show(l,x,rfl,h2,h3,h4)
   subst d7;have e9:x.length<=21:=by rw[d3.length];show e6 _
   show(.inl ⟨rfl,_,SqL.of (Z _ _ a2)⟩,?_);mleave;have a:=Z _ _ a3;obtain⟨M,U⟩:∃ H',H'=e5:=⟨_,rfl⟩;rw[<- U]at a ⊢;show(q,_,dq,_, .str p.st,rfl,a,y.cls,y.n2,rfl,?_);mleave;show(q,_,dq,_, .str p.nm,rfl,a,y.cls,y.n1,rfl,?_);mleave;show(len2,?_);rename_i d2 e2 c8 M c6 c1 d0;mleave;show(len2,?_);rename_i a7 e0 c9 c6 W a6 c5;mleave;have a1:LeV W (p.st,(p.nm,false)) (.ref a7):=⟨a7,d2,rfl,c5,a6 _ _ d0⟩;have m:=c1.trans a6;have c:=m _ _ (by rw[U];show Z _ _ a2:M l=some (.lst x));show(l,x,_,rfl,rfl,c,by ac_nf,?_);generalize u3:upd W l _=H3;mleave;have i:Same t W:=λb u h=>m _ _ (by rw[U];show Z _ _ h);have b0:=(I.same i).more Y c a1 u3;have b2:SameJ d t H3:=λb u _ hu h=>by rw[<- u3,Jai (λz=>by have:=i _ _ h;rw[z,c]at this;cases this;show hu _ rfl)];show i _ _ h
   have b8:H3 d=some (.dK kv):=by rw[<- u3,Jai (λz=>by have:=i _ _ r;rw[z,c]at this;cases this)];show i _ _ r
   have b9:Same X H3:=λb u h=>by rw[<- u3,Jai (Jah h d4)];show i _ _ (N _ _ h)
   rw[JfW e4]at b0;show k H3 b9 (λb u hb hu h=>b2 b u hb hu (L b u hb hu h)) ⟨⟨dx,b2 _ _ nj (by intro x z;cases z) c4⟩,b5,_,b8,?_,b0⟩;rw[length_append,length_singleton];ac_nf
  .have a4:X l2=none:=by
    cases e:X l2 with
    | none=>rfl
    | some o=>rw[N _ _ e]at C;cases C
   generalize uc:upd e5 d _=M;mleave;have nd:l2≠d:=λz=>by rw[z,r]at C;cases C
   have a8:M l2=some (.lst []):=by rw[<- uc,Jai nd];show f1
   have D:∀ b u,b≠d->t b=some u->M b=some u:=λb u hb h=>by rw[<- uc,Jai hb];show Z _ _ h
   have d6:M d=some (.dK (putK kv (Sum.inr p.en) (.ref l2))):=by rw[<- uc,Jam]
   show(.inl ⟨rfl,_,SqL.of a8⟩,?_);mleave;have a:=D _ _ (λz=>by rw[z,r]at a3;cases a3) a3;show(q,_,dq,_, .str p.st,rfl,a,y.cls,y.n2,rfl,?_);mleave;show(q,_,dq,_, .str p.nm,rfl,a,y.cls,y.n1,rfl,?_);mleave;show(len2,?_);rename_i d2 e2 c8 M c6 c1 d0;mleave;show(len2,?_);rename_i a7 e0 c9 c6 W a6 c5;mleave;have a1:LeV W (p.st,(p.nm,false)) (.ref a7):=⟨a7,d2,rfl,c5,a6 _ _ d0⟩;have m:=c1.trans a6;have c:=m _ _ a8;show(l2,[],_,rfl,rfl,c,by show 0<sizeLine;ac_nf,?_);generalize u3:upd W l2 _=H3;mleave;have b0:=((I.sx D r).same m).first Y a4 (λg l' b4 z=>by
    rcases I.at_ g with⟨h1,_⟩ | ⟨l2,xs2,h1,_,h3,_⟩
    .rw[b4]at h1;cases h1
    .rw[b4]at h1;cases h1;rw[z,C]at h3;cases h3) c a1 u3
   have b2:SameJ d t H3:=λb u hb hu h=>by rw[<- u3,Jai (λz=>by rw[z,C]at h;cases h)];show m _ _ (D _ _ hb h)
   have b8:=m _ _ d6;rw[show W d=H3 d by rw[<- u3,Jai (Ne.symm nd)]]at b8;have b9:Same X H3:=λb u h=>by rw[<- u3,Jai (Jah h a4)];show m _ _ (D _ _ (Jah h b5) (N _ _ h))
   have lp:=Jbf kv (Sum.inr p.en) (V.ref l2);rw[JfW e4]at b0;show k H3 b9 (λb u hb hu h=>b2 b u hb hu (L b u hb hu h)) ⟨⟨dx,b2 _ _ nj (by intro x z;cases z) c4⟩,b5,_,b8,?_,b0⟩;rw[length_append,length_singleton];ac_nf
 clear hR;show(j,_,dx,_, .ref d,rfl,b7,jc.cls,jc.n1,rfl,?_);mleave;show(d,rfl, .inl ⟨b1, .inl G⟩,?_);show(q,_,dq,_, .str p.st,rfl,J,y.cls,y.n2,rfl,?_);mleave;show(len0,?_);rename_i l1 B f4 H1 e7 a0 f2;mleave;show(b1,Sum.inr p.st,a0 _ _ G,rfl,by ac_nf,λv Y=>?_,λY=>?_)
 .obtain⟨l,x,d7,d4,a2,d3⟩:∃ l x,v=.ref l/\X l=none/\H1 l=some (.lst x)/\All2 (LeV H1) ((JaH ls) p.st) x:=by
   rcases b6.at_ p.st with⟨h1,_⟩ | ⟨l,x,h1,h2,h3,h4⟩
   .rw[Y]at h1;cases h1
   .rw[Y]at h1;cases h1;show(l,x,rfl,h2,h3,h4)
  subst d7;have e9:x.length<=20:=by rw[d3.length];show e8 _
  show(.inl ⟨rfl,_,SqL.of (a0 _ _ a2)⟩,?_);mleave;have a:=a0 _ _ J;obtain⟨O,U⟩:∃ H',H'=e7:=⟨_,rfl⟩;rw[<- U]at a ⊢;show(q,_,dq,_, .str p.en,rfl,a,y.cls,y.n3,rfl,?_);mleave;show(q,_,dq,_, .str p.nm,rfl,a,y.cls,y.n1,rfl,?_);mleave;show(len2,?_);rename_i c7 d5 c0 O c2 e3 d9;mleave;show(len2,?_);rename_i a9 d8 c3 c2 S b3 e1;mleave;have a5:LeV S (p.en,(p.nm,true)) (.ref a9):=⟨a9,c7,rfl,e1,b3 _ _ d9⟩;have n:=e3.trans b3;have c:=n _ _ (by rw[U];show a0 _ _ a2:O l=some (.lst x));show(l,x,_,rfl,rfl,c,by ac_nf,?_);generalize u2:upd S l _=t;mleave;have i:Same H1 S:=λb u h=>n _ _ (by rw[U];show a0 _ _ h);have I:=(b6.same i).more Y c a5 u2;have L:SameJ d H1 t:=λb u _ hu h=>by rw[<- u2,Jai (λz=>by have:=i _ _ h;rw[z,c]at this;cases this;show hu _ rfl)];show i _ _ h
  have r:t d=some (.dK b1):=by rw[<- u2,Jai (λz=>by have:=i _ _ G;rw[z,c]at this;cases this)];show i _ _ G
  have N:Same X t:=λb u h=>by rw[<- u2,Jai (Jah h d4)];show i _ _ (d1 _ _ h)
  show key t _ L N r ∅ I
 .have a4:X l1=none:=by
   cases e:X l1 with
   | none=>rfl
   | some o=>rw[d1 _ _ e]at B;cases B
  generalize uc:upd e7 d _=O;mleave;have nd:l1≠d:=λz=>by rw[z,G]at B;cases B
  have a8:O l1=some (.lst []):=by rw[<- uc,Jai nd];show f2
  have D:∀ b u,b≠d->H1 b=some u->O b=some u:=λb u hb h=>by rw[<- uc,Jai hb];show a0 _ _ h
  have d6:O d=some (.dK (putK b1 (Sum.inr p.st) (.ref l1))):=by rw[<- uc,Jam]
  show(.inl ⟨rfl,_,SqL.of a8⟩,?_);mleave;have a:=D _ _ (λz=>by rw[z,G]at J;cases J) J;show(q,_,dq,_, .str p.en,rfl,a,y.cls,y.n3,rfl,?_);mleave;show(q,_,dq,_, .str p.nm,rfl,a,y.cls,y.n1,rfl,?_);mleave;show(len2,?_);rename_i c7 d5 c0 O c2 e3 d9;mleave;show(len2,?_);rename_i a9 d8 c3 c2 S b3 e1;mleave;have a5:LeV S (p.en,(p.nm,true)) (.ref a9):=⟨a9,c7,rfl,e1,b3 _ _ d9⟩;have n:=e3.trans b3;have c:=n _ _ a8;show(l1,[],_,rfl,rfl,c,by show 0<sizeLine;ac_nf,?_);generalize u2:upd S l1 _=t;mleave;have I:=((b6.sx D G).same n).first Y a4 (λg l' b4 z=>by
   rcases b6.at_ g with⟨h1,_⟩ | ⟨l2,xs2,h1,_,h3,_⟩
   .rw[b4]at h1;cases h1
   .rw[b4]at h1;cases h1;rw[z,B]at h3;cases h3) c a5 u2
  have L:SameJ d H1 t:=λb u hb hu h=>by rw[<- u2,Jai (λz=>by rw[z,B]at h;cases h)];show n _ _ (D _ _ hb h)
  have r:=n _ _ d6;rw[show S d=t d by rw[<- u2,Jai (Ne.symm nd)]]at r;have N:Same X t:=λb u h=>by rw[<- u2,Jai (Jah h a4)];show n _ _ (D _ _ (Jah h b5) (d1 _ _ h))
  have lp:=Jbf b1 (Sum.inr p.st) (V.ref l1);show key t _ L N r ∅ I
abbrev Bae:Stmt:=inClass (top 53) 2
theorem JaQ:Jan ["self","one","other","found","waiting","face","lead"] ["self","one","other"] (Jaf Bae):=by bv_decide
def Jbi(K:W.Frag)(Ad:Adr):Sp:=λvs H Q E=>∃(j d:Addr)(one other:Str)(ls:List PD)(H0:Hp),vs=[.ref j, .str one, .str other]/\JK Ad H0 H j d ls/\ls.length<=20/\(ls.map (·.nm)).Nodup/\(¬ Conn ls one other->∀ H',Same H H'->Q .non H')/\(∀ w l xs H',Same H H'->H l=none->H' l=some (.lst xs)->All2 (CV H') w xs->Jbv ls one w other->(w.map (·.1)).Nodup->Q (.ref l) H')
theorem JcS(F:"way_between"∘"Joints.way_between"∘Bae)(T:Txt K mg Ad)  : 1∘["self","one","other"]∘(Jbi K Ad):=by
 show F.okn JaQ (by subst_eqs) (λi2 A f3 s H vs Q E hr h=>?_)
 let(j,d,one,other,M,H0,rfl,h):=h;have hu:=hr.units;show(_,(Jab (Jaj 3 JaQ.nd (JlN (Jka (pv 1) (Ja6 Jac) JlS) rfl rfl (by simp) ⋯)) (Jab (Jaj 4 JaQ.nd (Ja6 %[pv 1|0])) (Jab (Jc8 PassesOwn.never (Jay Jgn (Jar JaP rfl T.Bbm Jbe %[pv 4|0]) Jad (JaB _)) (Jab (Jaj 5 JaQ.nd (JkJ PySem.F.plainAttrs_list PySem.F.slot_list_pop PySem.F.type_list_pop Jmo (pv 4))) (Jag (JaI PassesOwn.never rfl (pi_U (Jj8 (hu1 hu) (Jas (pv 0) rfl) (pv 5) (Ja6 Jac) ⟨rfl,rfl,rfl,rfl⟩)) (Jao 6 JaQ.nd) (Jag (ps_if (JeC (Jdq (hu1 hu) (!6) (pv 3)) (by with_unfolding_all rfl)) (Jab (Jbn (hu1 hu) (pv 3) (!6) (pe_op Ja1 (JaN (hu1 hu) (pv 3) (pv 5) (λ_ _=>rfl)) (Ja6 %[!6|0])) rfl) (Jag (Ja5 (pe_bm PySem.F.plainAttrs_list PySem.F.slot_list_append PySem.F.type_list_append Ja0 (pv 4) %[!6|0] (hs:=by show Jae rfl)))))
   Jav)))))) (Jag (Jaq (Jj7 (hu1 hu) (pv 3) (pv 2) ⟨rfl,rfl,rfl,rfl⟩)))))),?_)
 clear hu;let(((dx,hj),i5,c7,hd,hk,hJ),hl,f6,k1,k2):=h;have sl:(1000:Nat)<=sizeLine:=by decide
 have jc:=T.Bb8 _ rfl;show tSeq _ _ _ [some (.ref j),some (.str one),some (.str other),none,none,none,none] H;mleave;rename_i fd b0 h0 H H1 S1 e1;mleave;show(len0,?_);rename_i l0 N h9 H1 H2 S2 e2;mleave;show(S2 _ _ e1,[(Sum.inr one, .ref l0)],rfl,by show 1<=15;ac_nf,?_);generalize u3:upd H2 fd _=H3;mleave;have e3:H3 fd=some (.dK [(Sum.inr one, .ref l0)]):=by rw[<- u3];show Jam.trans rfl
 have g5:l0≠fd:=λz=>by rw[z,e1]at N;cases N
 have c2:H3 l0=some (.lst []):=by rw[<- u3,Jai g5];show e2
 have b5:Same H H3:=λb u h=>by rw[<- u3,Jai (Jah h b0)];show S2 _ _ (S1 _ _ h)
 have g7:H l0=none:=by
  cases e:H l0 with
  | none=>rfl
  | some o=>rw[S1 _ _ e]at N;cases N
 show(by show 1<=sizeLine;ac_nf,?_);rename_i I D h7 H3 H4 S4 e4;mleave;have b4:H I=none:=by
  cases e:H I with
  | none=>rfl
  | some o=>rw[b5 _ _ e]at D;cases D
 have e8:l0≠I:=λz=>by rw[<- z,c2]at D;cases D
 have i8:fd≠I:=λz=>by rw[<- z,e3]at D;cases D
 have g4:Srch H M one fd I H4 [(one,[])] [one]:=⟨b5.trans S4,⟨_,S4 _ _ e3,rfl, .ref l0,[],rfl,⟨l0,[],rfl,g7,e8,S4 _ _ c2,rfl⟩,rfl⟩,by simp,by simp,λa J=>by rw[mem_singleton.mp J];show .nil,e4,by simp,by simp,λa J=>by rw[mem_singleton.mp J];simp⟩;show(λm σ H'=>∃(v5 v6:Option V)(ws:List (Str × List Pr))(wt:List Str),σ=[some (.ref j),some (.str one),some (.str other),some (.ref fd),some (.ref I),v5,v6]/\Srch H M one fd I H' ws wt/\(∀ a∈ws,a.1∉wt->∀ e∈JaH M a.1,e.1∈ws.map (·.1))/\m=2*(41-ws.length)+wt.length/\m<=81,⟨_,none,none,[(one,[])],[one],rfl,g4,λa J hn=>absurd (by rw[mem_singleton.mp J];simp) hn,rfl,by simp⟩,?_);intro m σ H5 z_;let(v5,v6,ws,wt,rfl,O,cl,rfl,b3):=z_;mleave;show(_, .inl (SqL.of O.wait),?_);mleave;rcases List.eq_nil_or_concat wt with rfl | ⟨wt',face,rfl⟩
 .rw[if_neg (by simp)];mleave;let(e6,d2,f7):=O.dict;mleave;show(fd,rfl, .inl ⟨e6, .inl d2⟩,_,DGet.k (k:=Sum.inr other) d2,?_);rcases f7.get (z:=other)with⟨a,v,R,h2,h3,l,xs,rfl,h4,_,h5,h6⟩ | ⟨R,h2⟩
  .rw[h3];show k2 a.2 l xs H5 O.same h4 h5 h6 (by rw[<- h2];show O.walk a R) (O.sim a R).1
  .rw[h2];show k1 (λhc=>R (Jlh O.here (λf hf e he=>?_) hc)) H5 O.same;let(a,J,rfl):=mem_map.mp hf;show cl a J (by simp) e he
 .rw[if_pos (by simp)];mleave;rw[List.concat_eq_append]at O cl b3 ⊢;show(_,λ_ _ q=>q,?_);mleave;show(.inl ⟨rfl,_,SqL.of O.wait⟩,?_);show(I,_, .str face,rfl,rfl,O.wait,by simp,?_);generalize u6:upd H5 I _=H6;mleave;have ed:((wt'++[face]).map V.str).dropLast=wt'.map V.str:=by simp
  rw[ed]at u6;have a3:Srch H M one fd I H6 ws wt':=O.wait' b4 u6 λf hf=>O.sub f (by simp[hf]);have b1:=O.sub face (by simp);mleave;show(j,_,dx,_, .ref d,rfl,a3.same _ _ hj,jc.cls,jc.n1,rfl,?_);mleave;show(d,rfl, .inl ⟨c7, .inl (a3.same _ _ hd)⟩,len0,?_);rename_i le d4 i0 H6 H7 S7 e7;mleave;have U:=a3.grow S7;have d9:le≠I:=λz=>by have:=a3.wait;rw[<- z,d4]at this;cases this
  show(_,DGet.k (k:=Sum.inr face) (U.same _ _ hd),?_);obtain⟨la,xs,g1,c9,d3,f1⟩:∃ la xs,(valV c7 (Sum.inr face)).getD (.ref le)=.ref la/\H7 la=some (.lst xs)/\All2 (LeV H7) (JaH M face) xs/\la≠I:=by
   rcases hJ.at_ face with⟨R,h2⟩ | ⟨l,xs,R,h2,h3,h4⟩
   .show(le,[],by rw[R];rfl,e7,by rw[h2];rfl,d9)
   .show(l,xs,by rw[R];rfl,U.same _ _ h3,h4.mono λ_ _ z=>z.sameT U.same.t,Jah h3 b4)
  have lx:=d3.length;have j0:=U.len hl;show(la,g1,ForA.byL (xs:=xs) (SqL.of c9) (λi σ H'=>i<=xs.length/\∃(v6:Option V)(r:List (Str × List Pr))(C:List Str),σ=[some (.ref j),some (.str one),some (.str other),some (.ref fd),some (.ref I),some (.str face),v6]/\Srch H M one fd I H' r C/\H' la=some (.lst xs)/\SameT H7 H'/\(∀ a∈r,a.1∉C->a.1≠face->∀ e∈JaH M a.1,e.1∈r.map (·.1))/\(∀ e∈(JaH M face).take i,e.1∈r.map (·.1))/\face∈r.map (·.1)/\2*(41-r.length)+C.length<=2*(41-ws.length)+wt'.length) ⟨Nat.zero_le _,v6,ws,wt',rfl,U,c9,SameT.refl _,λa J R h2=>cl a J (by simp[R,h2]),by simp,b1,Nat.le_refl _⟩ (λi σ H' z=>by let(_,_,_,_,_,_,z,_):=z;show SqL.of z) ?_ ?_)
  .intro i y σ H8 hy z_;let(hi,v6,r,C,rfl,B,a2,a1,a5,X,W,c5):=z_;have li:i<xs.length:=(List.getElem?_eq_some_iff.mp hy).1;let(e,he,b,c,rfl,f9,g0):=d3.at_ hy;have a7:=a1 _ _ rfl f9;have f2:=a1 _ _ rfl g0;have b6:(JaH M face).take (i+1)=(JaH M face).take i++[e]:=by rw[take_succ,he];rfl
   have c8:e∈JaH M face:=List.mem_of_getElem? he;let(i4,a0,a4):=B.dict;mleave;show ixT (i:=0) (SqT.of a7) rfl ?_;show(fd,_,rfl,DGet.k (k:=Sum.inr e.1) a0,?_);rw[a4.val];by_cases S:e.1∈r.map (·.1)
   .rw[decide_eq_true S];mleave;show(li,_,r,C,rfl,B,a2,a1,a5,λe' L=>?_,W,c5);rw[b6]at L;rcases mem_append.mp L with h' | h'
    .show X e' h'
    .rw[mem_singleton.mp h'];show S
   .rw[decide_eq_false S];mleave;let(a,v,J,f4,hv,l,xw,rfl,i9,i7,b8,b9):=a4.some W;have i6:=B.lw a J;have j2:=B.len hl;have i3:=b9.length;show(fd, .ref l,rfl,by rw[<- hv];show DGet.k (k:=Sum.inr face) a0,?_);show ixT (i:=1) (SqT.of a7) rfl ?_;show(by show 1<=sizeLine;ac_nf,?_);rename_i ln g9 h8 H8 H9 S9 e9;mleave;show .inl ⟨l,ln,xw,_,rfl,rfl,S9 _ _ b8,e9,by simp;ac_nf,?_⟩;rename_i lr Y i1 H9 Z g8 e0;mleave;mleave;have n:=S9.trans g8;have d5:=B.grow n;show ixT (i:=0) (SqT.of (n _ _ a7)) rfl ?_;have lk:=a4.length;show(fd,_,rfl,DPut.k (k:=Sum.inr e.1) (n _ _ a0) ∅,?_);generalize b2:upd Z fd _=a8;mleave;have n0:H lr=none:=by
     cases e:H lr with
     | none=>rfl
     | some o=>rw[S9 _ _ (B.same _ _ e)]at Y;cases Y
    have f0:lr≠I:=λz=>by have:=(B.grow S9).wait;rw[<- z,Y]at this;cases this
    have e5:Jbv M one (a.2++[e.2]) e.1:=.snoc (by rw[<- f4];show B.walk a J) c8;have a9:=n _ _ a0;have b7:=a4.mono (P':=PWy H Z I) λa v ζ=>(by let(l,xs,e1,hn,d6,hx,J):=ζ;show(l,xs,e1,hn,d6,n _ _ hx,J.mono λ_ _ z=>z.sameT n.t));have cv:CV Z e.2 (.ref c):=⟨c,rfl,n _ _ f2⟩;let(pp,c1,c3):=(Jbw (g:=e.1) (pr:=e.2)).mp c8;have c4:e.2.1=pp.nm:=by rcases c3 with h | h;rw[h.2.2];rw[h.2.2.2]
    have d0:(pp.st=face/\pp.en=e.1)\/(pp.en=face/\pp.st=e.1):=by rcases c3 with h | h;show .inl ⟨h.1,h.2.1⟩;show .inr ⟨h.2.1,h.2.2.1⟩
    have f5:((a.2++[e.2]).map (·.1)).Nodup/\∀ p∈M,p.nm∈(a.2++[e.2]).map (·.1)->p.st∈(r++[(e.1,a.2++[e.2])]).map (·.1)/\p.en∈(r++[(e.1,a.2++[e.2])]).map (·.1):=by
     have sm:=B.sim a J;have d7:e.2.1∉a.2.map (·.1):=λz=>by
      have:=sm.2 pp c1 (c4 ▸ z);rcases d0 with h | h
      .show S (h.2 ▸ this.2)
      .show S (h.2 ▸ this.1)
     rw[map_append,map_append,map_cons,map_nil,map_cons,map_nil];show(nodup_append.mpr ⟨sm.1,by simp,λx hx y hy z=>d7 (by rw[mem_singleton]at hy;rw[<- hy, <- z];show hx)⟩,λp hp hn=>?_);rcases mem_append.mp hn with hn | hn
     .have:=sm.2 p hp hn;show(mem_append.mpr (.inl this.1),mem_append.mpr (.inl this.2))
     .have ep:=Jfs f6 hp c1 ((mem_singleton.mp hn).trans c4);subst ep;have m1:e.1∈r.map (·.1)++[e.1]:=mem_append.mpr (.inr (by simp));have m2:face∈r.map (·.1)++[e.1]:=mem_append.mpr (.inl W);rcases d0 with h | h
      .rw[h.1,h.2];show(m2,m1)
      .rw[h.1,h.2];show(m1,m2)
    have G:=d5.find a9 b7 b0 S e5 (by simp;ac_nf) f5 n0 f0 e0 ((b9.mono (P':=CV Z) λ_ _ z=>z.sameT n.t).append (.one cv)) b2;have c0:SameT Z a8:=SameT.put b2 a9 rfl;have g2:la≠fd:=λz=>by rw[z,a0]at a2;cases a2
    have d1:a8 la=some (.lst xs):=by rw[<- b2,Jai g2];show n _ _ a2
    have g6:=G.len hl;rw[length_append,length_singleton]at g6;have j1:(C.map V.str).length<=81:=by
     rw[length_map];rw[length_append,length_singleton]at b3;ac_nf
    show(.inl ⟨rfl,_,SqL.of G.wait⟩,?_);show ixT (i:=0) (SqT.of (c0 _ _ rfl (n _ _ a7))) rfl ?_;show(I,_,_,rfl,rfl,G.wait,by ac_nf,?_);generalize a6:upd a8 I _=d8;mleave;have ea:C.map V.str++[V.str e.1]=(C++[e.1]).map V.str:=by simp
    rw[ea]at a6;have c6:=G.wait' b4 a6 (λf hf=>by
     rcases mem_append.mp hf with h' | h'
     .show G.sub f h'
     .rw[mem_singleton.mp h',map_append];simp)
    have f8:SameT a8 d8:=SameT.put a6 G.wait rfl;show(li,_,r++[(e.1,a.2++[e.2])],C++[e.1],rfl,c6,by rw[<- a6,Jai f1];show d1,a1.trans (n.t.trans (c0.trans f8)),λa' g3 R h2 e' L=>?_,λe' L=>?_,?_,?_)
    .rw[map_append];rcases mem_append.mp g3 with h' | h'
     .show mem_append.mpr (.inl (a5 a' h' (λz=>R (by simp[z])) h2 e' L))
     .show absurd ?_ R;rw[mem_singleton.mp h'];simp
    .rw[map_append];rw[b6]at L;rcases mem_append.mp L with h' | h'
     .show mem_append.mpr (.inl (X e' h'))
     .rw[mem_singleton.mp h'];simp
    .rw[map_append];show mem_append.mpr (.inl W)
    .rw[length_append,length_append,length_singleton,length_singleton];ac_nf
  .intro σ H8 z_;let(hi,v6,r,C,rfl,B,a2,a1,a5,X,W,c5):=z_;rw[length_append,length_singleton]at b3;show(_,by rw[length_append,length_singleton];ac_nf,some (.str face),v6,r,C,rfl,B,λa J hn e he=>?_,rfl,by ac_nf);by_cases c:a.1=face
   .rw[take_of_length_le ∅]at X;rw[c]at he;show X e he
   .show a5 a J hn c e he
abbrev Bal:Stmt:=inClass (top 54) 0
theorem JaO:Jan ["self","parts","gaps","joints","row","part","gap","found"] ["self","parts","gaps"] (Jaf Bal):=by bv_decide
def JbK(K:W.Frag)(Ad:Adr):Sp:=λvs H Q E=>∃(x dx a c:Addr)(xs zs:List V)(ls0:List PD)(gs0:List GD)(H0:Hp),vs=[.ref x, .ref a, .ref c]/\H x=some (.ins Ad.Thing dx [])/\H0 x=none/\Same H0 H/\SqL K H0 a xs/\All2 (PDV K H0) ls0 xs/\SqL K H0 c zs/\All2 (λ(g:GD) v=>TV K H0 g.td v) gs0 zs/\ls0.length<=20/\gs0.length<=20/\(∀ p∈ls0,POk p)/\(∀ g∈gs0,TOk g.td)/\(ls0.map (·.nm)).Nodup/\(gs0.map (·.nm)).Nodup/\(∀(i:Nat) p,ls0[i]?=some p->¬ Conn (ls0.take i) p.st p.en)/\(∀ g∈gs0,Conn ls0 g.st g.en)/\∀ H',Same H0 H'->TK K Ad H' x ls0 gs0->Q .non H'
theorem JdH(F:"__init__"∘"Thing.__init__"∘Bal)(T:Txt K mg Ad)(BcZ:KCal P w K mg base 1 "Joints" Ad.Joints ["self"] (JbB K Ad))(Bcw:6∘"part_of"∘["thing"]∘(JdN K Ad))(Bc0:7∘"gap_of"∘["thing"]∘(JeJ K Ad))(Ba8:1∘"way_between"∘(Jdk Ad)∘["self","one","other"]∘(Jbi K Ad))(BdM:1∘"link"∘(Jdk Ad)∘["self","part"]∘(Jcm K Ad)):9∘["self","parts","gaps"]∘(JbK K Ad):=by
 show F.okn JaO (by subst_eqs) (λn8 A k8 s H vs Q E hr h=>?_)
 let(x,Y,a,c,xs,zs,e1,f9,M,rfl,h):=h;have hu:=hr.units;show(_,(Jab (Jaj 3 JaO.nd (BcZ.ev0 hr ⋯ rfl passF)) (Jab (Jbb (pv 0) Jbq rfl) (Jab (JaI PassesOwn.never rfl (pi_U (pv 1)) (Jao 4 JaO.nd) (Jab (Jaj 5 JaO.nd (Bcw.ev hr ⋯ rfl passF %[pv 4|0])) (Jab (ps_if (JeC (JhG (hu1 hu) (Jas (pv 5) rfl) (Jas (pv 0) rfl)) (by with_unfolding_all rfl)) (Jag ps_no)
   Jav) (Jab (ps_if (Jay JfF (Ba8.m hr ⋯ passF (pv 3) %[Jas (pv 5) rfl,Jas (pv 5) rfl|0]) Jez (JaB _)) (Jag ps_no)
   Jav) (Jab (Ja5 (BdM.m hr ⋯ passF (pv 3) %[pv 5|0])) (Jag (Jbn (hu1 hu) (Jas (pv 0) rfl) (Jas (pv 5) rfl) (pv 5) rfl))))))) (Jab (Jbb (pv 0) Jbq rfl) (Jab (Jbb (pv 0) Jbq rfl) (Jag (JaI PassesOwn.never rfl (pi_U (pv 2)) (Jao 4 JaO.nd) (Jab (Jaj 6 JaO.nd (Bc0.ev hr ⋯ rfl passF %[pv 4|0])) (Jab (ps_if (JeC (JhG (hu1 hu) (Jas (pv 6) rfl) (Jas (pv 0) rfl)) (by with_unfolding_all rfl)) (Jag ps_no)
   Jav) (Jab (Jaj 7 JaO.nd (Ba8.m hr ⋯ passF (pv 3) %[Jas (pv 6) rfl,Jas (pv 6) rfl|0])) (Jab (ps_if (Jay JfE (pv 7) Jez (JaB _)) (Jag ps_no)
   Jav) (Jab (Jbn (hu1 hu) (Jas (pv 0) rfl) (Jas (pv 6) rfl) (pv 6) rfl) (Jag (Jbn (hu1 hu) (Jas (pv 0) rfl) (Jas (pv 6) rfl) (pv 7) rfl)))))))))))))),?_)
 clear hu;let(hx,f2,S0,hS,hE,hC,hG,hl,hg,j8,k0,l0,l5,k6,m3,k):=h;have X:=T.Bbn _ rfl;have pc:=T.BcS _ rfl;have gc:=T.BdK _ rfl;have sl:(1000:Nat)<=sizeLine:=by decide
 have le:=hE.length;have lg:=hG.length;show tSeq _ _ _ [some (.ref x),some (.ref a),some (.ref c),none,none,none,none,none] H;mvcgen;intro j dj hj k4 nj;have Sm:Same H (upd (upd H dj (.own j)) j (.ins Ad.Joints dj [])):=λb u q=>by rw[Jai (Jah q hj),Jai (Jah q k4)];show q
 generalize um:upd (upd H dj (.own j)) j (.ins Ad.Joints dj [])=Hm at Sm ⊢;mvcgen;have em:Hm j=some (.ins Ad.Joints dj []):=by rw[<- um,Jam]
 show(j,dj,rfl,em,λd H1 m6 o2 k9 b6 g5=>⟨rfl,?_⟩);have J:∀{H:Hp}{b:Addr},Same M H->H b=none->M b=none:=λ{H b} S h=>by
  cases e:M b with
  | none=>rfl
  | some o=>rw[S _ _ e]at h;cases h
 have f6:∀{H B:Hp}{d:Addr}{kv:List (Key × V)},(∀ b u,b≠d->H b=some u->B b=some u)->H d=some (.dK kv)->SameI H B:=λ{H B d kv} S hd b u t h=>S b u (λz=>by rw[z,hd]at h;cases h;simp[isTI,isTF]at t) h;have j2:∀{H B:Hp}{d b:Addr}{kv:List (Key × V)}{ys:List V},(∀ b u,b≠d->H b=some u->B b=some u)->H d=some (.dK kv)->H b=some (.lst ys)->B b=some (.lst ys):=λ{H B d b kv ys} S hd h=>S _ _ (λz=>by rw[z,hd]at h;cases h) h;have f3:∀{H B:Hp}{e:Addr}{kv:List (Key × V)}{D:List PD},(∀ b u,b≠e->H b=some u->B b=some u)->H e=some (.dK kv)->e≠d->JK Ad M H j d D->JK Ad M B j d D:=λ{H B e kv D} S he ne ζ=>(by let((dj,h1),h2,kvs,h3,h4,h5):=ζ;show(⟨dj,S _ _ (λz=>by rw[z,he]at h1;cases h1) h1⟩,h2,kvs,S _ _ (Ne.symm ne) h3,h4,h5.sx S he));have j0:=J S0 hj;have i5:Same M H1:=λb u h=>g5 b u (Jah h j0) (Sm _ _ (S0 _ _ h));have d4:x≠j:=Jah hx hj;have f1:H1 x=some (.ins Ad.Thing Y []):=g5 x _ d4 (Sm _ _ hx);have d0:M d=none:=J (S0.trans Sm) m6
 (try ((with_reducible show Nxt.go (by assumption) ?_);mvcgen))
 rename_i N W n7 H1 H2 S2 e2;mvcgen;mvcgen;show(x,_,Y,_,rfl,S2 _ _ f1,X.cls,X.n1,by simp,?_);generalize u3:upd H2 x _=H3;mvcgen;have e3:H3 x=some (.ins Ad.Thing Y [("parts_by_name", .ref N)]):=by rw[<- u3];show Jam.trans rfl
 have b5:∀ b u,b≠x->H2 b=some u->H3 b=some u:=λb u hb h=>by rw[<- u3,Jai hb];show h
 have g2:Same M H3:=λb u h=>b5 _ _ (Jah h f2) (S2 _ _ (i5 _ _ h));have f4:d≠x:=λz=>by rw[z,f1]at b6;cases b6
 have a4:N≠x:=λz=>by rw[z,f1]at W;cases W
 have c5:N≠d:=λz=>by rw[z,b6]at W;cases W
 have h6:H3 N=some (.dK []):=b5 _ _ a4 e2;have l4:=J i5 W;have k5:JK Ad M H3 j d []:=⟨⟨dj,b5 _ _ (Ne.symm d4) (S2 _ _ k9)⟩,d0,[],b5 _ _ f4 (S2 _ _ b6),by simp,JD.nil⟩;show(a,rfl,ForA.byL (xs:=xs) (hS.same g2) (λi σ B=>i<=xs.length/\∃(v4 v5:Option V)(k1:List (Key × V))(D:List PD),σ=[some (.ref x),some (.ref a),some (.ref c),some (.ref j),v4,v5,none,none]/\Same M B/\B x=some (.ins Ad.Thing Y [("parts_by_name", .ref N)])/\JK Ad M B j d D/\B N=some (.dK k1)/\BG (·.nm) (POV K Ad B) D k1/\D.length=i/\(D.map (·.nm)).Nodup/\D=e1.take i) ⟨Nat.zero_le _,none,none,[],[],rfl,g2,e3,k5,h6,⟨rfl,rfl⟩,rfl, .nil,rfl⟩ (λi σ B z=>by let(_,_,_,_,_,_,z,_):=z;show hS.same z) ?_ ?_)
 .intro i y σ H4 hy z_;let(hi,v4,v5,k1,D,rfl,S4,a1,f5,a5,c1,i0,b9,hw):=z_;have li:i<xs.length:=(List.getElem?_eq_some_iff.mp hy).1;let(p,hp,e9):=hE.at_ hy;have ok:=j8 p (List.mem_of_getElem? hp);have g6:D++[p]=e1.take (i+1):=by rw[hw,take_succ,hp];rfl
  have cn:p.nm∉D.map (·.nm):=JgP g6 l0;have lk:=c1.length;mvcgen;show(y,p,rfl,e9.sameT S4.t,ok,λv H5 S5 pv=>?_);let(q,dq,vz,vm,rfl,b7,hz,hm):=id pv;have g0:=S5 _ _ a1;have i6:=S5 _ _ a5;have f7:=f5.same S5;have j5:=c1.mono (P':=POV K Ad H5) λ_ _ z=>z.si (Same.i S5);let((j6,j3),_):=id f7;mvcgen;show(q,_,dq,_, .str p.nm,rfl,b7,pc.cls,pc.n1,rfl,?_);show(x,_,Y,_, .ref N,rfl,g0,X.cls,X.n1,rfl,?_);show(N,_,rfl,DGet.k (k:=Sum.inr p.nm) i6,?_);rw[j5.val];rw[decide_eq_false cn];mvcgen;show(j,_,j6,_,rfl,j3,rfl,rfl,?_);mvcgen;show(q,_,dq,_, .str p.st,rfl,b7,pc.cls,pc.n2,rfl,?_);show(q,_,dq,_, .str p.en,rfl,b7,pc.cls,pc.n3,rfl,?_);show(j,d,p.st,p.en,D,M,rfl,f7,by ac_nf,b9,λhc H6 S6=>?_,λw l yy H6 S6 n9 e6 h0 d8 _=>absurd (show Conn D p.st p.en from⟨w,d8⟩) (by rw[hw];show k6 i p hp));mvcgen;have d9:=f7.same S6;have d6:=S4.trans (S5.trans S6);show(j,_,j6,_,rfl,S6 _ _ j3,rfl,rfl,?_);mvcgen;show(j,d, .ref q,D,p,M,rfl,d9,d6,pv.si (Same.i S6),ok.ne,by ac_nf,λH7 l9 sj m9=>?_);have nd:∀{b:Addr}{C dd:Addr}{ff:List (Str × V)},H6 b=some (.ins C dd ff)->H7 b=some (.ins C dd ff):=λ{b C dd ff} h=>by
   let(_,_,_,d5,_):=d9;show sj _ _ (λz=>by rw[z,d5]at h;cases h) (by intro xs z;cases z) h
  have SI:SameI H6 H7:=λb u t h=>by
   let(_,_,_,d5,_):=d9;show sj b u (λz=>by rw[z,d5]at h;cases h;simp[isTI,isTF]at t) (λxs z=>by rw[z]at t;simp[isTI,isTF]at t) h
  have g1:H7 N=some (.dK k1):=sj _ _ c5 (by intro xs z;cases z) (S6 _ _ i6);have l8:=j5.mono (P':=POV K Ad H7) λ_ _ z=>(z.si (Same.i S6)).si SI;have m4:=(pv.si (Same.i S6)).si SI;mvcgen;show(x,_,Y,_, .ref N,rfl,nd (S6 _ _ g0),X.cls,X.n1,rfl,?_);show(q,_,dq,_, .str p.nm,rfl,nd (S6 _ _ b7),pc.cls,pc.n1,rfl,?_);show(N,_,rfl,DPut.k (k:=Sum.inr p.nm) g1 ∅,?_);generalize u8:upd H7 N _=H8;mvcgen;have e8:=putE u8;have c2:∀ b u,b≠N->H7 b=some u->H8 b=some u:=λb u hb h=>by rw[<- u8,Jai hb];show h
  have l7:=f6 c2 g1;show(li,_,_,_,D++[p],rfl,λb u h=>c2 _ _ (Jah h l4) (l9 _ _ h),c2 _ _ (Ne.symm a4) (nd (S6 _ _ g0)),f3 c2 g1 c5 m9,e8,?_,by simp[i0],by rw[map_append];show nodup_append.mpr ⟨b9,by simp,λu hu v hv z=>cn (by have e:v=p.nm:=mem_singleton.mp hv;rw[<- e, <- z];show hu)⟩,g6);show(l8.new (a:=p) cn m4).mono λ_ _ z=>z.si l7
 .intro σ H4 z_;let(hi,v4,v5,k1,D,rfl,S4,a1,f5,a5,c1,i0,b9,hw):=z_;rw[take_of_length_le ∅]at hw;subst hw;mvcgen;let((k7,m5),_,m0,a7,h9,m1):=id f5;rename_i d2 I n6 H4 H5 S5 e5;mvcgen;show(x,_,Y,_,rfl,S5 _ _ a1,X.cls,X.n2,by simp,?_);generalize u6:upd H5 x _=H6;mvcgen;have e6:H6 x=some (.ins Ad.Thing Y [("parts_by_name", .ref N),("gaps_by_name", .ref d2)]):=by rw[<- u6];show Jam.trans rfl
  have a9:∀ b u,b≠x->H5 b=some u->H6 b=some u:=λb u hb h=>by rw[<- u6,Jai hb];show h
  mvcgen;rename_i d3 r n4 H6 H7 S7 e7;mvcgen;show(x,_,Y,_,rfl,S7 _ _ e6,X.cls,X.n3,by simp,?_);generalize u8:upd H7 x _=H8;mvcgen;have e8:H8 x=some (.ins Ad.Thing Y [("parts_by_name", .ref N),("gaps_by_name", .ref d2),("ways", .ref d3)]):=by rw[<- u8];show Jam.trans rfl
  have d7:∀ b u,b≠x->H7 b=some u->H8 b=some u:=λb u hb h=>by rw[<- u8,Jai hb];show h
  have a0:∀ b u,b≠x->H4 b=some u->H8 b=some u:=λb u hb h=>d7 _ _ hb (S7 _ _ (a9 _ _ hb (S5 _ _ h)));have b1:d2≠x:=λz=>by rw[z,a1]at I;cases I
  have c9:d2≠N:=λz=>by rw[z,a5]at I;cases I
  have h7:d2≠d:=λz=>by rw[z,a7]at I;cases I
  have c6:d3≠x:=λz=>by rw[z,e6]at r;cases r
  have j4:=a9 _ _ a4 (S5 _ _ a5);have l2:=a9 _ _ f4 (S5 _ _ a7);have c4:=a9 _ _ b1 e5;have e4:d3≠N:=λz=>by rw[z,j4]at r;cases r
  have g3:d3≠d:=λz=>by rw[z,l2]at r;cases r
  have a8:d3≠d2:=λz=>by rw[z,c4]at r;cases r
  have m8:=J S4 I;have d6:Same M H6:=λb u h=>a9 _ _ (Jah h f2) (S5 _ _ (S4 _ _ h));have j9:=J d6 r;have g7:Same M H8:=λb u h=>a0 _ _ (Jah h f2) (S4 _ _ h);have i7:SameT H4 H8:=λb u t h=>a0 _ _ (λz=>by rw[z,a1]at h;cases h;simp[isTF]at t) h;have m7:JK Ad M H8 j d D:=⟨⟨k7,a0 _ _ (Ne.symm d4) m5⟩,d0,m0,a0 _ _ f4 a7,h9,m1.sy a0 a1 (by intro xs z;cases z) rfl⟩;have l3:BG (·.nm) (POV K Ad H8) D k1:=c1.mono λp v ⟨q,dq,vz,vm,h1,h2,h3,h4⟩=>⟨q,dq,vz,vm,h1,a0 _ _ (ne_of h2 a1 (by
   intro z;injection z with _ _ z3
   have:=congrArg List.length z3;simp[partF]at this)) h2,h3.sameT i7,h4.sameT i7⟩
  show(c,rfl,ForA.byL (xs:=zs) (hC.same g7) (λi σ B=>i<=zs.length/\∃(v4 v6 v7:Option V)(k2 k3:List (Key × V))(gs:List GD),σ=[some (.ref x),some (.ref a),some (.ref c),some (.ref j),v4,v5,v6,v7]/\Same M B/\B x=some (.ins Ad.Thing Y [("parts_by_name", .ref N),("gaps_by_name", .ref d2),("ways", .ref d3)])/\JK Ad M B j d D/\B N=some (.dK k1)/\BG (·.nm) (POV K Ad B) D k1/\B d2=some (.dK k2)/\BG (·.nm) (GOV K Ad B) gs k2/\B d3=some (.dK k3)/\BG (·.nm) (WOV B D) gs k3/\gs.length=i/\gs=f9.take i) ⟨Nat.zero_le _,v4,none,none,[],[],[],rfl,g7,e8,m7,a0 _ _ a4 a5,l3,d7 _ _ b1 (S7 _ _ c4),⟨rfl,rfl⟩,d7 _ _ c6 e7,⟨rfl,rfl⟩,rfl,rfl⟩ (λi σ B z=>by let(_,_,_,_,_,_,_,_,z,_):=z;show hC.same z) ?_ ?_)
  .intro i y σ H9 hy z_;let(hi,v4,v6,v7,k2,k3,gs,rfl,S9,b3,h8,b2,f8,a3,a6,b4,b8,i9,c0):=z_;have li:i<zs.length:=(List.getElem?_eq_some_iff.mp hy).1;let(g,e0,e9):=hG.at_ hy;have ok:=k0 g (List.mem_of_getElem? e0);have j7:gs++[g]=f9.take (i+1):=by rw[c0,take_succ,e0];rfl
   have cn:g.nm∉gs.map (·.nm):=JgP j7 l5;have lk:=a6.length;have o1:=b8.length;mvcgen;show(y,g,rfl,TV.sameT S9.t e9,ok,λv o0 c3 gv=>?_);let(q,dq,vl,vg,rfl,O,hz,hm):=id gv;have i2:=c3 _ _ b3;have g4:=c3 _ _ a3;have b0:=h8.same c3;let((i4,g8),_):=id b0;mvcgen;show(q,_,dq,_, .str g.nm,rfl,O,gc.cls,gc.n1,rfl,?_);show(x,_,Y,_, .ref d2,rfl,i2,X.cls,X.n2,rfl,?_);show(d2,_,rfl,DGet.k (k:=Sum.inr g.nm) g4,?_);rw[a6.val];rw[decide_eq_false cn];mvcgen;show(j,_,i4,_,rfl,g8,rfl,rfl,?_);mvcgen;show(q,_,dq,_, .str g.st,rfl,O,gc.cls,gc.n2,rfl,?_);show(q,_,dq,_, .str g.en,rfl,O,gc.cls,gc.n3,rfl,?_);show(j,d,g.st,g.en,D,M,rfl,b0,by ac_nf,b9,λhc a2 Z=>absurd (m3 g (List.mem_of_getElem? e0)) hc,λw l yy a2 Z n5 l1 h0 d8 n0=>?_);mvcgen;have n:=c3.trans Z;have U:=n _ _ a3;show(x,_,Y,_, .ref d2,rfl,n _ _ b3,X.cls,X.n2,rfl,?_);show(q,_,dq,_, .str g.nm,rfl,Z _ _ O,gc.cls,gc.n1,rfl,?_);show(d2,_,rfl,DPut.k (k:=Sum.inr g.nm) U ∅,?_);generalize i1:upd a2 d2 _=c8;mvcgen;have m2:=putE i1;have G:∀ b u,b≠d2->a2 b=some u->c8 b=some u:=λb u hb h=>by rw[<- i1,Jai hb];show h
   have g9:=f6 G U;have c7:=G _ _ (Ne.symm b1) (n _ _ b3);have j1:=G _ _ (λz=>by have:=Z _ _ O;rw[z,U]at this;cases this) (Z _ _ O);have R:=G _ _ a8 (n _ _ b4);mvcgen;show(x,_,Y,_, .ref d3,rfl,c7,X.cls,X.n3,rfl,?_);show(q,_,dq,_, .str g.nm,rfl,j1,gc.cls,gc.n1,rfl,?_);show(d3,_,rfl,DPut.k (k:=Sum.inr g.nm) R ∅,?_);generalize i3:upd c8 d3 _=f0;mvcgen;have l6:=putE i3;have L:∀ b u,b≠d3->c8 b=some u->f0 b=some u:=λb u hb h=>by rw[<- i3,Jai hb];show h
   have i8:=f6 L R;have SI:SameI a2 f0:=λb u t h=>i8 b u t (g9 b u t h);have wv:∀{g:GD}{v:V},WOV a2 D g v->WOV f0 D g v:=λ{g v} ζ=>(by let(l,xs,w,h1,h2,h3,h4):=ζ;show(l,xs,w,h1,j2 L R (j2 G U h2),h3.mono λ_ _ z=>z.sameT SI.t,h4));show(li,_,_,_,_,_,gs++[g],rfl,λb u h=>L _ _ (Jah h j9) (G _ _ (Jah h m8) (n _ _ (S9 _ _ h))),L _ _ (Ne.symm c6) c7,f3 L R g3 (f3 G U h7 (b0.same Z)),L _ _ (Ne.symm e4) (G _ _ (Ne.symm c9) (n _ _ b2)),f8.mono λ_ _ z=>(z.si (Same.i n)).si SI,L _ _ (Ne.symm a8) m2,?_,l6,?_,by simp[i9],j7)
   .show((a6.mono (P':=GOV K Ad a2) λ_ _ z=>z.si (Same.i n)).new (a:=g) cn (gv.si (Same.i Z))).mono λ_ _ z=>z.si SI
   .show((b8.mono (P':=WOV a2 D) λ_ _ z=>z.same n).new (a:=g) cn ⟨l,yy,w,rfl,l1,h0,d8,n0⟩).mono λ_ _ z=>wv z
  .intro σ H9 z_;let(hi,v4,v6,v7,k2,k3,gs,rfl,S9,b3,h8,b2,f8,a3,a6,b4,b8,i9,c0):=z_;rw[take_of_length_le ∅]at c0;subst c0;mvcgen;show k H9 S9 ⟨Y,N,d2,d3,k1,k2,k3,b3,b2,f8,a3,a6,b4,b8⟩
abbrev BaG:Stmt:=inClass (top 54) 1
theorem JeZ:Jan ["self"] ["self"] (Jaf BaG):=by bv_decide
def JaY(K:W.Frag)(Ad:Adr):Sp:=λvs H Q E=>∃(x:Addr)(ls:List PD)(gs:List GD),vs=[.ref x]/\TK K Ad H x ls gs/\ls.length<=20/\∀ l ys H',Same H H'->H l=none->H' l=some (.lst ys)->All2 (PDV K H') ls ys->Q (.ref l) H'
theorem JeT(F:"parts"∘"Thing.parts"∘BaG)(T:Txt K mg Ad)(Bdq:1∘"plain"∘(IsPart Ad)∘["self"]∘(JcC K Ad)):2∘["self"]∘(JaY K Ad):=by
 show F.okn JeZ (by subst_eqs) (λa0 A R s H vs Q E hr h=>?_)
 let(x,ls,gs,rfl,h):=h;show(_,(Jag (Jaq (Jg5 (JeA (Jby (own:=["part"]) (cs:=[]) rfl (Jjc (Jas (pv 0) rfl)) (λ_ _ _ _=>(Jao 0 (show[("part" : Str)].Nodup by decide))) (λ_ _ _ _=>Jb3) (λ_ _ _ _=>(Bdq.m0 hr ⋯ passF (pv 0))) (JbF rfl) ⋯ rfl ⋯ hcs0))))),?_);let((dx,a,d2,d3,l,k2,k3,hx,j,b1,_),hl,k):=h;have tc:=T.Bbn _ rfl;have sl:(1000:Nat)<=sizeLine:=by decide
 have lk:=b1.length;show tRet _ _ [some (.ref x)] H;mleave;show(a,l,j,x,_,dx,_, .ref a,rfl,hx,tc.cls,tc.n1,rfl,a,l,rfl,j,λM=>?_);generalize Z:upd H a (.frz M (.dK l))=H1;mleave;have f1:H1 a=some (.frz M (.dK l)):=by rw[<- Z,Jam]
 have o1:∀ b u,b≠a->H b=some u->H1 b=some u:=λb u U h=>by rw[<- Z,Jai U];show h
 show CompJ.vals (λi m C=>C a=some (.frz M (.dK l))/\(∀ b u,b≠a->H b=some u->C b=some u)/\(∀ b u,b≠a->C b=some u->H b=none->True)/\All2 (PDV K C) (ls.take i) m) ⟨f1,o1,λ_ _ _ _ _=>trivial,rfl⟩ (λi m C hi z=>⟨z.1,by have:=z.2.2.2.length;rw[length_take]at this;ac_nf⟩) ?_ ?_
 .rintro i v m I hv ⟨B,n,_,L⟩;simpa only[length_singleton,List.replicate,JaF,map_cons,map_nil,Option.join_some];let(p,hp,q,dq,N,G,rfl,hq,hz,hm):=b1.2.at_ hv;have W:∀{b:Addr}{u:HO},H b=some u->isTI u=true->I b=some u:=λ{b u} h t=>n _ _ (λz=>by rw[z,j]at h;cases h;simp[isTI,isTF]at t) h;have T2:SameT H I:=λb u t h=>W h (by cases u <;> first | show t | (simp[isTF]at t));show(q,_,dq,_,rfl,W hq rfl,rfl,rfl,q,dq,_,_,_,N,G,_,rfl,W hq rfl,λr y d X=>?_);show(d _ _ B,λb u U h=>d _ _ (n _ _ U h),λ_ _ _ _ _=>trivial,?_);rw[take_succ,hp];show(L.mono (P':=PDV K y) λ_ _ z=>z.sameT d.t).append (.one ⟨r,N,G,rfl,SqT.of X,(hz.sameT T2).sameT d.t,(hm.sameT T2).sameT d.t⟩)
 .rintro m I ⟨B,n,_,L⟩;rw[take_of_length_le ∅]at L;rename_i r g a1 I y d X;mleave;show(M,l,d _ _ B,?_);generalize D:upd y a (.dK l)=J;mleave;have Y:r≠a:=λz=>by rw[z,B]at g;cases g
  have e4:J r=some (.lst m):=by rw[<- D,Jai Y];show X
  have S:Same H J:=λb u h=>by
   by_cases c:b=a
   .subst c;rw[j]at h;cases h;rw[<- D,Jam]
   .rw[<- D,Jai c];show d _ _ (n _ _ c h)
  have f3:=d _ _ B;have O:∀{b:Addr}{xs:List V},SqT K y b xs->SqT K J b xs:=λ{b xs} h=>by
   rcases h with(h | ⟨o,h⟩) | h
   .show .inl (.inl (by rw[<- D,Jai (λz=>by rw[z,f3]at h;cases h)];show h))
   .show .inl (.inr ⟨o,by rw[<- D,Jai (λz=>by rw[z,f3]at h;cases h)];show h⟩)
   .show .inr h
  have hn:H r=none:=by
   cases e:H r with
   | none=>rfl
   | some o=>rw[n _ _ Y e]at g;cases g
  show k r m J S hn e4 ((L.mono (P':=PDV K y) λ_ _ z=>z.sameT d.t).mono λp v ζ=>by let(b,N,G,h1,h2,(pz,h3,h4),(pm,h5,h6)):=ζ;show(b,N,G,h1,O h2,⟨pz,h3,O h4⟩,⟨pm,h5,O h6⟩))
abbrev BaO:Stmt:=inClass (top 54) 2
theorem JfJ:Jan ["self"] ["self"] (Jaf BaO):=by bv_decide
def JbD(K:W.Frag)(Ad:Adr):Sp:=λvs H Q E=>∃(x:Addr)(ls:List PD)(gs:List GD),vs=[.ref x]/\TK K Ad H x ls gs/\gs.length<=20/\∀ l ys H',Same H H'->H l=none->H' l=some (.lst ys)->All2 (λ(g:GD) v=>TV K H' g.td v) gs ys->Q (.ref l) H'
theorem Jfv(F:"gaps"∘"Thing.gaps"∘BaO)(T:Txt K mg Ad)(Bcx:1∘"plain"∘(IsGap Ad)∘["self"]∘(JcW K Ad)):2∘["self"]∘(JbD K Ad):=by
 show F.okn JfJ (by subst_eqs) (λa0 A S s H vs Q E hr h=>?_)
 let(x,ls,gs,rfl,h):=h;show(_,(Jag (Jaq (Jg5 (JeA (Jby (own:=["gap"]) (cs:=[]) rfl (Jjc (Jas (pv 0) rfl)) (λ_ _ _ _=>(Jao 0 (show[("gap" : Str)].Nodup by decide))) (λ_ _ _ _=>Jb3) (λ_ _ _ _=>(Bcx.m0 hr ⋯ passF (pv 0))) (JbF rfl) ⋯ rfl ⋯ hcs0))))),?_);let((dx,d1,a,d3,k1,m,k3,hx,_,_,l,b2,_),hl,k):=h;have tc:=T.Bbn _ rfl;have sl:(1000:Nat)<=sizeLine:=by decide
 have lk:=b2.length;show tRet _ _ [some (.ref x)] H;mleave;show(a,m,l,x,_,dx,_, .ref a,rfl,hx,tc.cls,tc.n2,rfl,a,m,rfl,l,λN=>?_);generalize uf:upd H a (.frz N (.dK m))=H1;mleave;have f1:H1 a=some (.frz N (.dK m)):=by rw[<- uf,Jam]
 have o1:∀ b u,b≠a->H b=some u->H1 b=some u:=λb u W h=>by rw[<- uf,Jai W];show h
 show CompJ.vals (λi n L=>L a=some (.frz N (.dK m))/\(∀ b u,b≠a->H b=some u->L b=some u)/\All2 (λ(g:GD) v=>TV K L g.td v) (gs.take i) n) ⟨f1,o1,rfl⟩ (λi n L hi z=>⟨z.1,by have:=z.2.2.length;rw[length_take]at this;ac_nf⟩) ?_ ?_
 .rintro i v n I hv ⟨C,y,M⟩;simpa only[length_singleton,List.replicate,JaF,map_cons,map_nil,Option.join_some];let(p,hp,q,dq,O,G,rfl,hq,hz,hm):=b2.2.at_ hv;have X:∀{b:Addr}{u:HO},H b=some u->isTI u=true->I b=some u:=λ{b u} h t=>y _ _ (λz=>by rw[z,l]at h;cases h;simp[isTI,isTF]at t) h;have T2:SameT H I:=λb u t h=>X h (by cases u <;> first | show t | (simp[isTF]at t));show(q,_,dq,_,rfl,X hq rfl,rfl,rfl,q,dq,_,_,_,O,G,rfl,X hq rfl,λr B d Y=>?_);show(d _ _ C,λb u W h=>d _ _ (y _ _ W h),?_);rw[take_succ,hp];show(M.mono (P':=λ(g:GD) v=>TV K B g.td v) λ_ _ z=>z.sameT d.t).append (.one ⟨r,O,G,rfl,SqT.of Y,(hz.sameT T2).sameT d.t,(hm.sameT T2).sameT d.t⟩)
 .rintro n I ⟨C,y,M⟩;rw[take_of_length_le ∅]at M;rename_i r j a1 I B d Y;mleave;show(N,m,d _ _ C,?_);generalize D:upd B a (.dK m)=J;mleave;have Z:r≠a:=λz=>by rw[z,C]at j;cases j
  have e4:J r=some (.lst n):=by rw[<- D,Jai Z];show Y
  have U:Same H J:=λb u h=>by
   by_cases c:b=a
   .subst c;rw[l]at h;cases h;rw[<- D,Jam]
   .rw[<- D,Jai c];show d _ _ (y _ _ c h)
  have f3:=d _ _ C;have R:∀{b:Addr}{xs:List V},SqT K B b xs->SqT K J b xs:=λ{b xs} h=>by
   rcases h with(h | ⟨o,h⟩) | h
   .show .inl (.inl (by rw[<- D,Jai (λz=>by rw[z,f3]at h;cases h)];show h))
   .show .inl (.inr ⟨o,by rw[<- D,Jai (λz=>by rw[z,f3]at h;cases h)];show h⟩)
   .show .inr h
  have hn:H r=none:=by
   cases e:H r with
   | none=>rfl
   | some o=>rw[y _ _ Z e]at j;cases j
  show k r n J U hn e4 ((M.mono (P':=λ(g:GD) v=>TV K B g.td v) λ_ _ z=>z.sameT d.t).mono λp v ζ=>by let(b,O,G,h1,h2,(pz,h3,h4),(pm,h5,h6)):=ζ;show(b,O,G,h1,R h2,⟨pz,h3,R h4⟩,⟨pm,h5,R h6⟩))
abbrev Ba3:Stmt:=inClass (top 54) 3
theorem Jgv:Jan ["self","name"] ["self","name"] (Jaf Ba3):=by bv_decide
def Jci(K:W.Frag)(Ad:Adr):Sp:=λvs H Q E=>∃(x:Addr)(z:Str)(ls:List PD)(gs:List GD),vs=[.ref x, .str z]/\TK K Ad H x ls gs/\(z∉gs.map (·.nm)->E (.ref Ad.NoName) none H)/\(∀ g∈gs,g.nm=z->∀ l xs w H',Same H H'->H l=none->H' l=some (.lst xs)->All2 (CV H') w xs->Jbv ls g.st w g.en->(w.map (·.1)).Nodup->Q (.ref l) H')
theorem Jgj(F:"way"∘"Thing.way"∘Ba3)(T:Txt K mg Ad)  : 1∘["self","name"]∘(Jci K Ad):=by
 show F.okx Jgv (λJ H Q E h=>?_) (λC A n s H J Q E R h=>?_)
 .let(x,z,S,y,rfl,_):=h;rfl
 let(x,z,S,y,rfl,h):=h;have j:=R.units;show(_,(Jab (ps_if (JeC (Jdq (hu1 j) (pv 1) (Jas (pv 0) rfl)) (by with_unfolding_all rfl)) (Jag (JhL PySem.F.excBase_ValueError T.Bb7 rfl T.BdU %[Jdr|0]))
   Jav) (Jag (Jaq (JbR JhW rfl T.BdZ Jin %[JaN (hu1 j) (Jas (pv 0) rfl) (pv 1) (λ_ _=>rfl)|0])))),?_)
 clear j;let((u,Z,d2,d,k1,k2,k3,B,W,b1,M,Y,a,p),L,k):=h;have b:=T.Bbn _ rfl;show tSeq _ _ _ [some (.ref x),some (.str z)] H;mleave;show(x,_,u,_, .ref d,rfl,B,b.cls,b.n3,rfl,?_);show(d,_,rfl,DGet.k (k:=Sum.inr z) a,?_);rw[p.val];by_cases c:z∈y.map (·.nm)
 .rw[decide_eq_true c];mleave;let(g,v,I,O,D,U,q,w,rfl,i,e,X,m):=p.some c;show(x,_,u,_, .ref d,rfl,B,b.cls,b.n3,rfl,?_);show(d,_,rfl,by rw[<- D];show DGet.k (k:=Sum.inr z) a,?_);show(U,q,rfl, .inl (SqL.of i),?_);rename_i l o N H V r G;mleave;show k g I O l q w V r o G (e.mono λ_ _ z=>z.sameT r.t) X m
 .rw[decide_eq_false c];mleave;show(by show 1<=sizeLine;decide,L c)
abbrev Bav:Stmt:=inClass (top 54) 4
theorem Ja9:Jan ["self","name","total","part","forward","size"] ["self","name"] (Jaf Bav):=by bv_decide
def Jca(K:W.Frag)(Ad:Adr):Sp:=λvs H Q E=>∃(x:Addr)(z:Str)(ls:List PD)(gs:List GD),vs=[.ref x, .str z]/\TK K Ad H x ls gs/\(z∉gs.map (·.nm)->E (.ref Ad.NoName) none H)/\(∀ g∈gs,g.nm=z->∃ pl:Str->Fr2,(∀ u∈gs,u.nm=z->u=g)/\(∀ p∈ls, ∀ q∈ls,p.nm=q.nm->p=q)/\(∀ p∈ls,POk p)/\(∀ f,FB 302 161 (pl f))/\(∀ p∈ls,vl (pl p.en)=vl (pl p.st)+vl p.sz)/\∀ v H',Same H H'->FrV K H' v (mid pl g).1 (mid pl g).2->Q v H')
theorem Jet(F:"middle"∘"Thing.middle"∘Bav)(T:Txt K mg Ad)(BdJ:1∘"way"∘(Ja8 Ad)∘["self","name"]∘(Jci K Ad))(Bb9:2∘"plus"∘["one","other"]∘(JeN K))(Bbw:3∘"minus"∘["one","other"]∘(Jdw K)):4∘["self","name"]∘(Jca K Ad):=by
 show F.okx Ja9 (λvs H Q E h=>?_) (λa4 A W s H vs Q E L h=>?_)
 .let(x,z,B,gs,rfl,_):=h;rfl
 let(x,z,B,gs,rfl,h):=h;have hu:=L.units;show(_,(Jab (Jaj 2 Ja9.nd (Jcw (v:=.ref _) rfl T.Bcr T.Bcs)) (Jab (JaI PassesOwn.leaving rfl (pi_U (BdJ.m L ⋯ pass1 (pv 0) %[pv 1|0])) (JdU rfl (JaW (Jao 3 Ja9.nd) (JaW (Jao 4 Ja9.nd) Jcx))) (Jab (Jaj 5 Ja9.nd (Jas (JaN (hu1 hu) (Jas (pv 0) rfl) (pv 3) (λ_ _=>rfl)) rfl)) (Jag (Jaj 2 Ja9.nd (JhH (JaX (pv 4)) (Bb9.ev L ⋯ rfl pass1 %[pv 2,pv 5|0]) (Bbw.ev L ⋯ rfl pass1 %[pv 2,pv 5|0])))))) (Jag (Jaq (pv 2))))),?_)
 clear hu;let(ht,kn,k):=h;let(dx,d1,d2,d3,k1,k2,k3,hx,a3,b1,_):=id ht;have tc:=T.Bbn _ rfl;have pc:=T.BcS _ rfl;show tSeq _ _ _ [some (.ref x),some (.str z),none,none,none,none] H;mleave;show(x,_,dx,_,rfl,hx,rfl,rfl,x,z,B,gs,rfl,ht,kn,λg hg hz l xs w H1 S1 a6 e1 I hw _=>?_);let(c,a5,hN,hP,j,hV,k):=k g hg hz;have lg:=Jlw hV hw;have lx:=I.length;show(l,rfl,ForA.byL (xs:=xs) (SqL.of e1) (λi σ H'=>i<=xs.length/\∃(U Z X:Option V)(t:V)(f:Str),σ=[some (.ref x),some (.str z),some t,U,Z,X]/\Same H1 H'/\FrV K H' t (addF (c f) (negF (c g.st))).1 (addF (c f) (negF (c g.st))).2/\Legs B c f (w.drop i) g.en) ⟨Nat.zero_le _,none,none,none, .ref Ad.ZERO,g.st,rfl,Same.refl _,by rw[JjW (j _)];show(Ad.ZERO,rfl,T.Bct _),lg⟩ (λi σ H' q=>by let(_,_,_,_,_,_,_,q,_):=q;show SqL.of (q _ _ e1)) ?_ ?_)
 .intro i y σ O hy z_;let(hi,U,Z,X,t,f,rfl,o,M,C):=z_;have li:i<xs.length:=(List.getElem?_eq_some_iff.mp hy).1;let(pr,J,b,rfl,hb):=I.at_ hy;have D:i<w.length:=by ac_nf
  have a0:w.drop i=pr::w.drop (i+1):=by
   rw[List.drop_eq_getElem_cons D];rw[List.getElem?_eq_getElem D]at J;rw[Option.some.inj J]
  rw[a0]at C;have d:=S1.trans o;obtain⟨p,n,u,rfl,hp,hv,G⟩:∃ p n u,pr=(p.nm,n)/\p∈B/\vl (c u)=vl (c f)+vl (sgn n p.sz)/\Legs B c u (w.drop (i+1)) g.en:=by
   cases C with
   | cons h1 h2 h3=>show(_,_,_,rfl,h1,h2,h3)
  mleave;show(b,_,rfl,SqT.of (o _ _ hb),rfl,?_);mleave;let(q,v,hq,a1,Y,qa,dq,N,vm,rfl,S,a2,hm):=b1.some (z:=p.nm) (mem_map.mpr ⟨p,hp,rfl⟩);have eq:=hN q hq p hp a1;subst eq;show(x,_,dx,_, .ref d1,rfl,d _ _ hx,tc.cls,tc.n1,rfl,?_);show(d1,_,rfl,by rw[<- Y];show DGet.k (k:=Sum.inr q.nm) (d _ _ a3),?_);show(qa,_,dq,_,N,rfl,d _ _ S,pc.cls,pc.n4,rfl,?_);have a:=(hP q hq).z;have e:FB 464 322 (addF (c f) (negF (c g.st))):=FB.add (j _) (j _).neg ⋯ ⋯ ⋯;have fz:FrV K O N q.sz.1 q.sz.2:=a2.same d;have st:=Jlv (j f) (j u) (z:=sgn n q.sz) (by cases n;show(L2.FOk.fb a).neg;show L2.FOk.fb a) (j g.st) hv;mleave;cases n with
  | true=>
   mleave;show(t,N,_,_,_,_,rfl,M,fz,e.s1.mono ⋯,e.s2.mono ⋯,a.s1.mono ⋯,a.s2.mono ⋯,e.b1,a.b1,e.g1,a.g1,λr H3 R e3=>?_);show(li,_,_,_, .ref r,u,rfl,o.trans R,by rw[<- st];show FrV.of e3,G)
  | false=>
   mleave;show(t,N,_,_,_,_,rfl,M,fz,e.s1.mono ⋯,e.s2.mono ⋯,a.s1.mono ⋯,a.s2.mono ⋯,e.b1,a.b1,e.g1,a.g1,λr H3 R e3=>?_);show(li,_,_,_, .ref r,u,rfl,o.trans R,?_,G);rw[<- st];show FrV.of ?_;rw[e3];show _=some (HO.tup [.int (Mth.top (_*q.sz.2 + -q.sz.1*_) _), .int (Mth.bot (_*q.sz.2 + -q.sz.1*_) _)]);rw[Int.neg_mul, <- Int.sub_eq_add_neg];rfl
 .intro σ O z_;let(hi,U,Z,X,t,f,rfl,o,M,C):=z_;rw[drop_eq_nil_of_le ∅]at C;cases C;mleave;show k t O (S1.trans o) M
abbrev BaP:Stmt:=inClass (top 54) 5
theorem Jbz:Jan ["self","name","middle","gap","above","below"] ["self","name"] (Jaf BaP):=by bv_decide
def JbY(K:W.Frag)(Ad:Adr):Sp:=λvs H Q E=>∃(x:Addr)(z:Str)(ls:List PD)(gs:List GD),vs=[.ref x, .str z]/\TK K Ad H x ls gs/\(z∉gs.map (·.nm)->E (.ref Ad.NoName) none H)/\(∀ g∈gs,g.nm=z->∃ pl:Str->Fr2,(∀ u∈gs,u.nm=z->u=g)/\(∀ p∈ls, ∀ q∈ls,p.nm=q.nm->p=q)/\(∀ p∈ls,POk p)/\(∀ f,FB 302 161 (pl f))/\(∀ p∈ls,vl (pl p.en)=vl (pl p.st)+vl p.sz)/\TOk g.td/\∀ v H',Same H H'->FrV K H' v (roomF pl g).1 (roomF pl g).2->Q v H')
theorem Jfw(F:"room"∘"Thing.room"∘BaP)(T:Txt K mg Ad)(Bc1:4∘"middle"∘(Ja8 Ad)∘["self","name"]∘(Jca K Ad))(Bbw:3∘"minus"∘["one","other"]∘(Jdw K))(Baf:1∘"under"∘["one","other"]∘(JbE K)):5∘["self","name"]∘(JbY K Ad):=by
 show F.okx Jbz (λvs H Q E h=>?_) (λa0 A J s H vs Q E l h=>?_)
 .let(x,z,X,gs,rfl,_):=h;rfl
 let(x,z,X,gs,rfl,h):=h;have S:=l.units;show(_,(Jab (Jaj 2 Jbz.nd (Bc1.m l ⋯ pass1 (pv 0) %[pv 1|0])) (Jab (Jaj 3 Jbz.nd (JaN (hu1 S) (Jas (pv 0) rfl) (pv 1) (λ_ _=>rfl))) (Jab (Jaj 4 Jbz.nd (Bbw.ev l ⋯ rfl pass1 %[Jas (pv 3) rfl,pv 2|0])) (Jab (Jaj 5 Jbz.nd (Bbw.ev l ⋯ rfl pass1 %[pv 2,Jas (pv 3) rfl|0])) (Jag (Jaq (JhH (JaX (Baf.ev l ⋯ rfl pass1 %[pv 4,pv 5|0])) (pv 4) (pv 5)))))))),?_)
 clear S;let(Z,kn,k):=h;let(dx,d1,U,d3,k1,k2,k3,hx,a1,b1,C,b2,_):=id Z;have tc:=T.Bbn _ rfl;have t:=T.BdK _ rfl;show tSeq _ _ _ [some (.ref x),some (.str z),none,none,none,none] H;mleave;show(x,_,dx,_,rfl,hx,rfl,rfl,x,z,X,gs,rfl,Z,kn,λg O W=>?_);let(pl,p,hN,hP,V,hV,hT,k):=k g O W;show(pl,p,hN,hP,V,hV,λv H1 n fm=>?_);have b:=Jmn (g:=g) V;unfold roomF at k;generalize mid pl g=m at *;mleave;let(a,v',D,y,L,Y,dq,j,o,rfl,r,I,M):=b2.some (z:=z) (mem_map.mpr ⟨g,O,W⟩);have eg:=p a D y;subst eg;have q:=hT.lo _ rfl;have e:=hT.hi _ rfl;show(x,_,dx,_, .ref U,rfl,n _ _ hx,tc.cls,tc.n2,rfl,?_);show(U,_,rfl,by rw[<- L];show DGet.k (k:=Sum.inr z) (n _ _ C),?_);mleave;show(Y,_,dq,_,o,rfl,n _ _ r,t.cls,t.n5,rfl,?_);show(o,v,_,_,_,_,rfl,M.same n,fm,e.s1.mono ⋯,e.s2.mono ⋯,b.s1.mono ⋯,b.s2.mono ⋯,e.b1,b.b1,e.g1,b.g1,λr1 H2 S2 e2=>?_);mleave;have d:=n.trans S2;show(Y,_,dq,_,j,rfl,d _ _ r,t.cls,t.n4,rfl,?_);show(v,j,_,_,_,_,rfl,fm.same S2,I.same d,b.s1.mono ⋯,b.s2.mono ⋯,q.s1.mono ⋯,q.s2.mono ⋯,b.b1,q.b1,b.g1,q.g1,λN u G e3=>?_);mleave;have ea:addF a.hi (negF m)=(Mth.top (a.hi.1*m.2-m.1*a.hi.2) (a.hi.2*m.2),Mth.bot (a.hi.1*m.2-m.1*a.hi.2) (a.hi.2*m.2)):=by
  unfold addF negF;dsimp only;rw[Int.neg_mul, <- Int.sub_eq_add_neg]
 have eb:addF m (negF a.lo)=(Mth.top (m.1*a.lo.2-a.lo.1*m.2) (m.2*a.lo.2),Mth.bot (m.1*a.lo.2-a.lo.1*m.2) (m.2*a.lo.2)):=by
  unfold addF negF;dsimp only;rw[Int.neg_mul, <- Int.sub_eq_add_neg]
 have fa:FrV K u (.ref r1) (addF a.hi (negF m)).1 (addF a.hi (negF m)).2:=by rw[ea];show FrV.of (G _ _ e2)
 have R:FrV K u (.ref N) (addF m (negF a.lo)).1 (addF m (negF a.lo)).2:=by rw[eb];show FrV.of e3
 have ba:=FB.add' (L2.FOk.fb e) b.neg;have bb:=FB.add' b (L2.FOk.fb q).neg;generalize addF a.hi (negF m)=A at *;generalize addF m (negF a.lo)=B at *;show(.ref r1, .ref N,A.1,A.2,B.1,B.2,rfl,fa,R,ba.s1.mono ⋯,ba.s2.mono ⋯,bb.s1.mono ⋯,bb.s2.mono ⋯,?_);mleave;by_cases c:lessF A B=true
 .rw[if_pos c]at k;rw[if_pos (show decide (A.1*B.2<B.1*A.2)=true from c)];mleave;show k _ u (d.trans G) fa
 .rw[if_neg c]at k;rw[if_neg (show¬ decide (A.1*B.2<B.1*A.2)=true from c)];mleave;show k _ u (d.trans G) R
abbrev Bam:Stmt:=inClass (top 17) 0
theorem JbG:Jan ["self","numbers","number","factor"] ["self","numbers"] (Jaf Bam):=by bv_decide
def JbJ(K:W.Frag)(Ad:Adr):Sp:=λvs H Q E=>∃(x dx a:Addr)(xs:List V)(ns:List Fr2),vs=[.ref x, .ref a]/\H x=some (.ins Ad.Scale dx [])/\H a=some (.lst xs)/\All2 (FLV K H) ns xs/\ns.length<=28/\(∀ n∈ns,1<=n.2/\Mth.Sz 70 n.2)/\∀ b fs fl H',H' x=some (.ins Ad.Scale dx [("bottom", .int b),("factors", .ref fl)])->H fl=none->H' fl=some (.lst (fs.map V.int))->(∀ c u,c≠x->H c=some u->H' c=some u)->Scl b fs->Mth.Sz 2000 b->fs.length<=30->Q .non H'
theorem JdG(F:"__init__"∘"Scale.__init__"∘Bam)(T:Txt K mg Ad)(Bac:1∘"common_divisor"∘["one","other"]∘(JaG)):2∘["self","numbers"]∘(JbJ K Ad):=by
 show F.okn JbG (by subst_eqs) (λa3 A a1 s H vs Q E hr h=>?_)
 let(x,l,a,xs,ns,rfl,h):=h;show(_,(Jab (Jbb (pv 0) Jad rfl) (Jab (Jbb (pv 0) (Ja6 Jac) rfl) (Jag (JaI PassesOwn.never rfl (pi_U (pv 1)) (Jao 2 JbG.nd) (Jab (Jaj 3 JbG.nd (pe_op Jat (!2) (Bac.ev hr ⋯ rfl passF %[Jas (pv 0) rfl,!2|0]))) (Jag (ps_if (Jay Jgn (pv 3) Jad (JaB _)) (Jab (Jbb (pv 0) (pe_op JaD (Jas (pv 0) rfl) (pv 3)) rfl) (Jag (Ja5 (pe_bm PySem.F.plainAttrs_list PySem.F.slot_list_append PySem.F.type_list_append Ja0 (Jas (pv 0) rfl) %[pv 3|0] (hs:=by show Jae rfl)))))
   Jav))))))),?_)
 let(e0,U,hN,hl,Z,k):=h;have e:=T.Bcu Ad.Scale rfl;have sl:(1000:Nat)<=sizeLine:=by decide
 have lx:=hN.length;show tSeq _ _ _ [some (.ref x),some (.ref a),none,none] H;mvcgen;show(x,_,l,_,rfl,e0,e.cls,e.n1,by simp,?_);generalize u1:upd H x _=H1;mvcgen;have e1:H1 x=some (.ins Ad.Scale l [("bottom", .int 1)]):=by rw[<- u1];show Jam.trans rfl
 have o1:∀ b,b≠x->H1 b=H b:=λb hb=>by rw[<- u1,Jai hb]
 mvcgen;show(len0,?_);rename_i d j a2 H1 H2 W e2;mvcgen;mvcgen;show(x,_,l,_,rfl,W _ _ e1,e.cls,e.n2,by simp,?_);generalize M:upd H2 x _=S;mvcgen;have e3:S x=some (.ins Ad.Scale l [("bottom", .int 1),("factors", .ref d)]):=by rw[<- M];show Jam.trans rfl
 have O:d≠x:=λz=>by rw[z,e1]at j;cases j
 have f3:S d=some (.lst []):=by rw[<- M,Jai O];show e2
 have o3:∀ c u,c≠x->H c=some u->S c=some u:=λc u C h=>by rw[<- M,Jai C];show W _ _ (by rw[o1 c C];show h)
 have o:H d=none:=by rw[<- o1 d O];show j
 have D:a≠x:=λz=>by rw[z,e0]at U;cases U
 have a0:SameT H S:=(SameT.put u1 e0 rfl).trans (W.t.trans (SameT.put M (W _ _ e1) rfl));mvcgen;show(a,rfl,ForA.byL (xs:=xs) (SqL.of (o3 _ _ D U)) (λi σ I=>i<=xs.length/\∃(v2 v3:Option V)(b:Int)(m:List Int),σ=[some (.ref x),some (.ref a),v2,v3]/\I x=some (.ins Ad.Scale l [("bottom", .int b),("factors", .ref d)])/\I d=some (.lst (m.map V.int))/\(∀ c u,c≠x->H c=some u->I c=some u)/\SameT H I/\Scl b m/\Mth.Sz (1+70*i) b/\m.length<=i) ⟨Nat.zero_le _,none,none,1,[],rfl,e3,f3,o3,a0,Scl.nil, .lit ⋯ ⋯,Nat.le_refl _⟩ (λi σ I q=>by let(_,_,_,_,_,_,_,_,q,_):=q;show SqL.of (q _ _ D U)) ?_ ?_)
 .intro i y σ B hy z_;let(hi,v2,v3,b,m,rfl,r,J,Y,X,hs,v,lf):=z_;have li:=(List.getElem?_eq_some_iff.mp hy).1;let(n,hn,R):=hN.at_ hy;have R:FrV K B y n.1 n.2:=FrV.sameT X R;have p:=Z n (List.mem_of_getElem? hn);have v:Mth.Sz 2000 b:=v.mono ∅;have gp:=Mth.g_pos (a:=b) (b:=n.2) ∅;have gd:=Mth.JbW b n.2;have gl:=Mth.g_le (a:=b) (b:=n.2) ∅;have d1:DivOk (Mth.g b n.2):=divOk (n:=70) ∅ (Nat.lt_of_le_of_lt (by ac_nf:(Mth.g b n.2).natAbs<=n.2.natAbs) p.2);have f1:=Mth.Jcg gd ∅ p.1;have sf:Mth.Sz 70 (n.2.fdiv (Mth.g b n.2)):=p.2.fdiv gd ∅;mvcgen;show ixF1 R ?_;show(x,_,l,_, .int b,rfl,r,e.cls,e.n1,rfl,?_);show ixF1 R ?_;mvcgen;show(_,_,rfl,?_);mvcgen;show(d1,?_);generalize n.2.fdiv (Mth.g b n.2)=f at *;mvcgen;by_cases c:1<f
  .rw[if_pos (by simpa using c)];mvcgen;try simpa only[y4ey,y85y]
   show(x,_,l,_, .int b,rfl,r,e.cls,e.n1,rfl,?_);try simpa only[y4ey,y85y]
   show(mulOk v sf,?_);show(x,_,l,_,rfl,r,e.cls,e.n1,by simp,?_);generalize N:upd B x _=G;mvcgen;have e5:G x=some (.ins Ad.Scale l [("bottom", .int (b*f)),("factors", .ref d)]):=by rw[<- N];show Jam.trans rfl
   have f5:G d=some (.lst (m.map V.int)):=by rw[<- N,Jai O];show J
   have T5:SameT B G:=SameT.put N r rfl;try simpa only[y4ey,y85y]
   show(x,_,l,_, .ref d,rfl,e5,e.cls,e.n2,rfl,?_);show(.inl ⟨rfl,_,SqL.of f5⟩,?_);mvcgen;show(d,_,_,rfl,rfl,f5,by rw[length_map];ac_nf,?_);generalize L:upd G d _=H6;mvcgen;have f6:=putE L;have T6:SameT G H6:=SameT.put L f5 rfl;mvcgen;show(li,_,_,b*f,m++[f],rfl,by rw[<- L,Jai (Ne.symm O)];show e5,by rw[f6];simp,λc u C h=>by rw[<- L,Jai (Jah h o), <- N,Jai C];show Y c u C h,X.trans (T5.trans T6),hs.snoc ∅,?_,by simp;ac_nf);have:=(show Mth.Sz (1+70*i) b by assumption).mul sf;show this.mono ∅
  .rw[if_neg (by simpa using c)];mvcgen;mvcgen;show(li,_,_,b,m,rfl,r,J,Y,X,hs,(show Mth.Sz (1+70*i) b by assumption).mono ∅,by ac_nf)
 .intro σ B z_;let(hi,v2,v3,b,m,rfl,r,J,Y,X,hs,v,lf):=z_;mvcgen;show k b m d B r o J Y hs (v.mono ∅) ∅
abbrev Baw:Stmt:=inClass (top 17) 1
theorem Ja2:Jan ["self","number","top","rest","factor","shared"] ["self","number"] (Jaf Baw):=by bv_decide
def Jbj(K:W.Frag)(Ad:Adr):Sp:=λvs H Q E=>∃(x:Addr)(v:V)(n:Fr2)(b:Int)(fs:List Int),vs=[.ref x,v]/\SCK Ad H x b fs/\FrV K H v n.1 n.2/\FB 1000 900 n/\∀ p (t:Fr2) H',Same H H'->H' p=some (.tup [.int t.1, .int t.2])->LInv n b t->Q (.ref p) H'
theorem Jes(F:"lifted"∘"Scale.lifted"∘Baw)(T:Txt K mg Ad)(Bac:1∘"common_divisor"∘["one","other"]∘(JaG)):2∘["self","number"]∘(Jbj K Ad):=by
 show F.okn Ja2 (by subst_eqs) (λa0 A N s H vs Q E hr h=>?_)
 let(x,v,n,b,d,rfl,h):=h;have X:=hr.units;show(_,(Jab (ps_if (Jay (Jch X) (pe_op JaC (Jas (pv 0) rfl) (!1)) Jad (JaB _)) (Jag (Jaq (JaJ %[pe_op JaD (!1) (pe_op Jat (Jas (pv 0) rfl) (!1)),Jad|0])))
   Jav) (Jab (Jaj 2 Ja2.nd (!1)) (Jab (Jaj 3 Ja2.nd (!1)) (Jab (JaI PassesOwn.never rfl (pi_U (Jas (pv 0) rfl)) (Jao 4 Ja2.nd) (Jab (Jaj 5 Ja2.nd (Bac.ev hr ⋯ rfl passF %[pv 3,pv 4|0])) (Jab (Jaj 2 Ja2.nd (pe_op JaD (pv 2) (pe_op Jat (pv 4) (pv 5)))) (Jag (Jaj 3 Ja2.nd (pe_op Jat (pv 3) (pv 5))))))) (Jag (Jaq (JaJ %[pv 2,pv 3|0]))))))),?_)
 clear X;let((S,fl,W,Y,u,J,a1),o,r,k):=h;have l:=T.Bcu Ad.Scale rfl;have sl:(1000:Nat)<=sizeLine:=by decide
 have G:=r.b1;have b1:=u.b1;have d1:DivOk n.2:=divOk (n:=900) ∅ r.s2;show tSeq _ _ _ [some (.ref x),some v,none,none,none,none] H;mleave;show(x,_,S,_, .int b,rfl,W,l.cls,l.n1,rfl,?_);show ixF1 o ?_;mleave;show(by ac_nf,?_);by_cases c:b.fmod n.2=0
 .rw[if_pos (by simpa using c)];mleave;mleave;show ixF0 o ?_;show(x,_,S,_, .int b,rfl,W,l.cls,l.n1,rfl,?_);show ixF1 o ?_;mleave;have dv:n.2∣b:=by
   rw[Int.fmod_eq_emod_of_nonneg _ ∅]at c;show Int.dvd_of_emod_eq_zero c
  show(d1,mulOk r.s1 (J.fdiv dv G),len2,?_);rename_i p L I H R O D;mleave;show k p (n.1*b.fdiv n.2,1) R O D (LInv.all G c)
 .rw[if_neg (by simpa using c)];mleave;mleave;show ixF0 o ?_;mleave;show ixF1 o ?_;mleave;show(x,_,S,_, .ref fl,rfl,W,l.cls,l.n2,rfl,?_);show(fl,rfl,ForA.byL (xs:=d.map V.int) (SqL.of Y) (λi σ B=>i<=(d.map V.int).length/\B=H/\∃(t:Fr2)(M U:Option V),σ=[some (.ref x),some v,some (.int t.1),some (.int t.2),M,U]/\LInv n (prodI (d.take i)) t) ⟨Nat.zero_le _,rfl,n,none,none,rfl,LInv.nil G r.g1⟩ (λi σ B q=>by rw[q.2.1];show SqL.of Y) ?_ ?_)
  .intro i y σ B j z_;let(hi,rfl,t,M,U,rfl,z):=z_;have C:=(List.getElem?_eq_some_iff.mp j).1;rw[length_map]at C;rw[List.getElem?_map,List.getElem?_eq_getElem C]at j;obtain⟨f,e⟩:∃ f,f=d[i]:=⟨_,rfl⟩;rw[<- e]at j;have j:y=.int f:=(Option.some.inj j).symm;subst j;have fm:f∈d:=by rw[e];show List.getElem_mem C
   have f1:=u.f1 f fm;have m:Mth.Sz 2000 f:=sz_le J ∅ (u.mem fm);have tk:=u.take i;have tb:=z.fb r (sz_le J ∅ tk.2);have gp:=Mth.g_pos (a:=t.2) (b:=f) ∅;have gl:=Mth.g_le (a:=t.2) (b:=f) ∅;have Z:DivOk (Mth.g t.2 f):=divOk (n:=2000) ∅ (Nat.lt_of_le_of_lt (by ac_nf:(Mth.g t.2 f).natAbs<=f.natAbs) m);have qf:=m.fdiv (Mth.JbW t.2 f) ∅;have st:=z.step f1;have et:prodI (d.take (i+1))=prodI (d.take i)*f:=by
    rw[take_succ,List.getElem?_eq_getElem C, <- e];show Jcr f _
   mleave;show(_,_,rfl,?_);mleave;show(Z,mulOk tb.s1 qf,?_);mleave;show(Z,?_);mleave;show(by rw[length_map];ac_nf,(t.1*f.fdiv (Mth.g t.2 f),t.2.fdiv (Mth.g t.2 f)),_,_,rfl,by rw[et];show st)
  .intro σ B z_;let(hi,rfl,t,M,U,rfl,z):=z_;rw[take_of_length_le (by rw[length_map];ac_nf),u.pr]at z;mleave;show(len2,?_);rename_i p L I B R O D;mleave;show k p t R O D z
abbrev Baq:Stmt:=inClass (top 17) 2
theorem JaU:Jan ["self","number","top","bottom","factor","shared"] ["self","number"] (Jaf Baq):=by bv_decide
def JbT(K:W.Frag)(Ad:Adr):Sp:=λvs H Q E=>∃(x:Addr)(v:V)(n:Fr2)(b:Int)(fs:List Int),vs=[.ref x,v]/\SCK Ad H x b fs/\FrV K H v n.1 n.2/\FB 3000 1000 n/\∀ p (t:Fr2) H',Same H H'->H' p=some (.tup [.int t.1, .int t.2])->LoInv n b t->Q (.ref p) H'
theorem JdZ(F:"lowered"∘"Scale.lowered"∘Baq)(T:Txt K mg Ad)(Bac:1∘"common_divisor"∘["one","other"]∘(JaG)):2∘["self","number"]∘(JbT K Ad):=by
 show F.okn JaU (by subst_eqs) (λO A B s H W Q E hr h=>?_)
 let(x,v,n,b,c,rfl,h):=h;show(_,(Jab (Jaj 2 JaU.nd (!1)) (Jab (Jaj 3 JaU.nd (!1)) (Jab (JaI PassesOwn.never rfl (pi_U (Jas (pv 0) rfl)) (Jao 4 JaU.nd) (Jab (Jaj 5 JaU.nd (Bac.ev hr ⋯ rfl passF %[pv 2,pv 4|0])) (Jab (Jaj 2 JaU.nd (pe_op Jat (pv 2) (pv 5))) (Jag (Jaj 3 JaU.nd (pe_op JaD (pv 3) (pe_op Jat (pv 4) (pv 5)))))))) (Jag (Jaq (JaJ %[pv 2,pv 3|0])))))),?_)
 let((dx,M,hx,G,l,J,a0),D,u,k):=h;have L:=T.Bcu Ad.Scale rfl;have n1:=u.b1;have b1:=l.b1;show tSeq _ _ _ [some (.ref x),some v,none,none,none,none] H;mleave;show ixF0 D ?_;mleave;show ixF1 D ?_;mleave;show(x,_,dx,_, .ref M,rfl,hx,L.cls,L.n2,rfl,?_);show(M,rfl,ForA.byL (xs:=c.map V.int) (SqL.of G) (λi σ o=>i<=(c.map V.int).length/\o=H/\∃(t:Fr2)(z C:Option V),σ=[some (.ref x),some v,some (.int t.1),some (.int t.2),z,C]/\LoInv n (prodI (c.take i)) t) ⟨Nat.zero_le _,rfl,n,none,none,rfl,LoInv.nil u.lo⟩ (λi σ o q=>by rw[q.2.1];show SqL.of G) ?_ ?_)
 .intro i y σ o e z_;let(N,rfl,t,z,C,rfl,m):=z_;have r:=(List.getElem?_eq_some_iff.mp e).1;rw[length_map]at r;rw[List.getElem?_map,List.getElem?_eq_getElem r]at e;obtain⟨f,d⟩:∃ f,f=c[i]:=⟨_,rfl⟩;rw[<- d]at e;have e:y=.int f:=(Option.some.inj e).symm;subst e;have fm:f∈c:=by rw[d];show List.getElem_mem r
  have Y:=l.f1 f fm;have j:Mth.Sz 2000 f:=sz_le J ∅ (l.mem fm);have X:=l.take i;have pb:Mth.Sz 2000 (prodI (c.take i)):=sz_le J ∅ X.2;have t2:Mth.Sz 3000 t.2:=by
   show Nat.lt_of_le_of_lt m.le2 ?_;have:=u.s2.mul pb;unfold Mth.Sz at this;rw[Int.natAbs_mul]at this;show this
  have gp:=Mth.g_pos (a:=t.1) (b:=f) ∅;have gl:=Mth.g_le (a:=t.1) (b:=f) ∅;have I:DivOk (Mth.g t.1 f):=divOk (n:=2000) ∅ (Nat.lt_of_le_of_lt (by ac_nf:(Mth.g t.1 f).natAbs<=f.natAbs) j);have qf:=j.fdiv (Mth.JbW t.1 f) ∅;have R:=m.step Y;have S:prodI (c.take (i+1))=prodI (c.take i)*f:=by
   rw[take_succ,List.getElem?_eq_getElem r, <- d];show Jcr f _
  mleave;show(_,_,rfl,?_);mleave;show(I,?_);mleave;show(I,mulOk t2 qf,?_);mleave;show(by rw[length_map];ac_nf,(t.1.fdiv (Mth.g t.1 f),t.2*f.fdiv (Mth.g t.1 f)),_,_,rfl,by rw[S];show R)
 .intro σ o z_;let(N,rfl,t,z,C,rfl,m):=z_;rw[take_of_length_le (by rw[length_map];ac_nf),l.pr]at m;mleave;show(len2,?_);rename_i p a1 Z o H1 S1 U;mleave;show k p t H1 S1 U m
abbrev Bbc:Stmt:=top 30
theorem JcA:Jan ["thing","numbers","part","gap"] ["thing"] (Jaf Bbc):=by bv_decide
def JcJ(K:W.Frag)(Ad:Adr):Sp:=λvs H Q E=>∃(x:Addr)(ls:List PD)(gs:List GD),vs=[.ref x]/\TK K Ad H x ls gs/\ls.length<=12/\gs.length<=7/\ls.length+gs.length<=14/\(∀ p∈ls,(1<=p.sz.2/\Mth.Sz 70 p.sz.2)/\1<=p.mo.2/\Mth.Sz 70 p.mo.2)/\(∀ g∈gs,(1<=g.lo.2/\Mth.Sz 70 g.lo.2)/\1<=g.hi.2/\Mth.Sz 70 g.hi.2)/\∀ s b fs H',Same H H'->SCK Ad H' s b fs->Q (.ref s) H'
theorem Jg1(F:"scale_of"∘Bbc)(T:Txt K mg Ad)(BaA:2∘"parts"∘(Ja8 Ad)∘["self"]∘(JaY K Ad))(Bca:2∘"gaps"∘(Ja8 Ad)∘["self"]∘(JbD K Ad))(Bdr:KCal P w K mg base 2 "Scale" Ad.Scale ["self","numbers"] (JbJ K Ad)):4∘["thing"]∘(JcJ K Ad):=by
 show F.okn JcA (by subst_eqs) (λb7 A b0 s H vs Q E hr h=>?_)
 let(x,ls,gs,rfl,h):=h;show(_,(Jab (Jaj 1 JcA.nd (Ja6 Jac)) (Jab (JaI PassesOwn.never rfl (pi_U (BaA.m0 hr ⋯ passF (pv 0))) (Jao 2 JcA.nd) (Jag (Ja5 (pe_bm PySem.F.plainAttrs_list PySem.F.slot_list_extend PySem.F.type_list_extend Jge (pv 1) %[Ja6 %[!2,!2|0]|0])))) (Jab (JaI PassesOwn.never rfl (pi_U (Bca.m0 hr ⋯ passF (pv 0))) (Jao 3 JcA.nd) (Jag (Ja5 (pe_bm PySem.F.plainAttrs_list PySem.F.slot_list_extend PySem.F.type_list_extend Jge (pv 1) %[Ja6 %[!3,!3|0]|0])))) (Jag (Jaq (Bdr.ev hr ⋯ rfl passF %[pv 1|0])))))),?_)
 let(ht,h7,h6,b8,b1,a9,k):=h;let(dx,d1,d2,d3,k1,k2,k3,hx,_):=id ht;have sl:(1000:Nat)<=sizeLine:=by decide
 show tSeq _ _ _ [some (.ref x),none,none,none] H;cbv;show(len0,?_);rename_i r N b5 H H1 S1 e1;cbv;cbv;show(x,_,dx,_,rfl,S1 _ _ hx,rfl,rfl,x,ls,gs,rfl,ht.same S1,by ac_nf,λl ys H2 S2 a2 e2 hY=>?_);have lY:=hY.length;have b3:l≠r:=λz=>by rw[z,e1]at a2;cases a2
 cbv;show(l,rfl,ForA.byL (xs:=ys) (SqL.of e2) (λi σ C=>i<=ys.length/\∃(J L:Option V)(e:List V)(j:List Fr2),σ=[some (.ref x),some (.ref r),J,L]/\(∀ c u,c≠r->H2 c=some u->C c=some u)/\SameT H2 C/\C r=some (.lst e)/\All2 (FLV K C) j e/\(∀ n∈j,1<=n.2/\Mth.Sz 70 n.2)/\j.length=2*i) ⟨Nat.zero_le _,none,none,[],[],rfl,λ_ _ _ h=>h,(Same.refl _).t,S2 _ _ e1,rfl,(λn d=>by cases d),rfl⟩ (λi σ C q=>by let(_,_,_,_,_,_,q,_):=q;show SqL.of (q _ _ b3 e2)) ?_ ?_)
 .intro i y σ H3 hy z_;let(hi,J,L,e,j,rfl,ho,hT,o,v,a,ln):=z_;have li:=(List.getElem?_eq_some_iff.mp hy).1;have la:=v.length;let(p,hp,b,vz,U,rfl,hb,hz,hm):=hY.at_ hy;have S:=b1 p (List.mem_of_getElem? hp);have a0:=hb.sameT hT;cbv;show(.inl ⟨rfl,_,SqL.of o⟩,?_);show ixT (i:=3) a0 rfl ?_;show ixT (i:=4) a0 rfl ?_;cbv;show(len2,?_);rename_i tl W a5 H3 X M e4;cbv;show(r,tl,e,_,rfl,rfl,M _ _ o,e4,by simp only[length_cons,length_nil];ac_nf,?_);generalize u5:upd X r _=D;cbv;have e5:=putE u5;have T5:SameT X D:=SameT.put u5 (M _ _ o) rfl;have I:SameT H3 D:=M.t.trans T5;cbv;show(li,_,_,e++[vz,U],j++[p.sz,p.mo],rfl,λc u Y h=>by rw[<- u5,Jai Y];show M _ _ (ho c u Y h),hT.trans I,e5,(v.mono (P':=FLV K D) λ_ _ z=>z.sameT I).append ⟨vz,_,rfl,FrV.sameT (hT.trans I) hz,U,_,rfl,FrV.sameT (hT.trans I) hm,rfl⟩,λn d=>?_,by simp;ac_nf);rcases mem_append.mp d with d | d
  .show a n d
  .rcases mem_cons.mp d with rfl | d
   .show S.1
   .rw[mem_singleton.mp d];show S.2
 .intro σ H3 z_;let(hi,J,L,e,j,rfl,ho,hT,o,v,a,ln):=z_;have O:Same H H3:=λc u h=>ho c u (Jah h N) (S2 _ _ (S1 _ _ h));cbv;show(x,_,dx,_,rfl,O _ _ hx,rfl,rfl,x,ls,gs,rfl,ht.same O,by ac_nf,λm zs X M a4 e4 hZ=>?_);have lZ:=hZ.length;have a6:m≠r:=λz=>by rw[z,o]at a4;cases a4
  have la:=v.length;cbv;show(m,rfl,ForA.byL (xs:=zs) (SqL.of e4) (λi σ C=>i<=zs.length/\∃(J L:Option V)(e:List V)(j:List Fr2),σ=[some (.ref x),some (.ref r),J,L]/\(∀ c u,c≠r->X c=some u->C c=some u)/\SameT X C/\C r=some (.lst e)/\All2 (FLV K C) j e/\(∀ n∈j,1<=n.2/\Mth.Sz 70 n.2)/\j.length<=2*ls.length+2*i) ⟨Nat.zero_le _,J,L,e,j,rfl,λ_ _ _ h=>h,(Same.refl _).t,M _ _ o,v.mono (λ_ _ z=>z.sameT M.t),a,by ac_nf⟩ (λi σ C q=>by let(_,_,_,_,_,_,q,_):=q;show SqL.of (q _ _ a6 e4)) ?_ ?_)
  .clear v a ln o la;intro i y σ D hy z_;let(hi,J,L,e,j,rfl,R,B,o,v,a,ln):=z_;have li:=(List.getElem?_eq_some_iff.mp hy).1;have la:=v.length;let(g,hg,b,vz,U,rfl,hb,hz,hm):=hZ.at_ hy;have Z:=a9 g (List.mem_of_getElem? hg);have a3:=hb.sameT B;cbv;show(.inl ⟨rfl,_,SqL.of o⟩,?_);show ixT (i:=3) a3 rfl ?_;show ixT (i:=4) a3 rfl ?_;cbv;show(len2,?_);rename_i tl W a5 D H6 S6 e6;cbv;show(r,tl,e,_,rfl,rfl,S6 _ _ o,e6,by simp only[length_cons,length_nil];ac_nf,?_);generalize u7:upd H6 r _=H7;cbv;have e7:=putE u7;have T7:SameT H6 H7:=SameT.put u7 (S6 _ _ o) rfl;have G:SameT D H7:=S6.t.trans T7;cbv;show(li,_,_,e++[vz,U],j++[g.lo,g.hi],rfl,λc u Y h=>by rw[<- u7,Jai Y];show S6 _ _ (R c u Y h),B.trans G,e7,(v.mono (P':=FLV K H7) λ_ _ z=>z.sameT G).append ⟨vz,_,rfl,FrV.sameT (B.trans G) hz,U,_,rfl,FrV.sameT (B.trans G) hm,rfl⟩,λn d=>?_,by simp;ac_nf);rcases mem_append.mp d with d | d
   .show a n d
   .rcases mem_cons.mp d with rfl | d
    .show Z.1
    .rw[mem_singleton.mp d];show Z.2
  .clear v a ln o la;intro σ D z_;let(hi,J,L,e,j,rfl,R,B,o,v,a,ln):=z_;have a1:Same H D:=λc u h=>R c u (Jah h N) (M _ _ (O _ _ h));cbv;intro s ds hs b2 b6;have Sm:Same D (upd (upd D ds (.own s)) s (.ins Ad.Scale ds [])):=λb u q=>by rw[Jai (Jah q hs),Jai (Jah q b2)];show q
   show(s,ds,r,e,j,rfl,Jam,Sm _ _ o,v.mono (λ_ _ z=>z.sameT Sm.t),by ac_nf,a,λb fs fl H6 h1 h2 h3 h4 a8 a7 b4=>⟨rfl,k s b fs H6 (λc u h=>?_) ⟨ds,fl,h1,h3,a8,a7,b4⟩⟩);show h4 c u (Jah (a1 _ _ h) hs) (Sm _ _ (a1 _ _ h))
abbrev BaQ:Stmt:=top 31
theorem JfM:Jan ["thing","gap_name"] ["thing","gap_name"] (Jaf BaQ):=by bv_decide
def Jb0(K:W.Frag)(Ad:Adr):Sp:=λvs H Q E=>∃(x:Addr)(ls:List PD)(gs:List GD)(g:GD),vs=[.ref x, .str g.nm]/\TK K Ad H x ls gs/\(ls.map (·.nm)).Nodup/\ls.length<=12/\g∈gs/\(∀ u∈gs,u.nm=g.nm->u=g)/\∀ l (w:List Pr) H',Same H H'->H' l=some (.lst ((w.map (·.1)).map V.str))->Jbv ls g.st w g.en->(w.map (·.1)).Nodup->Q (.ref l) H'
theorem JfC(F:"part_names"∘BaQ)(T:Txt K mg Ad)(BdJ:1∘"way"∘(Ja8 Ad)∘["self","name"]∘(Jci K Ad)):2∘["thing","gap_name"]∘(Jb0 K Ad):=by
 show F.okn JfM (by subst_eqs) (λI A q s H L Q E W h=>?_)
 let(x,o,G,g,rfl,h):=h;show(_,(Jag (Jaq (JeA (Jby (own:=["name","forward"]) (cs:=[]) rfl (pi_U (BdJ.m W ⋯ passF (pv 0) %[pv 1|0])) (λ_ _ _ _=>(Ji9 (K:=K) (n:=2) rfl rfl (JaW (Jao 0 (show[("name" : Str),("forward" : Str)].Nodup by decide) (hf:=Or.inr rfl)) (JaW (Jao 1 (show[("name" : Str),("forward" : Str)].Nodup by decide) (hf:=Or.inr rfl)) Jcx)))) (λ_ _ _ _=>Jb3) (λ_ _ _ _=>(pv 0)) (JbF rfl) ⋯ rfl ⋯ hcs0)))),?_);let(C,N,h8,M,t,k):=h;let(dx,d1,d2,d3,k1,k2,k3,hx,_):=id C;have sl:(1000:Nat)<=sizeLine:=by decide
 show tRet _ _ [some (.ref x),some (.str g.nm)] H;cbv;show(x,_,dx,_,rfl,hx,rfl,rfl,x,g.nm,o,G,rfl,C,λz=>absurd (mem_map.mpr ⟨g,M,rfl⟩) z,λg' j U l xs w Y X a0 v a D d=>?_);have e:=t g' j U;subst e;have lx:=a.length;have lw:w.length<=12:=by
  have:=sub_len (w.map (·.1)) (o.map (·.nm)) d λn hn=>Jc7 (Jey D) n hn;rw[length_map,length_map]at this;ac_nf
 cbv;show(l,rfl, .inl ⟨⟨xs,SqL.of v⟩,CompJ.list (xs:=xs) (λi B c=>c=Y/\B=((w.take i).map (·.1)).map V.str) ⟨rfl,rfl⟩ (λi B c hi z=>⟨by rw[z.1];show SqL.of v,by rw[z.2,length_map,length_map,length_take];ac_nf⟩) ?_ ?_⟩)
 .rintro i y p c J ⟨rfl,rfl⟩;let(pr,u,b,rfl,hb):=a.at_ J;simpa only[length_singleton,length_cons,length_nil,List.replicate,JaF,map_cons,map_nil,Option.join_some];show(b,_,rfl,SqT.of hb,rfl,?_);cbv;rw[take_succ,u];simp
 .rintro p c ⟨rfl,rfl⟩;rw[take_of_length_le ∅];rename_i r Z S c O S2 R;cbv;show k r w O (X.trans S2) R D d
abbrev Bax:Stmt:=inClass (top 32) 0
theorem JeF:Jan ["self","name","rest","weights"] ["self","name","rest","weights"] (Jaf Bax):=by bv_decide
def Jb9(K:W.Frag)(Ad:Adr):Sp:=λvs H Q E=>∃(x dx wd:Addr)(nm:Str)(vr:V)(ws:List (Str × Int)),vs=[.ref x, .str nm,vr, .ref wd]/\H x=some (.ins Ad.Lid dx [])/\H wd=some (.dK (wsK ws))/\∀ H',H' x=some (.ins Ad.Lid dx [("name", .str nm),("rest",vr),("weights", .ref wd),("load", .int (ws.map (·.2)).sum),("last_level", .ref Ad.ZERO)])->(∀ b,b≠x->H' b=H b)->Q .non H'
theorem Jer(F:"__init__"∘"Lid.__init__"∘Bax)(T:Txt K mg Ad)  : 1∘["self","name","rest","weights"]∘(Jb9 K Ad):=by
 show F.okn JeF (by subst_eqs) (λL A n s H N Q E X h=>?_)
 let(x,c,e,g,j,i,rfl,h):=h;show(_,(Jab (Jbb (pv 0) (pv 1) rfl) (Jab (Jbb (pv 0) (pv 2) rfl) (Jab (Jbb (pv 0) (pv 3) rfl) (Jab (Jbb (pv 0) (JlQ rfl rfl rfl T.n_sum Jkt (pv 3)) rfl) (Jag (Jbb (pv 0) (Jcw (v:=.ref _) rfl T.Bcr T.Bcs) rfl)))))),?_)
 let(u,p,k):=h;have d:=T.c_Lid Ad.Lid rfl;have m:e≠x:=λz=>by rw[z,u]at p;cases p
 show tSeq _ _ _ [some (.ref x),some (.str g),some j,some (.ref e)] H;mexact;show(x,_,c,_,rfl,u,d.cls,d.n1,by simp,?_);generalize I:upd H x _=o;mexact;have M:o x=some (.ins Ad.Lid c [("name", .str g)]):=by rw[<- I];show Jam.trans rfl
 have R:∀ b,b≠x->o b=H b:=λb a=>by rw[<- I,Jai a]
 mexact;show(x,_,c,_,rfl,M,d.cls,d.n2,by simp,?_);generalize t:upd o x _=l;mexact;have O:l x=some (.ins Ad.Lid c [("name", .str g),("rest",j)]):=by rw[<- t];show Jam.trans rfl
 have U:∀ b,b≠x->l b=H b:=λb a=>by rw[<- t,Jai a];show R b a
 mexact;show(x,_,c,_,rfl,O,d.cls,d.n3,by simp,?_);generalize y:upd l x _=q;mexact;have V:q x=some (.ins Ad.Lid c [("name", .str g),("rest",j),("weights", .ref e)]):=by rw[<- y];show Jam.trans rfl
 have C:∀ b,b≠x->q b=H b:=λb a=>by rw[<- y,Jai a];show U b a
 mexact;show(e,wsK i,i.map (·.2),rfl,by rw[C e m];show p,Jko i,?_);mexact;show(x,_,c,_,rfl,V,d.cls,d.n4,by simp,?_);generalize D:upd q x _=r;mexact;have J:r x=some (.ins Ad.Lid c [("name", .str g),("rest",j),("weights", .ref e),("load", .int (i.map (·.2)).sum)]):=by rw[<- D];show Jam.trans rfl
 have S:∀ b,b≠x->r b=H b:=λb a=>by rw[<- D,Jai a];show C b a
 mexact;show(x,_,c,_,rfl,J,d.cls,d.n5,by simp,?_);generalize G:upd r x _=B;mexact;have W:B x=some (.ins Ad.Lid c [("name", .str g),("rest",j),("weights", .ref e),("load", .int (i.map (·.2)).sum),("last_level", .ref Ad.ZERO)]):=by rw[<- G];show Jam.trans rfl
 show k B W λb a=>by rw[<- G,Jai a];show S b a
abbrev Ban:Stmt:=inClass (top 32) 1
theorem JdK:Jan ["self"] ["self"] (Jaf Ban):=by bv_decide
def JbI(K:W.Frag)(Ad:Adr):Sp:=λvs H Q E=>∃(q:Addr)(e:LidD),vs=[.ref q]/\LDV K Ad H e (.ref q)/\FB 3000 1000 e.rest/\1<=e.load/\Mth.Sz 64 e.load/\∀ p H',Same H H'->H' p=some (.tup [.int (divF e.rest (e.load,1)).1, .int (divF e.rest (e.load,1)).2])->Q (.ref p) H'
theorem JdF(F:"full_level"∘"Lid.full_level"∘Ban)(T:Txt K mg Ad)(Bcb:3∘"over"∘["one","other"]∘(JeM K Ad)):4∘["self"]∘(JbI K Ad):=by
 show F.okn JdK (by subst_eqs) (λn A d s H t Q E c h=>?_)
 let(q,e,rfl,h):=h;show(_,(Jag (Jaq (Bcb.ev c ⋯ rfl passF %[Jas (pv 0) rfl,JaJ %[Jas (pv 0) rfl,Jad|0]|0]))),?_);let((I,j,m,O,N,o,l,c,J,M),a,G,B,k):=h;cases o;have b:=T.c_Lid Ad.Lid rfl;show tRet _ _ [some (.ref q)] H;mleave;show(q,_,j,_,m,rfl,l,b.cls,b.n2,rfl,?_);show(q,_,j,_, .int e.load,rfl,l,b.cls,b.n4,rfl,?_);mleave;show(len2,?_);rename_i p C x H L i r;mleave;show(m, .ref p,_,_,e.load,1,rfl,c.same i,FrV.of r,a.s1.mono ⋯,a.s2.mono ⋯,B.mono ⋯, .lit ⋯ ⋯,a.b1,by decide,a.g1,by unfold Mth.g;simp,λz=>absurd z ∅,λ_ y v D u=>?_);show k y v (i.trans D) u
abbrev BaR:Stmt:=inClass (top 32) 2
theorem Jdv:Jan ["self","part","level","weight"] ["self","part","level"] (Jaf BaR):=by bv_decide
def JcB(K:W.Frag)(Ad:Adr):Sp:=λvs H Q E=>∃(q:Addr)(n:Str)(lv:V)(e:LidD)(L:Fr2),vs=[.ref q, .str n,lv]/\LDV K Ad H e (.ref q)/\FrV K H lv L.1 L.2/\FB 3000 1000 e.rest/\FB 3000 1000 L/\(∀ x∈e.ws,Mth.Sz 64 x.2)/\∀ H',(∀ b u,b≠q->H b=some u->H' b=some u)->LDV K Ad H' (e.settle n L) (.ref q)->(∀ d kv,H d=some (.dK kv)->LDV K Ad (cut d H) e (.ref q)->LDV K Ad (cut d H') (e.settle n L) (.ref q))->Q .non H'
theorem Jft(F:"settle"∘"Lid.settle"∘BaR)(T:Txt K mg Ad)(Bbw:3∘"minus"∘["one","other"]∘(Jdw K))(Bbv:2∘"times"∘["one","other"]∘(Jdx K)):4∘["self","part","level"]∘(JcB K Ad):=by
 show F.okn Jdv (by subst_eqs) (λa7 A a4 s H vs Q E O h=>?_)
 let(q,n,G,e,L,rfl,h):=h;have hu:=O.units;show(_,(Jag (ps_if (JeC (JhG (hu1 hu) (pv 1) (Jas (pv 0) rfl)) (by with_unfolding_all rfl)) (Jab (Jaj 3 Jdv.nd (JaN (hu1 hu) (Jas (pv 0) rfl) (pv 1) (λ_ _=>rfl))) (Jab (Jbb (pv 0) (Bbw.ev O ⋯ rfl passF %[Jas (pv 0) rfl,Bbv.ev O ⋯ rfl passF %[pv 2,JaJ %[pv 3,Jad|0]|0]|0]) rfl) (Jab (Jbb (pv 0) (pe_op Jgq (Jas (pv 0) rfl) (pv 3)) rfl) (Jag (Jbb (pv 0) (pv 2) rfl)))))
   Jav)),?_)
 clear hu;let(hd,hl,fr,r,a3,k):=h;let(q',l,vr,vt,m,hv,v,O,ht,W):=id hd;cases hv;have j:=T.c_Lid Ad.Lid rfl;have J:m≠q:=λz=>by rw[z,v]at W;cases W
 have gw:=DGet.k (k:=Sum.inr n) W;rw[Jhm]at gw;show tIfS _ _ _ _ [some (.ref q),some (.str n),some G,none] H;try simpa only[y4ey,y85y]
 show(q,_,l,_, .ref m,rfl,v,j.cls,j.n3,rfl,?_);show(m,_,rfl,gw,?_);cases hwt:wtOf e.ws n with
 | none=>
  rw[show((none:Option Int).map V.int).isSome=false from rfl];try simpa only[y4ey,y85y]
  have Y:e.settle n L=e:=by unfold LidD.settle;rw[hwt]
  show k H (λb u _ h=>h) (by rw[Y];show hd) (λd kv _ h=>by rw[Y];show h)
 | some w=>
  rw[hwt]at gw;have Y:e.settle n L={ e with rest:=subF e.rest (mulF L (w,1)),load:=e.load-w,last:=L }:=by unfold LidD.settle;rw[hwt]
  have sw:=a3 _ (JjJ hwt);rw[show((some w).map V.int).isSome=true from rfl];try simpa only[y4ey,y85y]
  show(q,_,l,_, .ref m,rfl,v,j.cls,j.n3,rfl,?_);show(m, .int w,rfl,gw,?_);try simpa only[y4ey,y85y]
  show(q,_,l,_,vr,rfl,v,j.cls,j.n2,rfl,?_);try simpa only[y4ey,y85y]
  show(len2,?_);rename_i p b0 a8 H H1 S1 e1;mvcgen;show(G, .ref p,_,_,w,1,rfl,hl.same S1,FrV.of e1,r.s1.mono ⋯,r.s2.mono ⋯,sw.mono ⋯, .lit ⋯ ⋯,r.b1,by decide,r.g1,by unfold Mth.g;simp,λp2 H2 S2 e2=>?_);have N:=S1.trans S2;have ml:=Jfr (a:=L) (c:=(w,1)) r.b1 (Int.le_refl 1);have a0:Mth.Sz 4000 (mulF L (w,1)).1:=(Mth.Sz.top (by have:=r.b1;show L.2*1≠0;ac_nf) (r.s1.mul sw)).mono ⋯;have a5:Mth.Sz 4000 (mulF L (w,1)).2:=(Mth.Sz.bot (t:=L.1*w) (b:=L.2*1) (by have:=r.b1;ac_nf) (by rw[Int.mul_one];show r.s2)).mono ⋯;have e2:H2 p2=some (.tup [.int (mulF L (w,1)).1, .int (mulF L (w,1)).2]):=e2;try simpa only[y4ey,y85y]
  show(vr, .ref p2,_,_,_,_,rfl,O.same N,FrV.of e2,fr.s1.mono ⋯,fr.s2.mono ⋯,a0,a5,fr.b1,ml.b1,fr.g1,ml.g1,λX H3 S3 e3=>?_);have x:=N.trans S3;have R:=x _ _ v;try simpa only[y4ey,y85y]
  show(q,_,l,_,rfl,R,j.cls,j.n2,by simp,?_);generalize u4:upd H3 q _=M;mvcgen;have e4:M q=some (.ins Ad.Lid l [("name", .str e.nm),("rest", .ref X),("weights", .ref m),("load", .int e.load),("last_level",vt)]):=by rw[<- u4];show Jam.trans rfl
  have o4:∀ b u,b≠q->H b=some u->M b=some u:=λb u U h=>by rw[<- u4,Jai U];show x _ _ h
  have T4:SameT H3 M:=SameT.put u4 R rfl;try simpa only[y4ey,y85y]
  show(q,_,l,_, .int e.load,rfl,e4,j.cls,j.n4,rfl,?_);try simpa only[y4ey,y85y]
  show(q,_,l,_,rfl,e4,j.cls,j.n4,by simp,?_);generalize u5:upd M q _=H5;mvcgen;have e5:H5 q=some (.ins Ad.Lid l [("name", .str e.nm),("rest", .ref X),("weights", .ref m),("load", .int (e.load-w)),("last_level",vt)]):=by rw[<- u5];show Jam.trans rfl
  have T5:SameT M H5:=SameT.put u5 e4 rfl;try simpa only[y4ey,y85y]
  show(q,_,l,_,rfl,e5,j.cls,j.n5,by simp,?_);generalize u6:upd H5 q _=D;mvcgen;have e6:D q=some (.ins Ad.Lid l [("name", .str e.nm),("rest", .ref X),("weights", .ref m),("load", .int (e.load-w)),("last_level",G)]):=by rw[<- u6];show Jam.trans rfl
  have T6:SameT H5 D:=SameT.put u6 e5 rfl;have I:=T4.trans (T5.trans T6);have Z:∀ b u,b≠q->H b=some u->D b=some u:=λb u U h=>by rw[<- u6,Jai U, <- u5,Jai U];show o4 b u U h
  have f3:=FrV.of (K:=K) (I _ _ rfl e3);have fl:=(hl.same x).sameT I;show k D Z ?_ λd b3 S a1=>?_
  .rw[Y];show(q,l, .ref X,G,m,rfl,e6,f3,fl,Z _ _ J W)
  .let(q',b2,b4,a9,a6,C,B,_,_,o):=a1;have C:q=q':=by injection C
   subst C;have y:q≠d:=λz=>by rw[z,S]at v;cases v
   rw[JbV y,v]at B;simp only[Option.some.injEq,HO.ins.injEq,List.cons.injEq,Prod.mk.injEq,V.ref.injEq,true_and,and_true]at B;have ew:m=a6:=B.2.2.1;subst ew;have a2:m≠d:=λz=>by
    rw[z]at o;unfold cut at o;rw[if_pos rfl]at o;cases o
   have Tc:SameT D (cut d D):=SameT.cutO (Z _ _ y.symm S) rfl;rw[Y];show(q,l, .ref X,G,m,rfl,by rw[JbV y];show e6,f3.sameT Tc,fl.sameT Tc,by rw[JbV a2];show Z _ _ J W)
abbrev Baj:Stmt:=inClass (top 32) 3
theorem Jdu:Jan ["self","part","level"] ["self","part","level"] (Jaf Baj):=by bv_decide
def JbC(K:W.Frag)(Ad:Adr):Sp:=λvs H Q E=>∃(q:Addr)(n:Str)(lv:V)(e:LidD)(L:Fr2),vs=[.ref q, .str n,lv]/\LDV K Ad H e (.ref q)/\FrV K H lv L.1 L.2/\Q (.bl ((wtOf e.ws n).isSome&&(decide (e.rest=(0,1))&&decide (e.last=L)))) H
theorem Jdp(F:"has_stopped"∘"Lid.has_stopped"∘Baj)(T:Txt K mg Ad)  : 1∘["self","part","level"]∘(JbC K Ad):=by
 show F.okn Jdu (by subst_eqs) (λo A d s H t Q E c h=>?_)
 let(q,n,l,e,L,rfl,h):=h;have b:=c.units;show(_,(Jag (Jaq (JcT (Jmw (JhG (hu1 b) (pv 1) (Jas (pv 0) rfl)) (by with_unfolding_all rfl)) (JcT (Jbx (Jch b) (Jas (pv 0) rfl) (Jcw (v:=.ref _) rfl T.Bcr T.Bcs) (JaB _)) (JdT (Jbx (Jch b) (Jas (pv 0) rfl) (pv 2) (JaB _))))))),?_);clear b;let((D,g,C,B,m,p,i,c,y,z),x,k):=h;cases p;have a:=T.c_Lid Ad.Lid rfl;have j:=DGet.k (k:=Sum.inr n) z;rw[Jhm]at j;have r:decide (e.rest=(0,1))=(decide (e.rest.1=0)&&decide (e.rest.2=1)):=by
  rw[<- Bool.decide_and];show decide_eq_decide.mpr Prod.ext_iff
 have u:decide (e.last=L)=(decide (e.last.1=L.1)&&decide (e.last.2=L.2)):=by
  rw[<- Bool.decide_and];show decide_eq_decide.mpr Prod.ext_iff
 rw[r,u]at k;show tRet _ _ [some (.ref q),some (.str n),some l] H;mleave;show(q,_,g,_, .ref m,rfl,i,a.cls,a.n3,rfl,?_);show(m,_,rfl,j,?_);rw[show((wtOf e.ws n).map V.int).isSome=(wtOf e.ws n).isSome by cases wtOf e.ws n <;> rfl];cases c1:(wtOf e.ws n).isSome with
 | false=>
  rw[c1]at k;mleave;show k
 | true=>
  rw[c1]at k;mleave;show(q,_,g,_,C,rfl,i,a.cls,a.n2,rfl,?_);show eqF c ⟨Ad.ZERO,rfl,T.Bct _⟩ ?_;cases c2:(decide (e.rest.1=0)&&decide (e.rest.2=1))with
  | false=>
   rw[c2]at k;mleave;show k
  | true=>
   rw[c2]at k;mleave;show(q,_,g,_,B,rfl,i,a.cls,a.n5,rfl,?_);show eqF y x ?_;show k
abbrev BbH:Stmt:=top 33
theorem JbH:Jan ["thing","scale","weights","part","lids","gap","room","on_way"] ["thing","scale"] (Jaf BbH):=by bv_decide
def JdM(K:W.Frag)(Ad:Adr):Sp:=λvs H Q E=>∃(x sc:Addr)(ls:List PD)(es:List (GD × List Str))(pl:Str->Fr2)(b:Int)(fs:List Int),vs=[.ref x, .ref sc]/\TK K Ad H x ls (es.map (·.1))/\SCK Ad H sc b fs/\SHC ls es pl/\(∀ e∈es,0<=vl (roomF pl e.1))/\∀ ll xs lds H',Same H H'->H ll=none->H' ll=some (.lst xs)->All2 (LDV K Ad H') lds xs->xs.Nodup->(∀ v∈xs, ∃ q,v=.ref q/\H q=none)->lds.length=es.length->(∀(i:Nat) e l,es[i]?=some e->lds[i]?=some l->LSt b ls pl e l)->Q (.ref ll) H'
theorem Jh9(F:"lids_of"∘BbH)(T:Txt K mg Ad)(BaA:2∘"parts"∘(Ja8 Ad)∘["self"]∘(JaY K Ad))(Bca:2∘"gaps"∘(Ja8 Ad)∘["self"]∘(JbD K Ad))(BcV:5∘"room"∘(Ja8 Ad)∘["self","name"]∘(JbY K Ad))(Baf:1∘"under"∘["one","other"]∘(JbE K))(BaS:2∘"part_names"∘["thing","gap_name"]∘(Jb0 K Ad))(k_Lid:KCal P w K mg base 1 "Lid" Ad.Lid ["self","name","rest","weights"] (Jb9 K Ad))(Ba6:2∘"lifted"∘(Jda Ad)∘["self","number"]∘(Jbj K Ad)):7∘["thing","scale"]∘(JdM K Ad):=by
 show F.okx JbH (λvs H Q E h=>?_) (λi9 A g7 s H vs Q E hr h=>?_)
 .let(x,sc,X,es,pl,b,fs,rfl,_):=h;rfl
 let(x,sc,X,es,pl,b,fs,rfl,h):=h;have hu:=hr.units;show(_,(Jab (Jaj 2 JbH.nd Jbq rfl (Or.inr rfl)) (Jab (JaI PassesOwn.leaving rfl (pi_U (BaA.m0 hr ⋯ pass1 (pv 0))) (Jao 3 JbH.nd) (Jag (Jbn (hu1 hu) (pv 2) (!3) (!3) rfl))) (Jab (Jaj 4 JbH.nd (Ja6 Jac)) (Jab (JaI PassesOwn.leaving rfl (pi_U (Bca.m0 hr ⋯ pass1 (pv 0))) (Jao 5 JbH.nd) (Jab (Jaj 6 JbH.nd (BcV.m hr ⋯ pass1 (pv 0) %[!5|0])) (Jab (ps_if (JaX (Baf.ev hr ⋯ rfl pass1 %[pv 6,Jcw (v:=.ref _) rfl T.Bcr T.Bcs|0])) (Jag ps_no)
   Jav) (Jab (Jaj 7 JbH.nd (JbR (JhU rfl) rfl T.n_dict Jfh %[JeA (Jby (own:=["name"]) (cs:=[(2,"weights")]) rfl (pi_U (BaS.ev hr ⋯ rfl pass1 %[pv 0,!5|0])) (λ_ _ _ _=>(Jao 0 (show[("name" : Str),("weights" : Str)].Nodup by decide))) (λ_ _ _ _=>Jb3) (λ_ _ _ _=>(JaJ %[pv 0,JaN (hu1 hu) (pv 1) (pv 0) (λ_ _=>rfl)|0])) (JbF rfl) ⋯ rfl ⋯ (hcs1 rfl rfl rfl))|0])) (Jag (Ja5 (pe_bm PySem.F.plainAttrs_list PySem.F.slot_list_append PySem.F.type_list_append Ja0 (pv 4) %[k_Lid.ev hr ⋯ rfl pass1 %[!5,Ba6.m hr ⋯ pass1 (pv 1) %[pv 6|0],pv 7|0]|0] (hs:=by show Jae rfl)))))))) (Jag (Jaq (pv 4))))))),?_)
 clear hu;let(ht,d4,L,g1,k):=h;let(dx,d1,d2,d3,k1,k2,k3,hx,_):=id ht;let(g4,fl,d0,_,i5,sb,_):=id d4;have sl:(1000:Nat)<=sizeLine:=by decide
 have j2:=L.l12;have l7:=L.l7;show tSeq _ _ _ [some (.ref x),some (.ref sc),none,none,none,none,none,none] H;cbv;rename_i wd d7 i1 H H1 S1 e1;cbv;show(x,_,dx,_,rfl,S1 _ _ hx,rfl,rfl,x,X,_,rfl,ht.same S1,by ac_nf,λl ys H2 S2 e0 e2 hY=>?_);have lY:=hY.length;have g8:l≠wd:=λz=>by rw[z,e1]at e0;cases e0
 have g3:=S1.trans S2;cbv;show(l,rfl,ForA.byLN (xs:=ys) (SqL.of e2) (λi σ N=>i<=ys.length/\∃(v3:Option V)(kv:List (Key × V)),σ=[some (.ref x),some (.ref sc),some (.ref wd),v3,none,none,none,none]/\(∀ c u,c≠wd->H2 c=some u->N c=some u)/\SameT H2 N/\N wd=some (.dK kv)/\BG (·.nm) (λp v=>v=.int p.wt) (X.take i) kv) ⟨Nat.zero_le _,none,[],rfl,λ_ _ _ h=>h,SameT.refl _,S2 _ _ e1,⟨rfl,rfl⟩⟩ (λi σ N q=>by let(_,_,_,_,q,_):=q;show SqL.of (q _ _ g8 e2)) ?_ ?_)
 .intro i y σ H3 R z_ N0 c2;let(hi,v3,kv,rfl,ho,hT,a2,hB):=z_;have li:=(List.getElem?_eq_some_iff.mp R).1;let(p,hp,b_,vz,vm,rfl,hb,_,_):=hY.at_ R;have lB:=hB.length;rw[length_take]at lB;have c8:=hb.sameT hT;cbv;show ixT (i:=5) c8 rfl ?_;cbv;show ixT (i:=0) c8 rfl ?_;show(wd,_,rfl,DPut.k (k:=Sum.inr p.nm) a2 ∅,?_);generalize u4:upd H3 wd _=H4;cbv;have e4:=putE u4;have T4:SameT H3 H4:=SameT.put u4 a2 rfl;show c2 _ _ ⟨li,_,_,rfl,λc u a0 h=>by rw[<- u4,Jai a0];show ho c u a0 h,hT.trans T4,e4,?_⟩;rw[take_succ,hp];show hB.new (a:=p) (JgQ L.nd hp) rfl
 .intro σ H3 z_;let(hi,v3,kv,rfl,ho,hT,a2,hB):=z_;rw[take_of_length_le ∅]at hB;have c5:Same H H3:=λc u h=>ho c u (Jah h d7) (g3 _ _ h);cbv;show(len0,?_);rename_i D a1 i7 H3 H4 S4 e4;cbv;have b8:=c5.trans S4;have Z:H D=none:=JcN c5 a1;show(x,_,dx,_,rfl,b8 _ _ hx,rfl,rfl,x,X,_,rfl,ht.same b8,by rw[length_map];ac_nf,λm zs H5 S5 e9 e5 hZ=>?_);have lZ:=hZ.length;rw[length_map]at lZ;have g0:m≠D:=λz=>by rw[z,e4]at e9;cases e9
  have d9:=b8.trans S5;have c7:=S5 _ _ (S4 _ _ a2);cbv;show(m,rfl,ForA.byLN (xs:=zs) (SqL.of e5) (λi σ N=>i<=zs.length/\∃(v5 v6 v7:Option V)(xs:List V)(J:List LidD),σ=[some (.ref x),some (.ref sc),some (.ref wd),v3,some (.ref D),v5,v6,v7]/\(∀ c u,c≠D->H5 c=some u->N c=some u)/\N D=some (.lst xs)/\All2 (LDV K Ad (cut D N)) J xs/\xs.Nodup/\(∀ v∈xs, ∃ q,v=.ref q/\H q=none/\N q≠none)/\J.length=i/\∀(j:Nat) e l,es[j]?=some e->J[j]?=some l->LSt b X pl e l) ⟨Nat.zero_le _,none,none,none,[],[],rfl,λ_ _ _ h=>h,S5 _ _ e4,rfl, .nil,(λv hv=>by cases hv),rfl,λj e l _ h=>by simp at h⟩ (λi σ N q=>by let(_,_,_,_,_,_,_,q,_):=q;show SqL.of (q _ _ g0 e5)) ?_ ?_)
  .intro i y σ H6 R z_ N0 c2;let(hi,v5,v6,v7,xs,J,rfl,U,ex,hX,c1,a5,b9,b7):=z_;have li:=(List.getElem?_eq_some_iff.mp R).1;have lX:=hX.length;let(g,a7,a_,i8,j4,rfl,hb,_,_):=hZ.at_ R;obtain⟨e,f2,rfl⟩:∃ e,es[i]?=some e/\e.1=g:=by
    rw[List.getElem?_map]at a7;show Option.map_eq_some_iff.mp a7
   have he:=List.mem_of_getElem? f2;have gm:e.1∈es.map (·.1):=mem_map.mpr ⟨e,he,rfl⟩;have Y:Same H H6:=λc u h=>U c u (Jah h Z) (d9 _ _ h);have h5:SameT H5 H6:=λc u t h=>U c u (λz=>by have:=S5 _ _ e4;rw[<- z,h]at this;cases this;simp[isTF]at t) h;have g2:wd≠D:=λz=>by rw[<- z,a2]at a1;cases a1
   have f5:=U _ _ g2 c7;have c0:=hb.sameT h5;cbv;show(x,_,dx,_,rfl,Y _ _ hx,rfl,rfl,?_);show ixT (i:=0) c0 rfl ?_;show(x,e.1.nm,X,es.map (·.1),rfl,ht.same Y,λz=>absurd (mem_map.mpr ⟨e.1,gm,rfl⟩) z,λg' a7 hz=>?_);have h9:=L.gn e he g' a7 hz;subst h9;show(pl,L.gn e he,λp hp q hq h=>Jg4 L.nd hp hq h,L.pok,L.plb,L.pls,L.tok e he,λv H7 S7 fv=>?_);have rb:=L.rb e he;have l0:=Jbu (a:=roomF pl e.1) (c:=(0,1)) rb.b1 ⋯;rw[Jdj]at l0;unfold lessF at l0;cbv;show(v, .ref Ad.ZERO,_,_,0,1,rfl,fv,⟨Ad.ZERO,rfl,T.Bct _⟩,rb.s1.mono ⋯,rb.s2.mono ⋯, .lit ⋯ ⋯, .lit ⋯ ⋯,?_);cbv;rw[if_neg (λz=>absurd (l0.mp z) (Rat.not_lt.mpr (g1 e he)))];cbv;have h4:=Y.trans S7;show ixT (i:=0) (c0.same S7) rfl ?_;show(x,X,es.map (·.1),e.1,rfl,ht.same h4,L.nd,by ac_nf,gm,L.gn e he,λnl w H8 S8 e8 hw c4=>?_);have b5:=S7.trans S8;have d8:=b5 _ _ f5;have c6:∀ n∈w.map (·.1),n∈X.map (·.nm):=λn hn=>Jc7 (Jey hw) n hn;have lw:w.length<=12:=by
    have:=sub_len (w.map (·.1)) (X.map (·.nm)) c4 λn hn=>c6 n hn;rw[length_map,length_map]at this;ac_nf
   cbv;show(nl,rfl, .inl ⟨⟨_,SqL.of e8⟩,CompJ.list (xs:=(w.map (·.1)).map V.str) (λj qs N=>Same H8 N/\∃(as:List Addr)(C:List (Str × Int)),qs=as.map V.ref/\as.length=C.length/\(∀(i:Nat)(a:Addr)(p:Str × Int),as[i]?=some a->C[i]?=some p->N a=some (.tup [.str p.1, .int p.2]))/\C.map (·.1)=(w.map (·.1)).take j/\∀ y∈C, ∃ p∈X,p.nm=y.1/\p.wt=y.2) ⟨Same.refl _,[],[],rfl,rfl,(λi a p h=>by simp at h),rfl,(λy R=>by cases R)⟩ (λj qs N hj z=>by
    let(z1,as,C,rfl,r,_,d,_):=z;have:=congrArg List.length d;rw[length_map,length_take,length_map]at this;show(SqL.of (z1 _ _ e8),by rw[length_map];ac_nf)) ?_ ?_⟩)
   .intro j y' qs H9 O z_;let(S9,as,C,rfl,b2,b3,o,c3):=z_;have lj:=(List.getElem?_eq_some_iff.mp O).1;rw[length_map]at lj;rw[List.getElem?_map,List.getElem?_eq_getElem lj]at O;obtain⟨n,hn⟩:∃ n,n=(w.map (·.1))[j]:=⟨_,rfl⟩;rw[<- hn]at O;have O:y'=.str n:=(Option.some.inj O).symm;subst O;have f9:n∈X.map (·.nm):=c6 n (by rw[hn];show List.getElem_mem lj);let(p,v',h6,g9,hv,g6):=hB.some (z:=n) f9;simpa only[length_singleton,length_cons,length_nil,List.replicate,JaF,map_cons,map_nil,Option.join_some];show(wd,_,rfl,by rw[<- hv];show DGet.k (k:=Sum.inr n) (S9 _ _ d8),?_);rw[g6];show(by show 2<=sizeLine;ac_nf,?_);rename_i t j3 j0 H9 f0 S b6;cbv;show(S9.trans S,as++[t],C++[(n,p.wt)],by simp,by simp[b2],λi' a' p' r d=>?_,?_,λy R=>?_)
    .rcases JbA r with r | ⟨q1,q2⟩
     .rcases JbA d with d | ⟨q3,q4⟩
      .show S _ _ (b3 i' a' p' r d)
      .have:=(List.getElem?_eq_some_iff.mp r).1;ac_nf
     .rcases JbA d with d | ⟨q3,q4⟩
      .have:=(List.getElem?_eq_some_iff.mp d).1;ac_nf
      .rw[q2,q4];show b6
    .rw[map_append,o,take_succ,List.getElem?_eq_getElem lj, <- hn];rfl
    .rcases mem_append.mp R with R | R
     .show c3 y R
     .rw[mem_singleton.mp R];show(p,h6,g9,rfl)
   .intro qs H9 z_;let(S9,as,C,rfl,b2,b3,o,c3):=z_;rw[length_map,take_of_length_le (Nat.le_refl _)]at o;have j1:C.length<=12:=by have:=congrArg List.length o;rw[length_map,length_map]at this;ac_nf
    have f4:(C.map (·.1)).Nodup:=by rw[o];show c4
    rename_i ql i2 i3 H9 f0 S b6;cbv;show(ql,as,C.map λp=>(p.1,V.int p.2),rfl,b6,by rw[length_map];show b2,λi' a' p' r d=>?_,?_)
    .rw[List.getElem?_map]at d;let(g5,h3,rfl):=Option.map_eq_some_iff.mp d;show S _ _ (b3 i' a' g5 r h3)
    have f8:JdS (C.map λp=>(p.1,V.int p.2))=wsK C:=by
     rw[Ji7 (by rw[map_map];show f4),map_map];rfl
    rw[f8];rename_i od a9 i4 f0 j5 f7 e6;cbv;have a8:=S9.trans (S.trans f7);have B:=b5.trans a8;have d6:=Y.trans B;have c9:=B _ _ ex;show(.inl ⟨rfl,_,SqL.of c9⟩,?_);show ixT (i:=0) (c0.same B) rfl ?_;show(sc,_,g4,_,rfl,d6 _ _ d0,rfl,rfl,?_);show(sc,v,roomF pl e.1,b,fs,rfl,d4.same d6,FrV.same (S8.trans a8) fv,rb.mono ⋯ ⋯,λpr t b4 a4 i0 hL=>?_);cbv;intro q dq hq h0 i6;have f3:Same b4 (upd (upd b4 dq (.own q)) q (.ins Ad.Lid dq [])):=λb u z=>by rw[Jai (Jah z hq),Jai (Jah z h0)];show z
    show(q,dq,od,e.1.nm, .ref pr,C,rfl,Jam,f3 _ _ (a4 _ _ e6),λa6 e7 h7=>⟨rfl,?_⟩);have I:Same b4 a6:=λb u z=>by rw[h7 b (Jah z hq)];show f3 _ _ z
    have M:=B.trans (a4.trans I);have b0:=M _ _ ex;have a3:H6 q=none:=JcN (B.trans a4) hq;show(D,xs,_,rfl,rfl,b0,by ac_nf,?_);generalize W:upd a6 D _=d5;cbv;have e3:=putE W;have ec:cut D d5=cut D a6:=by rw[<- W];show JgH
    have f1:q≠D:=λz=>by rw[z,ex]at a3;cases a3
    have f6:od≠D:=λz=>by rw[z,(b5.trans (S9.trans S)) _ _ ex]at a9;cases a9
    show c2 _ _ ⟨li,_,_,_,xs++[.ref q],J++[⟨e.1.nm,t,C,(C.map (·.2)).sum,(0,1)⟩],rfl,λc u a0 h=>by rw[<- W,Jai a0];show M _ _ (U c u a0 h),e3,?_,?_,λv' G=>?_,by simp[b9],λj e' l' r d=>?_⟩
    .rw[ec];show(hX.mono (P':=LDV K Ad (cut D a6)) λ_ _ z=>z.same M.cut).append (.one ⟨q,dq, .ref pr, .ref Ad.ZERO,od,rfl,?_,?_,⟨Ad.ZERO,rfl,T.Bct _⟩,?_⟩)
     .rw[JbV f1];show e7
     .show(FrV.of (I _ _ i0)).cut b0
     .rw[JbV f6];show I _ _ (a4 _ _ e6)
    .show nodup_append.mpr ⟨c1,by simp,λu hu v' G z=>?_⟩;rw[mem_singleton.mp G]at z;let(q',r,_,d):=a5 u hu;rw[r]at z;cases z;show d a3
    .have h8:∀ c,H6 c≠none->d5 c≠none:=λc h=>by
      by_cases cc:c=D
      .rw[cc,e3];intro y;cases y
      .cases hh:H6 c with
       | none=>show absurd hh h
       | some u=>rw[<- W,Jai cc,M _ _ hh];intro y;cases y
     rcases mem_append.mp G with G | G
     .let(q',r,d,h3):=a5 v' G;show(q',r,d,h8 q' h3)
     .rw[mem_singleton.mp G];show(q,rfl,JcN Y a3,by rw[<- W,Jai f1,e7];intro y;cases y)
    .rcases JbA d with d | ⟨q1,q2⟩
     .show b7 j e' l' r d
     .rw[q1,b9,f2]at r;cases r;rw[q2];show(rfl,hL.vl rb.b1,(hL.fb rb sb).mono ⋯ ⋯,by rw[o];show(L.way e he w hw c4).symm,f4,c3,rfl,rfl)
  .intro σ H6 z_;let(hi,v5,v6,v7,xs,J,rfl,U,ex,hX,c1,a5,b9,b7):=z_;cbv;show k D xs J H6 (λc u h=>U c u (Jah h Z) (d9 _ _ h)) Z ex (hX.mono λ_ _ z=>z.same Jdm) c1 (λv hv=>by let(q,r,d,_):=a5 v hv;show(q,r,d)) ∅ b7
abbrev BaH:Stmt:=top 34
theorem Jcl:Jan ["thing","scale","told","part"] ["thing","scale"] (Jaf BaH):=by bv_decide
def Jcp(K:W.Frag)(Ad:Adr):Sp:=λvs H Q E=>∃(x sc:Addr)(ls:List PD)(gs:List GD)(b:Int)(fs:List Int),vs=[.ref x, .ref sc]/\TK K Ad H x ls gs/\SCK Ad H sc b fs/\ls.length<=12/\(ls.map (·.nm)).Nodup/\(∀ p∈ls,FB 200 12 p.mo/\1<=p.wt/\Mth.Sz 21 p.wt)/\∀ md kv ms H',Same H H'->H md=none->H' md=some (.dK kv)->BG (·.1) (NFV K H') ms kv->ms.length=ls.length->(∀(i:Nat) p m,ls[i]?=some p->ms[i]?=some m->MSt b p m)->Q (.ref md) H'
theorem JeX(F:"most_levels"∘BaH)(T:Txt K mg Ad)(BaA:2∘"parts"∘(Ja8 Ad)∘["self"]∘(JaY K Ad))(Ba6:2∘"lifted"∘(Jda Ad)∘["self","number"]∘(Jbj K Ad))(Bcb:3∘"over"∘["one","other"]∘(JeM K Ad)):4∘["thing","scale"]∘(Jcp K Ad):=by
 show F.okn Jcl (by subst_eqs) (λb0 A a1 s H vs Q E hr h=>?_)
 let(x,O,X,gs,b,fs,rfl,h):=h;have hu:=hr.units;show(_,(Jab (Jaj 2 Jcl.nd Jbq) (Jab (JaI PassesOwn.never rfl (pi_U (BaA.m0 hr ⋯ passF (pv 0))) (Jao 3 Jcl.nd) (Jag (Jbn (hu1 hu) (pv 2) (!3) (Bcb.ev hr ⋯ rfl passF %[Ba6.m hr ⋯ passF (pv 1) %[!3|0],JaJ %[!3,Jad|0]|0]) rfl))) (Jag (Jaq (pv 2))))),?_)
 clear hu;let(ht,N,b2,a3,a2,k):=h;let(dx,d1,d2,d3,k1,k2,k3,hx,_):=id ht;let(a0,fl,M,_,W,sb,_):=id N;have sl:(1000:Nat)<=sizeLine:=by decide
 have b1:=W.b1;show tSeq _ _ _ [some (.ref x),some (.ref O),none,none] H;cbv;rename_i B n a9 H H1 S1 e1;cbv;show(x,_,dx,_,rfl,S1 _ _ hx,rfl,rfl,x,X,_,rfl,ht.same S1,by ac_nf,λl ys H2 S2 R e2 hY=>?_);have lY:=hY.length;have a4:l≠B:=λz=>by rw[z,e1]at R;cases R
 have L:=S1.trans S2;cbv;show(l,rfl,ForA.byLN (xs:=ys) (SqL.of e2) (λi σ U=>i<=ys.length/\∃(v3:Option V)(J:List (Key × V))(r:List (Str × Fr2)),σ=[some (.ref x),some (.ref O),some (.ref B),v3]/\(∀ c u,c≠B->H2 c=some u->U c=some u)/\SameT H2 U/\U B=some (.dK J)/\BG (·.1) (NFV K U) r J/\r.map (·.1)=(X.take i).map (·.nm)/\∀(j:Nat) p m,X[j]?=some p->r[j]?=some m->MSt b p m) ⟨Nat.zero_le _,none,[],[],rfl,λ_ _ _ h=>h,SameT.refl _,S2 _ _ e1,⟨rfl,rfl⟩,rfl,λj p m _ h=>by simp at h⟩ (λi σ U q=>by let(_,_,_,_,_,q,_):=q;show SqL.of (q _ _ a4 e2)) ?_ ?_)
 .intro i y σ H3 hy z_ N0 a5;let(hi,v3,J,r,rfl,ho,hT,v,hB,d,D):=z_;have li:=(List.getElem?_eq_some_iff.mp hy).1;let(p,Y,b_,vz,vm,rfl,hb,_,hm):=hY.at_ hy;let(mb,Z,ws):=a2 p (List.mem_of_getElem? Y);have lB:=hB.length;have a6:r.length=i:=by have:=congrArg List.length d;rw[length_map,length_map,length_take]at this;ac_nf
  have C:=hb.sameT hT;have G:Same H H3:=λc u h=>ho c u (Jah h n) (L _ _ h);cbv;show(O,_,a0,_,rfl,G _ _ M,rfl,rfl,?_);show ixT (i:=4) C rfl ?_;show(O,vm,p.mo,b,fs,rfl,N.same G,hm.sameT hT,mb.mono ⋯ ⋯,λpr t H4 S4 e4 hL=>?_);cbv;show ixT (i:=5) (C.same S4) rfl ?_;cbv;show(len2,?_);rename_i wp a7 a8 H4 H5 S5 e5;cbv;have o:=hL.fb mb sb;show(.ref pr, .ref wp,_,_,p.wt,1,rfl,FrV.of (S5 _ _ e4),FrV.of e5,o.s1.mono ⋯,o.s2.mono ⋯,ws.mono ⋯, .lit ⋯ ⋯,o.b1,by decide,o.g1,by unfold Mth.g;simp,λz=>absurd z ∅,λ_ p2 H6 S6 e6=>?_);have e6:H6 p2=some (.tup [.int (divF t (p.wt,1)).1, .int (divF t (p.wt,1)).2]):=e6;have e:=S4.trans (S5.trans S6);cbv;show ixT (i:=0) (C.same e) rfl ?_;show(B,_,rfl,DPut.k (k:=Sum.inr p.nm) (e _ _ v) ∅,?_);generalize u7:upd H6 B _=H7;cbv;have e7:=putE u7;have T7:SameT H6 H7:=SameT.put u7 (e _ _ v) rfl;have I:SameT H3 H7:=e.t.trans T7;have nn:p.nm∉r.map (·.1):=by rw[d];show JgQ a3 Y
  show a5 _ _ ⟨li,_,_,r++[(p.nm,divF t (p.wt,1))],rfl,λc u S h=>by rw[<- u7,Jai S];show e _ _ (ho c u S h),hT.trans I,e7,?_,?_,λj p' m' h1 h2=>?_⟩
  .show(hB.mono (P':=NFV K H7) λ_ _ z=>z.sameT I).new (a:=(p.nm,divF t (p.wt,1))) nn (FrV.of (T7 _ _ rfl e6))
  .rw[map_append,d,take_succ,Y,map_append];rfl
  .rcases JbA h2 with h2 | ⟨q1,q2⟩
   .show D j p' m' h1 h2
   .rw[q1,a6,Y]at h1;cases h1;rw[q2];have dl:=Jlj (a:=t) (c:=(p.wt,1)) o.b1 Z;show(rfl,?_,?_,?_,dl.b1,dl.g1)
    .show vl (divF t (p.wt,1))=_;rw[Jk1 o.b1 Z (Int.le_refl 1),JgC,hL.vl mb.b1]
    .show Mth.Sz.top (by have:=Jbg o.b1 Z;show t.2*p.wt≠0;ac_nf) (by rw[Int.mul_one];show o.s1)
    .show(Mth.Sz.bot (t:=t.1*1) (b:=t.2*p.wt) (by have:=Jbg o.b1 Z;ac_nf) (o.s2.mul ws)).mono ⋯
 .intro σ H3 z_;let(hi,v3,J,r,rfl,ho,hT,v,hB,d,D):=z_;rw[take_of_length_le ∅]at d;cbv;show k B J r H3 (λc u h=>ho c u (Jah h n) (L _ _ h)) n v hB (by simpa using congrArg List.length d) D
abbrev Bay:Stmt:=top 35
theorem Jb5:Jan ["mosts","lids","levels","stops","lid"] ["mosts","lids","levels"] (Jaf Bay):=by bv_decide
def Jcb(K:W.Frag)(Ad:Adr):Sp:=λvs H Q E=>∃(md ll ld:Addr)(kvm:List (Key × V))(ms:List (Str × Fr2))(xs:List V)(lds:List LidD)(kvl:List (Key × V))(lvs:List (Str × Fr2)),vs=[.ref md, .ref ll, .ref ld]/\H md=some (.dK kvm)/\BG (·.1) (NFV K H) ms kvm/\H ll=some (.lst xs)/\All2 (LDV K Ad H) lds xs/\H ld=some (.dK kvl)/\BG (·.1) (NFV K H) lvs kvl/\ms.length<=12/\lds.length<=7/\(∀ e∈lds,FB 3000 1000 e.rest/\Mth.Sz 64 e.load/\e.ws.length<=12)/\(ms.map (·.1)).Nodup/\∀ sl ys H',Same H H'->H' sl=some (.lst ys)->All2 (StV K H') (stF ms lds (lvs.map (·.1))) ys->Q (.ref sl) H'
theorem Jeu(F:"coming_stops"∘Bay)(T:Txt K mg Ad)(m_full_level:4∘"full_level"∘(IsLid Ad)∘["self"]∘(JbI K Ad)):5∘["mosts","lids","levels"]∘(Jcb K Ad):=by
 show F.okn Jb5 (by subst_eqs) (λe1 A c4 s H vs Q E hr h=>?_)
 let(r,ll,ld,c,W,xs,J,c2,a,rfl,h):=h;have hu:=hr.units;show(_,(Jab (JlT (Jbs (j:=3) (own:=["name"]) (cs:=[(0,"mosts"),(2,"levels")]) Jb5.nd rfl (Or.inl rfl) rfl (Jja (pv 0)) (λ_ _ _ _=>(Jao 0 (show[("name" : Str),("mosts" : Str),("levels" : Str)].Nodup by decide))) (λ_ _ _ _=>Jdc (JeC (Jdq (hu1 hu) (pv 0) (pv 2)) (by with_unfolding_all rfl))) (λ_ _ _ _=>(JaJ %[JaN (hu1 hu) (pv 1) (pv 0) (λ_ _=>rfl),Ja6 %[pv 0|0]|0])) (JbF rfl) ⋯ rfl ⋯ (hcs2 rfl rfl rfl rfl rfl rfl))) (Jab (JaI PassesOwn.never rfl (pi_U (pv 1)) (Jao 4 Jb5.nd) (Jag (ps_if (Jay Jgn (Jas (pv 4) rfl) Jad (JaB _)) (Jag (Ja5 (pe_bm PySem.F.plainAttrs_list PySem.F.slot_list_append PySem.F.type_list_append Ja0 (pv 3) %[JaJ %[m_full_level.m0 hr ⋯ passF (pv 4),Jg5 (Jby (own:=["name"]) (cs:=[(2,"levels")]) rfl (Jja (Jas (pv 4) rfl)) (λ_ _ _ _=>(Jao 0 (show[("name" : Str),("levels" : Str)].Nodup by decide))) (λ_ _ _ _=>Jdc (JeC (Jdq (hu1 hu) (pv 0) (pv 1)) (by with_unfolding_all rfl))) (λ_ _ _ _=>(pv 0)) (JbF rfl) ⋯ rfl ⋯ (hcs1 rfl rfl rfl))|0]|0] (hs:=by show Jae rfl))))
   Jav))) (Jag (Jaq (pv 3))))),?_)
 clear hu;let(hm,bm,hl,hX,hv,bl,c7,l7,d6,d0,k):=h;have sz:(1000:Nat)<=sizeLine:=by decide
 have lX:=hX.length;show tSeq _ _ _ [some (.ref r),some (.ref ll),some (.ref ld),none,none] H;mleave;show(r,c,hm,r,c,W.map (·.1),rfl,hm,bm.keysS,λod=>?_);generalize uf:upd H r (.frz od (.dK c))=H1;mleave;have f1:H1 r=some (.frz od (.dK c)):=by rw[<- uf,Jam]
 have t1:thw r c H1=H:=by rw[<- uf];show Jjz hm
 show Jb2.keys (λi ys C=>C r=some (.frz od (.dK c))/\Same H (thw r c C)/\All2 (StV K (thw r c C)) (((W.take i).filter λm=>decide (m.1∉a.map (·.1))).map λm=>(m.2,[m.1])) ys) ⟨f1,by rw[t1];show Same.refl _,rfl⟩ (λi ys C hi z=>⟨z.1,by
  have h1:=z.2.2.length;rw[length_map]at h1;have h2:=length_filter_le (λm:Str × Fr2=>decide (m.1∉a.map (·.1))) (W.take i);rw[length_take]at h2;ac_nf⟩) ?_ ?_
 .rintro i z ys H2 hz ⟨I,S2,hA⟩;rw[List.getElem?_map]at hz;let(m,a4,a6):=Option.map_eq_some_iff.mp hz;have a6:m.1=z:=a6;subst a6;have b3:=List.mem_of_getElem? a4;simpa only[length_singleton,length_cons,length_nil,List.replicate,JaF,map_cons,map_nil,Option.join_some];show(ld,_,rfl,JjA (k:=Sum.inr m.1) I (S2 _ _ hv),?_);rw[bl.val];by_cases g:m.1∈a.map (·.1)
  .rw[decide_eq_true g];mleave;show(I,S2,?_);rw[take_succ,a4,filter_append,map_append];have : [m].filter (λm=>decide (m.1∉a.map (·.1)))=[]:=List.filter_eq_nil_iff.mpr λx G=>by rw[mem_singleton.mp G];simpa using g
   rw[show(some m).toList=[m]from rfl,this,map_nil,append_nil];show hA
  .rw[decide_eq_false g];mleave;let(a',v,d3,d7,d4,c1):=bm.some (z:=m.1) (mem_map.mpr ⟨m,b3,rfl⟩);have ea:=Jhx d0 d3 b3 d7;subst ea;show(r,v,rfl,by rw[<- d4];show DGet.f (k:=Sum.inr a'.1) I,?_);mleave;show(by show 1<=sizeLine;ac_nf,?_);rename_i l b1 b9 H2 H3 S3 e3;mleave;show(by show 2<=sizeLine;ac_nf,?_);rename_i t c8 d8 H3 Z S4 e4;mleave;have a8:=S3.trans S4;have f4:=a8 _ _ I;have St:=JfU (d:=r) (kv:=c) a8;show(f4,S2.trans St,?_);rw[take_succ,a4,filter_append,map_append];have : [a'].filter (λm=>decide (m.1∉a.map (·.1)))=[a']:=List.filter_eq_self.mpr λx G=>by rw[mem_singleton.mp G];simpa using g
   rw[show(some a').toList=[a']from rfl,this];show(hA.mono (P':=StV K (thw r c Z)) λ_ _ z=>z.same St).append (.one ⟨t,v,l,rfl,SqT.of (JhP f4 e4 (by intro o w z;cases z)),FrV.same (S2.trans St) c1,JhP f4 (S4 _ _ e3) (by intro o w z;cases z)⟩)
 .rintro ys H2 ⟨I,S2,hA⟩;rw[length_map,take_of_length_le (Nat.le_refl _)]at hA;rename_i B N e0 H2 H3 S3 e3;mleave;show(od,c,S3 _ _ I,?_);obtain⟨Z,a3⟩:∃ Z,Z=thw r c H3:=⟨_,rfl⟩;rw[show upd H3 r (.dK c)=Z from a3.symm];mleave;have St:=JfU (d:=r) (kv:=c) S3;rw[<- a3]at St;have b0:=S2.trans St;have e4:Z B=some (.lst ys):=by rw[a3];show JhP (S3 _ _ I) e3 (by intro o w z;cases z)
  have R:H B=none:=JcN S2 (JfT I N);have d1:All2 (StV K (cut B Z)) ((W.filter λm=>decide (m.1∉a.map (·.1))).map λm=>(m.2,[m.1])) ys:=hA.mono λ_ _ z=>z.same λb u h=>by
   rw[JbV (λy=>by rw[y,JfT I N]at h;cases h)];show St b u h
  have d9:(W.filter λm=>decide (m.1∉a.map (·.1))).length<=12:=Nat.le_trans (length_filter_le _ _) c7;have e7:ll≠B:=λz=>by rw[z,R]at hl;cases hl
  show(ll,rfl,ForA.byLN (xs:=xs) (SqL.of (b0 _ _ hl)) (λi σ C=>i<=xs.length/\∃(v4:Option V)(O:List V)(S:List (Fr2 × List Str)),σ=[some (.ref r),some (.ref ll),some (.ref ld),some (.ref B),v4]/\Same H C/\C B=some (.lst O)/\All2 (StV K (cut B C)) S O/\S.length<=12+i/\S=(W.filter λm=>decide (m.1∉a.map (·.1))).map (λm=>(m.2,[m.1]))++((J.take i).filter λe=>decide (0<e.load)).map λe=>(divF e.rest (e.load,1),(e.ws.map (·.1)).filter λn=>decide (n∉a.map (·.1)))) ⟨Nat.zero_le _,none,ys,_,rfl,b0,e4,d1,by rw[length_map];ac_nf,by rw[take_zero];simp⟩ (λi σ C q=>by let(_,_,_,_,_,q,_):=q;show SqL.of (q _ _ hl)) ?_ ?_)
  .intro i y σ H5 hy z_ N0 b7;let(hi,v4,O,S,rfl,S5,ez,hZ,c3,D):=z_;have li:=(List.getElem?_eq_some_iff.mp hy).1;let(e,b4,hd):=hX.at_ hy;have c9:=List.mem_of_getElem? b4;let(d2,c6,e2):=d6 e c9;have b5:=hd.same S5;let(q,dx,vr,vt,M,rfl,hq,hr,e5,hw):=id b5;have tc:=T.c_Lid Ad.Lid rfl;have lZ:=hZ.length;mleave;show(q,_,dx,_, .int e.load,rfl,hq,tc.cls,tc.n4,rfl,?_);mleave;have a7:J.take (i+1)=J.take i++[e]:=by rw[take_succ,b4];rfl
   by_cases c0:0<e.load
   .rw[if_pos (by simpa using c0)];mleave;show(.inl ⟨rfl,_,SqL.of ez⟩,?_);show(q,_,dx,_,rfl,hq,rfl,rfl,?_);show(q,e,rfl,b5,d2,by ac_nf,c6,λp H6 S6 e6=>?_);mleave;have a5:=S6 _ _ hw;show(M,_,a5,q,_,dx,_, .ref M,rfl,S6 _ _ hq,tc.cls,tc.n3,rfl,M,wsK e.ws,e.ws.map (·.1),rfl,a5,Jkn e.ws,λa0=>?_);generalize ug:upd H6 M (.frz a0 (.dK (wsK e.ws)))=H7;mleave;have f7:H7 M=some (.frz a0 (.dK (wsK e.ws))):=by rw[<- ug,Jam]
    have t7:thw M (wsK e.ws) H7=H6:=by rw[<- ug];show Jjz a5
    have c5:=S5.trans S6;show Jb2.keys (λj qs C=>C=H7/\qs=(((e.ws.map (·.1)).take j).filter λn=>decide (n∉a.map (·.1))).map V.str) ⟨rfl,by rw[take_zero];rfl⟩ (λj qs C hj z=>⟨by rw[z.1];show f7,by
     rw[z.2,length_map];have h2:=length_filter_le (λn:Str=>decide (n∉a.map (·.1))) ((e.ws.map (·.1)).take j);rw[length_take,length_map]at h2;ac_nf⟩) ?_ ?_
    .rintro j z qs H8 hz ⟨U,L⟩;subst U;subst L;simpa only[length_singleton,length_cons,length_nil,List.replicate,JaF,map_cons,map_nil,Option.join_some];show(ld,_,rfl,JjA (k:=Sum.inr z) f7 (by rw[t7];show c5 _ _ hv),?_);rw[bl.val];have b2:(e.ws.map (·.1)).take (j+1)=(e.ws.map (·.1)).take j++[z]:=by rw[take_succ,hz];rfl
     by_cases g:z∈a.map (·.1)
     .rw[decide_eq_true g];mleave;rw[b2,filter_append,show[z].filter (λn=>decide (n∉a.map (·.1)))=[]from List.filter_eq_nil_iff.mpr λx G=>by rw[mem_singleton.mp G];simpa using g,append_nil]
     .rw[decide_eq_false g];mleave;rw[b2,filter_append,show[z].filter (λn=>decide (n∉a.map (·.1)))=[z]from List.filter_eq_self.mpr λx G=>by rw[mem_singleton.mp G];simpa using g,map_append];rfl
    .rintro qs H8 ⟨U,L⟩;subst U;rw[take_of_length_le (Nat.le_refl _)]at L;subst L;rename_i l b1 b9 H8 H9 S9 e9;mleave;show(a0,_,S9 _ _ f7,?_);obtain⟨HA,X⟩:∃ HA,HA=thw M (wsK e.ws) H9:=⟨_,rfl⟩;rw[show upd H9 M (.dK (wsK e.ws))=HA from X.symm];have Su:=JfU (d:=M) (kv:=wsK e.ws) S9;rw[t7, <- X]at Su;have eA:HA l=some (.lst (((e.ws.map (·.1)).filter λn=>decide (n∉a.map (·.1))).map V.str)):=by rw[X];show JhP (S9 _ _ f7) e9 (by intro o w z;cases z)
     mleave;show(len2,?_);rename_i t c8 d8 HA HB SB eB;mleave;have Y:=S6.trans (Su.trans SB);have a1:=Y _ _ ez;show(B,O,_,rfl,rfl,a1,by ac_nf,?_);generalize a2:upd HB B _=b8;mleave;have d5:=putE a2;have ec:cut B b8=cut B HB:=by rw[<- a2];show JgH
     have a9:H6 l=none:=by rw[<- t7];show JfT f7 b1
     have b6:l≠B:=λz=>by rw[z,S6 _ _ ez]at a9;cases a9
     show b7 _ _ ⟨li,_,O++[.ref t],S++[(divF e.rest (e.load,1),(e.ws.map (·.1)).filter λn=>decide (n∉a.map (·.1)))],rfl,λb u h=>by rw[<- a2,Jai (Jah h R)];show Y _ _ (S5 _ _ h),d5,?_,by simp;ac_nf,?_⟩
     .rw[ec];show(hZ.mono (P':=StV K (cut B HB)) λ_ _ z=>z.same Y.cut).append (.one ⟨t, .ref p,l,rfl,SqT.cut a1 (SqT.of eB),FrV.cut a1 (FrV.of (SB _ _ (Su _ _ e6))),?_⟩);rw[JbV b6];show SB _ _ eA
     .rw[D,a7,filter_append,show[e].filter (λe=>decide (0<e.load))=[e]from List.filter_eq_self.mpr λx G=>by rw[mem_singleton.mp G];simpa using c0,map_append, <- List.append_assoc];rfl
   .rw[if_neg (by simpa using c0)];mleave;show b7 _ _ ⟨li,_,O,S,rfl,S5,ez,hZ,by ac_nf,?_⟩;rw[D,a7,filter_append,show[e].filter (λe=>decide (0<e.load))=[]from List.filter_eq_nil_iff.mpr λx G=>by rw[mem_singleton.mp G];simpa using c0,append_nil]
  .intro σ H5 z_;let(hi,v4,O,S,rfl,S5,ez,hZ,c3,D):=z_;rw[take_of_length_le ∅]at D;mleave;show k B O H5 S5 ez ?_;unfold stF;rw[<- D];show hZ.mono λ_ _ z=>z.cut
abbrev BaI:Stmt:=top 36
theorem JbO:Jan ["stops","found","stop"] ["stops"] (Jaf BaI):=by bv_decide
def Jcn(K:W.Frag):Sp:=λvs H Q E=>∃(sl:Addr)(ys:List V)(st:List (Fr2 × List Str)),vs=[.ref sl]/\SqL K H sl ys/\All2 (StV K H) st ys/\st≠[]/\(∀ s∈st,FB 3000 1200 s.1)/\∀ v (L:Fr2),L∈st.map (·.1)->(∀ s∈st,vl L<=vl s.1)->FrV K H v L.1 L.2->Q v H
theorem JeU(F:"first_level"∘BaI)(T:Txt K mg Ad)(Baf:1∘"under"∘["one","other"]∘(JbE K)):2∘["stops"]∘(Jcn K):=by
 show F.okn JbO (by subst_eqs) (λa1 A X s H vs Q E hr h=>?_)
 let(B,M,D,rfl,h):=h;show(_,(Jab (Jaj 1 JbO.nd (pe_ix ix_U (!0) Jad)) (Jab (JaI PassesOwn.never rfl (pi_U (pv 0)) (Jao 2 JbO.nd) (Jag (ps_if (JaX (Baf.ev hr ⋯ rfl passF %[!2,pv 1|0])) (Jag (Jaj 1 JbO.nd (!2)))
   Jav))) (Jag (Jaq (pv 1))))),?_)
 let(U,Z,J,o,k):=h;have lA:=Z.length;obtain⟨g,r,rfl⟩:∃ g r,D=g::r:=by cases D with | nil=>show absurd rfl J | cons a b=>show(a,b,rfl)
 let(y0,S,t0,v0,l0,rfl,O,R,_):=Z.get (i:=0) rfl;show tSeq _ _ _ [some (.ref B),none,none] H;cbv;show ixL (i:=0) U S ?_;cbv;show ixT (i:=0) O rfl ?_;cbv;show(B,rfl,ForA.byLN (xs:=M) U (λi σ x=>i<=M.length/\x=H/\∃(v:V)(L:Fr2)(C:Option V),σ=[some (.ref B),some v,C]/\FrV K H v L.1 L.2/\L∈(g::r).map (·.1)/\∀ s∈(g::r).take i,vl L<=vl s.1) ⟨Nat.zero_le _,rfl,v0,g.1,none,rfl,R,by simp,(λs m=>by simp at m)⟩ (λi σ x q=>by rw[q.2.1];show U) ?_ ?_)
 .intro i y σ x hy z_ N0 n;let(hi,rfl,v,L,C,rfl,p,u,d):=z_;have li:=(List.getElem?_eq_some_iff.mp hy).1;let(s,m,t,w,l,rfl,ht,hw,_):=Z.at_ hy;have N:=o s (List.mem_of_getElem? m);let(sL,G,a0):=mem_map.mp u;have Y:FB 3000 1200 L:=a0 ▸ o sL G;have j:(g::r).take (i+1)=(g::r).take i++[s]:=by rw[take_succ,m];rfl
  have I:=Jbu (a:=s.1) (c:=L) N.b1 Y.b1;unfold lessF at I;cbv;show ixT (i:=0) ht rfl ?_;show(w,v,_,_,_,_,rfl,hw,p,N.s1.mono ⋯,N.s2.mono ⋯,Y.s1.mono ⋯,Y.s2.mono ⋯,?_);cbv;by_cases c:decide (s.1.1*L.2<L.1*s.1.2)=true
  .rw[if_pos c];cbv;show ixT (i:=0) ht rfl ?_;cbv;have lt:=I.mp c;show n _ _ ⟨li,rfl,w,s.1,_,rfl,hw,mem_map.mpr ⟨s,List.mem_of_getElem? m,rfl⟩,λW e=>?_⟩;rw[j]at e;rcases mem_append.mp e with h | h
   .show Rat.le_trans (Rat.le_of_lt lt) (d W h)
   .rw[mem_singleton.mp h];show Rat.le_refl
  .rw[if_neg c];cbv;show n _ _ ⟨li,rfl,v,L,_,rfl,p,u,λW e=>?_⟩;rw[j]at e;rcases mem_append.mp e with h | h
   .show d W h
   .rw[mem_singleton.mp h];show Rat.not_lt.mp λz=>c (I.mpr z)
 .intro σ x z_;let(hi,rfl,v,L,C,rfl,p,u,d):=z_;rw[take_of_length_le ∅]at d;cbv;show k v L u d p
abbrev BaT:Stmt:=top 37
theorem JbX:Jan ["stops","level","names","stop","name"] ["stops","level"] (Jaf BaT):=by bv_decide
def JcK(K:W.Frag):Sp:=λvs H Q E=>∃(sl:Addr)(lv:V)(ys:List V)(st:List (Fr2 × List Str))(L:Fr2)(N:List Str),vs=[.ref sl,lv]/\SqL K H sl ys/\All2 (StV K H) st ys/\FrV K H lv L.1 L.2/\N.length<=20/\(∀ s∈st, ∀ n∈s.2,n∈N)/\∀(l:Addr)(ns:List Str)(H':Hp),Same H H'->H' l=some (.lst (ns.map V.str))->ns.Nodup->(∀ n,n∈ns↔∃ s∈st,s.1=L/\n∈s.2)->Q (.ref l) H'
theorem JfD(F:"stopped_at"∘BaT)(T:Txt K mg Ad)  : 1∘["stops","level"]∘(JcK K):=by
 show F.okn JbX (by subst_eqs) (λa5 A a2 s H vs Q E hr h=>?_)
 let(sl,lv,ys,st,L,N,rfl,h):=h;have X:=hr.units;show(_,(Jab (Jaj 2 JbX.nd Jbq) (Jab (JaI PassesOwn.never rfl (pi_U (pv 0)) (Jao 3 JbX.nd) (Jag (ps_if (Jay (Jch X) (!3) (pv 1) (JaB _)) (Jag (JaI PassesOwn.never rfl (pi_U (!3)) (Jao 4 JbX.nd) (Jag (Jbn (hu1 X) (pv 2) (pv 4) pe_bl rfl))))
   Jav))) (Jag (Jaq (JbR (JhV rfl) rfl T.BdZ Jin %[pv 2|0]))))),?_)
 clear X;let(hS,hA,hL,a7,hN,k):=h;have sz:(1000:Nat)<=sizeLine:=by decide
 have lA:=hA.length;show tSeq _ _ _ [some (.ref sl),some lv,none,none,none] H;cbv;rename_i O R a4 H H1 S1 e1;cbv;show(sl,rfl,ForA.byLN (xs:=ys) (hS.same S1) (λi σ S=>i<=ys.length/\∃(v3 M:Option V)(r:List (Key × V))(B:List Str),σ=[some (.ref sl),some lv,some (.ref O),v3,M]/\Same H S/\S O=some (.dK r)/\r.map (·.1)=B.map Sum.inr/\B.Nodup/\∀ n,n∈B↔∃ s∈st.take i,s.1=L/\n∈s.2) ⟨Nat.zero_le _,none,none,[],[],rfl,S1,e1,rfl, .nil,λn=>by simp⟩ (λi σ S q=>by let(_,_,_,_,_,_,q,_):=q;show hS.same q) ?_ ?_)
 .intro i y σ H2 hy z_ N0 a1;let(hi,v3,M,r,B,rfl,J,e2,hk,I,d):=z_;have li:=(List.getElem?_eq_some_iff.mp hy).1;let(s,hs,t,w,l,rfl,ht,hw,hl):=hA.at_ hy;have a3:=List.mem_of_getElem? hs;have W:st.take (i+1)=st.take i++[s]:=by rw[take_succ,hs];rfl
  cbv;show ixT (i:=0) (ht.same J) rfl ?_;show eqF (hw.same J) (hL.same J) ?_;have ee:(decide (s.1.1=L.1)&&decide (s.1.2=L.2))=decide (s.1=L):=by
   rw[<- Bool.decide_and];show decide_eq_decide.mpr Prod.ext_iff.symm
  rw[ee];cbv;by_cases c:s.1=L
  .rw[if_pos (by simpa using c)];cbv;show ixT (i:=1) (ht.same J) rfl ?_;cbv;have a9:l≠O:=Jah hl R;show(l,rfl,ForA.byLN (xs:=s.2.map V.str) (SqL.of (J _ _ hl)) (λj σ S=>j<=(s.2.map V.str).length/\∃(M:Option V)(r:List (Key × V))(ns':List Str),σ=[some (.ref sl),some lv,some (.ref O),some (.ref t),M]/\Same H S/\S O=some (.dK r)/\r.map (·.1)=ns'.map Sum.inr/\ns'.Nodup/\∀ n,n∈ns'↔n∈B\/n∈s.2.take j) ⟨Nat.zero_le _,M,r,B,rfl,J,e2,hk,I,λn=>by simp⟩ (λj σ S q=>by let(_,_,_,_,_,q,_):=q;show SqL.of (q _ _ hl)) ?_ ?_)
   .intro j z σ H3 hz z_ N1 Z;let(hj,M,C,e,rfl,Y,e3,o,m,a):=z_;have lj:=(List.getElem?_eq_some_iff.mp hz).1;rw[List.getElem?_map]at hz;let(n,hn,rfl):=Option.map_eq_some_iff.mp hz;have lk:C.length=e.length:=by simpa using congrArg List.length o
    have lN:e.length<=N.length:=sub_len e N m λx hx=>by
     rcases(a x).mp hx with h | h
     .let(G,g,_,p):=(d x).mp h;show hN G (mem_of_mem_take g) x p
     .show hN s a3 x (mem_of_mem_take h)
    cbv;show(O,_,rfl,DPut.k (k:=Sum.inr n) e3 ∅,?_);generalize u4:upd H3 O _=H4;cbv;have e4:=putE u4;have a0:s.2.take (j+1)=s.2.take j++[n]:=by rw[take_succ,hn];rfl
    have S4:Same H H4:=λb u h=>by rw[<- u4,Jai (Jah h R)];show Y _ _ h
    have U:=JiP (kvs:=C) (k:=Sum.inr n);rw[o]at U;by_cases cn:n∈e
    .show Z _ _ ⟨lj,_,_,e,rfl,S4,e4,?_,m,λx=>?_⟩
     .rw[JiQ,if_pos (U.mpr (mem_map.mpr ⟨n,cn,rfl⟩))];show o
     .rw[a x,a0,mem_append,mem_singleton];show(λh=>h.elim .inl λh=>.inr (.inl h),λh=>?_);rcases h with h | h | h
      .show .inl h
      .show .inr h
      .rw[h];show(a n).mp cn
    .show Z _ _ ⟨lj,_,_,e++[n],rfl,S4,e4,?_,?_,λx=>?_⟩
     .rw[JiQ,if_neg (λz=>cn (by let(q,hq,eq):=mem_map.mp (U.mp z);have eq:q=n:=(by injection eq);show eq ▸ hq)),o,map_append];rfl
     .show nodup_append.mpr ⟨m,by simp,λu X v hv z=>cn (by rw[mem_singleton.mp hv]at z;rw[<- z];show X)⟩
     .rw[mem_append,mem_singleton,a x,a0,mem_append,mem_singleton];grind
   .intro σ H3 z_;let(hj,M,C,e,rfl,Y,e3,o,m,a):=z_;rw[length_map,take_of_length_le (Nat.le_refl _)]at a;show a1 _ _ ⟨li,_,_,C,e,rfl,Y,e3,o,m,λn=>?_⟩;rw[a n,d n,W];constructor
    .rintro(⟨G,g,p,D⟩ | h)
     .show(G,mem_append.mpr (.inl g),p,D)
     .show(s,mem_append.mpr (.inr (by simp)),c,h)
    .rintro⟨G,g,p,D⟩;rcases mem_append.mp g with g | g
     .show .inl ⟨G,g,p,D⟩
     .rw[mem_singleton.mp g]at D;show .inr D
  .rw[if_neg (by simpa using c)];cbv;show a1 _ _ ⟨li,_,_,r,B,rfl,J,e2,hk,I,λn=>?_⟩;rw[d n,W];constructor
   .rintro⟨G,g,p,D⟩;show(G,mem_append.mpr (.inl g),p,D)
   .rintro⟨G,g,p,D⟩;rcases mem_append.mp g with g | g
    .show(G,g,p,D)
    .rw[mem_singleton.mp g]at p;show absurd p c
 .intro σ H2 z_;let(hi,v3,M,r,B,rfl,J,e2,hk,I,d):=z_;rw[take_of_length_le ∅]at d;cbv;show(O,r,B,rfl,e2,hk,?_);rename_i l a8 a6 H2 H3 Y e3;cbv;show k l B H3 (J.trans Y) e3 I d
abbrev Baz:Stmt:=top 38
theorem Jba:Jan ["mosts","lids","levels","stops","level","name","lid"] ["mosts","lids"] (Jaf Baz):=by bv_decide
def Jce(K:W.Frag)(Ad:Adr):Sp:=λvs H Q E=>∃(md ll:Addr)(kvm:List (Key × V))(ms:List (Str × Fr2))(xs:List V)(lds:List LidD)(b q0:Int)(N:List Str)(w M:Str->Rat)(gs:List Gp),vs=[.ref md, .ref ll]/\H md=some (.dK kvm)/\BG (·.1) (NFV K H) ms kvm/\H ll=some (.lst xs)/\All2 (LDV K Ad H) lds xs/\xs.Nodup/\lds.length<=7/\RC b q0 N w M gs ms/\RSt b N w M gs [] lds/\∀(ld:Addr)(kv:List (Key × V))(lvs:List (Str × Fr2))(lds':List LidD)(H':Hp),(∀ a u,V.ref a∉xs->H a=some u->H' a=some u)->H ld=none->H' ld=some (.dK kv)->BG (·.1) (NFV K H') lvs kv->All2 (LDV K Ad H') lds' xs->RSt b N w M gs lvs lds'->N.length<=lvs.length->lds'.map (·.nm)=lds.map (·.nm)->Q (.ref ld) H'
theorem Jev(F:"risen_levels"∘Baz)(T:Txt K mg Ad)(Bbx:5∘"coming_stops"∘["mosts","lids","levels"]∘(Jcb K Ad))(BbJ:2∘"first_level"∘["stops"]∘(Jcn K))(BbT:1∘"stopped_at"∘["stops","level"]∘(JcK K))(m_settle:4∘"settle"∘(IsLid Ad)∘["self","part","level"]∘(JcB K Ad)):7∘["mosts","lids"]∘(Jce K Ad):=by
 show F.okn Jba (by subst_eqs) (λf6 A d6 s H vs Q E hr h=>?_)
 let(md,Z,I,ms,xs,G,b,q0,N,w,M,gs,rfl,h):=h;have hu:=hr.units;show(_,(Jab (Jaj 2 Jba.nd Jbq) (Jab (Jc8 PassesOwn.never (Jay Jew (Jar Jcq rfl T.Bbm Jbe %[pv 2|0]) (Jar Jcq rfl T.Bbm Jbe %[pv 0|0]) (JaB _)) (Jab (Jaj 3 Jba.nd (Bbx.ev hr ⋯ rfl passF %[pv 0,pv 1,pv 2|0])) (Jab (Jaj 4 Jba.nd (BbJ.ev hr ⋯ rfl passF %[pv 3|0])) (Jag (JaI PassesOwn.never rfl (pi_U (BbT.ev hr ⋯ rfl passF %[pv 3,pv 4|0])) (Jao 5 Jba.nd) (Jab (Jbn (hu1 hu) (pv 2) (pv 5) (pv 4) rfl) (Jag (JaI PassesOwn.never rfl (pi_U (pv 1)) (Jao 6 Jba.nd) (Jag (Ja5 (m_settle.m hr ⋯ passF (pv 6) %[pv 5,pv 4|0]))))))))))) (Jag (Jaq (pv 2))))),?_)
 clear hu;let(hm,bm,hl,hX,c6,l7,U,d5,k):=h;show tSeq _ _ _ [some (.ref md),some (.ref Z),none,none,none,none,none] H;cbv;rename_i g Y f5 H H1 S1 e1;cbv;show(λm σ C=>∃(v3 v4 v5 v6:Option V)(kv:List (Key × V))(d:List (Str × Fr2))(o:List LidD),σ=[some (.ref md),some (.ref Z),some (.ref g),v3,v4,v5,v6]/\(∀ a u,V.ref a∉xs->H a=some u->C a=some u)/\C g=some (.dK kv)/\BG (·.1) (NFV K C) d kv/\All2 (LDV K Ad (cut g C)) o xs/\RSt b N w M gs d o/\o.map (·.nm)=G.map (·.nm)/\m=N.length-d.length,⟨_,none,none,none,none,[],[],G,rfl,λa u _ h=>S1 _ _ h,e1,⟨rfl,rfl⟩,hX.mono λ_ _ h=>h.same (Same.cutN S1 Y),d5,rfl,rfl⟩,?_);intro m σ H2 z_;let(v3,v4,v5,v6,kv,d,o,rfl,S2,e2,b2,b7,st,b8,rfl):=z_;have x2:All2 (LDV K Ad H2) o xs:=b7.mono λ_ _ z=>z.same Jdm;cbv;have f9:=U.l12;have b4:=S2 md _ (LDV.notin hX hm (λ_ _ z=>by cases z)) hm;have W:=S2 Z _ (LDV.notin hX hl (λ_ _ z=>by cases z)) hl;have T2:SameT H H2:=λc u t h=>S2 c u (LDV.notin hX h (λ_ _ z=>by rw[z]at t;simp[isTF]at t)) h;have f0:BG (·.1) (NFV K H2) ms I:=bm.mono λ_ _ z=>z.sameT T2;have lk:=b2.length;have lm:=bm.length;have lN:ms.length=N.length:=by rw[<- U.nm,length_map]
 have sz:(1000:Nat)<=sizeLine:=by decide
 have f7:=hX.length;have f8:=x2.length;show(g,kv,rfl,e2,md,I,rfl,b4,?_);cbv;by_cases c:d.length<N.length
 .rw[if_pos (by simpa using(by ac_nf:kv.length<I.length))];cbv;show(_,λσ' C h=>h,?_);cbv;show(md,Z,g,I,ms,xs,o,kv,d,rfl,b4,f0,W,x2,e2,b2,by ac_nf,by ac_nf,st.lids U,by rw[U.nm];show U.nd,λsl ys H3 S3 e3 hY=>?_);cbv;have B:=st.stops U;show(sl,ys,_,rfl,SqL.of e3,hY,st.some U c,λs hs=>⟨(B s hs).1.s1,(B s hs).1.s2.mono ⋯,(B s hs).1.b1,(B s hs).1.g1⟩,λv L hL c2 hv=>?_);cbv;show(sl,v,ys,_,L,N,rfl,SqL.of e3,hY,hv,by ac_nf,λs hs n hn=>((B s hs).2 n hn).1,λl R H4 S4 e4 b0 e9=>?_);let(d7,d9,c7,D,f4):=st.first U c hL c2 b0 e9;have J:=S3.trans S4;have x4:All2 (LDV K Ad H4) o xs:=x2.mono λ_ _ z=>z.same J;have a1:=J _ _ e2;have c5:l≠g:=λz=>by rw[z,a1]at e4;cases e4
  have d4:=LDV.notin x4 e4 (λ_ _ z=>by cases z);have a4:=LDV.notin x4 a1 (λ_ _ z=>by cases z);have c1:Z≠g:=λz=>by rw[z,e2]at W;cases W
  have a5:=LDV.notin x2 W (λ_ _ z=>by cases z);have d3:=hv.same S4;cbv;show(l,rfl,ForA.byLN (xs:=R.map V.str) (SqL.of e4) (λi σ C=>i<=(R.map V.str).length/\∃(v5 v6:Option V)(kv':List (Key × V))(lds':List LidD),σ=[some (.ref md),some (.ref Z),some (.ref g),some (.ref sl),some v,v5,v6]/\(∀ a u,V.ref a∉xs->a≠g->H4 a=some u->C a=some u)/\C g=some (.dK kv')/\BG (·.1) (NFV K C) (d++(R.take i).map λn=>(n,L)) kv'/\All2 (LDV K Ad (cut g C)) lds' xs/\RMd b N w M gs L D (d.length+1) (d++(R.take i).map λn=>(n,L)) lds'/\lds'.map (·.nm)=G.map (·.nm)) ⟨Nat.zero_le _,v5,v6,kv,o,rfl,λ_ _ _ _ h=>h,a1,by rw[take_zero,map_nil,append_nil];show b2.mono λ_ _ z=>z.sameT λc u _ h=>J _ _ h,b7.mono (λ_ _ z=>z.same J.cut),by rw[take_zero,map_nil,append_nil];show f4,b8⟩ (λi σ C q=>by let(_,_,_,_,_,_,q,_):=q;show SqL.of (q _ _ d4 c5 e4)) ?_ ?_)
  .intro i y σ H5 hy z_ N0 f2;let(hi,d2,a9,a6,x,rfl,S5,e5,b5,O,p,S):=z_;have li:=(List.getElem?_eq_some_iff.mp hy).1;rw[length_map]at li;rw[List.getElem?_map]at hy;let(n,hn,rfl):=Option.map_eq_some_iff.mp hy;have c9:=List.mem_of_getElem? hn;have hN:=d9 n c9;have e0:R.take (i+1)=R.take i++[n]:=by rw[take_succ,hn];rfl
   have a2:(d++(R.take (i+1)).map λn=>(n,L))=(d++(R.take i).map λn=>(n,L))++[(n,L)]:=by rw[e0,map_append, <- List.append_assoc];rfl
   have hS:n∉(d++(R.take i).map λn=>(n,L)).map (·.1):=by
    rw[Jbo];intro z;rcases mem_append.mp z with z | z
    .show hN.2 z
    .show JjK b0 hn z
   have T5:SameT H4 H5:=λc u t h=>S5 c u (LDV.notin x4 h (λ_ _ z=>by rw[z]at t;simp[isTF]at t)) (λz=>by rw[z,a1]at h;cases h;simp[isTF]at t) h;have g2:=b5.length;have l5:(d++(R.take i).map λn=>(n,L)).length<=N.length:=by
    have:=sub_len _ _ p.inv.nd p.inv.sub;simpa using this
   have g0:=O.length;cbv;show(g,_,rfl,DPut.k (k:=Sum.inr n) e5 ∅,?_);generalize u6:upd H5 g _=H6;cbv;have e6:=putE u6;have T6:SameT H5 H6:=SameT.put u6 e5 rfl;have o6:∀ a u,a≠g->H5 a=some u->H6 a=some u:=λa u ne h=>by rw[<- u6,Jai ne];show h
   have d8:cut g H6=cut g H5:=by rw[<- u6];show JgH
   rw[<- d8]at O;have x6:All2 (LDV K Ad H6) x xs:=O.mono λ_ _ z=>z.same Jdm;have b3:=(d3.sameT T5).sameT T6;have b6:BG (·.1) (NFV K H6) (d++(R.take (i+1)).map λn=>(n,L)) (putK a6 (Sum.inr n) v):=by
    rw[a2];show(b5.mono (P':=NFV K H6) λ_ _ z=>z.sameT T6).new (a:=(n,L)) hS b3
   have b9:H6 Z=some (.lst xs):=o6 _ _ c1 (S5 _ _ a5 c1 (J _ _ W));have X:=p.rest U;have f3:=p.step U hN.1 hS;cbv;show(Z,rfl,ForA.byLN (xs:=xs) (SqL.of b9) (λj σ C=>j<=xs.length/\∃(v6:Option V),σ=[some (.ref md),some (.ref Z),some (.ref g),some (.ref sl),some v,some (.str n),v6]/\(∀ a u,V.ref a∉xs->H6 a=some u->C a=some u)/\All2 (LDV K Ad (cut g C)) ((x.take j).map (λe=>e.settle n L)++x.drop j) xs) ⟨Nat.zero_le _,a9,rfl,λ_ _ _ h=>h,by rw[take_zero,map_nil,List.drop_zero,nil_append];show O⟩ (λj σ C q=>by let(_,_,_,q,_):=q;show SqL.of (q _ _ a5 b9)) ?_ ?_)
   .rintro j z σ H7 hz ⟨hj,c3,rfl,S7,x7⟩ N1 d0;have lj:=(List.getElem?_eq_some_iff.mp hz).1;let(e,a7,a3):=x7.at_ hz;rw[Jln]at a7;have c0:=List.mem_of_getElem? a7;have c4:=a3.same Jdm;let(q,dx,vr,vt,wd,rfl,hq,_):=id c4;have T7:SameT H6 H7:=λc u t h=>S7 c u (LDV.notin x6 h (λ_ _ z=>by rw[z]at t;simp[isTF]at t)) h;have e7:=S7 _ _ a4 e6;have f1:V.ref q∈xs:=List.mem_of_getElem? hz;cbv;show(q,_,dx,_,rfl,hq,rfl,rfl,?_);show(q,n,v,e,L,rfl,c4,b3.sameT T7,(X e c0).1,p.fL,(X e c0).2,λH8 S8 _ c8=>?_);cbv;have a8:g≠q:=λz=>by rw[<- z,e7]at hq;cases hq
    have e8:=S8 _ _ a8 e7;show d0 _ _ ⟨lj,_,rfl,λa u hx h=>S8 a u (λz=>hx (z ▸ f1)) (S7 a u hx h),?_⟩;rw[<- Jhy a7];show x7.put hz (c8 g _ e7 a3) λi' a y ne ha hy a0=>?_;have qc:cut g H7 q=_:=(JbV a8.symm).trans hq;show a0.keep (q:=q) (λb u nb h=>?_) qc (λz=>ne ?_)
    .have d1:b≠g:=λz=>by rw[z]at h;unfold cut at h;rw[if_pos rfl]at h;cases h
     rw[JbV d1]at h ⊢;show S8 b u nb h
    .rw[z, <- hz]at hy;show((List.getElem?_inj lj c6).mp hy.symm).symm
   .rintro σ H7 ⟨hj,c3,rfl,S7,x7⟩;rw[take_of_length_le ∅,drop_eq_nil_of_le ∅,append_nil]at x7;have T7:SameT H6 H7:=λc u t h=>S7 c u (LDV.notin x6 h (λ_ _ z=>by rw[z]at t;simp[isTF]at t)) h;show f2 _ _ ⟨by rw[length_map];ac_nf,_,_,_,_,rfl,λa u hx a0 h=>S7 a u hx (o6 a u a0 (S5 a u hx a0 h)),S7 _ _ a4 e6,b6.mono λ_ _ z=>z.sameT T7,x7,by rw[a2];show f3,Jig.trans S⟩
  .intro σ H5 z_;let(hi,d2,a9,a6,x,rfl,S5,e5,b5,O,p,S):=z_;rw[length_map,take_of_length_le (Nat.le_refl _)]at b5 p;have ln:1<=R.length:=by cases R with | nil=>show absurd rfl d7 | cons a r=>simp
   show(_,?_,_,_,_,_,a6,_,x,rfl,λa u hx h=>S5 a u hx (λz=>by rw[z,Y]at h;cases h) (J _ _ (S2 a u hx h)),e5,b5,O,p.next U c7 st.lo ∅,S,rfl);rw[length_append,length_map];ac_nf
 .rw[if_neg (by simpa using(by ac_nf:¬ kv.length<I.length))];cbv;show k g kv d o H2 S2 Y e2 b2 x2 st ∅ b8
abbrev Bbd:Stmt:=top 39
theorem JeG:Jan ["lids","name","level","full"] ["lids","name","level"] (Jaf Bbd):=by bv_decide
def Jdf(K:W.Frag)(Ad:Adr):Sp:=λvs H Q E=>∃(ll:Addr)(n:Str)(lv:V)(xs:List V)(lds:List LidD)(L:Fr2)(e:LidD),vs=[.ref ll, .str n,lv]/\H ll=some (.lst xs)/\All2 (LDV K Ad H) lds xs/\lds.length<=7/\FrV K H lv L.1 L.2/\lds.find? (λl=>(wtOf l.ws n).isSome&&(decide (l.rest=(0,1))&&decide (l.last=L)))=some e/\∀ p H',Same H H'->H' p=some (.tup [.str (Str.ofString "gap"), .str e.nm])->Q (.ref p) H'
theorem JgR(F:"gap_stop"∘Bbd)(T:Txt K mg Ad)(m_has_stopped:1∘"has_stopped"∘(IsLid Ad)∘["self","part","level"]∘(JbC K Ad)):2∘["lids","name","level"]∘(Jdf K Ad):=by
 show F.okn JeG (by subst_eqs) (λX A u s H vs Q E hr h=>?_)
 let(t,n,o,xs,a,L,e,rfl,h):=h;show(_,(Jab (Jbs (j:=3) (own:=["lid"]) (cs:=[(1,"name"),(2,"level")]) JeG.nd rfl (Or.inl rfl) rfl (pi_U (pv 0)) (λ_ _ _ _=>(Jao 0 (show[("lid" : Str),("name" : Str),("level" : Str)].Nodup by decide))) (λ_ _ _ _=>Jdc (JaX (m_has_stopped.m hr ⋯ passF (pv 0) %[pv 1,pv 2|0]))) (λ_ _ _ _=>(JlO (K:=K) rfl (pv 0) rfl)) (JbF rfl) ⋯ rfl ⋯ (hcs2 rfl rfl rfl rfl rfl rfl)) (Jag (Jaq (JaJ %[Jdr,!3|0])))),?_)
 let(G,O,l7,Z,D,k):=h;have lX:=O.length;have sz:(1000:Nat)<=sizeLine:=by decide
 show tSeq _ _ _ [some (.ref t),some (.str n),some o,none] H;mleave;obtain⟨P,N⟩:∃ P:LidD->Bool,P=λl=>(wtOf l.ws n).isSome&&(decide (l.rest=(0,1))&&decide (l.last=L)):=⟨_,rfl⟩;rw[<- N]at D;show(t,rfl, .inl ⟨⟨xs,SqL.of G⟩,Jb2.list (xs:=xs) (λi g J=>J=H/\g=((a.take i).filter P).map λe=>V.str e.nm) ⟨rfl,by rw[take_zero];rfl⟩ (λi g J hi z=>⟨by rw[z.1];show SqL.of G,by
  rw[z.2,length_map];have h2:=length_filter_le P (a.take i);rw[length_take]at h2;ac_nf⟩) ?_ ?_⟩)
 .rintro i y g C hy ⟨c,b⟩;subst c;subst b;let(l,r,U):=O.at_ hy;let(q,R,vr,vt,wd,rfl,S,_):=id U;have M:=T.c_Lid Ad.Lid rfl;have d:a.take (i+1)=a.take i++[l]:=by rw[take_succ,r];rfl
  simpa only[length_singleton,length_cons,length_nil,List.replicate,JaF,map_cons,map_nil,Option.join_some];show(q,_,R,_,rfl,S,rfl,rfl,?_);show(q,n,o,l,L,rfl,U,Z,?_);mleave;rw[show((wtOf l.ws n).isSome&&(decide (l.rest=(0,1))&&decide (l.last=L)))=P l by rw[N]];cases cp:P l with
  | false=>
   mleave;rw[d,filter_append,show[l].filter P=[]from List.filter_eq_nil_iff.mpr λx v=>by rw[mem_singleton.mp v,cp];decide,append_nil]
  | true=>
   mleave;show(q,_,R,_, .str l.nm,rfl,S,M.cls,M.n1,rfl,?_);mleave;rw[d,filter_append,show[l].filter P=[l]from List.filter_eq_self.mpr λx v=>by rw[mem_singleton.mp v,cp],map_append];rfl
 .rintro g C ⟨c,b⟩;subst c;rw[take_of_length_le ∅]at b;have Y:g[0]?=some (.str e.nm):=by
   have h1:(a.filter P).head?=some e:=by rw[List.head?_filter];show D
   rw[b,List.getElem?_map, <- List.head?_eq_getElem?,h1];rfl
  rename_i fl B I C H3 S3 e3;mleave;mleave;show ixL (i:=0) (SqL.of e3) Y ?_;mleave;show(len2,?_);rename_i p a1 a0 H3 H4 S4 W;mleave;show k p H4 (S3.trans S4) W
abbrev Bcf:Stmt:=top 40
theorem JbP:Jan ["thing","scale","lids","mosts","levels","told","part","name","level","slack"] ["thing"] (Jaf Bcf):=by bv_decide
def JfS(K:W.Frag)(Ad:Adr):Sp:=λvs H Q E=>∃(x:Addr)(ls:List PD)(es:List (GD × List Str))(pl:Str->Fr2),vs=[.ref x]/\TK K Ad H x ls (es.map (·.1))/\SHC ls es pl/\(∀ e∈es,0<=vl (roomF pl e.1))/\∀(tl:Addr)(zs:List V)(rs:List ShD)(H':Hp),Same H H'->H tl=none->H' tl=some (.lst zs)->All2 (ShV K H') rs zs->ShR ls es pl rs->Q (.ref tl) H'
theorem Jj1(F:"share"∘Bcf)(T:Txt K mg Ad)(Bbe:4∘"scale_of"∘["thing"]∘(JcJ K Ad))(Bcy:7∘"lids_of"∘["thing","scale"]∘(JdM K Ad))(BbK:4∘"most_levels"∘["thing","scale"]∘(Jcp K Ad))(Bby:7∘"risen_levels"∘["mosts","lids"]∘(Jce K Ad))(BaA:2∘"parts"∘(Ja8 Ad)∘["self"]∘(JaY K Ad))(m_lowered:2∘"lowered"∘(Jda Ad)∘["self","number"]∘(JbT K Ad))(Bbv:2∘"times"∘["one","other"]∘(Jdx K))(Bcg:2∘"gap_stop"∘["lids","name","level"]∘(Jdf K Ad)):9∘["thing"]∘(JfS K Ad):=by
 show F.okx JbP (λvs H Q E h=>?_) (λi4 A g0 s H vs Q E hr h=>?_)
 .let(x,W,es,pl,rfl,_):=h;rfl
 let(x,W,es,pl,rfl,h):=h;have hu:=hr.units;show(_,(Jab (Jaj 1 JbP.nd (Bbe.ev hr ⋯ rfl pass1 %[pv 0|0])) (Jab (Jaj 2 JbP.nd (Bcy.ev hr ⋯ rfl pass1 %[pv 0,pv 1|0])) (Jab (Jaj 3 JbP.nd (BbK.ev hr ⋯ rfl pass1 %[pv 0,pv 1|0])) (Jab (Jaj 4 JbP.nd (Bby.ev hr ⋯ rfl pass1 %[pv 3,pv 2|0])) (Jab (Jaj 5 JbP.nd (Ja6 Jac)) (Jab (JaI PassesOwn.leaving rfl (pi_U (BaA.m0 hr ⋯ pass1 (pv 0))) (Jao 6 JbP.nd) (Jab (Jaj 7 JbP.nd (!6)) (Jab (Jaj 8 JbP.nd (JaN (hu1 hu) (pv 4) (pv 7) (λ_ _=>rfl))) (Jag (ps_if (Jay (Jch hu) (pv 8) (JaN (hu1 hu) (pv 3) (pv 7) (λ_ _=>rfl)) (JaB _)) (Jag (Ja5 (pe_bm PySem.F.plainAttrs_list PySem.F.slot_list_append PySem.F.type_list_append Ja0 (pv 5) %[JaJ %[pv 7,!6,JaJ %[Jdr|0]|0]|0] (hs:=by show Jae rfl)))) (Jab (Jaj 9 JbP.nd (m_lowered.m hr ⋯ pass1 (pv 1) %[Bbv.ev hr ⋯ rfl pass1 %[pv 8,JaJ %[!6,Jad|0]|0]|0])) (Jag (Ja5 (pe_bm PySem.F.plainAttrs_list PySem.F.slot_list_append PySem.F.type_list_append Ja0 (pv 5) %[JaJ %[pv 7,pv 9,Bcg.ev hr ⋯ rfl pass1 %[pv 2,pv 7,pv 8|0]|0]|0] (hs:=by show Jae rfl)))))))))) (Jag (Jaq (pv 5))))))))),?_)
 clear hu;let(ht,d,c2,k):=h;let(dx,d1,d2,d3,k1,k2,k3,hx,_):=id ht;have sl:(1000:Nat)<=sizeLine:=by decide
 have i7:=d.l12;have l7:=d.l7;show tSeq _ _ _ [some (.ref x),none,none,none,none,none,none,none,none,none] H;cbv;show(x,W,_,rfl,ht,d.l12,by rw[length_map];show d.l7,by rw[length_map];show d.l14,λp M=>⟨(d.pb p M).1,(d.pb p M).2.b1,(d.pb p M).2.s2.mono ⋯⟩,λg hg=>by let(e,he,rfl):=mem_map.mp hg;show d.gb e he,λsc b fs H1 S1 a0=>?_);let(f7,fl,c3,_,d0,sb,_):=id a0;have b1:=d0.b1;cbv;show(x,sc,W,es,pl,b,fs,rfl,ht.same S1,a0,d,c2,λll xs b0 H2 S2 h9 e2 hX d9 g9 d7 a8=>?_);cbv;have f6:=S1.trans S2;show(x,sc,W,_,b,fs,rfl,ht.same f6,a0.same S2,d.l12,d.nd,λp M=>⟨(d.pb p M).2,(d.pok p M).w,d.wt p M⟩,λmd b9 ms H3 S3 i3 e3 bm h3 f2=>?_);let(q0,rc,e1):=Jki b1 sb d c2 d7 a8 h3 f2;have hw:=JkP d7 a8;cbv;have x3:All2 (LDV K Ad H3) b0 xs:=hX.mono λ_ _ z=>z.same S3;show(md,ll,b9,ms,xs,b0,b,q0,_,_,_,_,rfl,e3,bm,S3 _ _ e2,x3,d9,by ac_nf,rc,e1,λld kv f9 U H4 S4 i2 e4 b4 x4 Y S g2=>?_);have b3:Same H1 H4:=λc u h=>S4 c u (λz=>by let(q,eq,hq):=g9 _ z;have eq:c=q:=(by injection eq);rw[<- eq,h]at hq;cases hq) (S3 _ _ (S2 _ _ h));have a1:=S1.trans b3;have T4:SameT H3 H4:=λc u t h=>S4 c u (LDV.notin x3 h (λ_ _ z=>by rw[z]at t;simp[isTF]at t)) h;have h5:=S4 _ _ (LDV.notin x3 e3 (λ_ _ z=>by cases z)) e3;have f4:=S4 _ _ (LDV.notin x3 (S3 _ _ e2) (λ_ _ z=>by cases z)) (S3 _ _ e2);have g3:BG (·.1) (NFV K H4) ms b9:=bm.mono λ_ _ z=>z.sameT T4;have c1:U.map (·.nm)=es.map (·.1.nm):=by
  rw[g2];show List.ext_getElem? λi=>?_;rw[List.getElem?_map,List.getElem?_map];by_cases c:i<es.length
  .rw[List.getElem?_eq_getElem c,List.getElem?_eq_getElem (by ac_nf:i<b0.length)];show congrArg some (a8 i _ _ (List.getElem?_eq_getElem c) (List.getElem?_eq_getElem ∅)).nm
  .rw[List.getElem?_eq_none ∅,List.getElem?_eq_none ∅];rfl
 have i6:U.length=es.length:=by simpa using congrArg List.length c1
 cbv;show(Nat.zero_le _,?_);rename_i X a3 i1 H4 H5 S5 e5;cbv;have a5:H X=none:=JcN a1 a3;show(x,_,dx,_,rfl,S5 _ _ (a1 _ _ hx),rfl,rfl,x,W,_,rfl,ht.same (a1.trans S5),by ac_nf,λl ys H6 S6 c5 e6 hY=>?_);have lY:=hY.length;have f1:l≠X:=λz=>by rw[z,e5]at c5;cases c5
 have c9:=Same.trans S5 S6;cbv;show(l,rfl,ForA.byLN (xs:=ys) (SqL.of e6) (λi σ H'=>i<=ys.length/\∃(v6 v7 v8 v9:Option V)(zs:List V)(Y:List ShD),σ=[some (.ref x),some (.ref sc),some (.ref ll),some (.ref md),some (.ref ld),some (.ref X),v6,v7,v8,v9]/\(∀ c u,c≠X->H6 c=some u->H' c=some u)/\SameT H6 H'/\H' X=some (.lst zs)/\All2 (ShV K H') Y zs/\Y.length=i/\∀(j:Nat) p r,W[j]?=some p->Y[j]?=some r->ShRow W es pl (lvf b f9) p r) ⟨Nat.zero_le _,none,none,none,none,[],[],rfl,λ_ _ _ h=>h,SameT.refl _,S6 _ _ e5,rfl,rfl,λj p r _ h=>by simp at h⟩ (λi σ H' q=>by let(_,_,_,_,_,_,_,_,q,_):=q;show SqL.of (q _ _ f1 e6)) ?_ ?_)
 .intro i y σ H7 hy z_ N0 c8;let(hi,v6,v7,v8,v9,zs,a2,rfl,ho,hT,ez,hZ,L,I):=z_;have li:=(List.getElem?_eq_some_iff.mp hy).1;let(p,M,b_,vz,vm,rfl,hb,_,hm):=hY.at_ hy;have Z:=List.mem_of_getElem? M;have a9:=hb.sameT hT;have v:Same H4 H7:=λc u h=>ho c u (Jah h a3) (c9 _ _ h);have c6:p.nm∈W.map (·.nm):=mem_map.mpr ⟨p,Z,rfl⟩;let(a,N,ha,J,d6,f0):=b4.some (z:=p.nm) (Y.all rc S _ c6);have J:a.1=p.nm:=J;let(m,b2,g4,b7,b8,h0):=g3.some (z:=p.nm) (by rw[rc.nm];show c6);have b7:m.1=p.nm:=b7;have fa:=sh_lv rc Y ha;have ml:=rc.ml m g4;have d8:vl m.2=moF W a.1*(b:Rat):=by rw[ml.1,b7,J]
  have g7:DGet H7 ld (.str p.nm) (some N):=by rw[<- d6];show DGet.k (k:=Sum.inr p.nm) (v _ _ e4)
  have f8:DGet H7 md (.str p.nm) (some b2):=by rw[<- b8];show DGet.k (k:=Sum.inr p.nm) (v _ _ h5)
  have b5:FrV K H7 N a.2.1 a.2.2:=FrV.same v f0;have g8:FrV K H7 b2 m.2.1 m.2.2:=FrV.same v h0;have lZ:=hZ.length;cbv;show ixT (i:=0) a9 rfl ?_;cbv;show(ld,N,rfl,g7,?_);cbv;show(md,b2,rfl,f8,?_);show eqF b5 g8 ?_;have ee:(decide (a.2.1=m.2.1)&&decide (a.2.2=m.2.2))=decide (a.2=m.2):=by
   rw[<- Bool.decide_and];show decide_eq_decide.mpr Prod.ext_iff.symm
  rw[ee];cbv;by_cases c:a.2=m.2
  .rw[if_pos (by simpa using c)];cbv;show(.inl ⟨rfl,_,SqL.of ez⟩,?_);show ixT (i:=4) a9 rfl ?_;cbv;show(by show 1<=sizeLine;ac_nf,?_);rename_i t i8 j0 H7 H8 S8 e8;cbv;cbv;show(by show 3<=sizeLine;ac_nf,?_);rename_i pr d4 d5 H8 H9 S9 e9;cbv;have B:=Same.trans S8 S9;have R:=B _ _ ez;cbv;show(X,zs,_,rfl,rfl,R,by ac_nf,?_);generalize G:upd H9 X _=C;cbv;have b6:=putE G;have n:SameT H9 C:=SameT.put G R rfl;have T7:=B.t.trans n;show c8 _ _ ⟨li,_,_,_,_,_,a2++[(⟨p.nm,p.mo,none⟩:ShD)],rfl,λc u O h=>by rw[<- G,Jai O];show B _ _ (ho c u O h),hT.trans T7,b6,(hZ.mono (P':=ShV K C) λ_ _ z=>z.sameT T7).append (.one (show ShV K C (⟨p.nm,p.mo,none⟩:ShD) (.ref pr)from⟨pr,_,t,rfl,SqT.of (n _ _ rfl e9),((hm.sameT hT).same B).sameT n,SqT.of (n _ _ rfl (S9 _ _ e8))⟩)),by rw[length_append,L];rfl,λj p' r' h1 h2=>?_⟩;rcases JbA h2 with h2 | ⟨q1,q2⟩
   .show I j p' r' h1 h2
   .rw[q1,L,M]at h1;cases h1;rw[q2];show JlZ d rc Y Z ha J (by rw[c];show d8)
  .rw[if_neg (by simpa using c)];cbv;have c4:vl a.2≠moF W a.1*(b:Rat):=λz=>c (fa.lo.inj ml.2.1.lo (z.trans d8.symm));let(l0,e0,e7,g5,h7):=JlX hw rc Y S c1 ha c4;have wp:=d.wt p Z;show(sc,_,f7,_,rfl,v _ _ (b3 _ _ c3),rfl,rfl,?_);show ixT (i:=5) a9 rfl ?_;cbv;show(len2,?_);rename_i w1 i0 h8 H7 H8 S8 e8;cbv;show(N, .ref w1,_,_,p.wt,1,rfl,b5.same S8,FrV.of e8,fa.s1.mono ⋯,fa.s2.mono ⋯,wp.mono ⋯, .lit ⋯ ⋯,fa.b1,by decide,fa.g1,by unfold Mth.g;simp,λp2 H9 S9 e9=>?_);have e9:H9 p2=some (.tup [.int (mulF a.2 (p.wt,1)).1, .int (mulF a.2 (p.wt,1)).2]):=e9;have a4:=Same.trans S8 S9;have i5:=Jfr (a:=a.2) (c:=(p.wt,1)) fa.b1 (Int.le_refl 1);have f5:FB 3000 1000 (mulF a.2 (p.wt,1)):=by
    show FB.low (Jbg fa.b1 (Int.le_refl 1)) ((fa.s1.mul wp).mono ⋯) ?_;show Mth.Sz 1000 (a.2.2*1);rw[Int.mul_one];show fa.s2.mono ⋯
   cbv;show(sc, .ref p2,_,b,fs,rfl,a0.same (b3.trans (v.trans a4)),FrV.of e9,f5,λp3 tt i9 h6 f3 g6=>?_);have o:=a4.trans h6;cbv;show(.inl ⟨rfl,_,SqL.of (o _ _ ez)⟩,?_);cbv;show(ll,p.nm,N,xs,U,a.2,l0,rfl,o _ _ (v _ _ f4),x4.mono (λ_ _ z=>z.same (v.trans o)),by ac_nf,b5.same o,by rw[<- J];show e7,λt h4 c0 c7=>?_);cbv;show(by show 3<=sizeLine;ac_nf,?_);rename_i pr d4 d5 h4 a6 a7 e9;cbv;have B:=o.trans (c0.trans a7);have R:=B _ _ ez;cbv;show(X,zs,_,rfl,rfl,R,by ac_nf,?_);generalize G:upd a6 X _=C;cbv;have b6:=putE G;have n:SameT a6 C:=SameT.put G R rfl;have T7:=B.t.trans n;show c8 _ _ ⟨li,_,_,_,_,_,a2++[(⟨p.nm,tt,some e0.1.nm⟩:ShD)],rfl,λc u O h=>by rw[<- G,Jai O];show B _ _ (ho c u O h),hT.trans T7,b6,(hZ.mono (P':=ShV K C) λ_ _ z=>z.sameT T7).append (.one (show ShV K C (⟨p.nm,tt,some e0.1.nm⟩:ShD) (.ref pr)from⟨pr,_,t,rfl,SqT.of (n _ _ rfl e9),FrV.of (n _ _ rfl (a7 _ _ (c0 _ _ f3))),by rw[h7]at c7;show SqT.of (n _ _ rfl (a7 _ _ c7))⟩)),by rw[length_append,L];rfl,λj p' r' h1 h2=>?_⟩;rcases JbA h2 with h2 | ⟨q1,q2⟩
   .show I j p' r' h1 h2
   .rw[q1,L,M]at h1;cases h1;rw[q2];show JlY d rc Y Z ha J c4 g6 g5
 .intro σ H7 z_;let(hi,v6,v7,v8,v9,zs,a2,rfl,ho,hT,ez,hZ,L,I):=z_;cbv;let(D,F):=Jjr hw rc Y S;show k X zs a2 H7 (λc u h=>ho c u (Jah h a5) (c9 _ _ (a1 _ _ h))) a5 ez hZ ⟨by have:=hZ.length;ac_nf,_,D,F,I⟩
abbrev BcW:Stmt:=top 41
theorem JfL:Jan ["room","slacks","total","slack"] ["room","slacks"] (Jaf BcW):=by bv_decide
def Jhj(K:W.Frag):Sp:=λvs H Q E=>∃(r:V)(l:Addr)(xs:List V)(ts:List Fr2)(m:Fr2)(E_ Qb:Int),vs=[r, .ref l]/\FrV K H r m.1 m.2/\FB 2200 56 m/\SqL K H l xs/\All2 (FLV K H) ts xs/\FTS E_ Qb ts/\ts.length<=8/\smF ts<=vl m/\∀ H',Same H H'->Q (.bl true) H'
theorem JlD(F:"fits"∘BcW)(T:Txt K mg Ad)(Bb9:2∘"plus"∘["one","other"]∘(JeN K))(Baf:1∘"under"∘["one","other"]∘(JbE K)):3∘["room","slacks"]∘(Jhj K):=by
 show F.okn JfL (by subst_eqs) (λX A G s H Y Q E M h=>?_)
 let(r,l,xs,O,m,E_,Qb,rfl,h):=h;show(_,(Jab (Jaj 2 JfL.nd (Jcw (v:=.ref _) rfl T.Bcr T.Bcs)) (Jab (JaI PassesOwn.never rfl (pi_U (pv 1)) (Jao 3 JfL.nd) (Jag (Jaj 2 JfL.nd (Bb9.ev M ⋯ rfl passF %[pv 2,pv 3|0])))) (Jag (Jaq (JhI (Baf.ev M ⋯ rfl passF %[pv 0,pv 2|0])))))),?_)
 let(fr,fm,J,S,z,U,n,k):=h;have lx:=S.length;show tSeq _ _ _ [some r,some (.ref l),none,none] H;cbv;show(l,rfl,ForA.byLN (xs:=xs) J (λi σ D=>i<=xs.length/\∃(t:V)(u:Fr2)(o:Option V),σ=[some r,some (.ref l),some t,o]/\Same H D/\FrV K D t u.1 u.2/\Lo u/\vl u=smF (O.take i)) ⟨Nat.zero_le _, .ref Ad.ZERO,(0,1),none,rfl,Same.refl _,⟨Ad.ZERO,rfl,T.Bct _⟩,⟨Int.le_refl 1,JeQ.g1⟩,by rw[take_zero];unfold vl smF;grind⟩ (λi σ D q=>by let(_,_,_,_,_,q,_):=q;show J.same q) ?_ ?_)
 .intro i y σ R I z_ N0 B;let(W,t,u,o,rfl,j,x,C,g):=z_;have li:=(List.getElem?_eq_some_iff.mp I).1;let(s,L,fs):=S.at_ I;have d:=(z.t s (List.mem_of_getElem? L)).1;have b:=z.fb U C g;cbv;show(t,y,_,_,_,_,rfl,x,FrV.same j fs,b.s1.mono ⋯,b.s2.mono ⋯,d.s1.mono ⋯,d.s2.mono ⋯,b.b1,d.b1,b.g1,d.g1,λp H2 S2 Z=>?_);cbv;show B _ _ ⟨li, .ref p,addF u s,_,rfl,j.trans S2,FrV.of Z,Jem (Jbg b.b1 d.b1),?_⟩;rw[JhS b.b1 d.b1,g,take_succ,L];show(JfQ s _).symm
 .intro σ R z_;let(W,t,u,o,rfl,j,x,C,g):=z_;have b:=z.fb U C g;rw[take_of_length_le ∅]at g;cbv;show(r,t,m.1,m.2,u.1,u.2,rfl,FrV.same j fr,x,fm.s1.mono ⋯,fm.s2.mono ⋯,b.s1.mono ⋯,b.s2.mono ⋯,?_);cbv;have N:=Jbu (a:=m) (c:=u) fm.b1 b.b1;unfold lessF at N;have e:decide (m.1*u.2<u.1*m.2)=false:=by
   cases q:decide (m.1*u.2<u.1*m.2)with
   | false=>rfl
   | true=>
    rw[<- g]at n;show absurd (N.mp q) (Rat.not_lt.mpr n)
  rw[e];show k R j
abbrev BaU:Stmt:=top 42
theorem Jbd:Jan ["thing","slacks","scale","by_name","part","slack","gap","on_way"] ["thing","slacks"] (Jaf BaU):=by bv_decide
def JcE(K:W.Frag)(Ad:Adr):Sp:=λvs H Q E=>∃(x sl:Addr)(ls:List PD)(es:List (GD × List Str))(sx:List V)(ss:List Fr2)(pl:Str->Fr2)(E_:Int),vs=[.ref x, .ref sl]/\TK K Ad H x ls (es.map (·.1))/\SqL K H sl sx/\All2 (FLV K H) ss sx/\ss.length=ls.length/\ls.length<=8/\(∀ s∈ss,FB 910 800 s/\Dv E_ (vl s))/\1<=E_/\Mth.Sz 800 E_/\(∀ p∈ls,FB 100 6 p.mo)/\SHC ls es pl/\ShP ls es ss pl/\∀ H',Same H H'->Q (.bl true) H'
theorem Jfy(F:"is_sharing"∘BaU)(T:Txt K mg Ad)(Bbe:4∘"scale_of"∘["thing"]∘(JcJ K Ad))(BaA:2∘"parts"∘(Ja8 Ad)∘["self"]∘(JaY K Ad))(Bca:2∘"gaps"∘(Ja8 Ad)∘["self"]∘(JbD K Ad))(Baf:1∘"under"∘["one","other"]∘(JbE K))(Ba6:2∘"lifted"∘(Jda Ad)∘["self","number"]∘(Jbj K Ad))(BaS:2∘"part_names"∘["thing","gap_name"]∘(Jb0 K Ad))(BdN:3∘"fits"∘["room","slacks"]∘(Jhj K))(BcV:5∘"room"∘(Ja8 Ad)∘["self","name"]∘(JbY K Ad)):7∘["thing","slacks"]∘(JcE K Ad):=by
 show F.okn Jbd (by subst_eqs) (λg6 A f6 s H vs Q E S h=>?_)
 let(x,sl,o,es,sx,ss,pl,E_,rfl,h):=h;have hu:=S.units;show(_,(Jab (Jaj 2 Jbd.nd (Bbe.ev S ⋯ rfl passF %[pv 0|0])) (Jab (Jaj 3 Jbd.nd Jbq rfl (Or.inr rfl)) (Jab (JaI PassesOwn.never rfl (Jjd rfl T.Bd1 Jio %[BaA.m0 S ⋯ passF (pv 0),pv 1|0]) (JdU rfl (JaW (Jao 4 Jbd.nd) (JaW (Jao 5 Jbd.nd) Jcx))) (Jab (ps_if (PW.pt (pw_or (JaX (Baf.ev S ⋯ rfl passF %[pv 5,Jcw (v:=.ref _) rfl T.Bcr T.Bcs|0])) (Jb4 (JaX (Baf.ev S ⋯ rfl passF %[!4,pv 5|0]))))) (Jag (Jaq pe_bl))
   Jav) (Jag (Jbn (hu1 hu) (pv 3) (!4) (Ba6.m S ⋯ passF (pv 2) %[pv 5|0]) rfl)))) (Jab (JaI PassesOwn.never rfl (pi_U (Bca.m0 S ⋯ passF (pv 0))) (Jao 6 Jbd.nd) (Jab (JhK (Jbs (j:=7) (own:=["name"]) (cs:=[(3,"by_name")]) Jbd.nd rfl (Or.inl rfl) rfl (pi_U (BaS.ev S ⋯ rfl passF %[pv 0,!6|0])) (λ_ _ _ _=>(Jao 0 (show[("name" : Str),("by_name" : Str)].Nodup by decide))) (λ_ _ _ _=>Jb3) (λ_ _ _ _=>(JaN (hu1 hu) (pv 1) (pv 0) (λ_ _=>rfl))) (JbF rfl) ⋯ rfl ⋯ (hcs1 rfl rfl rfl))) (Jag (ps_if (Jbp (JaX (BdN.ev S ⋯ rfl passF %[Ba6.m S ⋯ passF (pv 2) %[BcV.m S ⋯ passF (pv 0) %[!6|0]|0],pv 7|0]))) (Jag (Jaq pe_bl))
   Jav)))) (Jag (Jaq pe_bl)))))),?_)
 clear hu;let(ht,c9,hA,f2,l8,d8,E1,sE,d7,d,U,k):=h;let(dx,d1,d2,d3,k1,k2,k3,hx,_):=id ht;have g8:(1000:Nat)<=sizeLine:=by decide
 have l7:=d.l7;have h3:=hA.length;show tSeq _ _ _ [some (.ref x),some (.ref sl),none,none,none,none,none,none] H;cbv;show(x,o,es.map (·.1),rfl,ht,d.l12,by rw[length_map];show d.l7,by rw[length_map];show d.l14,λp hp=>⟨(d.pb p hp).1,(d.pb p hp).2.b1,(d.pb p hp).2.s2.mono ⋯⟩,λg hg=>by let(e,he,rfl):=mem_map.mp hg;show d.gb e he,λsc b fs H1 S1 b3=>?_);let(c5,fl,G,_,a1,sb,_):=id b3;cbv;rename_i N J g3 H1 H2 S2 e2;cbv;cbv;have b2:=S1.trans S2;show(x,_,dx,_,rfl,b2 _ _ hx,rfl,rfl,x,o,_,rfl,ht.same b2,by ac_nf,λl ys H3 S3 c7 e3 hY=>?_);have lY:=hY.length;have O:=b2.trans S3;have f1:l≠N:=λz=>by rw[z,e2]at c7;cases c7
 have d6:=c9.same O;have X:H N=none:=JcN S1 J;have I:sc≠N:=λz=>by rw[z,J]at G;cases G
 have ez:(o.zip ss).map (·.1.nm)=o.map (·.nm):=Jk4 f2;cbv;show(l,sl,rfl,⟨ys,SqL.of e3⟩,⟨sx,d6⟩,ForJ.zip (xs:=ys) (ys:=sx) (λi σ B=>i<=o.length/\∃(v4 v5:Option V)(kv:List (Key × V)),σ=[some (.ref x),some (.ref sl),some (.ref sc),some (.ref N),v4,v5,none,none]/\(∀ c u,c≠N->H3 c=some u->B c=some u)/\SameT H3 B/\B N=some (.dK kv)/\BG (·.1.nm) (LFV K B b) ((o.zip ss).take i) kv) ⟨Nat.zero_le _,none,none,[],rfl,λ_ _ _ h=>h,(Same.refl _).t,S3 _ _ e2,⟨rfl,rfl⟩⟩ (λi σ B q=>by
  let(_,_,_,_,_,q,_):=q;have S0:Same H B:=λc u h=>q c u (Jah h X) (O _ _ h);show(SqL.of (q _ _ f1 e3),c9.same S0)) ?_ ?_)
 .intro i y z σ H4 pp H5 hy hz z_ hn S5 e5;let(hi,v4,v5,kv,rfl,ho,hT,a4,hB):=z_;have li:=(List.getElem?_eq_some_iff.mp hy).1;let(p,hp,a_,vz,vm,rfl,hb,g9,hm):=hY.at_ hy;let(s,hs,f3):=hA.at_ hz;have r:=(d8 s (List.mem_of_getElem? hs)).1;have pb:=d7 p (List.mem_of_getElem? hp);have bd:=U.1 i p s hp hs;have b0:SameT H3 H5:=hT.trans S5.t;have d0:=hb.sameT b0;have a8:FrV K H5 z s.1 s.2:=FrV.sameT (O.t.trans b0) f3;have W:Same H H4:=λc u h=>ho c u (Jah h X) (O _ _ h);have lk:=hB.length;rw[length_take]at lk;cbv;show(pp,_,rfl,SqT.of e5,rfl,?_);cbv;have z0:vl (0,1)=0:=by unfold vl;grind
  have l1:=Jbu (a:=s) (c:=(0,1)) r.b1 ⋯;rw[z0]at l1;have l2:=Jbu (a:=p.mo) (c:=s) pb.b1 r.b1;unfold lessF at l1 l2;show(z, .ref Ad.ZERO,s.1,s.2,0,1,rfl,a8,⟨Ad.ZERO,rfl,T.Bct _⟩,r.s1.mono ⋯,r.s2.mono ⋯, .lit ⋯ ⋯, .lit ⋯ ⋯,?_);cbv;rw[if_neg (λc1=>absurd (l1.mp c1) (Rat.not_lt.mpr bd.1))];cbv;cbv;show ixT (i:=4) d0 rfl ?_;show(vm,z,p.mo.1,p.mo.2,s.1,s.2,rfl,FrV.sameT b0 hm,a8,pb.s1.mono ⋯,pb.s2.mono ⋯,r.s1.mono ⋯,r.s2.mono ⋯,?_);cbv;rw[if_neg (λc2=>absurd (l2.mp c2) (Rat.not_lt.mpr bd.2))];cbv;cbv;have b8:SCK Ad H5 sc b fs:=by
   let(Z,R,q1,q2,q3):=b3;have nf:R≠N:=λz=>by rw[z,J]at q2;cases q2
   show(Z,R,S5 _ _ (ho _ _ I (S3 _ _ (S2 _ _ q1))),S5 _ _ (ho _ _ nf (S3 _ _ (S2 _ _ q2))),q3)
  have b4:=S5 _ _ (ho _ _ I (S3 _ _ (S2 _ _ G)));show(sc,_,c5,_,rfl,b4,rfl,rfl,?_);show(sc,z,s,b,fs,rfl,b8,a8,r.mono ⋯ ⋯,λq t H6 M e6 hL=>?_);cbv;show ixT (i:=0) (d0.same M) rfl ?_;show(N,_,rfl,DPut.k (k:=Sum.inr p.nm) (M _ _ (S5 _ _ a4)) ∅,?_);generalize u7:upd H6 N _=H7;cbv;have e7:=putE u7;have T7:SameT H6 H7:=SameT.put u7 (M _ _ (S5 _ _ a4)) rfl;have c4:SameT H4 H7:=S5.t.trans (M.t.trans T7);have nw:p.nm∉((o.zip ss).take i).map (·.1.nm):=λz=>by
   have e:=List.map_take (f:=λ(x:PD × Fr2)=>x.1.nm) (l:=o.zip ss) (i:=i);rw[e,ez, <- List.map_take]at z;show JgQ d.nd hp z
  have f4:(o.zip ss)[i]?=some (p,s):=List.getElem?_zip_eq_some.mpr ⟨hp,hs⟩;show(by ac_nf,_,_,_,rfl,λc u d4 h=>by rw[<- u7,Jai d4];show M _ _ (S5 _ _ (ho c u d4 h)),hT.trans c4,e7,?_);rw[take_succ,f4];show(hB.mono (P':=LFV K H7 b) λ_ _ z=>z.sameT c4).new (a:=(p,s)) nw ⟨t,hL,FrV.of (T7 _ _ rfl e6)⟩
 .intro σ H4 z_;let(hi,v4,v5,kv,rfl,ho,hT,a4,hB):=z_;have em:min ys.length sx.length=o.length:=by ac_nf
  rw[em]at hB;rw[take_of_length_le (by rw[List.length_zip];ac_nf)]at hB;have W:Same H H4:=λc u h=>ho c u (Jah h X) (O _ _ h);have b9:SCK Ad H4 sc b fs:=by
   let(Z,R,q1,q2,q3):=b3;have nf:R≠N:=λz=>by rw[z,J]at q2;cases q2
   show(Z,R,ho _ _ I (S3 _ _ (S2 _ _ q1)),ho _ _ nf (S3 _ _ (S2 _ _ q2)),q3)
  have a9:=ho _ _ I (S3 _ _ (S2 _ _ G));have bq:(0:Rat)<(b:Rat):=by exact_mod_cast (show 0<b by have:=a1.b1;ac_nf)
  cbv;show(x,_,dx,_,rfl,W _ _ hx,rfl,rfl,x,o,_,rfl,ht.same W,by rw[length_map];ac_nf,λm zs H5 S5 h0 e5 hZ=>?_);have lZ:=hZ.length;rw[length_map]at lZ;have c6:=W.trans S5;cbv;show(m,rfl,ForA.byL (xs:=zs) (SqL.of e5) (λi σ B=>i<=zs.length/\∃(v6 v7:Option V),σ=[some (.ref x),some (.ref sl),some (.ref sc),some (.ref N),v4,v5,v6,v7]/\Same H5 B) ⟨Nat.zero_le _,none,none,rfl,Same.refl _⟩ (λi σ B q=>by let(_,_,_,_,q):=q;show SqL.of (q _ _ e5)) ?_ ?_)
  .rintro i y σ H6 hy ⟨hi,v6,v7,rfl,M⟩;have li:=(List.getElem?_eq_some_iff.mp hy).1;let(g,a5,a_,g7,h2,rfl,hb,_,_):=hZ.at_ hy;obtain⟨e,f8,rfl⟩:∃ e,es[i]?=some e/\e.1=g:=by
    rw[List.getElem?_map]at a5;show Option.map_eq_some_iff.mp a5
   have he:=List.mem_of_getElem? f8;have e9:=c6.trans M;have g1:=S5.trans M;have c8:=hb.same M;have gm:e.1∈es.map (·.1):=mem_map.mpr ⟨e,he,rfl⟩;cbv;show ixT (i:=0) c8 rfl ?_;show(x,o,es.map (·.1),e.1,rfl,ht.same e9,d.nd,by ac_nf,gm,d.gn e he,λnl w H7 S7 e7 hw d9=>?_);have lw:w.length<=8:=by
    have:=sub_len (w.map (·.1)) (o.map (·.nm)) d9 λn hn=>Jc7 (Jey hw) n hn;rw[length_map,length_map]at this;ac_nf
   have b5:=g1.trans S7;have f5:=hB.mono (P':=LFV K H7 b) λ_ _ z=>z.sameT b5.t;have c0:=b5 _ _ a4;show(nl,rfl, .inl ⟨⟨_,SqL.of e7⟩,CompJ.list (xs:=(w.map (·.1)).map V.str) (λi ys B=>B=H7/\∃ ts:List Fr2,All2 (FLV K H7) ts ys/\ts.length=i/\FTS E_ (2 ^ 101*b) ts/\smF ts=sm (svl o ss) ((w.map (·.1)).take i)*(b:Rat)) ⟨rfl,[],rfl,rfl,FTS.nil E1 sE a1.b1 sb ⋯,by rw[take_zero];unfold smF sm;grind⟩ (λi ys B hi z=>by
    let(rfl,ts,a0,h4,_):=z;have:=a0.length;rw[length_map,length_map]at hi;show(SqL.of e7,by ac_nf)) ?_ ?_⟩)
   .intro j y' e4 B L z_;let(rfl,ts,a0,a3,b6,Y):=z_;have lj:=(List.getElem?_eq_some_iff.mp L).1;rw[length_map]at lj;rw[List.getElem?_map,List.getElem?_eq_getElem lj]at L;obtain⟨n,hn⟩:∃ n,n=(w.map (·.1))[j]:=⟨_,rfl⟩;rw[<- hn]at L;have L:y'=.str n:=(Option.some.inj L).symm;subst L;have e1:n∈o.map (·.nm):=Jc7 (Jey hw) n (by rw[hn];show List.getElem_mem lj);let(x',v,a7,g0,hv,t,hL,ft):=f5.some (z:=n) (by rw[ez];show e1);have f7:=(List.of_mem_zip a7).2;let(xb,xd):=d8 _ f7;have a2:=JmQ U.1 a7;have g2:=d7 _ (List.of_mem_zip a7).1;simpa only[length_singleton,length_cons,length_nil,List.replicate,JaF,map_cons,map_nil,Option.join_some];show(N,_,rfl,by rw[<- hv];show DGet.k (k:=Sum.inr n) c0,?_);show(ts++[t],a0.append (.one ft),by simp[a3],b6.snoc (hL.fb xb sb) (hL.vl xb.b1) xd a1.b1 a2.1 (Rat.le_trans a2.2 (fb_le g2 (Rat.le_trans a2.1 a2.2) ⋯)) ⋯ ⋯,?_)
    .rw[JfQ,Y,hL.vl xb.b1,take_succ,List.getElem?_eq_getElem lj, <- hn];show _=sm _ (_++[n])*_;rw[JfR, <- g0,JkU d.nd a7];grind
   .intro e4 B z_;let(rfl,ts,a0,a3,b6,Y):=z_;rw[length_map]at a3 Y;rw[take_of_length_le (Nat.le_refl _)]at Y;rw[length_map]at a3;rename_i ow g5 g4 B H8 S8 e8;cbv;cbv;have b7:=b5.trans S8;have c3:=W.trans b7;show(sc,_,c5,_,rfl,b7 _ _ a9,rfl,rfl,?_);show(x,_,dx,_,rfl,c3 _ _ hx,rfl,rfl,?_);show ixT (i:=0) ((c8.same S7).same S8) rfl ?_;show(x,e.1.nm,o,es.map (·.1),rfl,ht.same c3,λz=>absurd (mem_map.mpr ⟨e.1,gm,rfl⟩) z,λg' a5 hz=>?_);have f9:=d.gn e he g' a5 hz;subst f9;show(pl,d.gn e he,λp hp q hq h=>Jg4 d.nd hp hq h,d.pok,d.plb,d.pls,d.tok e he,λv H9 S9 fv=>?_);have d5:=b7.trans S9;show(sc,v,roomF pl e.1,b,fs,rfl,b9.same d5,fv,(d.rb e he).mono ⋯ ⋯,λq t h1 a6 f0 hL=>?_);have h6:=d5.trans a6;have tb:=hL.fb (d.rb e he) sb |>.mono (C:=2200) (D:=56) ⋯ ⋯
    show(.ref q,ow,_,ts,t,E_,2 ^ 101*b,rfl,FrV.of f0,tb,SqL.of (a6 _ _ (S9 _ _ e8)),a0.mono (λ_ _ z=>z.sameT (S8.trans (S9.trans a6)).t),b6,by ac_nf,?_,λh5 e0=>?_)
    .rw[Y,hL.vl (d.rb e he).b1,scaled bq, <- Jju (d.way e he w hw d9)];show U.2 e he
    cbv;show(li,_,_,rfl,M.trans (S7.trans (S8.trans (S9.trans (a6.trans e0)))))
  .rintro σ H6 ⟨hi,v6,v7,rfl,M⟩;cbv;show k H6 (c6.trans M)
abbrev Bbf:Stmt:=top 43
theorem Jb6:Jan ["numbers","told","number","place"] ["numbers"] (Jaf Bbf):=by bv_decide
def Jdg(K:W.Frag):Sp:=λvs H Q E=>∃(a:Addr)(xs:List V)(ns:List Fr2),vs=[.ref a]/\SqL K H a xs/\All2 (FrL K H) ns xs/\(∀ n∈ns,FW 3000 3000 n)/\ns.length<=20/\∀ l ys H',Same H H'->H l=none->H' l=some (.lst ys)->All2 (FrL K H') (ordO ns) ys->Q (.ref l) H'
theorem JgS(F:"in_order"∘Bbf)(T:Txt K mg Ad)(Baf:1∘"under"∘["one","other"]∘(JbE K)):2∘["numbers"]∘(Jdg K):=by
 show F.okn Jb6 (by subst_eqs) (λa1 A W s H vs Q E hr h=>?_)
 let(a,xs,t,rfl,h):=h;show(_,(Jab (Jaj 1 Jb6.nd (Ja6 Jac)) (Jab (JaI PassesOwn.never rfl (pi_U (pv 0)) (Jao 2 Jb6.nd) (Jab (Jaj 3 Jb6.nd (Jar JaP rfl T.Bbm Jbe %[pv 1|0])) (Jab (Jc8 PassesOwn.never (PW.pt (Jji (Jay Jgn (pv 3) Jad (JaB _)) (Jg7 (JaX (Baf.ev hr ⋯ rfl passF %[pv 2,pe_ix ix_U (pv 1) (pe_op Jgq (pv 3) Jad)|0]))))) (Jag (Jaj 3 Jb6.nd (pe_op Jgq (pv 3) Jad)))) (Jag (Ja5 (pe_bm PySem.F.plainAttrs_list PySem.F.slot_list_insert PySem.F.type_list_insert Jgf (pv 1) %[pv 3,pv 2|0])))))) (Jag (Jaq (pv 1))))),?_)
 let(Z,hA,Y,hl,k):=h;have sl:(1000:Nat)<=sizeLine:=by decide
 have la:=hA.length;show tSeq _ _ _ [some (.ref a),none,none,none] H;cbv;show(len0,?_);rename_i e o a0 H H1 S1 e1;cbv;show(a,rfl,ForA.byL (xs:=xs) (Z.same S1) (λi σ g=>i<=xs.length/\∃(C B:Option V)(j:List V),σ=[some (.ref a),some (.ref e),C,B]/\Same H g/\g e=some (.lst j)/\All2 (FrL K g) (ordO (t.take i)) j) ⟨Nat.zero_le _,none,none,[],rfl,S1,e1,rfl⟩ (λi σ g z=>by let(_,_,_,_,_,z,_):=z;show Z.same z) ?_ ?_)
 .intro i x σ l hx z_;let(hi,C,B,j,rfl,R,r,v):=z_;have li:i<xs.length:=(List.getElem?_eq_some_iff.mp hx).1;let(n,hn,fn):=hA.at_ hx;have ly:=v.length;have lo:(ordO (t.take i)).length=i:=by rw[Jc5,length_take];ac_nf
  have zn:=Y n (List.mem_of_getElem? hn);have I:FrV K l x n.1 n.2:=fn.same R;cbv;show(_, .inl (SqL.of r),?_);cbv;generalize hL:ordO (t.take i)=L at *;have D:∀ y∈L,FW 3000 3000 y:=λy hy=>Y y (mem_of_mem_take (Jc6 (by rw[hL];show hy)));have M:ordO (t.take (i+1))=insO L n:=by
   rw[take_succ,hn, <- hL];show Ji5 _ _
  have J:∀(p:Nat),p<=L.length->plcIn L n L.length=p->tyV K "list" (.ref e) l/\Jg9 (.ref e) [.int (p:Int),x] l λ_ g=>i+1<=xs.length/\∃(C B:Option V)(j:List V),[some (.ref a),some (.ref e),some x,some (.int (p:Int))]=[some (.ref a),some (.ref e),C,B]/\Same H g/\g e=some (.lst j)/\All2 (FrL K g) (ordO (t.take (i+1))) j:=λp S d=>by
   show(.inl ⟨rfl,_,SqL.of r⟩,?_);show(e,j,x,p,rfl,rfl,r,by ac_nf,by ac_nf,?_);generalize U:upd l e _=H3;cbv;have e3:=putE U;have N:SameT l H3:=SameT.put U r rfl;show(li,_,_,_,rfl,λb u h=>by rw[<- U,Jai (Jah h o)];show R _ _ h,e3,?_);rw[M];unfold insO;rw[d];have G:=v.mono (P':=FrL K H3) λ_ _ z=>FrV.sameT N z;show(G.take p).append ⟨x,_,rfl,FrV.sameT N I,G.drop p⟩
  show(λm σ g=>m<=L.length/\σ=[some (.ref a),some (.ref e),some x,some (.int (m:Int))]/\g=l/\plcIn L n m=plcIn L n L.length,⟨j.length,by ac_nf,rfl,rfl,by rw[ly]⟩,?_);rintro m σ g ⟨O,rfl,rfl,d⟩;cbv;match m,O,d with
  | 0,O,d=>
   rw[if_neg (by simp)];cbv;cbv;show J 0 (Nat.zero_le _) d.symm
  | p+1,O,d=>
   rw[if_pos (by simp)];cbv;have S:p<L.length:=by ac_nf
   let(yv,X,fy):=v.get (List.getElem?_eq_getElem S);have ei:((p+1:Nat):Int)-1=(p:Int):=by ac_nf
   rw[ei];show ixL (i:=p) (SqL.of r) X ?_;have zy:=D _ (List.getElem_mem S);show(x,yv,n.1,n.2,L[p].1,L[p].2,rfl,I,fy,zn.s1.mono ⋯,zn.s2.mono ⋯,zy.s1.mono ⋯,zy.s2.mono ⋯,?_);cbv;have eg:L.getD p (0,1)=L[p]:=by rw[List.getD_eq_getElem?_getD,List.getElem?_eq_getElem S];rfl
   rw[show plcIn L n (p+1)=if lessF n (L.getD p (0,1))then plcIn L n p else p+1 by rw[plcIn],eg]at d;by_cases c:lessF n L[p]=true
   .rw[if_pos c]at d;rw[if_pos (show decide (n.1*L[p].2<L[p].1*n.2)=true from c)];cbv;cbv;show(_,λ_ _ q=>q,p,Nat.lt_succ_self p,by ac_nf,rfl,rfl,d)
   .rw[if_neg c]at d;rw[if_neg (show¬ decide (n.1*L[p].2<L[p].1*n.2)=true from c)];cbv;cbv;show J (p+1) O d.symm
 .intro σ l z_;let(hi,C,B,j,rfl,R,r,v):=z_;rw[take_of_length_le ∅]at v;cbv;show k e j l R o r v
abbrev BaJ:Stmt:=top 44
theorem Je0:Jan ["thing","slacks"] ["thing","slacks"] (Jaf BaJ):=by bv_decide
def Jco(K:W.Frag)(Ad:Adr):Sp:=λvs H Q E=>∃(x a:Addr)(ls:List PD)(gs:List GD)(xs:List V)(ss:List Fr2),vs=[.ref x, .ref a]/\TK K Ad H x ls gs/\(∀ p∈ls,POk p)/\ls.length<=20/\SqL K H a xs/\All2 (FrL K H) ss xs/\(∀ s∈ss,FB 910 800 s)/\ss.length=ls.length/\∀ l ys H',Same H H'->H l=none->H' l=some (.lst ys)->All2 (FrL K H') (lvls ss (ls.map (·.wt))) ys->Q (.ref l) H'
theorem JeV(F:"for_weights"∘BaJ)(T:Txt K mg Ad)(BaA:2∘"parts"∘(Ja8 Ad)∘["self"]∘(JaY K Ad))(Bcb:3∘"over"∘["one","other"]∘(JeM K Ad)):4∘["thing","slacks"]∘(Jco K Ad):=by
 show F.okn Je0 (by subst_eqs) (λa1 A M s H vs Q E W h=>?_)
 let(x,a,m,gs,xs,I,rfl,h):=h;show(_,(Jag (Jaq (JeA (Jby (own:=["part","slack"]) (cs:=[]) rfl (Jjd rfl T.Bd1 Jio %[BaA.m0 W ⋯ passF (pv 0),pv 1|0]) (λ_ _ _ _=>(Ji9 (K:=K) (n:=2) rfl rfl (JaW (Jao 0 (show[("part" : Str),("slack" : Str)].Nodup by decide) (hf:=Or.inr rfl)) (JaW (Jao 1 (show[("part" : Str),("slack" : Str)].Nodup by decide) (hf:=Or.inr rfl)) Jcx)))) (λ_ _ _ _=>Jb3) (λ_ _ _ _=>(Bcb.ev W ⋯ rfl passF %[pv 1,JaJ %[pe_ix (ix_UK (K:=K) rfl) (pv 0) Jad,Jad|0]|0])) (JbF rfl) ⋯ rfl ⋯ hcs0)))),?_);let(ht,hp,hl,hS,hA,hz,a4,k):=h;let(dx,d1,d2,d3,k1,k2,k3,hx,_):=id ht;have sl:(1000:Nat)<=sizeLine:=by decide
 have la:=hA.length;show tRet _ _ [some (.ref x),some (.ref a)] H;cbv;show(x,_,dx,_,rfl,hx,rfl,rfl,x,m,gs,rfl,ht,hl,λl Z H1 q a3 e1 hP=>?_);cbv;have ly:=hP.length;show(l,a,rfl,⟨Z,SqL.of e1⟩,⟨xs,hS.same q⟩,CompJ.zip (xs:=Z) (zs:=xs) (λi c O=>Same H1 O/\All2 (FrL K O) (lvls (I.take i) ((m.take i).map (·.wt))) c) ⟨Same.refl _,rfl⟩ ∅ (λi c O hi z=>⟨SqL.of (z.1 _ _ e1),(hS.same q).same z.1,by have:=z.2.length;unfold lvls at this;rw[List.length_zipWith,length_take]at this;ac_nf⟩) ?_ ?_)
 .rintro i v u c L p hv hu ⟨B,G⟩ R;simpa only[length_cons,length_nil,List.replicate,JaF,map_cons,map_nil,Option.join_some];generalize X:upd L p _=N;cbv;have j:=newS R X;have S:=newE X;let(J,D,b,vz,vm,rfl,hq,_,_):=hP.at_ hv;let(s,U,fs):=hA.at_ hu;have ok:=hp J (List.mem_of_getElem? D);have d:=hz s (List.mem_of_getElem? U);show(p,_,rfl,SqT.of S,rfl,?_);cbv;show ixT (i:=5) ((hq.same B).same j) rfl ?_;show(by show 2<=sizeLine;ac_nf,?_);rename_i pt V a0 N H4 S4 e4;cbv;have C:=B.trans (j.trans S4);have ow:=ok.w;show(u, .ref pt,s.1,s.2,J.wt,1,rfl,(fs.same q).same C,FrV.of e4,d.s1.mono ⋯,d.s2.mono ⋯,ok.ws.mono ⋯, .lit ⋯ ⋯,d.b1,by decide,d.g1,by unfold Mth.g;simp,λz=>absurd z ∅,λ_ r H5 S5 Y=>?_);show(C.trans S5,?_);have el:lvls (I.take (i+1)) ((m.take (i+1)).map (·.wt))=lvls (I.take i) ((m.take i).map (·.wt))++[lvl s J.wt]:=by
   rw[take_succ,take_succ,U,D];unfold lvls;rw[map_append,List.zipWith_append (by
    rw[length_map,length_take,length_take];ac_nf)]
   rfl
  rw[el];rw[Int.mul_one]at Y;show(G.mono (P':=FrL K H5) λ_ _ z=>FrV.sameT ((j.trans S4).trans S5).t z).append (.one (FrV.of Y))
 .rintro c L ⟨B,G⟩;rw[take_of_length_le ∅,take_of_length_le ∅]at G;rename_i r y a2 L N j S;cbv;have R:H r=none:=by
   cases e:H r with
   | none=>rfl
   | some o=>rw[B _ _ (q _ _ e)]at y;cases y
  show k r c N (q.trans (B.trans j)) R S (G.mono λ_ _ z=>FrV.sameT j.t z)
abbrev Bb3:Stmt:=top 45
theorem JcV:Jan ["thing","ones","others","first","second","one","other"] ["thing","ones","others"] (Jaf Bb3):=by bv_decide
def JeI(K:W.Frag)(Ad:Adr):Sp:=λvs H Q E=>∃(x a b:Addr)(ls:List PD)(gs:List GD)(xs zs:List V)(ss rs:List Fr2),vs=[.ref x, .ref a, .ref b]/\TK K Ad H x ls gs/\(∀ p∈ls,POk p)/\ls.length<=20/\SqL K H a xs/\All2 (FrL K H) ss xs/\(∀ s∈ss,FB 910 800 s)/\ss.length=ls.length/\SqL K H b zs/\All2 (FrL K H) rs zs/\(∀ s∈rs,FB 910 800 s)/\rs.length=ls.length/\∀ H',Same H H'->Q (.bl (fairB (ordO (lvls ss (ls.map (·.wt)))) (ordO (lvls rs (ls.map (·.wt)))))) H'
theorem JiW(F:"fairer"∘Bb3)(T:Txt K mg Ad)(Bb4:2∘"in_order"∘["numbers"]∘(Jdg K))(Ba9:4∘"for_weights"∘["thing","slacks"]∘(Jco K Ad))(Baf:1∘"under"∘["one","other"]∘(JbE K)):5∘["thing","ones","others"]∘(JeI K Ad):=by
 show F.okn JcV (by subst_eqs) (λb4 A a3 s H vs Q E S h=>?_)
 let(x,a,b,e,gs,xs,zs,d,q,rfl,h):=h;have hu:=S.units;show(_,(Jab (Jaj 3 JcV.nd (Bb4.ev S ⋯ rfl passF %[Ba9.ev S ⋯ rfl passF %[pv 0,pv 1|0]|0])) (Jab (Jaj 4 JcV.nd (Bb4.ev S ⋯ rfl passF %[Ba9.ev S ⋯ rfl passF %[pv 0,pv 2|0]|0])) (Jab (JaI PassesOwn.never rfl (Jjd rfl T.Bd1 Jio %[pv 3,pv 4|0]) (JdU rfl (JaW (Jao 5 JcV.nd) (JaW (Jao 6 JcV.nd) Jcx))) (Jag (ps_if (Jay (JcP hu) (pv 5) (pv 6) (JaB _)) (Jag (Jaq (Baf.ev S ⋯ rfl passF %[pv 6,pv 5|0])))
   Jav))) (Jag (Jaq pe_bl))))),?_)
 clear hu;let(ht,hp,hl,hS,hA,Z,J,a2,a4,N,D,k):=h;have sl:(1000:Nat)<=sizeLine:=by decide
 have l:∀(d:List Fr2),(∀ s∈d,FB 910 800 s)->∀ y∈lvls d (e.map (·.wt)),FW 3000 3000 y:=λd Z y W=>by
  let(i,g):=List.getElem?_of_mem W;unfold lvls at g;rw[List.getElem?_zipWith]at g;obtain⟨s,C,hs,U,rfl⟩:∃ s C,d[i]?=some s/\e[i]?=some C/\lvl s C.wt=y:=by
   rw[List.getElem?_map]at g;cases G:d[i]? with
   | none=>rw[G]at g;cases g
   | some s=>
    cases h2:e[i]? with
    | none=>rw[G,h2]at g;cases g
    | some C=>
     rw[G,h2]at g;show(s,C,rfl,rfl,Option.some.inj g)
  have G:=Z s (List.mem_of_getElem? hs);have a7:=List.mem_of_getElem? U;have ok:=hp C a7;have b1:=G.b1;have ow:=ok.w;have b0:s.2*C.wt≠0:=Int.mul_ne_zero ∅ ∅;show((Mth.Sz.top b0 G.s1).mono ⋯,(Mth.Sz.bot b0 (G.s2.mul ok.ws)).mono ⋯,Mth.Jct b0)
 have o:∀(d:List Fr2),d.length=e.length->(lvls d (e.map (·.wt))).length=e.length:=λd h=>by
  unfold lvls;rw[List.length_zipWith,length_map];ac_nf
 show tSeq _ _ _ [some (.ref x),some (.ref a),some (.ref b),none,none,none,none] H;cbv;show(x,a,e,gs,xs,d,rfl,ht,hp,hl,hS,hA,Z,J,λl1 y1 H1 S1 b2 e1 a1=>?_);cbv;show(l1,y1,_,rfl,SqL.of e1,a1,l d Z,by rw[o d J];show hl,λl2 y2 H2 S2 b3 e2 a5=>?_);cbv;have j:=S1.trans S2;show(x,b,e,gs,zs,q,rfl,ht.same j,hp,hl,a2.same j,a4.mono (P':=FrL K H2) (λ_ _ z=>FrV.sameT j.t z),N,D,λl3 y3 H3 S3 a9 e3 a6=>?_);cbv;show(l3,y3,_,rfl,SqL.of e3,a6,l q N,by rw[o q D];show hl,λl4 y4 H4 S4 a8 e4 Y=>?_);cbv;have B:=a5.mono (P':=FrL K H4) λ_ _ z=>FrV.sameT (S3.trans S4).t z;have w1:∀ y∈ordO (lvls d (e.map (·.wt))),FW 3000 3000 y:=λy W=>l d Z y (Jc6 W);have w2:∀ y∈ordO (lvls q (e.map (·.wt))),FW 3000 3000 y:=λy W=>l q N y (Jc6 W);have n1:(ordO (lvls d (e.map (·.wt)))).length=e.length:=by rw[Jc5,o d J]
 have n2:(ordO (lvls q (e.map (·.wt)))).length=e.length:=by rw[Jc5,o q D]
 have a0:=S4 _ _ (S3 _ _ e2);have X:=j.trans (S3.trans S4);generalize hA1:ordO (lvls d (e.map (·.wt)))=L at *;generalize hA2:ordO (lvls q (e.map (·.wt)))=M at *;have b7:=B.length;have b5:=Y.length;show(l2,l4,rfl,⟨y2,SqL.of a0⟩,⟨y4,SqL.of e4⟩,ForJ.zip (xs:=y2) (ys:=y4) (λi σ H'=>∃(v5 v6:Option V),σ=[some (.ref x),some (.ref a),some (.ref b),some (.ref l2),some (.ref l4),v5,v6]/\Same H4 H'/\fairB L M=fairB (L.drop i) (M.drop i)) ⟨none,none,rfl,Same.refl _,rfl⟩ (λi σ H' z=>by let(_,_,_,z,_):=z;show(SqL.of (z _ _ a0),SqL.of (z _ _ e4))) ?_ ?_)
 .rintro i u v σ H5 p H6 hu hv ⟨v5,v6,rfl,S5,R⟩ b6 S6 e6;let(n,hn,fn):=B.at_ hu;let(m,hm,fm):=Y.at_ hv;have r:=S5.trans S6;have I:FrV K H6 u n.1 n.2:=FrV.sameT r.t fn;have O:FrV K H6 v m.1 m.2:=FrV.sameT r.t fm;have zn:=w1 n (List.mem_of_getElem? hn);have zm:=w2 m (List.mem_of_getElem? hm);have dL:L.drop i=n::L.drop (i+1):=by
   have:=(List.getElem?_eq_some_iff.mp hn);rw[List.drop_eq_getElem_cons this.1,this.2]
  have dM:M.drop i=m::M.drop (i+1):=by
   have:=(List.getElem?_eq_some_iff.mp hm);rw[List.drop_eq_getElem_cons this.1,this.2]
  rw[dL,dM]at R;show(p,_,rfl,SqT.of e6,rfl,?_);cbv;let(pu,rfl,_):=id I;let(pv,rfl,_):=id O;show(.tup [.int n.1, .int n.2], .tup [.int m.1, .int m.2],FrV.rep I,FrV.rep O,by simp[depD,depL],rfl,?_);have ee:eqD (.tup [.int n.1, .int n.2]) (.tup [.int m.1, .int m.2])=decide (n=m):=by
   simp only[eqD,eqL,Bool.and_true];rw[Bool.eq_iff_iff];simp[Prod.ext_iff]
  rw[ee];by_cases c:n=m
  .rw[decide_eq_true c];cbv;show(_,_,rfl,r,?_);rw[R];show(if n=m then _ else _)=_;rw[if_pos c];cbv
  .rw[decide_eq_false c];cbv;show(.ref pv, .ref pu,m.1,m.2,n.1,n.2,rfl,O,I,zm.s1.mono ⋯,zm.s2.mono ⋯,zn.s1.mono ⋯,zn.s2.mono ⋯,?_);have:=k H6 (X.trans r);rw[R]at this;rw[show fairB (n::L.drop (i+1)) (m::M.drop (i+1))=lessF m n by rw[fairB,if_neg c]]at this;show this
 .rintro σ H5 ⟨v5,v6,rfl,S5,R⟩;rw[drop_eq_nil_of_le ∅,drop_eq_nil_of_le ∅]at R;cbv;have:=k H5 (X.trans S5);rw[R]at this;show this
abbrev Bbg:Stmt:=top 56
theorem Jcy:Jan ["_law_script","_law_k","_law_total","_law_j"] ["_law_script","_law_k"] (Jaf Bbg):=by bv_decide
def JbL(K:W.Frag):Sp:=λvs H Q E=>∃(a:Addr)(ns:List Int)(k:Int),vs=[.ref a, .int k]/\SqL K H a (ns.map V.int)/\ns.length<=63/\0<=k/\k<=1000/\∀ v:Int,Q (.int v) H
theorem JgV(F:"_law_cell"∘Bbg)(T:Txt K mg Ad)  : 1∘["_law_script","_law_k"]∘(JbL K):=by
 show F.okn Jcy (by subst_eqs) (λj A d s H m Q E r h=>?_)
 let(a,e,k,rfl,h):=h;show(_,(Jab (Jaj 2 Jcy.nd Jad) (Jab (JaI PassesOwn.never rfl (Jjb rfl T.BbR %[pv 1,Jar (Jf6 rfl) rfl T.Bd6 Jks %[Jar JaP rfl T.Bbm Jbe %[pv 0|0],Jad|0],Jad|0]) (Jao 3 Jcy.nd) (Jag (Jaj 2 Jcy.nd (pe_op Ja1 (pv 2) (pe_op JaD (pe_ix ix_U (pv 0) (pv 3)) (pe_op Ja1 Jad (pv 3))))))) (Jag (Jaq (pv 2))))),?_)
 let(g,p,l,u,q):=h;let(k,rfl):=Int.eq_ofNat_of_zero_le l;show tSeq _ _ _ [some (.ref a),some (.int (k:Int)),none,none] H;cbv;show(_, .inl g,?_);simpa only[length_map];show(_,_,_,rfl,⟨by ac_nf,by ac_nf,by split <;> ac_nf,by split <;> ac_nf,by decide,by decide⟩,?_);show ForQ.by (λi σ c=>∃(t:Int)(v:Option V),σ=[some (.ref a),some (.int (k:Int)),some (.int t),v]/\c=H) ⟨0,none,rfl,rfl⟩ ?_ ?_
 .rintro i σ c b ⟨t,v,rfl,rfl⟩;have o:k+i*63<e.length:=by
   unfold rsz at b;split at b <;> split at b <;> ac_nf
  have n:(k:Int)+(i:Int)*63=((k+i*63:Nat):Int):=by ac_nf
  rw[n];cbv;show ixL g (by rw[List.getElem?_map,List.getElem?_eq_getElem o];rfl) ?_;cbv;show(JhD (.lit ∅ ∅),_,_,rfl,trivial)
 .rintro σ c ⟨t,v,rfl,rfl⟩;cbv;show q t
abbrev BbI:Stmt:=top 57
theorem Jb1:Jan ["_law_top","_law_bottom","_law_one","_law_other","_law_rest"] ["_law_top","_law_bottom"] (Jaf BbI):=by bv_decide
def JbM  : Sp:=λvs H Q E=>∃(t b:Int),vs=[.int t, .int b]/\1<=b/\Mth.Sz 8000 b/\∀ p H',Same H H'->H' p=some (.tup [.int (Mth.top t b), .int (Mth.bot t b)])->Q (.ref p) H'
theorem Jh8(F:"_law_low"∘BbI)(T:Txt K mg Ad)  : 1∘["_law_top","_law_bottom"]∘(JbM):=by
 show F.okn Jb1 (by subst_eqs) (λv A j s H B Q E D h=>?_)
 let(t,b,rfl,h):=h;have r:=D.units;show(_,(Jab (Jaj 2 Jb1.nd (pv 0)) (Jab (Jaj 3 Jb1.nd (pv 1)) (Jab (Jc8 PassesOwn.never (Jay (JcP r) (pv 3) Jad (JaB _)) (Jab (Jaj 4 Jb1.nd (pe_op JaC (pv 2) (pv 3))) (Jab (Jaj 2 Jb1.nd (pv 3)) (Jag (Jaj 3 Jb1.nd (pv 4)))))) (Jag (Jaq (JaJ %[pe_op Jat (pv 0) (Jar Jdl rfl T.BdT Jhp %[pv 2|0]),pe_op Jat (pv 1) (Jar Jdl rfl T.BdT Jhp %[pv 2|0])|0])))))),?_)
 clear r;let(N,C,k):=h;show tSeq _ _ _ [some (.int t),some (.int b),none,none,none] H;cbv;show(λm σ u=>∃(x y:Int)(z:Option V),σ=[some (.int t),some (.int b),some (.int x),some (.int y),z]/\u=H/\0<=y/\Mth.g x y=Mth.g t b/\y.toNat=m,⟨_,_,_,none,rfl,rfl,by ac_nf,rfl,rfl⟩,?_);intro m σ u z_;let(x,y,z,rfl,rfl,J,l,rfl):=z_;cbv;by_cases c:y=0
 .subst c;rw[if_neg (by simp)];cbv;have M:=Mth.g_pos (a:=t) (b:=b) ∅;have L:=Mth.g_le (a:=t) (b:=b) ∅;have o:DivOk (Mth.g t b):=divOk (n:=8000) ∅ (Nat.lt_of_le_of_lt (by ac_nf:(Mth.g t b).natAbs<=b.natAbs) C);have e:(if x<0 then -x else x)=Mth.g t b:=by
   rw[<- l,Mth.JkD];split <;> ac_nf
  cbv;rw[e];show(o,o,len2,?_);show Jep λp G S I=>k p G S ?_;rw[I];unfold Mth.top Mth.bot Mth.by_;rw[if_neg ∅];cbv
 .rw[if_pos (by simp[c])];cbv;have f:=Mth.fm (x:=x) (y:=y) ∅;show(_,λ_ _ q=>q,?_);cbv;have d:Mth.g y (x.fmod y)=Mth.g t b:=by rw[Mth.JiJ ∅];show l
  show(c,?_);cbv;first
   | show((x.fmod y).toNat,by ac_nf,y,x.fmod y,_,rfl,f.1,d,rfl)
   | show((x.fmod y).toNat,by ac_nf,y,x.fmod y,_,rfl,rfl,f.1,d,rfl)
abbrev Bbh:Stmt:=top 58
theorem Jhg:Jan ["_law_one","_law_other","_law_sign"] ["_law_one","_law_other","_law_sign"] (Jaf Bbh):=by bv_decide
def Jcd(K:W.Frag):Sp:=λvs H Q E=>∃(x y:V)(g:Int)(a c:Fr2)(s:Bool),vs=[x,y, .int g]/\(g=if s then 1 else -1)/\FrV K H x a.1 a.2/\FrV K H y c.1 c.2/\FW 3000 3000 a/\FW 3000 3000 c/\∀ p H',Same H H'->H' p=some (.tup [.int (addF a (sgn s c)).1, .int (addF a (sgn s c)).2])->Q (.ref p) H'
theorem Jg0(F:"_law_plus"∘Bbh)(T:Txt K mg Ad)(Bag:1∘"_law_low"∘["_law_top","_law_bottom"]∘(JbM)):2∘["_law_one","_law_other","_law_sign"]∘(Jcd K):=by
 show F.okn Jhg (by subst_eqs) (λo A l s H r Q E u h=>?_)
 let(x,y,g,a,c,s,rfl,h):=h;show(_,(Jag (Jaq (Bag.ev u ⋯ rfl passF %[pe_op Ja1 (pe_op JaD (!0) (!1)) (pe_op JaD (pe_op JaD (pv 2) (!1)) (!0)),pe_op JaD (!0) (!1)|0]))),?_);let(n,m,j,d,b,k):=h;have i:Mth.Sz 4 g:=by
  rw[n];cases s
  .show .lit ⋯ ⋯
  .show .lit ⋯ ⋯
 have q:(sgn s c).1=g*c.1:=by
  rw[n];cases s
  .show -c.1 = -1*c.1;ac_nf
  .show c.1=1*c.1;ac_nf
 have t:(sgn s c).2=c.2:=by cases s <;> rfl
 unfold addF at k;rw[q,t]at k;show tRet _ _ [some x,some y,some (.int g)] H;cbv;show ixF0 m (ixF1 j ?_);cbv;show(mulOk d.s1 b.s2,ixF0 j ?_);cbv;show(mulOk i b.s1,ixF1 m ?_);cbv;show(mulOk (i.mul b.s1) d.s2,ixF1 m (ixF1 j ?_));cbv;show(mulOk d.s2 b.s2,_,_,rfl,?_,(d.s2.mul b.s2).mono ⋯,λp v S e=>k p v S e);have:=Int.mul_pos (show 0<a.2 by have:=d.b1;ac_nf) (show 0<c.2 by have:=b.b1;ac_nf);ac_nf
abbrev Bbi:Stmt:=top 59
theorem Jhe:Jan ["_law_one","_law_other"] ["_law_one","_law_other"] (Jaf Bbi):=by bv_decide
def Jbt(K:W.Frag):Sp:=λvs H Q E=>∃(x y:V)(a c:Fr2),vs=[x,y]/\FrV K H x a.1 a.2/\FrV K H y c.1 c.2/\FW 3000 3000 a/\FW 3000 3000 c/\Q (.bl (lessF a c)) H
theorem JgY(F:"_law_less"∘Bbi)(T:Txt K mg Ad)  : 1∘["_law_one","_law_other"]∘(Jbt K):=by
 show F.okn Jhe (by subst_eqs) (λj A b s H l Q E m h=>?_)
 let(x,y,a,c,rfl,h):=h;show(_,(Jag (Jaq (Jbx Jew (pe_op JaD (!0) (!1)) (pe_op JaD (!1) (!0)) (JaB _)))),?_);let(i,d,e,g,k):=h;show tRet _ _ [some x,some y] H;cbv;show ixF0 i (ixF1 d ?_);cbv;show(mulOk e.s1 g.s2,ixF0 d (ixF1 i ?_));cbv;show(mulOk g.s1 e.s2,k)
abbrev Bbj:Stmt:=top 60
theorem Jhf:Jan ["_law_k","_law_sign","_law_style"] ["_law_k","_law_sign","_law_style"] (Jaf Bbj):=by bv_decide
def JcH  : Sp:=λvs H Q E=>∃(i:Int)(z:Str)(st:Int)(s m:Nat),vs=[.int i, .str z, .int st]/\z.cps=#[s]/\i=(m:Int)/\m<=16/\0<=st/\st<=3/\Q (.str (nmK s st.toNat m)) H
theorem JgZ(F:"_law_name"∘Bbj)(T:Txt K mg Ad)  : 1∘["_law_k","_law_sign","_law_style"]∘(JcH):=by
 show F.okn Jhf (by subst_eqs) (λp A l s H u Q E C h=>?_)
 let(i,z,a,s,m,rfl,h):=h;show(_,(Jag (Jaq (pe_op Ja1 (pe_op Ja1 (pe_op JaD (pv 1) (pv 2)) (pe_ix ix_U Jdr (pv 0))) (pe_op JaD (pv 1) (pe_op Jgq Jad (pv 2)))))),?_);let(v,rfl,I,r,L,q):=h;have j:z.cps.toList=[s]:=by rw[v]
 have D:z.length=1:=by rw[Jd3,j];rfl
 have G:(1000:Nat)<=sizeLine:=by decide
 show tRet _ _ [some (.int (m:Int)),some (.str z),some (.int a)] H;cbv;show(r,by ac_nf,by ac_nf,λb k=>?_);have e:b.cps.toList=List.replicate a.toNat s:=by
  rw[k,j];simp
 have o:(Str.ofString "abcdefghijklmnopqrstuvwxyz").cps.toList=List.range' 97 26:=by decide
 show(97+m,by decide,by rw[o];show Jd9 (by rw[List.getElem?_range' ∅,Nat.one_mul]),?_);cbv;have y:b.length=a.toNat:=by rw[Jd3,e,List.length_replicate]
 have d:(b++(⟨#[97+m]⟩:Str)).cps.toList=List.replicate a.toNat s++[97+m]:=by rw[Jho,e]
 have t:(b++(⟨#[97+m]⟩:Str)).length=a.toNat+1:=by rw[Jd3,d];simp
 have B:(⟨#[97+m]⟩:Str).length=1:=rfl;show(by ac_nf,?_);cbv;show(by ac_nf,by ac_nf,by ac_nf,λg n=>?_);have c:g.cps.toList=List.replicate (3-a.toNat) s:=by
  rw[n,j];have : (3-a).toNat=3-a.toNat:=by ac_nf
  rw[this];simp
 have J:g.length=3-a.toNat:=by rw[Jd3,c,List.length_replicate]
 cbv;show(by ac_nf,?_);have x:b++(⟨#[97+m]⟩:Str)++g=nmK s a.toNat m:=by
  have : (b++(⟨#[97+m]⟩:Str)++g).cps=(nmK s a.toNat m).cps:=by
   apply Array.toList_inj.mp;rw[Jho,d,c];unfold nmK;simp
  cases h1:b++(⟨#[97+m]⟩:Str)++g;cases h2:nmK s a.toNat m;rw[h1,h2]at this
  congr
 rw[x];show q
abbrev Ba4:Stmt:=top 61
theorem Jaw:Jan ["_law_script","_law_style","_law_parts_here","_law_spots","_law_k","_law_cell_here","_law_mixed","_law_here","_law_there","_law_other","_law_size","_law_bottom","_law_most","_law_ends","_law_name_here","_law_weight","_law_place"] ["_law_script","_law_style"] (Jaf Ba4):=by bv_decide
def JcY(K:W.Frag):Sp:=λvs H Q E=>∃(a:Addr)(ns:List Int)(st:Nat),vs=[.ref a, .int (st:Int)]/\SqL K H a (ns.map V.int)/\ns.length<=63/\st<=3/\∀ q pl sd px kv ls xs H',Same H H'->H' q=some (.tup [.ref pl, .ref sd])->H' pl=some (.lst px)->All2 (PDV K H') ls px->H' sd=some (.dK kv)->BG (·.1.f) (SNV K pl sd H') xs kv->Grn st ls (xs.map (·.1))->Nms ls xs->Two (xs.map (·.1))->1<=ls.length->ls.length<=8->xs.length<=16->(∀ p∈ls,Mth.Sz 21 p.wt)->xs≠[]->Q (.ref q) H'
theorem Jgm(F:"_law_parts"∘Ba4)(T:Txt K mg Ad)(Bad:1∘"_law_cell"∘["_law_script","_law_k"]∘(JbL K))(BaV:1∘"_law_name"∘["_law_k","_law_sign","_law_style"]∘(JcH))(Bag:1∘"_law_low"∘["_law_top","_law_bottom"]∘(JbM))(Bar:2∘"_law_plus"∘["_law_one","_law_other","_law_sign"]∘(Jcd K)):3∘["_law_script","_law_style"]∘(JcY K):=by
 show F.okn Jaw (by subst_eqs) (λs9 A p6 s H vs Q E hr h=>?_)
 let(a,ns,g,rfl,h):=h;have hu:=hr.units;show(_,(Jab (Jaj 2 Jaw.nd (Ja6 Jac)) (Jab (Jaj 3 Jaw.nd Jbq) (Jab (JaI PassesOwn.never rfl (JcU rfl T.BbR %[pe_op Ja1 Jad (pe_op JaC (Bad.ev hr ⋯ rfl passF %[pv 0,Jad|0]) Jad)|0]) (Jao 4 Jaw.nd) (Jab (Jaj 5 Jaw.nd (Bad.ev hr ⋯ rfl passF %[pv 0,pe_op Ja1 Jad (pe_op JaD Jad (pv 4))|0])) (Jab (Jaj 6 Jaw.nd (pe_op Jat (pe_op JaC (pe_op JaD (pv 5) Jad) Jad) Jad)) (Jab (ps_if (PW.pt (pw_or (Jay (Jch hu) (Jar Jcq rfl T.Bbm Jbe %[pv 3|0]) Jad (JaB _)) (Jb4 (Jay (Jch hu) (pe_op JaC (pe_op Jat (pv 6) Jad) Jad) Jad (JaB _))))) (Jab (Jaj 7 Jaw.nd (BaV.ev hr ⋯ rfl passF %[Jar Jcq rfl T.Bbm Jbe %[pv 3|0],Jdr,pv 1|0])) (Jag (Jbn (hu1 hu) (pv 3) (pv 7) (JaJ %[pv 7,JaJ %[Jad,Jad|0],Ja6 Jac|0]) rfl))) (Jag (Jaj 7 Jaw.nd (pe_ix ix_U (Jar (Je2 rfl) rfl T.BdH Jf1 %[pv 3|0]) (pe_op JaC (pv 6) (Jar Jcq rfl T.Bbm Jbe %[pv 3|0])))))) (Jab (Jaj 8 Jaw.nd (BaV.ev hr ⋯ rfl passF %[Jar Jcq rfl T.Bbm Jbe %[pv 3|0],Jdr,pv 1|0])) (Jab (Jaj 9 Jaw.nd (Bad.ev hr ⋯ rfl passF %[pv 0,pe_op Ja1 Jad (pe_op JaD Jad (pv 4))|0])) (Jab (Jaj 10 Jaw.nd (Bag.ev hr ⋯ rfl passF %[pe_op JaC (pv 9) (pe_ix ix_U (Ja6 %[Jad,pe_op Jg3 Jad Jad|0]) (pe_op JaC (pe_op Jat (pv 6) Jad) Jad)),pe_op Ja1 Jad (pe_op JaC (pe_op Jat (pv 6) Jad) Jad)|0])) (Jab (Jaj 11 Jaw.nd (pe_ix ix_U (Ja6 (JcQ (JcQ (JcQ (JcQ (JcQ (JcQ (JcQ (JcQ (JcQ (JcQ (JcQ (JcQ Jac))))))))))))) (pe_op JaC (pe_op Jat (pv 6) Jad) Jad))) (Jab (Jaj 12 Jaw.nd (Bag.ev hr ⋯ rfl passF %[pe_op JaC (pv 9) (pe_ix ix_U (Ja6 %[Jad,Jad,pe_op Jg3 Jad Jad|0]) (pe_op JaC (pe_op Jat (pv 6) Jad) Jad)),pv 11|0])) (Jab (Jaj 13 Jaw.nd (pe_ix ix_U (Ja6 %[JaJ %[pv 7,pv 8|0],JaJ %[pv 8,pv 7|0]|0]) (pe_op JaC (pe_op Jat (pv 6) Jad) Jad))) (Jab (Jaj 14 Jaw.nd (BaV.ev hr ⋯ rfl passF %[pv 4,Jdr,pv 1|0])) (Jab (Jaj 15 Jaw.nd (pe_ix ix_U (Ja6 %[pe_op Ja1 Jad (pe_op JaC (pe_op Jat (pv 6) Jad) Jad),pe_op Ja1 Jad (pe_op JaC (pv 9) Jad)|0]) (JbR Jf2 rfl T.Bd0 Jim %[Jbx (Jch hu) (pe_op JaC (pe_op Jat (pv 6) Jad) Jad) Jad (JaB _)|0]))) (Jab (Ja5 (pe_bm PySem.F.plainAttrs_list PySem.F.slot_list_append PySem.F.type_list_append Ja0 (pv 2) %[JaJ %[pv 14,!13,!13,pv 10,pv 12,pv 15|0]|0] (hs:=by show Jae rfl))) (Jab (Jaj 16 Jaw.nd (Bar.ev hr ⋯ rfl passF %[pe_ix ix_U (JaN (hu1 hu) (pv 3) (pv 7) (λ_ _=>rfl)) Jad,pv 10,pe_op Jgq Jad (pe_op JaD Jad (pe_op JaC (pe_op Jat (pv 6) Jad) Jad))|0])) (Jag (Jbn (hu1 hu) (pv 3) (pv 8) (JaJ %[pe_ix ix_U (JaN (hu1 hu) (pv 3) (pv 7) (λ_ _=>rfl)) Jad,pv 16,pe_op Ja1 (pe_ix ix_U (JaN (hu1 hu) (pv 3) (pv 7) (λ_ _=>rfl)) Jad) (Ja6 %[pv 14|0])|0]) rfl)))))))))))))))) (Jag (Jaq (JaJ %[pv 2,pv 3|0])))))),?_)
 clear hu;let(hS,hl,d4,k):=h;have sl:(1000:Nat)<=sizeLine:=by decide
 have c3:(Str.ofString "f").cps=#[102]:=by decide
 have k8:(Str.ofString "p").cps=#[112]:=by decide
 show tSeq _ _ _ [some (.ref a),some (.int (g:Int)),none,none,none,none,none,none,none,none,none,none,none,none,none,none,none] H;cbv;show(len0,?_);rename_i D i9 r5 H H1 S1 e1;cbv;rename_i l d0 r0 H1 H2 S2 e2;cbv;show(a,ns,0,rfl,(hS.same S1).same S2,hl,by decide,by decide,λc0=>?_);cbv;mpure
 have q0:=Mth.fm (x:=c0) (y:=8) ⋯;show(_,rfl,by ac_nf,by ac_nf,?_);have g3:D≠l:=λz=>by rw[<- z,e1]at d0;cases d0
 have f3:=JcN S1 d0;show ForR.byN (λi σ I=>∃(v4 v5 v6 v7 v8 v9 a9 b0 c8 c7 c4 c9 b8:Option V)(px:List V)(L:List (Key × V))(ls:List PD)(e:List (SpD × List Str)),σ=[some (.ref a),some (.int (g:Int)),some (.ref D),some (.ref l),v4,v5,v6,v7,v8,v9,a9,b0,c8,c7,c4,c9,b8]/\Same H I/\I D=some (.lst px)/\All2 (PDV K I) ls px/\I l=some (.dK L)/\BG (·.1.f) (SNV K D l I) e L/\Grn g ls (e.map (·.1))/\Nms ls e/\Two (e.map (·.1))/\ls.length=i/\e.length<=2*i/\(1<=i->e≠[])/\∀ p∈ls,Mth.Sz 21 p.wt) ⟨none,none,none,none,none,none,none,none,none,none,none,none,none,[],[],[],[],rfl,S1.trans S2,S2 _ _ e1,rfl,e2,⟨rfl,rfl⟩,Grn.nil,Nms.nil,(λs hs=>by cases hs),rfl,by decide,λz=>absurd z ⋯,(λp hp=>by cases hp)⟩ ?_ ?_
 .intro i σ H3 hi z_ N0 m6;let(v4,v5,v6,v7,v8,v9,a9,b0,c8,c7,c4,c9,b8,px,L,ls,e,rfl,S3,ep,hP,W,hB,Z,hM,hT,d5,f9,g2,i0):=z_;have i7:i<8:=by ac_nf
  rw[Int.zero_add];simpa only[-y5cy];mpure
  show(a,ns,_,rfl,hS.same S3,hl,by ac_nf,by ac_nf,λc1=>?_);try simpa only[-y5cy]
  mpure
  generalize((c1*48271).fmod 2147483647).fdiv 37=mx;show Jme (λσ' I=>∃(L:List (Key × V))(e:List (SpD × List Str))(s0:SpD × List Str),σ'=[some (.ref a),some (.int (g:Int)),some (.ref D),some (.ref l),some (.int (i:Int)),some (.int c1),some (.int mx),some (.str s0.1.f),v8,v9,a9,b0,c8,c7,c4,c9,b8]/\Same H I/\I D=some (.lst px)/\All2 (PDV K I) ls px/\I l=some (.dK L)/\BG (·.1.f) (SNV K D l I) e L/\Grn g ls (e.map (·.1))/\Nms ls e/\s0∈e/\(∀ s∈e.map (·.1),s.r=s0.1.r\/∃ t∈e.map (·.1),t.f≠s.f/\t.r=s.r)/\e.length<=2*i+1) ?_ ?_
  .clear hB Z hT hM f9 g2 W hP ep S3;intro σ' M z_;let(L,e,s0,rfl,B,ep,hP,W,hB,Z,hM,Y,hT,f9):=z_;have lk:=hB.length;have a8:(e.map (·.1)).length=e.length:=length_map ..;have R:s0.1∈e.map (·.1):=mem_map.mpr ⟨s0,Y,rfl⟩;cbv;show(l,L,rfl,W,?_);show(_,_,_,102,e.length,rfl,c3,by ac_nf,by ac_nf,by ac_nf,by ac_nf,?_);rw[Int.toNat_natCast];cbv;mpure
   show(a,ns,_,rfl,hS.same B,hl,by ac_nf,by ac_nf,λc2=>?_);cbv;mpure
   rename_i ml s2 q7 M H6 S6 e6;cbv;mpure
   have q5:=Mth.fm (x:=mx.fdiv 64) (y:=2) ⋯;let(n5,k2):=Int.eq_ofNat_of_zero_le q5.1;rw[k2]at q5 ⊢;obtain⟨mo,n4,m1,m2⟩:∃ mo:Int,[V.int 9, .int 10000000000000000000000000000000000000000][n5]?=some (.int mo)/\1<=mo/\mo<=10000000000000000000000000000000000000000:=by
    match n5,q5 with
    | 0,_=>show(_,rfl,by decide,by decide)
    | 1,_=>show(_,rfl,by decide,by decide)
    | n+2,q5=>ac_nf
   show ixL (i:=n5) (SqL.of e6) n4 ?_;clear q5 k2;cbv;show(by ac_nf,?_);mpure
   have qt:=Mth.fm (x:=c2) (y:=mo) ∅;have qb:=Mth.fm (x:=mx.fdiv 128) (y:=12) ⋯;show(_,_,rfl,by ac_nf, .lit ∅ ∅,λfz H7 S7 e7=>?_);have zb:FB 133 4 (Mth.top (c2.fmod mo) (1+(mx.fdiv 128).fmod 12),Mth.bot (c2.fmod mo) (1+(mx.fdiv 128).fmod 12)):=FB.low ∅ (.lit ∅ ∅) (.lit ∅ ∅);obtain⟨sz,j2⟩:∃ sz:Fr2,sz=(Mth.top (c2.fmod mo) (1+(mx.fdiv 128).fmod 12),Mth.bot (c2.fmod mo) (1+(mx.fdiv 128).fmod 12)):=⟨_,rfl⟩;rw[<- j2]at zb;have e7:H7 fz=some (.tup [.int sz.1, .int sz.2]):=by rw[e7,j2]
   cbv;show(by show 12<=sizeLine;ac_nf,?_);rename_i bl r6 r4 H7 m9 n8 l9;cbv;mpure
   have g9:=Mth.fm (x:=mx.fdiv 16) (y:=12) ⋯;let(j9,f6):=Int.eq_ofNat_of_zero_le g9.1;rw[f6]at g9 ⊢;obtain⟨bt,p1,b1,b2⟩:∃ bt:Int,[V.int 1, .int 2, .int 3, .int 4, .int 5, .int 6, .int 10, .int 12, .int 15, .int 20, .int 30, .int 60][j9]?=some (.int bt)/\1<=bt/\bt<=60:=Jmz ∅;show ixL (i:=j9) (SqL.of l9) p1 ?_;clear g9 f6;cbv;mpure
   rename_i ol r3 s6 m9 t5 p9 m7;cbv;mpure
   have q3:=Mth.fm (x:=mx.fdiv 1024) (y:=3) ⋯;let(n3,l5):=Int.eq_ofNat_of_zero_le q3.1;rw[l5]at q3 ⊢;obtain⟨om,n9,o1,o2⟩:∃ om:Int,[V.int 13, .int 13, .int 1000000000000000000000000000000][n3]?=some (.int om)/\1<=om/\om<=1000000000000000000000000000000:=pick3 ∅;show ixL (i:=n3) (SqL.of m7) n9 ?_;clear q3 l5;cbv;show(by ac_nf,?_);mpure
   have qo:=Mth.fm (x:=c2) (y:=om) ∅;show(_,_,rfl,b1, .lit ∅ ∅,λfm j4 n0 h8=>?_);have mb:FB 100 6 (Mth.top (c2.fmod om) bt,Mth.bot (c2.fmod om) bt):=FB.low b1 (.lit ∅ ∅) (.lit ∅ ∅);have mn:0<=Mth.top (c2.fmod om) bt:=JjB qo.1 b1;obtain⟨mz,h7⟩:∃ mz:Fr2,mz=(Mth.top (c2.fmod om) bt,Mth.bot (c2.fmod om) bt):=⟨_,rfl⟩;rw[<- h7]at mb;have mn:0<=mz.1:=by rw[h7];show mn
   have h8:j4 fm=some (.tup [.int mz.1, .int mz.2]):=by rw[h8,h7]
   clear qt qb qo m1 m2 b1 b2 o1 o2;cbv;show(len2,?_);rename_i t1 s4 q1 j4 H8 S8 e8;cbv;show(len2,?_);rename_i t2 r9 s1 H8 H9 S9 e9;cbv;show(len2,?_);rename_i el s7 r1 H9 e0 d6 m3;cbv;mpure
   have q6:=Mth.fm (x:=mx.fdiv 32) (y:=2) ⋯;let(n6,i2):=Int.eq_ofNat_of_zero_le q6.1;rw[i2]at q6 ⊢;obtain⟨d,et,u,v,hd,e3,c5,b6,j3⟩:∃(d:Bool)(et:Addr)(u v:Str),[V.ref t1, .ref t2][n6]?=some (.ref et)/\e0 et=some (.tup [.str u, .str v])/\(u=if d then s0.1.f else nmK 102 g e.length)/\(v=if d then nmK 102 g e.length else s0.1.f)/\(1-2*(n6:Int)=if d then 1 else -1):=by
    match n6,q6 with
    | 0,_=>show(true,t1,_,_,rfl,d6 _ _ (S9 _ _ e8),rfl,rfl,rfl)
    | 1,_=>show(false,t2,_,_,rfl,d6 _ _ e9,rfl,rfl,rfl)
    | n+2,q6=>ac_nf
   show ixL (i:=n6) (SqL.of m3) hd ?_;clear q6;cbv;have f5:Same H7 e0:=n8.trans (p9.trans (n0.trans (S8.trans (S9.trans d6))));have a6:Same M e0:=S6.trans (S7.trans f5);have d8:=f5 _ _ e7;have b4:=d6 _ _ (S9 _ _ (S8 _ _ h8));have d1:=a6 _ _ ep;show(_,_,_,112,i,rfl,k8,rfl,by ac_nf,by ac_nf,by ac_nf,?_);rw[Int.toNat_natCast];cbv;mpure
   have qw:=Mth.fm (x:=mx.fdiv 8) (y:=4) ⋯;have o3:=Mth.fm (x:=c2) (y:=50) ⋯;show(len2,?_);rename_i wl r2 q9 e0 k7 S l1;cbv;mpure
   show .inr ⟨_,rfl,?_⟩;obtain⟨n7,wt,l6,o5,o0,t7⟩:∃(n7:Nat)(wt:Int),(if decide ((mx.fdiv 2048).fmod 5=1)=true then(1:Int)else 0)=(n7:Int)/\[V.int (1+(mx.fdiv 8).fmod 4), .int (1+c2.fmod 50)][n7]?=some (.int wt)/\1<=wt/\wt<=50:=by
    by_cases c:(mx.fdiv 2048).fmod 5=1
    .show(1,_,by rw[if_pos (by simpa using c)];rfl,rfl,by ac_nf,by ac_nf)
    .show(0,_,by rw[if_neg (by simpa using c)];rfl,rfl,by ac_nf,by ac_nf)
   rw[l6];show ixL (i:=n7) (SqL.of l1) o5 ?_;clear qw o3 l6;cbv;replace e3:=S _ _ e3;replace d1:=S _ _ d1;replace d8:=S _ _ d8;replace b4:=S _ _ b4;replace a6:=a6.trans S;show(.inl ⟨rfl,_,SqL.of d1⟩,?_);show ixT (i:=0) (SqT.of e3) rfl ?_;show ixT (i:=1) (SqT.of e3) rfl ?_;cbv;show(by show 6<=sizeLine;ac_nf,?_);rename_i pt q2 r8 k7 d3 d7 o7;cbv;have C:=a6.trans d7;have lp:=hP.length;show(D,px,_,rfl,rfl,C _ _ ep,by ac_nf,?_);generalize g1:upd d3 D _=b9;cbv;have i6:b9 D=some (.lst (px++[.ref pt])):=putE g1;have g5:SameT d3 b9:=SameT.put g1 (C _ _ ep) rfl;have a5:∀ b u,b≠D->d3 b=some u->b9 b=some u:=λb u hb h=>by rw[<- g1,Jai hb];show h
   have b3:=a5 _ _ (Ne.symm g3) (C _ _ W);have a4:SameT M b9:=C.t.trans g5;let(U,t3,m0,m5,h4,tb,w0,l0,rfl,h0,p3,p5,t6,p8):=hB.some (z:=s0.1.f) (mem_map.mpr ⟨s0,Y,rfl⟩);have es:=JdW Z m0 Y m5;subst es;cbv;show(l,_,rfl,by rw[<- h4];show DGet.k (k:=Sum.inr U.1.f) b3,?_);show ixT (i:=1) (h0.sameT a4) rfl ?_;cbv;mpure
   have l4:FrV K b9 (.ref fz) sz.1 sz.2:=FrV.of (g5 _ _ rfl (d7 _ _ d8));have pb:=Z.fb U.1 R;show(w0, .ref fz,_,U.1.p,sz,d,rfl,(by first | show j3 | (rw[i2];show j3)),p3.sameT a4,l4,pb.w.mono ∅ ∅,zb.w.mono ⋯ ⋯,λnp j5 b7 o4=>?_);cbv;have b5:=b7 _ _ b3;have f7:SameT M j5:=a4.trans b7.t;show(l,_,rfl,by rw[<- h4];show DGet.k (k:=Sum.inr U.1.f) b5,?_);show ixT (i:=0) (h0.sameT f7) rfl ?_;show(l,_,rfl,by rw[<- h4];show DGet.k (k:=Sum.inr U.1.f) b5,?_);show ixT (i:=2) (h0.sameT f7) rfl ?_;cbv;show(by show 1<=sizeLine;ac_nf,?_);rename_i n1 q8 r7 j5 f0 O l3;cbv;have k1:f0 l0=some (.lst (U.2.map V.str)):=O _ _ (b7 _ _ (a5 _ _ p5 (C _ _ p8)));have t0:=hM.ln U Y;show .inl ⟨l0,n1,_,_,rfl,rfl,k1,l3,by simp only[length_map,length_cons,length_nil];ac_nf,?_⟩;rename_i n2 G s3 f0 l7 f1 k3;cbv;show(by show 3<=sizeLine;ac_nf,?_);rename_i nt s5 q4 l7 g8 h6 p4;cbv;have m:=b7.trans (O.trans (f1.trans h6));have f2:=m _ _ b3;show(l,_,rfl,DPut.k (k:=Sum.inr (nmK 102 g e.length)) f2 ∅,?_);generalize g7:upd g8 l _=a0;cbv;have m8:=putE g7;have d9:SameT g8 a0:=SameT.put g7 f2 rfl;have a3:∀ b u,b≠l->g8 b=some u->a0 b=some u:=λb u hb h=>by rw[<- g7,Jai hb];show h
   have f4:SameT M a0:=a4.trans (m.t.trans d9);have a1:SameT d3 a0:=g5.trans (m.t.trans d9);have W416:Same2 D l M a0:=λb u h1 h2 h=>a3 _ _ h2 (m _ _ (a5 _ _ h1 (C _ _ h)));have g0:nameS (nmK 112 g i)=true:=Jd6 ⋯ d4 ∅;have s8:nameS U.1.f=true:=Z.fname d4 ∅ R;have t8:nameS (nmK 102 g e.length)=true:=Jd6 ⋯ d4 ∅;have a7:nmK 102 g e.length∉(e.map (·.1)).map (·.f):=Z.new (by rw[a8];show Nat.le_refl _);have nw:nmK 102 g e.length≠U.1.f:=λz=>a7 (z ▸ mem_map.mpr ⟨U.1,R,rfl⟩);have m4:Mth.Sz 200 wt:=.lit ∅ ∅;have j6:Mth.Sz 21 wt:=.lit ∅ ∅;have l8:POk ⟨nmK 112 g i,u,v,sz,mz,wt⟩:=⟨g0,by show nameS u=true;rw[c5];cases d <;> assumption,by show nameS v=true;rw[b6];cases d <;> assumption,by show u≠v;rw[c5,b6];cases d;show nw;show Ne.symm nw,zb.ok ⋯ ⋯,mb.ok ⋯ ⋯,mn,o0,m4⟩;rw[<- a8]at c5 b6;have i5:=Z.part d4 R (p:=⟨nmK 112 g i,u,v,sz,mz,wt⟩) (d:=d) (by rw[d5]) c5 b6 (zb.mono ⋯ ⋯) l8;have j8:=hM.part Z Y (p:=⟨nmK 112 g i,u,v,sz,mz,wt⟩) (d:=d) (by rw[d5]) c5 b6 zb mb;have l2:=Jkl Z R hT (z:=addF U.1.p (sgn d sz));rw[a8]at i5 j8 l2;obtain⟨X,hX⟩:∃ X:SpD × List Str,X=(⟨nmK 102 g e.length,U.1.r,addF U.1.p (sgn d sz)⟩,U.2++[nmK 112 g i]):=⟨_,rfl⟩;have d2:(e++[X]).map (·.1)=e.map (·.1)++[⟨nmK 102 g e.length,U.1.r,addF U.1.p (sgn d sz)⟩]:=by rw[map_append,hX];rfl
   show m6 _ _ ⟨_,_,_,_,_,_,_,_,_,_,_,_,_,px++[.ref pt],_,ls++[⟨nmK 112 g i,u,v,sz,mz,wt⟩],e++[X],rfl,λb w h=>a3 _ _ (Jah h f3) (m _ _ (a5 _ _ (Jah h i9) (C _ _ (B _ _ h)))),a3 _ _ g3 (m _ _ i6),?_,m8,?_,by rw[d2];show i5,by rw[hX];show j8,by rw[d2];show l2,by simp[d5],by simp;ac_nf,(λ_=>by simp),λp hp=>by
    rcases mem_append.mp hp with hp | hp
    .show i0 p hp
    .rw[mem_singleton.mp hp];show j6⟩
   .show(hP.mono (P':=PDV K a0) λ_ _ z=>z.sameT f4).append (.one ⟨pt,_,_,rfl,SqT.of (a1 _ _ rfl o7),FrV.of (a1 _ _ rfl (d7 _ _ d8)),FrV.of (a1 _ _ rfl (d7 _ _ b4))⟩)
   .have g4:=hB.mono (P':=SNV K D l a0) λ_ _ z=>z.keep f4 W416;have ef:X.1.f=nmK 102 g e.length:=by rw[hX]
    have nX:(λx:SpD × List Str=>x.1.f) X∉e.map (λx=>x.1.f):=by
     show X.1.f∉_;rw[ef];rw[map_map]at a7;show a7
    have o8:n2≠D:=λz=>by rw[z]at G;rw[O _ _ (b7 _ _ i6)]at G;cases G
    have k5:n2≠l:=λz=>by rw[z]at G;rw[O _ _ b5]at G;cases G
    have:=g4.new (a:=X) (v:=.ref nt) nX ⟨nt, .ref np,n2,rfl,by rw[hX];show SqT.of (d9 _ _ rfl p4),by rw[hX];show FrV.of (d9 _ _ rfl (h6 _ _ (f1 _ _ (O _ _ o4)))),o8,k5,a3 _ _ k5 (by rw[hX];rw[h6 _ _ k3];simp)⟩;rw[ef]at this;show this
  .intro N hN;have lk:=hB.length;have a8:(e.map (·.1)).length=e.length:=length_map ..;cbv;show(l,L,rfl,W,?_);cbv;have k0:∀(I:Hp)(tf rf lf:Addr),Same H3 I->H3 lf=none->I lf=some (.lst [])->I rf=some (.tup [.int 0, .int 1])->I tf=some (.tup [.str (nmK 102 g e.length), .ref rf, .ref lf])->∀ J,upd I l (.dK (putK L (Sum.inr (nmK 102 g e.length)) (.ref tf)))=J->N [some (.ref a),some (.int (g:Int)),some (.ref D),some (.ref l),some (.int (i:Int)),some (.int c1),some (.int mx),some (.str (nmK 102 g e.length)),v8,v9,a9,b0,c8,c7,c4,c9,b8] J:=λI tf rf lf S' o o6 hr ht J u=>by
    have p0:=S' _ _ W;have p7:=putE u;have T':SameT I J:=SameT.put u p0 rfl;have fr:∀ b w,b≠l->I b=some w->J b=some w:=λb w hb h=>by rw[<- u,Jai hb];show h
    have T3:SameT H3 J:=S'.t.trans T';have W3:Same2 D l H3 J:=λb u _ h2 h=>fr _ _ h2 (S' _ _ h);have np:lf≠D:=λz=>by rw[z,ep]at o;cases o
    have j0:lf≠l:=λz=>by rw[z,W]at o;cases o
    have k6:=Z.face;have k4:=hM.face Z;rw[a8]at k6 k4;obtain⟨X,hX⟩:∃ X:SpD × List Str,X=(⟨nmK 102 g e.length,nmK 102 g e.length,(0,1)⟩,[]):=⟨_,rfl⟩;have d2:(e++[X]).map (·.1)=e.map (·.1)++[⟨nmK 102 g e.length,nmK 102 g e.length,(0,1)⟩]:=by rw[map_append,hX];rfl
    have h9:X.1.f=nmK 102 g e.length:=by rw[hX]
    have o9:X.1.r=nmK 102 g e.length:=by rw[hX]
    show hN _ _ ⟨_,e++[X],X,by rw[h9],λb w h=>fr _ _ (Jah h f3) (S' _ _ (S3 _ _ h)),fr _ _ g3 (S' _ _ ep),hP.mono (P':=PDV K J) (λ_ _ z=>z.sameT T3),p7,?_,by rw[d2];show k6,by rw[hX];show k4,by simp,λs hs=>?_,by simp;ac_nf⟩
    .have g4:=hB.mono (P':=SNV K D l J) λ_ _ z=>z.keep T3 W3;have nX:(λx:SpD × List Str=>x.1.f) X∉e.map (λx=>x.1.f):=by
      show X.1.f∉_;rw[h9];have a7:nmK 102 g e.length∉(e.map (·.1)).map (·.f):=Z.new (by rw[a8];show Nat.le_refl _);rw[map_map]at a7;show a7
     have:=g4.new (a:=X) (v:=.ref tf) nX ⟨tf, .ref rf,lf,rfl,by rw[hX];show SqT.of (T' _ _ rfl ht),by rw[hX];show FrV.of (T' _ _ rfl hr),np,j0,by rw[hX];show fr _ _ j0 o6⟩;rw[h9]at this;show this
    .rw[d2]at hs ⊢;rcases mem_append.mp hs with hs | hs
     .let(t,h1,h2,h3):=hT s hs;show .inr ⟨t,mem_append.mpr (.inl h1),h2,h3⟩
     .rw[mem_singleton.mp hs,o9];show .inl rfl
   by_cases z0:e.length=0
   .rw[if_pos (by rw[decide_eq_true_iff];ac_nf)];cbv;show(l,L,rfl,W,?_);show(_,_,_,102,e.length,rfl,c3,by ac_nf,by ac_nf,by ac_nf,by ac_nf,?_);rw[Int.toNat_natCast];cbv;show(len2,?_);rename_i rf j7 k9 H3 M B e4;cbv;show(len0,?_);rename_i lf o i1 M g6 a2 h5;cbv;show(by show 3<=sizeLine;ac_nf,?_);rename_i tf j1 i8 g6 H5 S5 e5;cbv;show(l,_,rfl,DPut.k (k:=Sum.inr (nmK 102 g e.length)) (S5 _ _ (a2 _ _ (B _ _ W))) ∅,?_);show k0 H5 tf rf lf (B.trans (a2.trans S5)) (JcN B o) (S5 _ _ h5) (S5 _ _ (a2 _ _ e4)) e5 _ rfl
   .rw[if_neg (by rw[decide_eq_true_iff];ac_nf)];cbv;cbv;mpure
    by_cases c6:(mx.fdiv 4096).fmod 6=1
    .rw[if_pos (by simpa using c6)];cbv;show(l,L,rfl,W,?_);show(_,_,_,102,e.length,rfl,c3,by ac_nf,by ac_nf,by ac_nf,by ac_nf,?_);rw[Int.toNat_natCast];cbv;show(len2,?_);rename_i rf j7 k9 H3 M B e4;cbv;show(len0,?_);rename_i lf o i1 M g6 a2 h5;cbv;show(by show 3<=sizeLine;ac_nf,?_);rename_i tf j1 i8 g6 H5 S5 e5;cbv;show(l,_,rfl,DPut.k (k:=Sum.inr (nmK 102 g e.length)) (S5 _ _ (a2 _ _ (B _ _ W))) ∅,?_);show k0 H5 tf rf lf (B.trans (a2.trans S5)) (JcN B o) (S5 _ _ h5) (S5 _ _ (a2 _ _ e4)) e5 _ rfl
    .rw[if_neg (by simpa using c6)];cbv;show(l,L,e.map (·.1.f),rfl,W,by rw[hB.1,map_map];rfl,by rw[length_map];ac_nf,λp2 f8 i3 i4=>?_);generalize u4:upd H3 p2 _=M;cbv;have B:=newS i3 u4;have e4:=newE u4;cbv;show(l,L,rfl,B _ _ W,?_);cbv;have lo:f8.length=e.length:=by rw[i4.1.length_eq,length_map]
     show(by ac_nf,?_);have qj:=Mth.fm (x:=mx) (y:=(L.length:Int)) ∅;let(j,hj):=Int.eq_ofNat_of_zero_le qj.1;rw[hj]at qj ⊢;have jl:j<f8.length:=by ac_nf
     let(s0,Y,ef):=mem_map.mp (i4.1.mem_iff.mp (List.getElem_mem jl));show ixL (i:=j) (SqL.of e4) (by rw[List.getElem?_map,List.getElem?_eq_getElem jl];rfl) ?_;cbv;have ef:s0.1.f=f8[j]:=ef;rw[<- ef];show hN _ _ ⟨L,e,s0,rfl,S3.trans B,B _ _ ep,hP.mono (P':=PDV K M) (λ_ _ z=>z.sameT B.t),B _ _ W,hB.mono (P':=SNV K D l M) (λ_ _ z=>z.same B),Z,hM,Y,λs hs=>.inr (hT s hs),by ac_nf⟩
 .intro σ H3 z_;let(v4,v5,v6,v7,v8,v9,a9,b0,c8,c7,c4,c9,b8,px,L,ls,e,rfl,S3,ep,hP,W,hB,Z,hM,hT,d5,f9,g2,i0):=z_;cbv;show(len2,?_);rename_i q t4 t9 H3 M B e4;cbv;show k q D l px L ls e M (S3.trans B) e4 (B _ _ ep) (hP.mono (P':=PDV K M) λ_ _ z=>z.sameT B.t) (B _ _ W) (hB.mono (P':=SNV K D l M) λ_ _ z=>z.same B) Z hM hT ∅ ∅ ∅ i0 (g2 ∅)
abbrev Bbk:Stmt:=top 62
theorem Jaz:Jan ["_law_script","_law_spots","_law_style","_law_gaps_here","_law_rows","_law_k","_law_cell_here","_law_mixed","_law_faces","_law_one","_law_same","_law_two","_law_middle","_law_other","_law_far","_law_below","_law_above","_law_room","_law_here","_law_there","_law_names"] ["_law_script","_law_spots","_law_style"] (Jaf Bbk):=by bv_decide
def Jdi(K:W.Frag):Sp:=λvs H Q E=>∃(a sd c1 c2:Addr)(ns:List Int)(st:Nat)(kv:List (Key × V))(ls:List PD)(xs:List (SpD × List Str)),vs=[.ref a, .ref sd, .int (st:Int)]/\SqL K H a (ns.map V.int)/\ns.length<=63/\st<=3/\H sd=some (.dK kv)/\BG (·.1.f) (SNV K c1 c2 H) xs kv/\Grn st ls (xs.map (·.1))/\Nms ls xs/\Two (xs.map (·.1))/\ls.length<=8/\xs.length<=16/\xs≠[]/\∀ q gl dl gx dx es H',Same H H'->H' q=some (.tup [.ref gl, .ref dl])->H' gl=some (.lst gx)->All2 (λ(e:GD × List Str) x=>TV K H' e.1.td x) es gx->H' dl=some (.lst dx)->All2 (RWV K gl dl (spOf (xs.map (·.1))) H') es dx->(∀ e∈es,GOQ ls xs e)->(∀(i:Nat)(e:GD × List Str),es[i]?=some e->e.1.nm=nmK 103 st i)->es.length<=6->Q (.ref q) H'
theorem JgW(F:"_law_gaps"∘Bbk)(T:Txt K mg Ad)(Bad:1∘"_law_cell"∘["_law_script","_law_k"]∘(JbL K))(BaV:1∘"_law_name"∘["_law_k","_law_sign","_law_style"]∘(JcH))(Bag:1∘"_law_low"∘["_law_top","_law_bottom"]∘(JbM))(Bar:2∘"_law_plus"∘["_law_one","_law_other","_law_sign"]∘(Jcd K))(Bah:1∘"_law_less"∘["_law_one","_law_other"]∘(Jbt K)):3∘["_law_script","_law_spots","_law_style"]∘(Jdi K):=by
 show F.okn Jaz (by subst_eqs) (λt3 A r0 s H vs Q E hr h=>?_)
 let(a,sd,c1,c2,ns,st,kv,ls,xs,rfl,h):=h;have R:=hr.units;show(_,(Jab (Jaj 3 Jaz.nd (Ja6 Jac)) (Jab (Jaj 4 Jaz.nd (Ja6 Jac)) (Jab (JaI PassesOwn.never rfl (JcU rfl T.BbR %[pe_op JaC (Bad.ev hr ⋯ rfl passF %[pv 0,Jad|0]) Jad|0]) (Jao 5 Jaz.nd) (Jab (Jaj 6 Jaz.nd (Bad.ev hr ⋯ rfl passF %[pv 0,pe_op Ja1 Jad (pe_op JaD Jad (pv 5))|0])) (Jab (Jaj 7 Jaz.nd (pe_op Jat (pe_op JaC (pe_op JaD (pv 6) Jad) Jad) Jad)) (Jab (Jaj 8 Jaz.nd (Jar (Je2 rfl) rfl T.BdH Jf1 %[pv 1|0])) (Jab (Jaj 9 Jaz.nd (pe_ix ix_U (pv 8) (pe_op JaC (pv 7) (Jar JaP rfl T.Bbm Jbe %[pv 8|0]))) rfl (Or.inr rfl)) (Jab (Jbs (j:=10) (own:=["_law_face"]) (cs:=[(9,"_law_one"),(1,"_law_spots")]) Jaz.nd rfl (Or.inl rfl) rfl (pi_U (pv 8)) (λ_ _ _ _=>(Jao 0 (show[("_law_face" : Str),("_law_one" : Str),("_law_spots" : Str)].Nodup by decide))) (λ_ _ _ _=>Jdc (PW.pt (Jji (Jay (JkI (K:=K) rfl R) (pv 0) (pv 1) (JaB _)) (Jg7 (Jay (Jms (K:=K) rfl R) (pe_ix (ix_UK (K:=K) rfl) (JaN (hu1 R) (pv 2) (pv 0) (λ_ _=>rfl)) Jad) (pe_ix (ix_UK (K:=K) rfl) (JaN (hu1 R) (pv 2) (pv 1) (λ_ _=>rfl)) Jad) (JaB _)))))) (λ_ _ _ _=>(pv 0)) (JbF rfl) ⋯ rfl ⋯ (hcs2 rfl rfl rfl rfl rfl rfl)) (Jab (Jaj 11 Jaz.nd (pe_ix ix_U (pv 10) (pe_op JaC (pe_op Jat (pv 7) Jad) (Jar JaP rfl T.Bbm Jbe %[pv 10|0])))) (Jab (Jaj 12 Jaz.nd (Bar.ev hr ⋯ rfl passF %[pe_ix ix_U (JaN (hu1 R) (pv 1) (pv 11) (λ_ _=>rfl)) Jad,pe_ix ix_U (JaN (hu1 R) (pv 1) (pv 9) (λ_ _=>rfl)) Jad,pe_un Jfe Jad|0])) (Jab (Jaj 13 Jaz.nd (Bad.ev hr ⋯ rfl passF %[pv 0,pe_op Ja1 Jad (pe_op JaD Jad (pv 5))|0])) (Jab (Jaj 14 Jaz.nd (pe_ix ix_U (Ja6 %[Jad,Jad,pe_op Jg3 Jad Jad|0]) (pe_op JaC (pe_op Jat (pv 7) Jad) Jad))) (Jab (Jaj 15 Jaz.nd (Bag.ev hr ⋯ rfl passF %[pe_op JaC (pv 13) (pv 14),pe_op Ja1 Jad (pe_op JaC (pe_op Jat (pv 7) Jad) Jad)|0])) (Jab (Jaj 16 Jaz.nd (Bag.ev hr ⋯ rfl passF %[pe_op JaC (pe_op Jat (pv 13) Jad) (pv 14),pe_op Ja1 Jad (pe_op JaC (pe_op Jat (pv 7) Jad) Jad)|0])) (Jab (Ja5 (pe_bm PySem.F.plainAttrs_list PySem.F.slot_list_append PySem.F.type_list_append Ja0 (pv 3) %[JaJ %[BaV.ev hr ⋯ rfl passF %[pv 5,Jdr,pv 2|0],pv 9,pv 11,Bar.ev hr ⋯ rfl passF %[pv 12,pv 15,pe_un Jfe Jad|0],Bar.ev hr ⋯ rfl passF %[pv 12,pv 16,Jad|0]|0]|0] (hs:=by show Jae rfl))) (Jab (Jaj 17 Jaz.nd (pe_ix ix_U (Ja6 %[pv 16,pv 15|0]) (JbR Jf2 rfl T.Bd0 Jim %[Bah.ev hr ⋯ rfl passF %[pv 15,pv 16|0]|0]))) (Jab (Jaj 18 Jaz.nd (pe_ix ix_U (JaN (hu1 R) (pv 1) (pv 9) (λ_ _=>rfl)) Jad) rfl (Or.inr rfl)) (Jab (Jaj 19 Jaz.nd (pe_ix ix_U (JaN (hu1 R) (pv 1) (pv 11) (λ_ _=>rfl)) Jad) rfl (Or.inr rfl)) (Jab (Jaj 20 Jaz.nd (pe_op Ja1 (Jby (own:=["_law_name_here"]) (cs:=[(19,"_law_there")]) rfl (pi_U (pv 18)) (λ_ _ _ _=>(Jao 0 (show[("_law_name_here" : Str),("_law_there" : Str)].Nodup by decide))) (λ_ _ _ _=>Jdc (Jay (Jgp (K:=K) rfl) (pv 0) (pv 1) (by with_unfolding_all rfl))) (λ_ _ _ _=>(pv 0)) (JbF rfl) ⋯ rfl ⋯ (hcs1 rfl rfl rfl)) (Jby (own:=["_law_name_here"]) (cs:=[(18,"_law_here")]) rfl (pi_U (pv 19)) (λ_ _ _ _=>(Jao 0 (show[("_law_name_here" : Str),("_law_here" : Str)].Nodup by decide))) (λ_ _ _ _=>Jdc (Jay (Jgp (K:=K) rfl) (pv 0) (pv 1) (by with_unfolding_all rfl))) (λ_ _ _ _=>(pv 0)) (JbF rfl) ⋯ rfl ⋯ (hcs1 rfl rfl rfl)))) (Jag (Ja5 (pe_bm PySem.F.plainAttrs_list PySem.F.slot_list_append PySem.F.type_list_append Ja0 (pv 4) %[JaJ %[pv 17,pv 20|0]|0] (hs:=by show Jae rfl))))))))))))))))))))) (Jag (Jaq (JaJ %[pv 3,pv 4|0])))))),?_)
 clear R;let(hS,hl,g4,ed,hB,hG,hM,hT,h7,u2,m5,k):=h;have sl:(1000:Nat)<=sizeLine:=by decide
 have k3:(Str.ofString "g").cps=#[103]:=by decide
 have lk:=hB.length;have t9:(xs.map (·.1)).length=xs.length:=length_map ..;have u6:1<=xs.length:=by cases xs with | nil=>show absurd rfl m5 | cons _ _=>simp
 show tSeq _ _ _ [some (.ref a),some (.ref sd),some (.int (st:Int)),none,none,none,none,none,none,none,none,none,none,none,none,none,none,none,none,none,none] H;cbv;show(len0,?_);rename_i gl a5 s0 H H1 S1 e1;cbv;show(len0,?_);rename_i dl c3 s8 H1 H2 S2 e2;cbv;show(a,ns,1,rfl,(hS.same S1).same S2,hl,by decide,by decide,λc0=>?_);cbv;mpure
 have q0:=Mth.fm (x:=c0) (y:=7) ⋯;show(_,rfl,by ac_nf,by ac_nf,?_);have k2:gl≠dl:=λz=>by rw[<- z,e1]at c3;cases c3
 have a6:=JcN S1 c3;replace hB:=hB.mono (P':=SNV K gl dl H) λ_ _ ⟨b,w,l,W,Y,h3,_,_,h6⟩=>⟨b,w,l,W,Y,h3,Jah h6 a5,Jah h6 a6,h6⟩;show ForR.byN (λi σ H'=>∃(v5 v6 v7 v8 v9 f0 f6 h8 h5 h4 i0 g6 i3 f9 g7 h9:Option V)(gx dx:List V)(es:List (GD × List Str)),σ=[some (.ref a),some (.ref sd),some (.int (st:Int)),some (.ref gl),some (.ref dl),v5,v6,v7,v8,v9,f0,f6,h8,h5,h4,i0,g6,i3,f9,g7,h9]/\Same H H'/\H' gl=some (.lst gx)/\All2 (λ(e:GD × List Str) x=>TV K H' e.1.td x) es gx/\H' dl=some (.lst dx)/\All2 (RWV K gl dl (spOf (xs.map (·.1))) H') es dx/\(∀ e∈es,GOQ ls xs e)/\(∀(i:Nat)(e:GD × List Str),es[i]?=some e->e.1.nm=nmK 103 st i)/\es.length=i) ⟨none,none,none,none,none,none,none,none,none,none,none,none,none,none,none,none,[],[],[],rfl,S1.trans S2,S2 _ _ e1,rfl,e2,rfl,(λg hg=>by cases hg),(λi g hi=>by cases hi),rfl⟩ ?_ ?_
 .intro i σ H3 hi z_ N0 m3;let(v5,v6,v7,v8,v9,f0,f6,h8,h5,h4,i0,g6,i3,f9,g7,h9,gx,dx,es,rfl,S3,eg,hX,el,hD,g2,g8,f7):=z_;have i6:i<6:=by ac_nf
  have i4:=S3 _ _ ed;have j7:=hB.mono (P':=SNV K gl dl H3) λ_ _ z=>z.same S3;rw[Int.zero_add];cbv;mpure
  show(a,ns,_,rfl,hS.same S3,hl,by ac_nf,by ac_nf,λg9=>?_);cbv;mpure
  mspec
  generalize((g9*39373).fmod 2147483629).fdiv 37=mx;show(sd,kv,xs.map (·.1.f),rfl,i4,by rw[j7.1,map_map];rfl,by rw[length_map];ac_nf,λfl I k4 c6=>?_);generalize u4:upd H3 fl _=H4;cbv;have S4:=newS k4 u4;have e4:=newE u4;have f1:=S4 _ _ i4;have f8:=j7.mono (P':=SNV K gl dl H4) λ_ _ z=>z.same S4;have lo:I.length=xs.length:=by rw[c6.1.length_eq,length_map]
  cbv;show(_, .inl (SqL.of e4),?_);try simpa only[length_map]
  show(by ac_nf,?_);have qj:=Mth.fm (x:=mx) (y:=(I.length:Int)) ∅;let(j,hj):=Int.eq_ofNat_of_zero_le qj.1;rw[hj]at qj ⊢;have jl:j<I.length:=by ac_nf
  let(s1,J,ef):=mem_map.mp (c6.1.mem_iff.mp (List.getElem_mem jl));show ixL (i:=j) (SqL.of e4) (by rw[List.getElem?_map,List.getElem?_eq_getElem jl];rfl) ?_;have ef:s1.1.f=I[j]:=ef;rw[<- ef];clear qj hj;cbv;let(d,u3,l4,m1,g5,t7,w1,l1,rfl,b2,o3,m8,_,q6):=f8.some (z:=s1.1.f) (mem_map.mpr ⟨s1,J,rfl⟩);have l7:=JdW hG l4 J m1;subst l7;show(fl,rfl, .inl ⟨⟨_,SqL.of e4⟩,Jb2.list (xs:=I.map V.str) (λi ys H'=>H'=H4/\∃ fs:List Str,ys=fs.map V.str/\fs.length<=i/\(∀ f∈fs, ∃ t∈xs,t.1.f=f/\t.1.f≠d.1.f/\t.1.r=d.1.r)/\(∀ t∈xs,t.1.f∈I.take i->t.1.f≠d.1.f->t.1.r=d.1.r->t.1.f∈fs)) ⟨rfl,[],rfl,Nat.zero_le _,(λf hf=>by cases hf),λt _ h=>by simp at h⟩ (λi ys H' hi z=>by
   let(rfl,fs,rfl,hf,_):=z;rw[length_map]at hi ⊢;show(SqL.of e4,by ac_nf)) ?_ ?_⟩)
  .intro m y ys H5 S z_;let(rfl,fs,rfl,j4,c5,c9):=z_;have lm:=(List.getElem?_eq_some_iff.mp S).1;rw[length_map]at lm;rw[List.getElem?_map,List.getElem?_eq_getElem lm]at S;have S:y=.str I[m]:=(Option.some.inj S).symm;subst S;let(t,ht,c8):=mem_map.mp (c6.1.mem_iff.mp (List.getElem_mem lm));have c8:t.1.f=I[m]:=c8;rw[<- c8];let(o,vt,i1,h0,d2,q1,wt,lt,rfl,a7,l0,_):=f8.some (z:=t.1.f) (mem_map.mpr ⟨t,ht,rfl⟩);have et:=JdW hG i1 ht h0;subst et;have e0:∀(u:SpD × List Str),u∈xs->u.1.f∈I.take (m+1)->u.1.f∈I.take m\/u=o:=λu R h=>by
    rw[take_succ,List.getElem?_eq_getElem lm]at h;rcases mem_append.mp h with h | h
    .show .inl h
    .have : u.1.f=I[m]:=by simpa using h
     show .inr (JdW hG R ht (this.trans c8.symm))
   simpa only[length_singleton,length_cons,length_nil,List.replicate,JaF,map_cons,map_nil,Option.join_some];have d4:(¬(o.1.f≠d.1.f/\o.1.r=d.1.r))->∃ fs_1:List Str,fs.map V.str=fs_1.map V.str/\fs_1.length<=m+1/\(∀ f∈fs_1, ∃ t∈xs,t.1.f=f/\t.1.f≠d.1.f/\t.1.r=d.1.r)/\∀ t∈xs,t.1.f∈I.take (m+1)->t.1.f≠d.1.f->t.1.r=d.1.r->t.1.f∈fs_1:=λp4=>⟨fs,rfl,by ac_nf,c5,λu R hk W Y=>by
    rcases e0 u R hk with h | rfl
    .show c9 u R h W Y
    .show absurd ⟨W,Y⟩ p4⟩
   by_cases c1:o.1.f=d.1.f
   .rw[if_neg (by simpa using c1)];cbv;show d4 λh=>h.1 c1
   .rw[if_pos (by simpa using c1)];cbv;show(sd,_,rfl,by rw[<- d2];show DGet.k (k:=Sum.inr o.1.f) f1,?_);show ixT (i:=0) a7 rfl ?_;show(sd,_,rfl,by rw[<- g5];show DGet.k (k:=Sum.inr d.1.f) f1,?_);show ixT (i:=0) b2 rfl ?_;cbv;by_cases c2:o.1.r=d.1.r
    .rw[if_pos (by simpa using c2)];cbv;show(fs++[o.1.f],by simp,by simp;ac_nf,λf hf=>?_,λu R hk W Y=>?_)
     .rcases mem_append.mp hf with h | h
      .show c5 f h
      .rw[mem_singleton.mp h];show(o,ht,rfl,c1,c2)
     .rcases e0 u R hk with h | rfl
      .show mem_append.mpr (.inl (c9 u R h W Y))
      .simp
    .rw[if_neg (by simpa using c2)];cbv;show d4 λh=>c2 h.2
  .intro ys H5 z_;let(rfl,fs,rfl,j4,c5,c9):=z_;have t1:1<=fs.length:=by
    let(t0,o5,W,Y):=hT d.1 (mem_map.mpr ⟨d,J,rfl⟩);let(t,ht,rfl):=mem_map.mp o5;have:=c9 t ht (by rw[take_of_length_le (by rw[length_map];ac_nf)];show c6.1.mem_iff.mpr (mem_map.mpr ⟨t,ht,rfl⟩)) W Y;cases fs with
    | nil=>cases this
    | cons _ _=>simp
   rw[length_map]at j4;rename_i u1 o8 l9 H5 H6 S6 e6;cbv;cbv;mpure
   show(_, .inl (SqL.of e6),?_);try simpa only[length_map]
   show(by ac_nf,?_);have qk:=Mth.fm (x:=mx.fdiv 64) (y:=(fs.length:Int)) ∅;let(j2,n0):=Int.eq_ofNat_of_zero_le qk.1;rw[n0]at qk ⊢;have k5:j2<fs.length:=by ac_nf
   let(t,ht,h0,p5,n8):=c5 _ (List.getElem_mem k5);show ixL (i:=j2) (SqL.of e6) (by rw[List.getElem?_map,List.getElem?_eq_getElem k5];rfl) ?_;rw[<- h0];let(o,vt,i1,k6,d2,q1,wt,l2,rfl,a7,l0,m0,_,n1):=f8.some (z:=t.1.f) (mem_map.mpr ⟨t,ht,rfl⟩);have et:=JdW hG i1 ht k6;subst et;cbv;have j0:=S6 _ _ f1;show(sd,_,rfl,by rw[<- d2];show DGet.k (k:=Sum.inr o.1.f) j0,?_);show ixT (i:=1) (a7.same S6) rfl ?_;show(sd,_,rfl,by rw[<- g5];show DGet.k (k:=Sum.inr d.1.f) j0,?_);show ixT (i:=1) (b2.same S6) rfl ?_;cbv;have tb:FB 174 33 o.1.p:=(hM.fb o ht).mono ∅ ∅;have sb:FB 174 33 d.1.p:=(hM.fb d J).mono ∅ ∅;show(wt,w1,_,o.1.p,d.1.p,false,rfl,rfl,l0.same S6,o3.same S6,tb.w.mono ∅ ∅,sb.w.mono ∅ ∅,λmp H7 S7 e7=>?_);have q7:=hG.pl_at (mem_map.mpr ⟨o,ht,rfl⟩);have m7:=hG.pl_at (mem_map.mpr ⟨d,J,rfl⟩);have mb:FB 208 66 (addF o.1.p (sgn false d.1.p)):=FB.add (n:=207) (m:=66) tb sb.neg ⋯ ⋯ ⋯;have n5:∀(g:GD),g.st=d.1.f->g.en=o.1.f->mid (spOf (xs.map (·.1))) g=addF o.1.p (sgn false d.1.p):=λg W Y=>by
    unfold mid;rw[W,Y,q7,m7];rfl
   generalize addF o.1.p (sgn false d.1.p)=m at *;cbv;mpure
   have j3:=S4.trans (S6.trans S7);show(a,ns,_,rfl,(hS.same S3).same j3,hl,by ac_nf,by ac_nf,λv=>?_);cbv;mpure
   rename_i u0 r4 r2 H7 t5 d1 l3;cbv;mpure
   have q3:=Mth.fm (x:=mx.fdiv 256) (y:=3) ⋯;let(n3,k8):=Int.eq_ofNat_of_zero_le q3.1;rw[k8]at q3 ⊢;obtain⟨om,p1,o1,o2⟩:∃ om:Int,[V.int 23, .int 23, .int 1000000000000000000000000000000][n3]?=some (.int om)/\1<=om/\om<=1000000000000000000000000000000:=JmA ∅;show ixL (i:=n3) (SqL.of l3) p1 ?_;clear q3 k8;cbv;have qx:=Mth.fm (x:=v) (y:=om) ∅;have qy:=Mth.fm (x:=v.fdiv 23) (y:=om) ∅;have qd:=Mth.fm (x:=mx.fdiv 1024) (y:=5) ⋯;have o6:=Mth.fm (x:=mx.fdiv 8192) (y:=5) ⋯;show(by ac_nf,?_);mpure
   show(_,_,rfl,by ac_nf, .lit ∅ ∅,λbp H8 S8 e8=>?_);cbv;mpure
   show(by ac_nf,?_);cbv;mpure
   show(_,_,rfl,by ac_nf, .lit ∅ ∅,λap H9 S9 e9=>?_);have bb:FB 101 3 (Mth.top (v.fmod om) (1+(mx.fdiv 1024).fmod 5),Mth.bot (v.fmod om) (1+(mx.fdiv 1024).fmod 5)):=FB.low ∅ (.lit ∅ ∅) (.lit ∅ ∅);have ab:FB 101 3 (Mth.top ((v.fdiv 23).fmod om) (1+(mx.fdiv 8192).fmod 5),Mth.bot ((v.fdiv 23).fmod om) (1+(mx.fdiv 8192).fmod 5)):=FB.low ∅ (.lit ∅ ∅) (.lit ∅ ∅);have nB:0<=vl (Mth.top (v.fmod om) (1+(mx.fdiv 1024).fmod 5),Mth.bot (v.fmod om) (1+(mx.fdiv 1024).fmod 5)):=(vl_nn bb.b1).mpr (JjB qx.1 ∅);have nA:0<=vl (Mth.top ((v.fdiv 23).fmod om) (1+(mx.fdiv 8192).fmod 5),Mth.bot ((v.fdiv 23).fmod om) (1+(mx.fdiv 8192).fmod 5)):=(vl_nn ab.b1).mpr (JjB qy.1 ∅);obtain⟨B,k9⟩:∃ B:Fr2,B=(Mth.top (v.fmod om) (1+(mx.fdiv 1024).fmod 5),Mth.bot (v.fmod om) (1+(mx.fdiv 1024).fmod 5)):=⟨_,rfl⟩;obtain⟨A,i5⟩:∃ A:Fr2,A=(Mth.top ((v.fdiv 23).fmod om) (1+(mx.fdiv 8192).fmod 5),Mth.bot ((v.fdiv 23).fmod om) (1+(mx.fdiv 8192).fmod 5)):=⟨_,rfl⟩;rw[<- k9]at bb nB;rw[<- i5]at ab nA;have eb:H9 bp=some (.tup [.int B.1, .int B.2]):=by rw[S9 _ _ e8,k9]
   have ea:H9 ap=some (.tup [.int A.1, .int A.2]):=by rw[e9,i5]
   clear qx qy qd o6 o1 o2;have fB:=bb;have fA:=ab;have q2:0<=vl A+vl B:=by grind
   have j1:=j3.trans (d1.trans (S8.trans S9));have j5:=S9 _ _ (S8 _ _ (d1 _ _ e7));have t6:=hX.length;have t4:=hD.length;cbv;show(.inl ⟨rfl,_,SqL.of (j1 _ _ eg)⟩,?_);show(_,_,_,103,i,rfl,k3,rfl,by ac_nf,by ac_nf,by ac_nf,?_);rw[Int.toNat_natCast];cbv;show(.ref mp, .ref bp,_,m,B,false,rfl,rfl,FrV.of j5,FrV.of eb,mb.w.mono ⋯ ⋯,fB.w.mono ⋯ ⋯,λlp u5 a9 l6=>?_);cbv;show(.ref mp, .ref ap,_,m,A,true,rfl,rfl,FrV.of (a9 _ _ j5),FrV.of (a9 _ _ ea),mb.w.mono ⋯ ⋯,fA.w.mono ⋯ ⋯,λhp o7 b3 n6=>?_);cbv;show(len5,?_);rename_i gt r9 s7 o7 c4 b0 q5;cbv;have O:=j1.trans (a9.trans (b3.trans b0));show(gl,gx,_,rfl,rfl,O _ _ eg,by ac_nf,?_);generalize f5:upd c4 gl _=a4;cbv;have i7:a4 gl=some (.lst (gx++[.ref gt])):=putE f5;have d0:SameT c4 a4:=SameT.put f5 (O _ _ eg) rfl;have X:∀ b u,b≠gl->c4 b=some u->a4 b=some u:=λb u hb h=>by rw[<- f5,Jai hb];show h
   have d6:=X _ _ (Ne.symm k2) (O _ _ el);have e3:SameT H9 a4:=(a9.trans (b3.trans b0)).t.trans d0;have d7:FrV K a4 (.ref bp) B.1 B.2:=FrV.of (e3 _ _ rfl eb);have d8:FrV K a4 (.ref ap) A.1 A.2:=FrV.of (e3 _ _ rfl ea);cbv;show(len2,?_);rename_i rl s3 s6 a4 a1 M p6;cbv;show(.ref bp, .ref ap,B,A,rfl,d7.same M,d8.same M,fB.w.mono ⋯ ⋯,fA.w.mono ⋯ ⋯,?_);cbv;show .inr ⟨_,rfl,?_⟩;have q8:∃(rv:V)(n2:Nat),(if lessF B A=true then(1:Int)else 0)=(n2:Int)/\[V.ref ap, .ref bp][n2]?=some rv/\FrV K a1 rv (if lessF B A then B else A).1 (if lessF B A then B else A).2:=by
    unfold lessF;by_cases c:decide (B.1*A.2<A.1*B.2)=true
    .rw[if_pos c,if_pos c];cbv;show(.ref bp,1,rfl,rfl,d7.same M)
    .rw[if_neg c,if_neg c];cbv;show(.ref ap,0,rfl,rfl,d8.same M)
   let(rv,n2,p9,n9,o4):=q8;rw[p9];show ixL (i:=n2) (SqL.of p6) n9 ?_;cbv;have r5:sd≠gl:=λz=>by rw[z]at ed;rw[ed]at a5;cases a5
   have t2:sd≠dl:=λz=>by rw[z]at ed;rw[ed]at a6;cases a6
   have i9:=X _ _ r5 (O _ _ i4);have d5:=M _ _ i9;have e5:SameT H5 a1:=(S6.trans (S7.trans (d1.trans (S8.trans (S9.trans (a9.trans (b3.trans b0))))))).t.trans (d0.trans M.t);show(sd,_,rfl,by rw[<- g5];show DGet.k (k:=Sum.inr d.1.f) d5,?_);show ixT (i:=2) (b2.sameT e5) rfl ?_;cbv;show(sd,_,rfl,by rw[<- d2];show DGet.k (k:=Sum.inr o.1.f) d5,?_);show ixT (i:=2) (a7.sameT e5) rfl ?_;cbv;have i2:Same a1 a1:=Same.refl _;have d9:=S6.trans (S7.trans (d1.trans (S8.trans (S9.trans (a9.trans (b3.trans b0))))));have k7:l1≠gl:=m8;have b6:a1 l1=some (.lst (d.2.map V.str)):=M _ _ (X _ _ k7 (d9 _ _ q6));have k1:l2≠gl:=m0;have b4:a1 l2=some (.lst (o.2.map V.str)):=M _ _ (X _ _ k1 (d9 _ _ n1));have p7:=hM.ln d J;have o0:=hM.ln o ht;show(l1,rfl, .inl ⟨⟨_,SqL.of b6⟩,Jb2.list (xs:=d.2.map V.str) (λi ys H'=>H'=a1/\ys=((d.2.take i).filter (λn=>decide (n∉o.2))).map V.str) ⟨rfl,rfl⟩ (λi ys H' hi z=>⟨by rw[z.1];show SqL.of b6,by rw[z.2,length_map];show Nat.le_trans (length_filter_le _ _) (by rw[length_take];have:=p7;ac_nf)⟩) ?_ ?_⟩)
   .rintro m y ys H' S ⟨rfl,rfl⟩;have lm:=(List.getElem?_eq_some_iff.mp S).1;rw[length_map]at lm;rw[List.getElem?_map,List.getElem?_eq_getElem lm]at S;obtain⟨n,hn⟩:∃ n,n=d.2[m]:=⟨_,rfl⟩;rw[<- hn]at S;have S:y=.str n:=(Option.some.inj S).symm;subst S;simpa only[length_singleton,length_cons,length_nil,List.replicate,JaF,map_cons,map_nil,Option.join_some];show(l2,_,rfl, .inl (SqL.of b4),rfl,Jed _,?_);rw[Jd2];rw[take_succ,List.getElem?_eq_getElem lm, <- hn,filter_append];by_cases cn:n∈o.2
    .rw[decide_eq_true cn];cbv;simp[cn]
    .rw[decide_eq_false cn];cbv;simp[cn]
   .rintro ys H' ⟨rfl,rfl⟩;rw[take_of_length_le (by rw[length_map];show Nat.le_refl _)];rename_i g9 r7 n7 H' p8 a3 m4;cbv;cbv;show(l2,rfl, .inl ⟨⟨_,SqL.of (a3 _ _ b4)⟩,Jb2.list (xs:=o.2.map V.str) (λi ys H'=>H'=p8/\ys=((o.2.take i).filter (λn=>decide (n∉d.2))).map V.str) ⟨rfl,rfl⟩ (λi ys H' hi z=>⟨by rw[z.1];show SqL.of (a3 _ _ b4),by rw[z.2,length_map];show Nat.le_trans (length_filter_le _ _) (by rw[length_take];have:=o0;ac_nf)⟩) ?_ ?_⟩)
    .rintro m y ys H' S ⟨rfl,rfl⟩;have lm:=(List.getElem?_eq_some_iff.mp S).1;rw[length_map]at lm;rw[List.getElem?_map,List.getElem?_eq_getElem lm]at S;obtain⟨n,hn⟩:∃ n,n=o.2[m]:=⟨_,rfl⟩;rw[<- hn]at S;have S:y=.str n:=(Option.some.inj S).symm;subst S;simpa only[length_singleton,length_cons,length_nil,List.replicate,JaF,map_cons,map_nil,Option.join_some];show(l1,_,rfl, .inl (SqL.of (a3 _ _ b6)),rfl,Jed _,?_);rw[Jd2];rw[take_succ,List.getElem?_eq_getElem lm, <- hn,filter_append];by_cases cn:n∈d.2
     .rw[decide_eq_true cn];cbv;simp[cn]
     .rw[decide_eq_false cn];cbv;simp[cn]
    .rintro ys H' ⟨rfl,rfl⟩;rw[take_of_length_le (by rw[length_map];show Nat.le_refl _)];rename_i v n4 o9 H' r3 b8 p0;cbv;show .inl ⟨g9,v,_,_,rfl,rfl,b8 _ _ m4,p0,by
      simp only[length_map];have W:=length_filter_le (λn=>decide (n∉o.2)) d.2;have Y:=length_filter_le (λn=>decide (n∉d.2)) o.2;ac_nf,?_⟩
     rename_i nl U s5 r3 q4 k0 m2;cbv;cbv;have b7:=M.trans (i2.trans (a3.trans (b8.trans k0)));have b5:=b7 _ _ d6;show(.inl ⟨rfl,_,SqL.of b5⟩,?_);cbv;show(len2,?_);rename_i np s9 s4 q4 g0 b9 l8;cbv;show(dl,dx,_,rfl,rfl,b9 _ _ b5,by ac_nf,?_);generalize g1:upd g0 dl _=a0;cbv;have l5:=putE g1;have c7:SameT g0 a0:=SameT.put g1 (b9 _ _ b5) rfl;have a8:∀ b u,b≠dl->g0 b=some u->a0 b=some u:=λb u hb h=>by rw[<- g1,Jai hb];show h
     have N:=b7.trans b9;have d3:SameT H3 a0:=O.t.trans (d0.trans (N.t.trans c7));have a2:SameT c4 a0:=d0.trans (N.t.trans c7);have W320:Same2 gl dl H3 a0:=λb u W Y h=>a8 _ _ Y (N _ _ (X _ _ W (O _ _ h)));have r6:nl≠gl:=λz=>by rw[z]at U;rw[b8 _ _ (a3 _ _ (i2 _ _ (M _ _ i7)))]at U;cases U
     have i8:nl≠dl:=λz=>by rw[z]at U;rw[b8 _ _ (a3 _ _ (i2 _ _ (M _ _ d6)))]at U;cases U
     cbv;have sy:=JmJ (hM.nd d J) (hM.nd o ht);obtain⟨Z,hZ⟩:∃ Z,Z=d.2.filter (λn=>decide (n∉o.2))++o.2.filter (λn=>decide (n∉d.2)):=⟨_,rfl⟩;rw[<- hZ]at sy;have g3:FB 212 69 (addF m (sgn false B)):=FB.add (n:=211) (m:=69) mb fB.neg ⋯ ⋯ ⋯;have f3:FB 212 69 (addF m (sgn true A)):=FB.add (n:=211) (m:=69) mb fA ⋯ ⋯ ⋯;have f4:nameS (nmK 103 st i)=true:=Jd6 ⋯ g4 ∅;have m6:d.1.f∈(xs.map (·.1)).map (·.f):=mem_map.mpr ⟨d.1,mem_map.mpr ⟨d,J,rfl⟩,rfl⟩;have r8:o.1.f∈(xs.map (·.1)).map (·.f):=mem_map.mpr ⟨o.1,mem_map.mpr ⟨o,ht,rfl⟩,rfl⟩;obtain⟨G,L⟩:∃ G:GD,G=⟨nmK 103 st i,d.1.f,o.1.f,addF m (sgn false B),addF m (sgn true A)⟩:=⟨_,rfl⟩;have p3:TOk G.td:=by
      rw[L];show(f4,hG.fname g4 ∅ (mem_map.mpr ⟨d,J,rfl⟩),hG.fname g4 ∅ (mem_map.mpr ⟨o,ht,rfl⟩),Ne.symm p5,λu R=>by cases R;show(g3.mono (C:=600) (D:=600) ⋯ ⋯).ok ⋯ ⋯,λu R=>by cases R;show(f3.mono (C:=600) (D:=600) ⋯ ⋯).ok ⋯ ⋯,hi_lo mb fA fB q2)
     have j8:=n5 G (by rw[L]) (by rw[L]);have f2:roomF (spOf (xs.map (·.1))) G=if lessF B A then B else A:=by
      unfold roomF;rw[j8,L];have W:addF (addF m (sgn true A)) (negF m)=A:=Jla mb fA;have Y:addF m (negF (addF m (sgn false B)))=B:=Jlb mb fB;show(if lessF (addF (addF m (sgn true A)) (negF m)) (addF m (negF (addF m (sgn false B))))then addF (addF m (sgn true A)) (negF m)else addF m (negF (addF m (sgn false B))))=_;rw[W,Y];show Jkf fA fB
     have m9:GOQ ls xs (G,Z):=by
      show(p3,?_,⟨sy.1,λx hx y S W Y n=>?_⟩,?_,?_,?_,?_,?_,λn hn=>?_)
      .rw[L];show hG.joined (mem_map.mpr ⟨d,J,rfl⟩) (mem_map.mpr ⟨o,ht,rfl⟩) n8.symm
      .have W:x.1.f=d.1.f:=by rw[L]at W;show W
       have Y:y.1.f=o.1.f:=by rw[L]at Y;show Y
       have ex:=JdW hG hx J W;have ey:=JdW hG S ht Y;rw[ex,ey];show sy.2 n
      .show FB 101 3 (roomF _ G);rw[f2];split
       .show fB
       .show fA
      .show 0<=vl (roomF _ G);rw[f2];split
       .show nB
       .show nA
      .rw[L];show(⟨g3.b1,g3.s2.mono ⋯⟩,f3.b1,f3.s2.mono ⋯)
      .rw[L];show m6
      .rw[L];show r8
      .have : n∈Z:=hn;rw[hZ]at this;rcases mem_append.mp this with h | h
       .show hM.sub d J n (mem_filter.mp h).1
       .show hM.sub o ht n (mem_filter.mp h).1
     show m3 _ _ ⟨_,_,_,_,_,_,_,_,_,_,_,_,_,_,_,_,gx++[.ref gt],dx++[.ref np],es++[(G,Z)],rfl,λb w h=>a8 _ _ (Jah h a6) (N _ _ (X _ _ (Jah h a5) (O _ _ (S3 _ _ h)))),a8 _ _ k2 (N _ _ i7),?_,l5,?_,?_,?_,by simp[f7]⟩
     .have j9:All2 (λ(e:GD × List Str) x=>TV K a0 e.1.td x) es gx:=hX.mono λa x (z:TV K H3 a.1.td x)=>TV.sameT d3 z;show j9.append (.one ?_);rw[L];show(gt, .ref lp, .ref hp,rfl,SqT.of (a2 _ _ rfl q5),FrV.of (a2 _ _ rfl (b0 _ _ (b3 _ _ l6))),FrV.of (a2 _ _ rfl (b0 _ _ n6)))
     .have j6:All2 (RWV K gl dl (spOf (xs.map (·.1))) a0) es dx:=hD.mono λa x z=>RWV.keep d3 W320 z;show j6.append (.one ⟨np,rv,nl,rfl,SqT.of (c7 _ _ rfl l8),?_,r6,i8,?_⟩)
      .show FrV K a0 rv (roomF _ G).1 (roomF _ G).2;rw[f2];show((FrV.same (a3.trans (b8.trans (k0.trans b9))) o4)).sameT c7
      .rw[a8 _ _ i8 (b9 _ _ m2),hZ,map_append]
     .intro e he;rcases mem_append.mp he with h' | h'
      .show g2 e h'
      .rw[mem_singleton.mp h'];show m9
     .intro j' e p2;rcases JbA p2 with h' | ⟨rfl,rfl⟩
      .show g8 j' e h'
      .rw[f7,L]
 .intro σ H3 z_;let(v5,v6,v7,v8,v9,f0,f6,h8,h5,h4,i0,g6,i3,f9,g7,h9,gx,dx,es,rfl,S3,eg,hX,el,hD,g2,g8,f7):=z_;cbv;show(len2,?_);rename_i q t8 u7 H3 H4 S4 e4;cbv;have r1:All2 (λ(e:GD × List Str) x=>TV K H4 e.1.td x) es gx:=hX.mono λa x (z:TV K H3 a.1.td x)=>TV.sameT S4.t z;have q9:All2 (RWV K gl dl (spOf (xs.map (·.1))) H4) es dx:=hD.mono λa x z=>RWV.same S4 z;show k q gl dl gx dx es H4 (S3.trans S4) e4 (S4 _ _ eg) r1 (S4 _ _ el) q9 g2 g8 ∅
abbrev Bbl:Stmt:=top 63
theorem Jbh:Jan ["_law_part","_law_rows","_law_slacks","_law_left_here","_law_room","_law_names","_law_rest","_law_name_here"] ["_law_part","_law_rows","_law_slacks"] (Jaf Bbl):=by bv_decide
def Jcc(K:W.Frag):Sp:=λvs H Q E=>∃(y:V)(p:PD)(rl d c1 c2:Addr)(rx:List V)(ls:List PD)(es:List (GD × List Str))(pl:Str->Fr2)(E_:Int)(n:Nat)(s:Str->Fr2),vs=[y, .ref rl, .ref d]/\p∈ls/\PDV K H p y/\SqL K H rl rx/\All2 (RWV K c1 c2 pl H) es rx/\SLD K H n d ls s/\CTX ls es pl E_/\FEA ls es pl E_ s/\∀ v x H',Same H H'->FrV K H' v x.1 x.2->LFT ls es pl E_ s p x->Q v H'
theorem JgX(F:"_law_left"∘Bbl)(T:Txt K mg Ad)(Bar:2∘"_law_plus"∘["_law_one","_law_other","_law_sign"]∘(Jcd K))(Bah:1∘"_law_less"∘["_law_one","_law_other"]∘(Jbt K)):3∘["_law_part","_law_rows","_law_slacks"]∘(Jcc K):=by
 show F.okn Jbh (by subst_eqs) (λa6 A a1 s H vs Q E hr h=>?_)
 let(y,p,W,d,c1,c2,rx,ls,es,pl,E_,n,s,rfl,h):=h;have hu:=hr.units;show(_,(Jab (Jaj 3 Jbh.nd (!0)) (Jab (JaI PassesOwn.never rfl (pi_U (pv 1)) (JdU rfl (JaW (Jao 4 Jbh.nd) (JaW (Jao 5 Jbh.nd) Jcx))) (Jag (ps_if (Jay JkH (!0) (pv 5) (by with_unfolding_all rfl)) (Jab (Jaj 6 Jbh.nd (pv 4)) (Jab (JaI PassesOwn.never rfl (pi_U (pv 5)) (Jao 7 Jbh.nd) (Jag (ps_if (Jay (JcP hu) (pv 7) (!0) (JaB _)) (Jag (Jaj 6 Jbh.nd (Bar.ev hr ⋯ rfl passF %[pv 6,JaN (hu1 hu) (pv 2) (pv 7) (λ_ _=>rfl),pe_un Jfe Jad|0])))
   Jav))) (Jag (ps_if (JaX (Bah.ev hr ⋯ rfl passF %[pv 6,pv 3|0])) (Jag (Jaj 3 Jbh.nd (pv 6)))
   Jav))))
   Jav))) (Jag (Jaq (pv 3))))),?_)
 clear hu;let(hp,hP,hR,hE,hD,C,N,k):=h;let(a_,vz,vm,rfl,hb,_,hm):=hP;let(kv,a4,a7,a2):=hD;have lE:=hE.length;show tSeq _ _ _ [some (.ref a_),some (.ref W),some (.ref d),none,none,none,none,none] H;cbv;show ixT (i:=4) hb rfl ?_;cbv;show(W,rfl,ForA.byLN (xs:=rx) hR (λi σ J=>i<=rx.length/\∃(v4 v5 v6 D:Option V)(t:V)(x:Fr2),σ=[some (.ref a_),some (.ref W),some (.ref d),some t,v4,v5,v6,D]/\Same H J/\FrV K J t x.1 x.2/\LFT ls (es.take i) pl E_ s p x) ⟨Nat.zero_le _,none,none,none,none,vm,p.mo,rfl,Same.refl _,hm,LFT.nil C N hp⟩ (λi σ J q=>by let(_,_,_,_,_,_,_,_,q,_):=q;show hR.same q) ?_ ?_)
 .intro i y σ H3 hy z_ N0 L;let(hi,v4,v5,v6,D,t,x,rfl,o,Y,I):=z_;have li:=(List.getElem?_eq_some_iff.mp hy).1;let(e,a0,b_,w,l,rfl,a5,hw,_,_,hl):=hE.at_ hy;have he:=List.mem_of_getElem? a0;have G:es.take (i+1)=es.take i++[e]:=by rw[take_succ,a0];rfl
  have rb:=(C.rm e he).1;have xb:=I.fb C N hp;cbv;show(b_,_,rfl,a5.same o,rfl,?_);cbv;show ixT (i:=0) (hb.same o) rfl ?_;show(l,_,rfl, .inl (SqL.of (o _ _ hl)),rfl,Jed _,?_);rw[Jd2];by_cases cn:p.nm∈e.2
  .rw[decide_eq_true cn];cbv;show(l,rfl,ForA.byLN (xs:=e.2.map V.str) (SqL.of (o _ _ hl)) (λj σ J=>j<=e.2.length/\∃(D:Option V)(r:V)(u:Fr2),σ=[some (.ref a_),some (.ref W),some (.ref d),some t,some w,some (.ref l),some r,D]/\Same H3 J/\FrV K J r u.1 u.2/\Lo u/\vl u=vl (roomF pl e.1)-sm (butF s p.nm) (e.2.take j)) ⟨Nat.zero_le _,D,w,roomF pl e.1,rfl,Same.refl _,hw.same o,⟨rb.b1,rb.g1⟩,by rw[take_zero];simp only[sm];grind⟩ (λj σ J q=>by let(_,_,_,_,_,q,_):=q;show SqL.of (q _ _ (o _ _ hl))) ?_ ?_)
   .intro j y' σ H5 g z_ N1 U;let(hj,D,r,u,rfl,M,X,S,B):=z_;have O:=(List.getElem?_eq_some_iff.mp g).1;rw[length_map]at O;rw[List.getElem?_map,List.getElem?_eq_getElem O]at g;obtain⟨b,hn⟩:∃ b,b=e.2[j]:=⟨_,rfl⟩;rw[<- hn]at g;have g:y'=.str b:=(Option.some.inj g).symm;subst g;have m:=o.trans M;have Z:e.2.take (j+1)=e.2.take j++[b]:=by rw[take_succ,List.getElem?_eq_getElem O, <- hn];rfl
    cbv;show ixT (i:=0) (hb.same m) rfl ?_;cbv;by_cases c:b=p.nm
    .rw[if_neg (by simpa using c)];cbv;cbv;show U _ _ ⟨O,_,r,u,rfl,M,X,S,?_⟩;rw[Z,JfR,B,show butF s p.nm b=0 from if_pos c];grind
    .rw[if_pos (by simpa using c)];cbv;let(q,hq,a3):=Jc9 ((C.nm e he).1 b (by rw[hn];show List.getElem_mem O));let(v,hv,fv):=a2 q hq;have R:=(JiS C N he S B).1;have qb:=N.fb C hq;rw[a3]at hv fv qb;cbv;show(d,_,rfl,by rw[<- hv];show DGet.k (k:=Sum.inr b) (m _ _ a4),?_);show(r,v,_,u,s b,false,rfl,rfl,X,fv.same m,R.w.mono ⋯ ⋯,qb.w.mono ⋯ ⋯,λz H6 S6 e6=>?_);cbv;show U _ _ ⟨O,_, .ref z,addF u (sgn false (s b)),rfl,M.trans S6,FrV.of e6,Jem (Jbg R.b1 qb.b1),?_⟩;rw[JhS R.b1 (show 1<=(sgn false (s b)).2 from qb.b1),show vl (sgn false (s b)) = - vl (s b)from Jdz _,Z,JfR,B,show butF s p.nm b=vl (s b)from if_neg c];grind
   .intro σ H5 z_;let(hj,D,r,u,rfl,M,X,S,B):=z_;rw[length_map]at B;let(R,ud):=JiS C N he S B;rw[take_of_length_le (Nat.le_refl _),show sm (butF s p.nm) e.2=_ from JkS (C.nm e he).2 cn]at B;have m:=o.trans M;have l2:=Jbu (a:=u) (c:=x) R.b1 xb.b1;cbv;show(r,t,u,x,rfl,X,Y.same M,R.w.mono ⋯ ⋯,xb.w.mono ⋯ ⋯,?_);cbv;by_cases c:lessF u x=true
    .rw[if_pos c];cbv;cbv;show L _ _ ⟨li,_,_,_,_,r,u,rfl,m,X,?_⟩;rw[G];show I.take N he S ud B (l2.mp c)
    .rw[if_neg c];cbv;cbv;show L _ _ ⟨li,_,_,_,_,t,x,rfl,m,Y.same M,?_⟩;rw[G];show I.keep B λz=>c (l2.mpr z)
  .rw[decide_eq_false cn];cbv;show L _ _ ⟨li,_,_,_,_,t,x,rfl,o,Y,?_⟩;rw[G];show I.skip cn
 .intro σ H3 z_;let(hi,v4,v5,v6,D,t,x,rfl,o,Y,I):=z_;cbv;rw[take_of_length_le ∅]at I;show k t x H3 o Y I
abbrev BaW:Stmt:=top 64
theorem Jcz:Jan ["_law_parts_here","_law_rows","_law_slacks","_law_order","_law_k"] ["_law_parts_here","_law_rows","_law_slacks","_law_order"] (Jaf BaW):=by bv_decide
def JcG(K:W.Frag):Sp:=λvs H Q E=>∃(pp ol:Addr)(px:List V)(ord:List Nat)(rl d c1 c2:Addr)(rx:List V)(ls:List PD)(es:List (GD × List Str))(pl:Str->Fr2)(E_:Int)(n:Nat)(s:Str->Fr2),vs=[.ref pp, .ref rl, .ref d, .ref ol]/\H pp=some (.lst px)/\All2 (PDV K H) ls px/\H rl=some (.lst rx)/\All2 (RWV K c1 c2 pl H) es rx/\SLD K H n d ls s/\CTX ls es pl E_/\FEA ls es pl E_ s/\H ol=some (.lst (ord.map λ(i:Nat)=>V.int (i:Int)))/\(∀ i∈ord,i<ls.length)/\ord.length<=8/\n<=20/\∀ d' s' H',Same H H'->SLD K H' (n+8) d' ls s'->FEA ls es pl E_ s'->Q (.ref d') H'
theorem Jfz(F:"_law_filled"∘BaW)(T:Txt K mg Ad)(BaK:3∘"_law_left"∘["_law_part","_law_rows","_law_slacks"]∘(Jcc K)):4∘["_law_parts_here","_law_rows","_law_slacks","_law_order"]∘(JcG K):=by
 show F.okn Jcz (by subst_eqs) (λa4 A a0 s H vs Q E hr h=>?_)
 let(R,L,px,g,G,d,Z,c2,rx,l,es,S,E_,n,s,rfl,h):=h;have hu:=hr.units;show(_,(Jab (Jaj 2 Jcz.nd (JbR JdA rfl T.n_dict Jfh %[pv 2|0])) (Jab (JaI PassesOwn.never rfl (pi_U (pv 3)) (Jao 4 Jcz.nd) (Jag (Jbn (hu1 hu) (pv 2) (pe_ix ix_U (pe_ix ix_U (pv 0) (pv 4)) Jad) (BaK.ev hr ⋯ rfl passF %[pe_ix ix_U (pv 0) (pv 4),pv 1,pv 2|0]) rfl))) (Jag (Jaq (pv 2))))),?_)
 clear hu;let(eP,hP,eR,hE,hD,hc,hf,eO,hO,l8,a5,k):=h;show tSeq _ _ _ [some (.ref R),some (.ref G),some (.ref d),some (.ref L),none] H;cbv;show JgG hD λm H1 a r M=>?_;let(kv,e1):=M.len;have n1:R≠m:=Jah eP a;have n2:G≠m:=Jah eR a;have n3:L≠m:=Jah eO a;cbv;show(L,rfl,ForA.byLN (xs:=g.map λ(i:Nat)=>V.int (i:Int)) (SqL.of (r _ _ eO)) (λi σ H'=>i<=g.length/\∃(v4:Option V)(o:Str->Fr2),σ=[some (.ref R),some (.ref G),some (.ref m),some (.ref L),v4]/\(∀ b u,b≠m->H1 b=some u->H' b=some u)/\SLD K H' (n+i) m l o/\FEA l es S E_ o) ⟨Nat.zero_le _,none,s,rfl,(λb u _ h=>h),M,hf⟩ (λi σ H' q=>by let(_,_,_,_,q,_):=q;show SqL.of (q _ _ n3 (r _ _ eO))) ?_ ?_)
 .intro i y σ O C z_ N0 a3;let(hi,v4,o,rfl,B,c,e):=z_;have U:=(List.getElem?_eq_some_iff.mp C).1;rw[length_map]at U;rw[List.getElem?_map,List.getElem?_eq_getElem U]at C;obtain⟨j,hj⟩:∃ j,j=g[i]:=⟨_,rfl⟩;rw[<- hj]at C;have C:y=.int (j:Int):=(Option.some.inj C).symm;subst C;have jl:j<l.length:=hO j (by rw[hj];show List.getElem_mem U);have T3:SameT H1 O:=SameT.of_ne B e1;let(pv,D,pd):=hP.get (List.getElem?_eq_getElem jl);have Y:l[j]∈l:=List.getElem_mem jl;generalize l[j]=p at pd Y;have I:=pd.sameT (r.t.trans T3);have J:=B _ _ n1 (r _ _ eP);have a1:=B _ _ n2 (r _ _ eR);have X:=hE.mono (P':=RWV K Z c2 S O) λ_ _ z=>(z.same r).ne e1 T3 B;cbv;show ixL (i:=j) (SqL.of J) D ?_;show(pv,p,G,m,Z,c2,rx,l,es,S,E_,n+i,o,rfl,Y,I,SqL.of a1,X,c,hc,e,λv x H4 W fv hx=>?_);cbv;show ixL (i:=j) (SqL.of (W _ _ J)) D ?_;let(a_,vz,vm,rfl,N,_):=I;show ixT (i:=0) (N.same W) rfl ?_;show Jjh (c.same W) fv ∅ λH5 o5 a2=>?_;cbv;show a3 _ _ ⟨U,_,updF o p.nm x,rfl,λb u N h=>o5 b u N (W _ _ (B b u N h)),a2,e.upd hc Y hx⟩
 .intro σ O z_;let(hi,v4,o,rfl,B,c,e):=z_;cbv;rw[length_map]at c;show k m o O (λb u h=>B b u (Jah h a) (r _ _ h)) (c.mono ∅) e
abbrev Ba5:Stmt:=top 65
theorem JdV:Jan ["_law_parts_here","_law_rows","_law_slacks","_law_part"] ["_law_parts_here","_law_rows","_law_slacks"] (Jaf Ba5):=by bv_decide
def JcX(K:W.Frag):Sp:=λvs H Q E=>∃(pp:Addr)(px:List V)(rl d c1 c2:Addr)(rx:List V)(ls:List PD)(es:List (GD × List Str))(pl:Str->Fr2)(E_:Int)(n:Nat)(s:Str->Fr2),vs=[.ref pp, .ref rl, .ref d]/\H pp=some (.lst px)/\All2 (PDV K H) ls px/\H rl=some (.lst rx)/\All2 (RWV K c1 c2 pl H) es rx/\SLD K H n d ls s/\CTX ls es pl E_/\FEA ls es pl E_ s/\∀ H',Same H H'->Q (.bl true) H'
theorem Jgl(F:"_law_keeps"∘Ba5)(T:Txt K mg Ad)(BaK:3∘"_law_left"∘["_law_part","_law_rows","_law_slacks"]∘(Jcc K))(Bah:1∘"_law_less"∘["_law_one","_law_other"]∘(Jbt K)):4∘["_law_parts_here","_law_rows","_law_slacks"]∘(JcX K):=by
 show F.okn JdV (by subst_eqs) (λa0 A M s H vs Q E G h=>?_)
 let(m,L,r,d,U,W,Y,Z,es,pl,E_,n,s,rfl,h):=h;have C:=G.units;show(_,(Jab (JaI PassesOwn.never rfl (pi_U (pv 0)) (Jao 3 JdV.nd) (Jag (ps_if (PW.pt (pw_or (Jay Jew (pe_ix ix_U (JaN (hu1 C) (pv 2) (!3) (λ_ _=>rfl)) Jad) Jad (JaB _)) (Jb4 (JaX (Bah.ev G ⋯ rfl passF %[BaK.ev G ⋯ rfl passF %[pv 3,pv 1,pv 2|0],JaN (hu1 C) (pv 2) (!3) (λ_ _=>rfl)|0]))))) (Jag (Jaq pe_bl))
   Jav))) (Jag (Jaq pe_bl))),?_)
 clear C;let(eP,hP,eR,hE,hD,N,l,k):=h;let(kv,e,a1,B):=id hD;have lP:=hP.length;show tSeq _ _ _ [some (.ref m),some (.ref r),some (.ref d),none] H;cbv;show(m,rfl,ForA.byLN (xs:=L) (SqL.of eP) (λi σ H'=>i<=L.length/\∃(u:Option V),σ=[some (.ref m),some (.ref r),some (.ref d),u]/\Same H H') ⟨Nat.zero_le _,none,rfl,Same.refl _⟩ (λi σ H' q=>by let(_,_,_,q):=q;show SqL.of (q _ _ eP)) ?_ ?_)
 .rintro i y σ H3 R ⟨hi,u,rfl,b⟩ N0 I;have li:=(List.getElem?_eq_some_iff.mp R).1;let(p,J,pd):=hP.at_ R;have j:=List.mem_of_getElem? J;have g:=pd.sameT b.t;let(a_,vz,vm,rfl,hb,_):=id g;let(v,O,S):=B p j;have D:=l.fb N j;have n0:=(vl_nn D.b1).mp (l.nn p j);cbv;show ixT (i:=0) hb rfl ?_;show(d,_,rfl,by rw[<- O];show DGet.k (k:=Sum.inr p.nm) (b _ _ e),?_);show ixF0 (S.same b) ?_;cbv;rw[if_neg (by simpa using(by ac_nf:¬(s p.nm).1<0))];cbv;show(.ref a_,p,r,d,U,W,Y,Z,es,pl,E_,n,s,rfl,j,g,SqL.of (b _ _ eR),hE.mono (λ_ _ z=>z.same b),hD.same b,N,l,λv' x H4 o fx hx=>?_);cbv;show ixT (i:=0) (hb.same o) rfl ?_;show(d,_,rfl,by rw[<- O];show DGet.k (k:=Sum.inr p.nm) (o _ _ (b _ _ e)),?_);have X:=hx.fb N l j;have l2:=Jbu (a:=x) (c:=s p.nm) X.b1 D.b1;show(v',v,x,s p.nm,rfl,fx,(S.same b).same o,X.w.mono ⋯ ⋯,D.w.mono ⋯ ⋯,?_);cbv;rw[if_neg (λz=>absurd (l2.mp z) (Rat.not_lt.mpr hx.ge))];cbv;cbv;show I _ _ ⟨li,_,rfl,b.trans o⟩
 .rintro σ H3 ⟨hi,u,rfl,b⟩;cbv;show k H3 b
abbrev BaX:Stmt:=top 66
theorem Jbl:Jan ["_law_parts_here","_law_slacks","_law_levels","_law_part","_law_level","_law_at"] ["_law_parts_here","_law_slacks"] (Jaf BaX):=by bv_decide
def JbZ(K:W.Frag):Sp:=λvs H Q E=>∃(pp d:Addr)(px:List V)(ls:List PD)(n:Nat)(s:Str->Fr2),vs=[.ref pp, .ref d]/\H pp=some (.lst px)/\All2 (PDV K H) ls px/\SLD K H n d ls s/\(∀ p∈ls,FB 910 800 (s p.nm)/\1<=p.wt/\Mth.Sz 21 p.wt)/\ls.length<=8/\∀ l ys H',Same H H'->H l=none->H' l=some (.lst ys)->All2 (FrL K H') (ordO (ls.map (lvP s))) ys->Q (.ref l) H'
theorem JfB(F:"_law_sorted"∘BaX)(T:Txt K mg Ad)(Bag:1∘"_law_low"∘["_law_top","_law_bottom"]∘(JbM))(Bah:1∘"_law_less"∘["_law_one","_law_other"]∘(Jbt K)):2∘["_law_parts_here","_law_slacks"]∘(JbZ K):=by
 show F.okn Jbl (by subst_eqs) (λa9 A a3 s H vs Q E hr h=>?_)
 let(D,d,px,r,n,s,rfl,h):=h;have hu:=hr.units;show(_,(Jab (Jaj 2 Jbl.nd (Ja6 Jac)) (Jab (JaI PassesOwn.never rfl (pi_U (pv 0)) (Jao 3 Jbl.nd) (Jab (Jaj 4 Jbl.nd (Bag.ev hr ⋯ rfl passF %[pe_ix ix_U (JaN (hu1 hu) (pv 1) (!3) (λ_ _=>rfl)) Jad,pe_op JaD (pe_ix ix_U (JaN (hu1 hu) (pv 1) (!3) (λ_ _=>rfl)) Jad) (!3)|0])) (Jab (Jaj 5 Jbl.nd Jad) (Jab (Jc8 PassesOwn.never (PW.pt (Jji (Jay Jew (pv 5) (Jar JaP rfl T.Bbm Jbe %[pv 2|0]) (JaB _)) (Jg7 (JaX (Bah.ev hr ⋯ rfl passF %[pe_ix ix_U (pv 2) (pv 5),pv 4|0]))))) (Jag (Jaj 5 Jbl.nd (pe_op Ja1 (pv 5) Jad)))) (Jag (Ja5 (pe_bm PySem.F.plainAttrs_list PySem.F.slot_list_insert PySem.F.type_list_insert Jgf (pv 2) %[pv 5,pv 4|0]))))))) (Jag (Jaq (pv 2))))),?_)
 clear hu;let(eP,hP,hD,G,l8,k):=h;let(kv,a5,b2,a4):=hD;have sl:(1000:Nat)<=sizeLine:=by decide
 have lP:=hP.length;show tSeq _ _ _ [some (.ref D),some (.ref d),none,none,none,none] H;cbv;show(len0,?_);rename_i o g a8 H H1 S1 e1;cbv;cbv;have np:D≠o:=λz=>by rw[z]at eP;rw[eP]at g;cases g
 show(D,rfl,ForA.byLN (xs:=px) (SqL.of (S1 _ _ eP)) (λi σ x=>i<=px.length/\∃(v3 v4 v5:Option V)(M:List V),σ=[some (.ref D),some (.ref d),some (.ref o),v3,v4,v5]/\Same H x/\x o=some (.lst M)/\All2 (FrL K x) (ordO ((r.take i).map (lvP s))) M) ⟨Nat.zero_le _,none,none,none,[],rfl,S1,e1,rfl⟩ (λi σ x q=>by let(_,_,_,_,_,_,q,_):=q;show SqL.of (q _ _ eP)) ?_ ?_)
 .intro i y σ H2 hy z_ N0 a6;let(hi,v3,v4,v5,M,rfl,B,e2,N):=z_;have li:=(List.getElem?_eq_some_iff.mp hy).1;let(p,O,a_,vz,vm,rfl,hb,_):=hP.at_ hy;have hp:=List.mem_of_getElem? O;let(v,hv,fv):=a4 p hp;let(sb,w1,ws):=G p hp;let(zn,ln,b0):=Jfb sb w1 ws;have g2:DGet H2 d (.str p.nm) (some v):=by rw[<- hv];show DGet.k (k:=Sum.inr p.nm) (B _ _ a5)
  cbv;show ixT (i:=0) (hb.same B) rfl ?_;show(d,v,rfl,g2,?_);show ixF0 (fv.same B) ?_;show ixT (i:=0) (hb.same B) rfl ?_;show(d,v,rfl,g2,?_);show ixF1 (fv.same B) ?_;show ixT (i:=5) (hb.same B) rfl ?_;cbv;show(mulOk sb.s2 ws,?_);show(_,_,rfl,b0,(sb.s2.mul ws).mono ⋯,λI C S3 e3=>?_);have l:=S3 _ _ e2;have a1:=N.mono (P':=FrL K C) λ_ _ z=>FrV.sameT S3.t z;have Z:FrV K C (.ref I) (lvP s p).1 (lvP s p).2:=FrV.of e3;have ly:=N.length;have R:∀ z∈(r.take i).map (lvP s),Lo z:=λz e=>by
   let(q,hq,rfl):=mem_map.mp e;let(U,h2,h3):=G q (mem_of_mem_take hq);show(Jfb U h2 h3).2.1
  have lo:(ordO ((r.take i).map (lvP s))).length<=8:=by
   rw[Jc5,length_map,length_take];ac_nf
  have Y:∀ z∈ordO ((r.take i).map (lvP s)),FW 3000 3000 z:=λz e=>by
   let(q,hq,rfl):=mem_map.mp (Jc6 e);let(U,h2,h3):=G q (mem_of_mem_take hq);show(Jfb U h2 h3).1
  have a2:=(Jd7 _ R).1;have tk:(r.take (i+1)).map (lvP s)=(r.take i).map (lvP s)++[lvP s p]:=by rw[take_succ,O,map_append];rfl
  have a0:=@Jj5 (lvP s p) ((r.take i).map (lvP s));rw[<- tk]at a0;generalize lvP s p=n at *;generalize ordO ((r.take i).map (lvP s))=L at *;cbv;have W:∀(m:Nat),m<=L.length->(∀ z∈L.take m,vl z<=vl n)->(∀ z∈L.drop m,vl n<=vl z)->tyV K "list" (.ref o) C/\Jg9 (.ref o) [.int (m:Int), .ref I] C λ_ x=>N0 [some (.ref D),some (.ref d),some (.ref o),some (.ref a_),some (.ref I),some (.int (m:Int))] x:=λm hm U h2=>by
   show(.inl ⟨rfl,_,SqL.of l⟩,?_);show(o,M, .ref I,m,rfl,rfl,l,by ac_nf,by ac_nf,?_);generalize u4:upd C o _=H4;cbv;have e4:=putE u4;have S:SameT C H4:=SameT.put u4 l rfl;show a6 _ _ ⟨li,_,_,_,_,rfl,λb u h=>by rw[<- u4,Jai (Jah h g)];show S3 _ _ (B _ _ h),e4,?_⟩;rw[a0 R ln U h2];have X:=a1.mono (P':=FrL K H4) λ_ _ z=>FrV.sameT S z;show(X.take m).append ⟨.ref I,_,rfl,FrV.sameT S Z,X.drop m⟩
  show(λm σ x=>∃ a:Nat,a<=L.length/\m=L.length-a/\σ=[some (.ref D),some (.ref d),some (.ref o),some (.ref a_),some (.ref I),some (.int (a:Int))]/\x=C/\∀ z∈L.take a,vl z<=vl n,⟨_,0,Nat.zero_le _,rfl,rfl,rfl,λz e=>by simp at e⟩,?_);intro m σ x z_;let(a,ha,rfl,rfl,rfl,J):=z_;cbv;show(_, .inl (SqL.of l),?_);cbv;by_cases c:a<L.length
  .rw[decide_eq_true ∅];cbv;let(yv,a7,fy):=a1.get (List.getElem?_eq_getElem c);have zy:=Y _ (List.getElem_mem c);have l2:=Jbu (a:=L[a]) (c:=n) zy.b1 zn.b1;show ixL (i:=a) (SqL.of l) a7 ?_;show(yv, .ref I,L[a],n,rfl,fy,Z,zy,zn,?_);cbv;by_cases cc:lessF L[a] n=true
   .rw[cc];cbv;show(_,λ_ _ q=>q,L.length-(a+1),by ac_nf,a+1,c,rfl,rfl,rfl,λz e=>?_);rw[take_succ,List.getElem?_eq_getElem c]at e;rcases mem_append.mp e with e | e
    .show J z e
    .have : z=L[a]:=by simpa using e
     rw[this];show Rat.le_of_lt (l2.mp cc)
   .rw[Bool.eq_false_iff.mpr cc];cbv;show W a ha J λz e=>?_;let(j,hj):=List.getElem?_of_mem e;rw[List.getElem?_drop]at hj;have:=a2.le (i:=a) (j:=a+j) ∅ (List.getElem?_eq_getElem c) hj;have:=λq=>cc (l2.mpr q);grind
  .rw[decide_eq_false ∅];cbv;show W a ha J λz e=>?_;rw[drop_eq_nil_of_le ∅]at e;cases e
 .intro σ H2 z_;let(hi,v3,v4,v5,M,rfl,B,e2,N):=z_;rw[take_of_length_le ∅]at N;cbv;show k o M H2 B g e2 N
abbrev Bao:Stmt:=top 67
theorem Jbk:Jan ["_law_parts_here","_law_here","_law_there","_law_ones","_law_others_here","_law_k"] ["_law_parts_here","_law_here","_law_there"] (Jaf Bao):=by bv_decide
def JbN(K:W.Frag):Sp:=λvs H Q E=>∃(pp d d2:Addr)(px:List V)(ls:List PD)(n n2:Nat)(s s2:Str->Fr2),vs=[.ref pp, .ref d, .ref d2]/\H pp=some (.lst px)/\All2 (PDV K H) ls px/\SLD K H n d ls s/\SLD K H n2 d2 ls s2/\(∀ p∈ls,FB 910 800 (s p.nm)/\1<=p.wt/\Mth.Sz 21 p.wt)/\(∀ p∈ls,FB 910 800 (s2 p.nm)/\1<=p.wt/\Mth.Sz 21 p.wt)/\ls.length<=8/\∀ H',Same H H'->Q (.bl (notB (ordO (ls.map (lvP s))) (ordO (ls.map (lvP s2))))) H'
theorem JdJ(F:"_law_not_fairer"∘Bao)(T:Txt K mg Ad)(Bas:2∘"_law_sorted"∘["_law_parts_here","_law_slacks"]∘(JbZ K))(Bah:1∘"_law_less"∘["_law_one","_law_other"]∘(Jbt K)):3∘["_law_parts_here","_law_here","_law_there"]∘(JbN K):=by
 show F.okn Jbk (by subst_eqs) (λa2 A Z s H vs Q E D h=>?_)
 let(x,d,C,X,a,n,Y,s,o,rfl,h):=h;have p:=D.units;show(_,(Jab (Jaj 3 Jbk.nd (Bas.ev D ⋯ rfl passF %[pv 0,pv 1|0])) (Jab (Jaj 4 Jbk.nd (Bas.ev D ⋯ rfl passF %[pv 0,pv 2|0])) (Jab (JaI PassesOwn.never rfl (JcU rfl T.BbR %[Jar JaP rfl T.Bbm Jbe %[pv 3|0]|0]) (Jao 5 Jbk.nd) (Jag (ps_if (Jay (JcP p) (pe_ix ix_U (pv 3) (pv 5)) (pe_ix ix_U (pv 4) (pv 5)) (JaB _)) (Jag (Jaq (Bah.ev D ⋯ rfl passF %[pe_ix ix_U (pv 3) (pv 5),pe_ix ix_U (pv 4) (pv 5)|0])))
   Jav))) (Jag (Jaq pe_bl))))),?_)
 clear p;let(eP,hP,hD,N,hb,r,l8,k):=h;have sl:(1000:Nat)<=sizeLine:=by decide
 show tSeq _ _ _ [some (.ref x),some (.ref d),some (.ref C),none,none,none] H;cbv;show(x,d,X,a,n,s,rfl,eP,hP,hD,hb,l8,λl1 y1 H1 G a0 e1 S=>?_);cbv;show(x,C,X,a,Y,o,rfl,G _ _ eP,hP.mono (λ_ _ z=>z.sameT G.t),N.same G,r,l8,λl2 y2 H2 S2 a1 e2 B=>?_);cbv;have e:=S2 _ _ e1;have b:=S.mono (P':=FrL K H2) λ_ _ z=>FrV.sameT S2.t z;have l:=G.trans S2;have n1:(ordO (a.map (lvP s))).length=a.length:=by rw[Jc5,length_map]
 have Y:(ordO (a.map (lvP o))).length=a.length:=by rw[Jc5,length_map]
 have w1:∀ z∈ordO (a.map (lvP s)),FW 3000 3000 z:=λz O=>by
  let(q,hq,rfl):=mem_map.mp (Jc6 O);let(W,U,J):=hb q hq;show(Jfb W U J).1
 have w2:∀ z∈ordO (a.map (lvP o)),FW 3000 3000 z:=λz O=>by
  let(q,hq,rfl):=mem_map.mp (Jc6 O);let(W,U,J):=r q hq;show(Jfb W U J).1
 generalize ordO (a.map (lvP s))=L at *;generalize ordO (a.map (lvP o))=M at *;have a3:=b.length;have a4:=B.length;show(_, .inl (SqL.of e),?_);cbv;show(_,rfl,by ac_nf,by ac_nf,?_);show ForR.byN (λi σ y=>∃(v5:Option V),σ=[some (.ref x),some (.ref d),some (.ref C),some (.ref l1),some (.ref l2),v5]/\y=H2/\notB L M=notB (L.drop i) (M.drop i)) ⟨none,rfl,rfl,rfl⟩ ?_ ?_
 .rintro i σ y hi ⟨v5,rfl,rfl,j⟩ N0 R;have c:i<L.length:=by ac_nf
  have g:i<M.length:=by ac_nf
  let(u,p,fn):=b.get (List.getElem?_eq_getElem c);let(v,hv,fm):=B.get (List.getElem?_eq_getElem g);have zn:=w1 _ (List.getElem_mem c);have zm:=w2 _ (List.getElem_mem g);rw[List.drop_eq_getElem_cons c,List.drop_eq_getElem_cons g]at j;generalize L[i]=n at *;generalize M[i]=m at *;rw[Int.zero_add];cbv;show ixL (i:=i) (SqL.of e) p ?_;show ixL (i:=i) (SqL.of e2) hv ?_;show neF fn fm ?_;have ee:(decide (n.1=m.1)&&decide (n.2=m.2))=decide (n=m):=by
   rw[Bool.eq_iff_iff];simp[Prod.ext_iff]
  rw[ee];by_cases I:n=m
  .rw[decide_eq_true I];cbv;show R _ _ ⟨_,rfl,rfl,?_⟩;rw[j,notB,if_pos I]
  .rw[decide_eq_false I];cbv;show ixL (i:=i) (SqL.of e) p ?_;show ixL (i:=i) (SqL.of e2) hv ?_;show(u,v,n,m,rfl,fn,fm,zn,zm,?_);have:=k y l;rw[j,notB,if_neg I]at this;cbv;try show this
 .rintro σ y ⟨v5,rfl,rfl,j⟩;rw[drop_eq_nil_of_le ∅,drop_eq_nil_of_le ∅]at j;cbv;have:=k y l;rw[j]at this;show this
abbrev BaY:Stmt:=top 68
theorem Jau:Jan ["_law_script","_law_parts_here","_law_rows","_law_told","_law_none","_law_part","_law_made","_law_seeds","_law_j","_law_k","_law_cell_here","_law_order","_law_lowered","_law_at","_law_slack","_law_drawn","_law_rest","_law_many"] ["_law_script","_law_parts_here","_law_rows","_law_told"] (Jaf BaY):=by bv_decide
def JcI(K:W.Frag):Sp:=λvs H Q E=>∃(a pp:Addr)(ns:List Int)(px:List V)(rl d c1 c2:Addr)(rx:List V)(ls:List PD)(es:List (GD × List Str))(pl:Str->Fr2)(E_:Int)(n:Nat)(s:Str->Fr2),vs=[.ref a, .ref pp, .ref rl, .ref d]/\SqL K H a (ns.map V.int)/\ns.length<=63/\H pp=some (.lst px)/\All2 (PDV K H) ls px/\1<=ls.length/\H rl=some (.lst rx)/\All2 (RWV K c1 c2 pl H) es rx/\SLD K H n d ls s/\n<=8/\CTX ls es pl E_/\Mth.Sz 774 E_/\(∀ e∈es,0<=vl (roomF pl e.1))/\FEA ls es pl E_ s/\∀ l ys ss H',Same H H'->H' l=some (.lst ys)->All2 (SLV K H' ls) ss ys->(∀ s∈ss,FEA ls es pl (E_*8 ^ 8) s)->Q (.ref l) H'
theorem JfA(F:"_law_others"∘BaY)(T:Txt K mg Ad)(Bad:1∘"_law_cell"∘["_law_script","_law_k"]∘(JbL K))(Bbt:4∘"_law_filled"∘["_law_parts_here","_law_rows","_law_slacks","_law_order"]∘(JcG K))(Bag:1∘"_law_low"∘["_law_top","_law_bottom"]∘(JbM))(BaK:3∘"_law_left"∘["_law_part","_law_rows","_law_slacks"]∘(Jcc K)):5∘["_law_script","_law_parts_here","_law_rows","_law_told"]∘(JcI K):=by
 show F.okn Jau (by subst_eqs) (λk8 A i0 s H vs Q E hr h=>?_)
 let(a,pp,ns,px,rl,d,c1,c2,rx,r,es,pl,E_,n,s,rfl,h):=h;have hu:=hr.units;show(_,(Jab (Jaj 4 Jau.nd Jbq) (Jab (JaI PassesOwn.never rfl (pi_U (pv 1)) (Jao 5 Jau.nd) (Jag (Jbn (hu1 hu) (pv 4) (!5) (JaJ %[Jad,Jad|0]) rfl))) (Jab (Jaj 6 Jau.nd (Ja6 Jac)) (Jab (Jaj 7 Jau.nd (Ja6 %[Bad.ev hr ⋯ rfl passF %[pv 0,Jad|0],Bad.ev hr ⋯ rfl passF %[pv 0,Jad|0],Bad.ev hr ⋯ rfl passF %[pv 0,Jad|0]|0])) (Jab (JaI PassesOwn.never rfl (Jgs rfl T.BbR %[Jad,Jar (Jf6 rfl) rfl T.Bd6 Jks %[Jar JaP rfl T.Bbm Jbe %[pv 0|0],Jad|0]|0]) (Jao 8 Jau.nd rfl (Or.inr rfl)) (Jag (Ja5 (pe_bm PySem.F.plainAttrs_list PySem.F.slot_list_append PySem.F.type_list_append Ja0 (pv 7) %[pe_op Ja1 (pe_ix ix_U (pv 0) (pv 8)) (Jar (Jis rfl) rfl T.n_sum Jkt %[JeA (Jby (own:=["_law_i"]) (cs:=[(0,"_law_script"),(8,"_law_j")]) rfl (Jgs rfl T.BbR %[Jad,Jad|0]) (λ_ _ _ _=>(Jao 0 (show[("_law_i" : Str),("_law_script" : Str),("_law_j" : Str)].Nodup by decide))) (λ_ _ _ _=>Jb3) (λ_ _ _ _=>(pe_op JaD (pe_op JaD Jad (pv 0)) (Bad.ev hr ⋯ rfl passF %[pv 1,pe_op (Ji0 (K:=K) rfl) (pv 2) (pe_op JaD Jad (pv 0))|0]))) (JbF rfl) ⋯ rfl ⋯ (hcs2 rfl rfl rfl rfl rfl rfl))|0])|0] (hs:=by show Jae rfl))))) (Jab (JaI PassesOwn.never rfl (JcU rfl T.BbR %[Jar JaP rfl T.Bbm Jbe %[pv 7|0]|0]) (Jao 9 Jau.nd) (Jab (Jaj 10 Jau.nd (pe_ix ix_U (pv 7) (pv 9)) rfl (Or.inr rfl)) (Jab (JhK (Jbs (j:=11) (own:=["_law_j"]) (cs:=[(10,"_law_cell_here"),(1,"_law_parts_here")]) Jau.nd rfl (Or.inl rfl) rfl (JcU rfl T.BbR %[Jar JaP rfl T.Bbm Jbe %[pv 1|0]|0]) (λ_ _ _ _=>(Jao 0 (show[("_law_j" : Str),("_law_cell_here" : Str),("_law_parts_here" : Str)].Nodup by decide))) (λ_ _ _ _=>Jb3) (λ_ _ _ _=>(pe_op JaC (pe_op (Ji0 (K:=K) rfl) (pv 0) (pv 1)) (Jar (Jiq (K:=K) rfl) rfl T.Bbm Jbe %[pv 2|0]))) (JbF rfl) ⋯ rfl ⋯ (hcs2 rfl rfl rfl rfl rfl rfl))) (Jab (ps_if (Jay (Jch hu) (pe_op JaC (pe_op Jat (pv 10) Jad) Jad) Jad (JaB _)) (Jag (Ja5 (JkJ PySem.F.plainAttrs_list PySem.F.slot_list_reverse PySem.F.type_list_reverse Jh5 (pv 11))))
   Jav) (Jag (ps_if (Jay (Jch hu) (pe_op JaC (pv 9) Jad) Jad (JaB _)) (Jag (Ja5 (pe_bm PySem.F.plainAttrs_list PySem.F.slot_list_append PySem.F.type_list_append Ja0 (pv 6) %[Bbt.ev hr ⋯ rfl passF %[pv 1,pv 2,pv 4,pv 11|0]|0] (hs:=by show Jae rfl)))) (Jag (ps_if (Jay (Jch hu) (pe_op JaC (pv 9) Jad) Jad (JaB _)) (Jab (Jaj 12 Jau.nd (JbR JdA rfl T.n_dict Jfh %[pv 3|0])) (Jab (Jaj 13 Jau.nd (pe_op JaC (pe_op Jat (pv 10) Jad) (Jar JaP rfl T.Bbm Jbe %[pv 1|0])) rfl (Or.inr rfl)) (Jab (Jaj 14 Jau.nd (JaN (hu1 hu) (pv 3) (pe_ix ix_U (pe_ix ix_U (pv 1) (pv 13)) Jad) (λ_ _=>rfl))) (Jab (Jbn (hu1 hu) (pv 12) (pe_ix ix_U (pe_ix ix_U (pv 1) (pv 13)) Jad) (Bag.ev hr ⋯ rfl passF %[pe_op JaD (!14) (pe_op JaC (pv 10) Jad),pe_op JaD (!14) Jad|0]) rfl) (Jag (Ja5 (pe_bm PySem.F.plainAttrs_list PySem.F.slot_list_append PySem.F.type_list_append Ja0 (pv 6) %[Bbt.ev hr ⋯ rfl passF %[pv 1,pv 2,pv 12,Jby (own:=["_law_j"]) (cs:=[(13,"_law_at")]) rfl (pi_U (pv 11)) (λ_ _ _ _=>(Jao 0 (show[("_law_j" : Str),("_law_at" : Str)].Nodup by decide))) (λ_ _ _ _=>Jdc (Jay (JkI (K:=K) rfl hu) (pv 0) (pv 1) (JaB _))) (λ_ _ _ _=>(pv 0)) (JbF rfl) ⋯ rfl ⋯ (hcs1 rfl rfl rfl)|0]|0] (hs:=by show Jae rfl)))))))) (Jab (Jaj 15 Jau.nd (JbR JdA rfl T.n_dict Jfh %[pv 4|0])) (Jab (JaI PassesOwn.never rfl (pi_U (pv 11)) (Jao 8 Jau.nd rfl (Or.inr rfl)) (Jab (Jaj 16 Jau.nd (BaK.ev hr ⋯ rfl passF %[pe_ix ix_U (pv 1) (pv 8),pv 2,pv 15|0])) (Jab (Jaj 17 Jau.nd (pe_op JaC (pe_op Jat (pv 10) (pe_op Ja1 Jad (pv 8))) Jad)) (Jag (Jbn (hu1 hu) (pv 15) (pe_ix ix_U (pe_ix ix_U (pv 1) (pv 8)) Jad) (Bag.ev hr ⋯ rfl passF %[pe_op JaD (!16) (pv 17),pe_op JaD (!16) Jad|0]) rfl))))) (Jag (Ja5 (pe_bm PySem.F.plainAttrs_list PySem.F.slot_list_append PySem.F.type_list_append Ja0 (pv 6) %[pv 15|0] (hs:=by show Jae rfl)))))))))))))) (Jag (Jaq (pv 6))))))))),?_)
 clear hu;let(hS,hl,eP,hP,l1,eR,hE,hD,n8,hc,sE,f0,hf,k):=h;have sl:(1000:Nat)<=sizeLine:=by decide
 have lP:=hP.length;have l8:=hc.l8;show tSeq _ _ _ [some (.ref a),some (.ref pp),some (.ref rl),some (.ref d),none,none,none,none,none,none,none,none,none,none,none,none,none,none] H;cbv;rename_i dn c7 k5 H H1 S1 e1;cbv;cbv;have n1:pp≠dn:=Jah eP c7;show(pp,rfl,ForA.byLN (xs:=px) (SqL.of (S1 _ _ eP)) (λi σ g=>i<=px.length/\∃(v5:Option V),σ=[some (.ref a),some (.ref pp),some (.ref rl),some (.ref d),some (.ref dn),v5,none,none,none,none,none,none,none,none,none,none,none,none]/\(∀ b u,b≠dn->H1 b=some u->g b=some u)/\SLD K g i dn (r.take i) λ_=>(0,1)) ⟨Nat.zero_le _,none,rfl,(λb u _ h=>h),[],e1,Nat.le_refl _,λp I=>by rw[take_zero]at I;cases I⟩ (λi σ g q=>by let(_,_,_,q,_):=q;show SqL.of (q _ _ n1 (S1 _ _ eP))) ?_ ?_)
 .rintro i y σ H3 O ⟨hi,v5,rfl,l,h7⟩ N0 b2;have li:=(List.getElem?_eq_some_iff.mp O).1;let(p,h4,a_,vz,vm,rfl,C,_):=hP.at_ O;have h6:=C.sameT (S1.t.trans (SameT.of_ne l e1));cbv;show(len2,?_);rename_i zt k3 j8 H3 H4 S4 e4;cbv;show ixT (i:=0) (h6.same S4) rfl ?_;show Jkq (h7.same S4) h4 (FrV.of e4) ∅ λH5 o5 j0=>?_;cbv;show b2 _ _ ⟨li,_,rfl,λb u C h=>o5 b u C (S4 _ _ (l b u C h)),j0⟩
 .rintro σ H2 ⟨hi,v5,rfl,l,hN⟩;rw[take_of_length_le ∅]at hN;have hN:=hN.mono (m:=8) ∅;have d1:Same H H2:=λb u h=>l b u (Jah h c7) (S1 _ _ h);clear l e1 S1 n1 hi;cbv;show(len0,?_);rename_i W a9 k2 H2 H3 S3 e3;cbv;have N:=d1.trans S3;cbv;show(a,ns,2,rfl,hS.same N,hl,by decide,by decide,λc0=>?_);cbv;show(a,ns,4,rfl,hS.same N,hl,by decide,by decide,λh8=>?_);cbv;show(a,ns,6,rfl,hS.same N,hl,by decide,by decide,λi8=>?_);cbv;show(len3,?_);rename_i sd X j9 H3 H4 S4 e4;cbv;have g6:=N.trans S4;show(_, .inl (hS.same g6),?_);try simpa only[length_map]
  show(32,_,rfl,⟨by decide,by decide,by split <;> ac_nf,by split <;> ac_nf⟩,?_);have h0:∀ b u,b≠sd->H3 b=some u->H4 b=some u:=λb u _ h=>S4 _ _ h;show ForR.byN (λi σ g=>∃(v8:Option V)(D:List Int),σ=[some (.ref a),some (.ref pp),some (.ref rl),some (.ref d),some (.ref dn),v5,some (.ref W),some (.ref sd),v8,none,none,none,none,none,none,none,none,none]/\(∀ b u,b≠sd->H3 b=some u->g b=some u)/\g sd=some (.lst (D.map V.int))/\D.length=3+i) ⟨none,[c0,h8,i8],rfl,h0,e4,rfl⟩ ?_ ?_
  .intro i σ H5 hi z_ N0 b2;let(v8,D,rfl,l,ez,lz):=z_;have g4:Same H H5:=λb u h=>l b u (Jah h (JcN N X)) (N _ _ h);have hj:32+i<ns.length:=by
    split at hi <;> ac_nf
   have i7:i<7:=by
    split at hi <;> ac_nf
   cbv;have f8:(ns.map V.int)[32+i]?=some (.int ns[32+i]):=by rw[List.getElem?_map,List.getElem?_eq_getElem hj];rfl
   generalize ns[32+i]=x0 at f8;have ej:(32:Int)+(i:Int)=((32+i:Nat):Int):=by ac_nf
   rw[ej];show(.inl ⟨rfl,_,SqL.of ez⟩,?_);show ixL (hS.same g4) f8 ?_;cbv;show(1,5,rfl,by decide,CompJ.range (n:=4) (λj ys g=>g=H5/\∃ ms:List Int,ys=ms.map V.int/\ms.length=j) ⟨rfl,[],rfl,rfl⟩ ?_ ?_ ?_)
   .rintro j ys g d5 ⟨_,ms,rfl,lm⟩;rw[length_map];ac_nf
   .rintro j ys g d5 ⟨rfl,ms,rfl,lm⟩;simpa only[length_singleton,length_cons,length_nil,List.replicate,JaF,map_cons,map_nil,Option.join_some];mpure
    show(a,ns,_,rfl,hS.same g4,hl,by ac_nf,by ac_nf,λc3=>?_);cbv;show(JaA (decide_eq_true ∅),ms++[_],by rw[map_append];rfl,by simp[lm])
   .rintro ys g ⟨rfl,ms,rfl,lm⟩;rename_i tl j6 k6 g H6 S6 e6;cbv;show(tl,ms,rfl,SqL.of e6,?_);cbv;show(sd,_,_,rfl,rfl,S6 _ _ ez,by rw[length_map];ac_nf,?_);generalize u7:upd H6 sd _=H7;cbv;show b2 _ _ ⟨_,D++[_],rfl,λb u C h=>by rw[<- u7,Jai C];show S6 _ _ (l b u C h),by rw[map_append];show putE u7,by rw[length_append,lz];rfl⟩
  .intro σ H5 z_;let(v8,D,rfl,l,ez,lz):=z_;have d7:Same H3 H5:=λb u h=>l b u (Jah h X) h;have h9:=d7 _ _ e3;have i5:sd≠W:=λz=>by rw[z,e3]at X;cases X
   clear l h0 e4 S4 g6 e3;have j7:D.length<=40:=by
    split at lz <;> ac_nf
   clear lz;cbv;show(_, .inl (SqL.of ez),?_);try simpa only[length_map]
   show(_,rfl,by ac_nf,by ac_nf,?_);show ForR.byN (λi σ g=>∃(v8 v9 c8 e2 a6 a5 b3 b6 c6 c5:Option V)(ys:List V)(ss:List (Str->Fr2)),σ=[some (.ref a),some (.ref pp),some (.ref rl),some (.ref d),some (.ref dn),v5,some (.ref W),some (.ref sd),v8,v9,c8,e2,a6,a5,b3,b6,c6,c5]/\(∀ b u,b≠W->H5 b=some u->g b=some u)/\g W=some (.lst ys)/\All2 (SLV K g r) ss ys/\(∀ s∈ss,FEA r es pl (E_*8 ^ 8) s)/\ys.length<=i) ⟨_,_,_,_,_,_,_,_,_,_,[],[],rfl,(λb u _ h=>h),h9,rfl,(λs hs=>by cases hs),Nat.le_refl _⟩ ?_ ?_
   .intro i σ H6 hi z_ N0 b2;let(v8,v9,c8,e2,a6,a5,b3,b6,c6,c5,ys,ss,rfl,l,em,hY,d8,f2):=z_;have k4:H2 W=none:=a9;have f4:Same H2 H6:=λb u h=>l b u (Jah h a9) (d7 _ _ (S3 _ _ h));have c9:=d1.trans f4;have i3:=l _ _ i5 ez;have iz:i<D.length:=by ac_nf
    have f7:(D.map V.int)[i]?=some (.int D[i]):=by rw[List.getElem?_map,List.getElem?_eq_getElem iz];rfl
    generalize D[i]=c at f7;rw[Int.zero_add];cbv;show ixL (SqL.of i3) f7 ?_;cbv;show(_, .inl (SqL.of (c9 _ _ eP)),?_);cbv;show(_,rfl,by ac_nf,by ac_nf,CompJ.range (n:=px.length) (λj D g=>g=H6/\∃ B:List Nat,D=B.map (λ(i:Nat)=>V.int (i:Int))/\B.length=j/\∀ o∈B,o<r.length) ⟨rfl,[],rfl,rfl,λo l=>by cases l⟩ ?_ ?_ ?_)
    .rintro j D g d5 ⟨_,B,rfl,lo,_⟩;rw[length_map];ac_nf
    .rintro j D g d5 ⟨rfl,B,rfl,lo,G⟩;simpa only[length_singleton,length_cons,length_nil,List.replicate,JaF,map_cons,map_nil,Option.join_some];show(_, .inl (SqL.of (c9 _ _ eP)),?_);cbv;have qm:=Mth.fm (x:=0+(j:Int)+c) (y:=(px.length:Int)) ∅;show(by ac_nf,B++[((0+(j:Int)+c).fmod (px.length:Int)).toNat],?_,by simp[lo],λo l=>?_)
     .rw[map_append];simp only[map_cons,map_nil];rw[Int.toNat_of_nonneg qm.1]
     .rcases mem_append.mp l with h | h
      .show G o h
      .rw[mem_singleton.mp h];ac_nf
    .rintro k9 g ⟨rfl,B,rfl,lo,G⟩;rename_i ol g1 k7 g H7 S7 e7;cbv;mpure
     rename_i R hR;have key:∀(B:List Nat)(H8:Hp),Same g H8->H8 ol=some (.lst (B.map λ(i:Nat)=>V.int (i:Int)))->B.length=r.length->(∀ o∈B,o<r.length)->R [some (.ref a),some (.ref pp),some (.ref rl),some (.ref d),some (.ref dn),v5,some (.ref W),some (.ref sd),v8,some (.int (i:Int)),some (.int c),some (.ref ol),a6,a5,b3,b6,c6,c5] H8:=by
      intro B H8 S8 eo lo G;have a1:=c9.trans S8;have g7:=f4.trans S8;have e5:=S8 _ _ em;have e0:∀(d':Addr)(M:Str->Fr2)(H9:Hp)(w8 f9 h1 g5 g2 a0 a2:Option V),Same H8 H9->SLD K H9 20 d' r M->FEA r es pl (E_*8 ^ 8) M->Jjj (.ref W) [.ref d'] H9 λ_ g=>N0 [some (.ref a),some (.ref pp),some (.ref rl),some (.ref d),some (.ref dn),v5,some (.ref W),some (.ref sd),w8,some (.int (i:Int)),some (.int c),some (.ref ol),f9,h1,g5,g2,a0,a2] g:=λd' M H9 w8 f9 h1 g5 g2 a0 a2 L j3 h3=>by
       have d4:=S8.trans L;have b7:=d4 _ _ em;show(W,ys,_,rfl,rfl,b7,by ac_nf,?_);generalize d2:upd H9 W _=HA;have TA:SameT H9 HA:=SameT.put d2 b7 rfl;have oA:∀ b u,b≠W->H9 b=some u->HA b=some u:=λb u C h=>by rw[<- d2,Jai C];show h
       show b2 _ _ ⟨_,_,_,_,_,_,_,_,_,_,ys++[.ref d'],ss++[M],rfl,λb u C h=>oA _ _ C (d4 _ _ (l b u C h)),putE d2,?_,λs hs=>?_,by rw[length_append];show Nat.succ_le_succ f2⟩
       .show(hY.mono (P':=SLV K HA r) λ_ _ z=>by
         let(d,e,z):=z;show(d,e,(z.same d4).ne b7 TA oA)).append (.one ⟨d',rfl,j3.ne b7 TA oA⟩)
       .rcases mem_append.mp hs with h | h
        .show d8 s h
        .rw[mem_singleton.mp h];show h3
      have b5:=a1 _ _ eP;have b9:=a1 _ _ eR;have b4:=hP.mono (P':=PDV K H8) λ_ _ z=>z.sameT a1.t;have d0:=hE.mono (P':=RWV K c1 c2 pl H8) λ_ _ z=>z.same a1;cbv;mpure
      by_cases k0:(i:Int).fmod 3=0
      .rw[if_pos (decide_eq_true k0)];cbv;show(.inl ⟨rfl,_,SqL.of e5⟩,?_);show(pp,ol,px,B,rl,dn,c1,c2,rx,r,es,pl,E_,8,_,rfl,b5,b4,b9,d0,hN.same g7,hc,FEA.zero hc f0,eo,G,by ac_nf,by decide,λd' M H9 L a3 j1=>?_);cbv;show e0 d' M H9 _ _ _ _ _ _ _ L (a3.mono ⋯) (j1.more _)
      rw[if_neg (λz=>k0 (of_decide_eq_true z))];cbv;mpure
      by_cases k1:(i:Int).fmod 3=1
      .rw[if_pos (decide_eq_true k1)];cbv;show JgG (hD.same a1) λdl H9 g8 L a3=>?_;cbv;have b8:=a1.trans L;mpure
       show(_, .inl (SqL.of (b8 _ _ eP)),?_);cbv;mpure
       show(by ac_nf,?_);have qa:=Mth.fm (x:=c.fdiv 64) (y:=(px.length:Int)) ∅;let(J,h2):=Int.eq_ofNat_of_zero_le qa.1;rw[h2]at qa ⊢;have al:J<r.length:=by ac_nf
       let(pv,a7,pd):=b4.get (List.getElem?_eq_getElem al);have I:r[J]∈r:=List.getElem_mem al;generalize r[J]=p at pd I;let(a_,vz,vm,rfl,C,_):=pd;have sb:=hf.fb hc I;cbv;show ixL (i:=J) (SqL.of (b8 _ _ eP)) a7 ?_;show ixT (i:=0) (C.same L) rfl ?_;show JiK (hD.same b8) I λv fv=>?_;cbv;show ixF0 fv ?_;cbv;mpure
       have q8:=Mth.fm (x:=c) (y:=8) ⋯;show(JhD (.lit ∅ ∅),?_);show ixF1 fv ?_;cbv;mpure
       let(y1,y2,y3,y4):=Jkx (m:=c.fmod 8) (hf.lo p I) (hf.nn p I) (hf.dv p I) q8.1 ∅;show(_,_,rfl,Jbg sb.b1 ⋯,(sb.s2.mul (n:=4) (by unfold Mth.Sz;decide)).mono ⋯,λzl HA SA eA=>?_);obtain⟨Y,a4⟩:∃ Y:Fr2,Y=(Mth.top ((s p.nm).1*c.fmod 8) ((s p.nm).2*8),Mth.bot ((s p.nm).1*c.fmod 8) ((s p.nm).2*8)):=⟨_,rfl⟩;have fY:FrV K HA (.ref zl) Y.1 Y.2:=by rw[a4];show FrV.of eA
       rw[<- a4]at y1 y2 y3 y4;cbv;show ixL (i:=J) (SqL.of (SA _ _ (b8 _ _ eP))) a7 ?_;show ixT (i:=0) ((C.same L).same SA) rfl ?_;show Jjh (a3.same SA) fY ∅ λHB oB i1=>?_;have d9:Same H8 HB:=λb u h=>oB b u (Jah h g8) (SA _ _ (L _ _ h));have f1:FEA r es pl (E_*8 ^ 1) (updF s p.nm Y):=by
        rw[Int.pow_succ,Int.pow_zero,Int.one_mul];show FEA.put hc (hf.more 8) I (LFT.self hf I) y1 y2 y3 y4
       have f3:=d9 _ _ eo;cbv;show(.inl ⟨rfl,_,SqL.of (d9 _ _ e5)⟩,?_);show(ol,rfl, .inl ⟨⟨_,SqL.of f3⟩,Jb2.list (xs:=B.map λ(i:Nat)=>V.int (i:Int)) (λj D g=>g=HB/\D=((B.take j).filter λo=>decide (o≠J)).map λ(i:Nat)=>V.int (i:Int)) ⟨rfl,rfl⟩ (λj D g hj z=>⟨by rw[z.1];show SqL.of f3,by rw[z.2,length_map];show Nat.le_trans (length_filter_le _ _) (by rw[length_take];ac_nf)⟩) ?_ ?_⟩)
       .rintro j y D HC O ⟨rfl,rfl⟩;have lj:=(List.getElem?_eq_some_iff.mp O).1;rw[length_map]at lj;rw[List.getElem?_map,List.getElem?_eq_getElem lj]at O;have O:y=.int (B[j]:Int):=(Option.some.inj O).symm;subst O;simpa only[length_singleton,length_cons,length_nil,List.replicate,JaF,map_cons,map_nil,Option.join_some];rw[take_succ,List.getElem?_eq_getElem lj];generalize B[j]=o;by_cases z:o=J
        .simp[z]
        .have z':¬(o:Int)=(J:Int):=by ac_nf
         simp[z,z']
       .rintro D HC ⟨rfl,rfl⟩;rw[length_map,take_of_length_le (Nat.le_refl _)];rename_i fl j4 j5 HC HD SD eD;cbv;have b0:=d9.trans SD;show(pp,fl,px,_,rl,dl,c1,c2,rx,r,es,pl,E_*8 ^ 1,n+1,updF s p.nm Y,rfl,b0 _ _ b5,b4.mono (λ_ _ z=>z.sameT b0.t),b0 _ _ b9,d0.mono (λ_ _ z=>z.same b0),i1.same SD,hc.pow sE ⋯,f1,eD,λo l=>G o (mem_filter.mp l).1,Nat.le_trans (length_filter_le _ _) ∅,by ac_nf,λd' M HE SE i2 i4=>?_);cbv;show e0 d' M HE _ _ _ _ _ _ _ (b0.trans SE) (i2.mono ∅) (i4.up ⋯)
      .rw[if_neg (λz=>k1 (of_decide_eq_true z))];cbv;show JgG (hN.same g7) λd3 H9 Z L a3=>?_;let(kv,e9):=a3.len;have m1:pp≠d3:=Jah b5 Z;have m2:rl≠d3:=Jah b9 Z;have m3:ol≠d3:=Jah eo Z;cbv;show(ol,rfl,ForA.byLN (xs:=B.map λ(i:Nat)=>V.int (i:Int)) (SqL.of (L _ _ eo)) (λj σ g=>j<=B.length/\∃(w8 a0 a2:Option V)(M:Str->Fr2),σ=[some (.ref a),some (.ref pp),some (.ref rl),some (.ref d),some (.ref dn),v5,some (.ref W),some (.ref sd),w8,some (.int (i:Int)),some (.int c),some (.ref ol),a6,a5,b3,some (.ref d3),a0,a2]/\(∀ b u,b≠d3->H9 b=some u->g b=some u)/\SLD K g (8+j) d3 r M/\FEA r es pl (E_*8 ^ j) M) ⟨Nat.zero_le _,_,_,_,_,rfl,(λb u _ h=>h),a3,(FEA.zero hc f0).more _⟩ (λj σ g q=>by let(_,_,_,_,_,_,q,_):=q;show SqL.of (q _ _ m3 (L _ _ eo))) ?_ ?_)
       .intro j y σ HA O z_ N1 h5;let(hj,w8,a0,a2,M,rfl,S,a8,U):=z_;have lj:=(List.getElem?_eq_some_iff.mp O).1;rw[length_map]at lj;rw[List.getElem?_map,List.getElem?_eq_getElem lj]at O;obtain⟨o,g0⟩:∃ o,o=B[j]:=⟨_,rfl⟩;rw[<- g0]at O;have O:y=.int (o:Int):=(Option.some.inj O).symm;subst O;have f6:o<r.length:=G o (by rw[g0];show List.getElem_mem lj);have TA:SameT H9 HA:=SameT.of_ne S e9;let(pv,a7,pd):=b4.get (List.getElem?_eq_getElem f6);have I:r[o]∈r:=List.getElem_mem f6;generalize r[o]=p at pd I;have e8:=pd.sameT (L.t.trans TA);have g9:=S _ _ m1 (L _ _ b5);have i6:=S _ _ m2 (L _ _ b9);have j2:=d0.mono (P':=RWV K c1 c2 pl HA) λ_ _ z=>(z.same L).ne e9 TA S;have d6:=hc.pow sE (i:=j) ∅;cbv;show ixL (i:=o) (SqL.of g9) a7 ?_;show(pv,p,rl,d3,c1,c2,rx,r,es,pl,E_*8 ^ j,8+j,M,rfl,I,e8,SqL.of i6,j2,a8,d6,U,λv x HB SB fv hx=>?_);have xb:=hx.fb d6 U I;cbv;show(divOk (n:=64) ∅ (.lit ∅ ∅),?_);mpure
        have q9:=Mth.fm (x:=c.fdiv (1+(o:Int))) (y:=9) ⋯;cbv;show ixF0 fv ?_;cbv;show(JhD (.lit ∅ ∅),?_);show ixF1 fv ?_;cbv;mpure
        let(y1,y2,y3,y4):=Jkx (m:=(c.fdiv (1+(o:Int))).fmod 9) hx.lo (hx.nn U I) hx.dv q9.1 ∅;show(_,_,rfl,Jbg xb.b1 ⋯,(xb.s2.mul (n:=4) (by unfold Mth.Sz;decide)).mono ⋯,λzl HC SC eC=>?_);obtain⟨Y,a4⟩:∃ Y:Fr2,Y=(Mth.top (x.1*(c.fdiv (1+(o:Int))).fmod 9) (x.2*8),Mth.bot (x.1*(c.fdiv (1+(o:Int))).fmod 9) (x.2*8)):=⟨_,rfl⟩;have fY:FrV K HC (.ref zl) Y.1 Y.2:=by rw[a4];show FrV.of eC
        rw[<- a4]at y1 y2 y3 y4;have c4:=SB.trans SC;cbv;show ixL (i:=o) (SqL.of (c4 _ _ g9)) a7 ?_;let(a_,vz,vm,rfl,C,_):=e8;show ixT (i:=0) (C.same c4) rfl ?_;show Jjh (a8.same c4) fY ∅ λHD oD i9=>?_;cbv;show h5 _ _ ⟨lj,_,_,_,updF M p.nm Y,rfl,λb u C h=>oD b u C (c4 _ _ (S b u C h)),i9,?_⟩;rw[Int.pow_succ, <- Int.mul_assoc];show FEA.put d6 (U.more 8) I hx y1 y2 y3 y4
       .intro σ HA z_;let(hj,w8,a0,a2,M,rfl,S,a8,U):=z_;rw[length_map]at a8 U;have f5:Same H8 HA:=λb u h=>S b u (Jah h Z) (L _ _ h);cbv;show(.inl ⟨rfl,_,SqL.of (f5 _ _ e5)⟩,?_);show e0 d3 M HA _ _ _ _ _ _ _ f5 (a8.mono ∅) (U.up ∅)
     split
     .show(.inl ⟨rfl,_,SqL.of e7⟩,?_);show(ol,_,rfl,rfl,e7,?_);generalize g3:upd H7 ol _=H8;show key B.reverse H8 (λb u h=>by rw[<- g3,Jai (Jah h g1)];show S7 _ _ h) (by rw[List.map_reverse];show putE g3) (by rw[List.length_reverse,lo,lP]) (λo l=>G o (List.mem_reverse.mp l))
     .show key B H7 S7 e7 (by rw[lo,lP]) G
   .intro σ H6 z_;let(v8,v9,c8,e2,a6,a5,b3,b6,c6,c5,ys,ss,rfl,l,em,hY,d8,f2):=z_;cbv;show k W ys ss H6 (λb u h=>l b u (Jah h (JcN d1 a9)) (d7 _ _ (N _ _ h))) em hY d8
abbrev Bc2:Stmt:=top 69
theorem Jb7:Jan ["_law_script","_law_style","_law_parts_here","_law_spots","_law_gaps_here","_law_rows","_law_thing","_law_told","_law_name_here","_law_slack","_law_stop","_law_ones","_law_other","_law_others_here","_law_found"] ["_law_script"] (Jaf Bc2):=by bv_decide
def Bdo(K:W.Frag):Sp:=λvs H Q E=>∃(a:Addr)(ns:List Int),vs=[.ref a]/\SqL K H a (ns.map V.int)/\ns.length<=63/\∀ H',Q (.bl true) H'
theorem Jmp(F:"law"∘Bc2)(T:Txt K mg Ad)(Bad:1∘"_law_cell"∘["_law_script","_law_k"]∘(JbL K))(Bb5:3∘"_law_parts"∘["_law_script","_law_style"]∘(JcY K))(Bch:3∘"_law_gaps"∘["_law_script","_law_spots","_law_style"]∘(Jdi K))(Bds:KCal P w K mg base 9 "Thing" Ad.Thing ["self","parts","gaps"] (JbK K Ad))(Bdt:9∘"share"∘["thing"]∘(JfS K Ad))(Bb6:4∘"_law_keeps"∘["_law_parts_here","_law_rows","_law_slacks"]∘(JcX K))(Bbu:7∘"is_sharing"∘["thing","slacks"]∘(JcE K Ad))(BbU:5∘"_law_others"∘["_law_script","_law_parts_here","_law_rows","_law_told"]∘(JcI K))(Ba7:3∘"_law_not_fairer"∘["_law_parts_here","_law_here","_law_there"]∘(JbN K))(Bcn:5∘"fairer"∘["thing","ones","others"]∘(JeI K Ad))(Bas:2∘"_law_sorted"∘["_law_parts_here","_law_slacks"]∘(JbZ K)):11∘["_law_script"]∘(Bdo K):=by
 show F.okn Jb7 (by subst_eqs) (λh5 A g0 s H vs Q E o h=>?_)
 let(a,ns,rfl,h):=h;have hu:=o.units;show(_,(Jab (Jaj 1 Jb7.nd (pe_op JaC (Bad.ev o ⋯ rfl passF %[pv 0,Jad|0]) Jad)) (Jab (JkM (Bb5.ev o ⋯ rfl passF %[pv 0,pv 1|0]) (JdU rfl (JaW (Jao 2 Jb7.nd) (JaW (Jao 3 Jb7.nd) Jcx)))) (Jab (JkM (Bch.ev o ⋯ rfl passF %[pv 0,pv 3,pv 1|0]) (JdU rfl (JaW (Jao 4 Jb7.nd) (JaW (Jao 5 Jb7.nd) Jcx)))) (Jab (Jaj 6 Jb7.nd (Bds.ev o ⋯ rfl passF %[pv 2,pv 4|0])) (Jab (Jaj 7 Jb7.nd Jbq rfl (Or.inr rfl)) (Jab (JaI PassesOwn.never rfl (pi_U (Bdt.ev o ⋯ rfl passF %[pv 6|0])) (JdU rfl (JaW (Jao 8 Jb7.nd) (JaW (Jao 9 Jb7.nd) (JaW (Jao 10 Jb7.nd) Jcx)))) (Jag (Jbn (hu1 hu) (pv 7) (pv 8) (pv 9) rfl))) (Jab (JhK (Jbs (j:=11) (own:=["_law_part"]) (cs:=[(7,"_law_told")]) Jb7.nd rfl (Or.inl rfl) rfl (pi_U (pv 2)) (λ_ _ _ _=>(Jao 0 (show[("_law_part" : Str),("_law_told" : Str)].Nodup by decide))) (λ_ _ _ _=>Jb3) (λ_ _ _ _=>(JaN (hu1 hu) (pv 1) (pe_ix (ix_UK (K:=K) rfl) (pv 0) Jad) (λ_ _=>rfl))) (JbF rfl) ⋯ rfl ⋯ (hcs1 rfl rfl rfl))) (Jab (ps_if (PW.pt (pw_or (Jbp (JaX (Bb6.ev o ⋯ rfl passF %[pv 2,pv 5,pv 7|0]))) (Jb4 (Jbp (JaX (Bbu.ev o ⋯ rfl passF %[pv 6,pv 11|0])))))) (Jag (Jaq pe_bl))
   Jav) (Jab (JaI PassesOwn.never rfl (pi_U (BbU.ev o ⋯ rfl passF %[pv 0,pv 2,pv 5,pv 7|0])) (Jao 12 Jb7.nd rfl (Or.inr rfl)) (Jab (JhK (Jbs (j:=13) (own:=["_law_part"]) (cs:=[(12,"_law_other")]) Jb7.nd rfl (Or.inl rfl) rfl (pi_U (pv 2)) (λ_ _ _ _=>(Jao 0 (show[("_law_part" : Str),("_law_other" : Str)].Nodup by decide))) (λ_ _ _ _=>Jb3) (λ_ _ _ _=>(JaN (hu1 hu) (pv 1) (pe_ix (ix_UK (K:=K) rfl) (pv 0) Jad) (λ_ _=>rfl))) (JbF rfl) ⋯ rfl ⋯ (hcs1 rfl rfl rfl))) (Jab (ps_if (PW.pt (pw_or (Jbp (JaX (Bbu.ev o ⋯ rfl passF %[pv 6,pv 13|0]))) (Jb4 (Jbp (JaX (Ba7.ev o ⋯ rfl passF %[pv 2,pv 12,pv 7|0])))))) (Jag (Jaq pe_bl))
   Jav) (Jab (ps_if (Jay JlK (Bcn.ev o ⋯ rfl passF %[pv 6,pv 13,pv 11|0]) pe_bl (JaB _)) (Jag (Jaq pe_bl))
   Jav) (Jab (Jaj 14 Jb7.nd (Bcn.ev o ⋯ rfl passF %[pv 6,pv 11,pv 13|0])) (Jag (ps_if (PW.pt (pw_or (Jbp (JaX (Jar JaS rfl T.BaB Jbc %[pv 14,Jdb (v:=.ty "bool") rfl T.BdY Jil rfl|0]))) (Jb4 (Jay (JcP hu) (pv 14) (Jbx (JcP hu) (Bas.ev o ⋯ rfl passF %[pv 2,pv 7|0]) (Bas.ev o ⋯ rfl passF %[pv 2,pv 12|0]) (JaB _)) (JaB _))))) (Jag (Jaq pe_bl))
   Jav))))))) (Jag (Jaq pe_bl))))))))))),?_)
 clear hu;let(hS,hl,k):=h;have sl:(1000:Nat)<=sizeLine:=by decide
 show tSeq _ _ _ [some (.ref a),none,none,none,none,none,none,none,none,none,none,none,none,none,none] H;cbv;show(a,ns,3,rfl,hS,hl,by decide,by decide,λc0=>?_);cbv;mpure
 have q0:=Mth.fm (x:=c0) (y:=4) ⋯;let(st,f9):=Int.eq_ofNat_of_zero_le q0.1;rw[f9]at q0 ⊢;cbv;show(a,ns,st,rfl,hS,hl,by ac_nf,λq M sd C kv c xs H1 S1 eq ep hP ed hB R hM hT h1 h8 e9 a2 d0=>?_);cbv;show(q,_,rfl,SqT.of eq,rfl,?_);cbv;show(a,sd,M,sd,ns,st,kv,c,xs,rfl,hS.same S1,hl,by ac_nf,ed,hB,R,hM,hT,h8,e9,d0,λq2 gl dl gx dx N H3 S3 e4 eg hX el U d a6 g4=>?_);cbv;show(q2,_,rfl,SqT.of e4,rfl,?_);cbv;intro x a3 hx d8 h2;have b0:All2 (PDV K H3) c C:=hP.mono λp v z=>z.sameT S3.t;have lP:=hP.length;have b8:(c.map (·.nm)).Nodup:=Jgg R.nm;have d3:((N.map (·.1)).map (·.nm)).Nodup:=by
  rw[map_map];show Jgg (f:=λ(e:GD × List Str)=>e.1.nm) a6
 have Sm:Same H3 (upd (upd H3 a3 (.own x)) x (.ins Ad.Thing a3 [])):=λb u q=>by rw[Jai (Jah q hx),Jai (Jah q d8)];show q
 show(x,a3,M,gl,C,gx,c,N.map (·.1),H3,rfl,Jam,hx,Sm,SqL.of (S3 _ _ ep),b0,SqL.of eg,hX.map λe _ v z=>z,by ac_nf,by rw[length_map];ac_nf,R.ok,λg hg=>?_,b8,d3,Jl3 R.tr b8,λg hg=>?_,λH4 S4 tk=>?_)
 .let(e,he,rfl):=mem_map.mp hg;show(d e he).tok
 .let(e,he,rfl):=mem_map.mp hg;show(d e he).con
 have a1:SHC c N (spOf (xs.map (·.1))):=⟨by ac_nf,by ac_nf,by ac_nf,b8,λe he u hu h=>by
   let(e',f4,rfl):=mem_map.mp hu;show congrArg (·.1) (JjY (f:=λ(e:GD × List Str)=>e.1.nm) a6 f4 he h),R.ok,λp hp=>(by have h:=hM.pb p hp;show(⟨h.1.b1,h.1.s2.mono ⋯⟩,h.2.mono ⋯ ⋯)),a2,λe he=>(d e he).tok,λe he=>(d e he).gb,λe he=>(d e he).rb.mono ⋯ ⋯,λf=>R.plb ∅ f,R.pls,λe he w hw hn=>Jkm R hM (d e he).nm (d e he).f1 (d e he).f2 (Jey hw) hn⟩
 have g6:∀ e∈N,FB 101 3 (roomF (spOf (xs.map (·.1))) e.1):=λe he=>(d e he).rb;have r0:∀ e∈N,0<=vl (roomF (spOf (xs.map (·.1))) e.1):=λe he=>(d e he).r0;have b5:∀ p∈c,FB 100 6 p.mo:=λp hp=>(hM.pb p hp).2;have c7:=R.ok;have d9:=S1.trans (S3.trans S4);have e3:=S3.trans S4;have d6:All2 (RWV K gl dl (spOf (xs.map (·.1))) H4) N dx:=U.mono λe v z=>RWV.same S4 z;have c6:All2 (PDV K H4) c C:=b0.mono λp v z=>z.sameT S4.t;have a4:=e3 _ _ ep;have c9:=S4 _ _ el;have f6:=hS.same d9;clear d U R hM hT hB ed eq e4 hX eg a6 d3 hP b0 Sm a2 d9 e3 S4 S3 S1 hS ep el d0 e9 d8 hx;generalize spOf (xs.map (·.1))=pf at *;cbv;rename_i Z d5 h3 H4 H5 S5 e5;cbv;show(x,c,N,pf,rfl,tk.same S5,a1,r0,λtl zs rs H6 S6 L e6 hZ hR=>?_);have lZ:=hZ.length;have g5:=hR.len;let(f,E_,t):=hR.told a1 h8 g4 b5 g6;generalize slF rs=s at t;have d4:tl≠Z:=λz=>by rw[z,e5]at L;cases L
 cbv;show(tl,rfl,ForA.byLN (xs:=zs) (SqL.of e6) (λi σ l=>i<=zs.length/\∃(v8 v9 X:Option V),σ=[some (.ref a),some (.int (st:Int)),some (.ref M),some (.ref sd),some (.ref gl),some (.ref dl),some (.ref x),some (.ref Z),v8,v9,X,none,none,none,none]/\(∀ b u,b≠Z->H6 b=some u->l b=some u)/\SLD K l i Z (c.take i) s) ⟨Nat.zero_le _,none,none,none,rfl,(λb u _ h=>h),[],S6 _ _ e5,Nat.le_refl _,λp hp=>by rw[take_zero]at hp;cases hp⟩ (λi σ l q=>by let(_,_,_,_,_,q,_):=q;show SqL.of (q _ _ d4 e6)) ?_ ?_)
 .intro i y σ H7 hy z_ N0 c2;let(hi,v8,v9,X,rfl,ho,U):=z_;have li:=(List.getElem?_eq_some_iff.mp hy).1;let(r,f0,pr,vs,tt,rfl,e2,e0,_):=hZ.at_ hy;have n:=List.getElem?_eq_getElem (by ac_nf:i<c.length);let(en,f5):=t.row i _ r n f0;have T7:SameT H6 H7:=SameT.of_ne ho (S6 _ _ e5);rw[en]at e2;rw[f5]at e0;cbv;show(pr,_,rfl,e2.sameT T7,rfl,?_);cbv;show Jkq U n (FrV.sameT T7 e0) ∅ λH8 o8 g7=>?_;cbv;show c2 _ _ ⟨li,_,_,_,rfl,λb u hb h=>o8 b u hb (ho b u hb h),g7⟩
 .intro σ H7 z_;let(hi,v8,v9,X,rfl,ho,U):=z_;rw[take_of_length_le ∅]at U;have U:=U.mono (m:=8) ∅;have b6:Same H4 H7:=λb u h=>ho b u (Jah h d5) (S6 _ _ (S5 _ _ h));clear ho S6 S5 e5 e6 L d4 hZ lZ hR g5 hi;have e7:=b6 _ _ a4;have f7:All2 (PDV K H7) c C:=c6.mono λp v z=>z.sameT b6.t;cbv;show(M,rfl, .inl ⟨⟨_,SqL.of e7⟩,CompJ.list (xs:=C) (λi ys l=>l=H7/\All2 (FLV K H7) ((c.take i).map λp=>s p.nm) ys) ⟨rfl,rfl⟩ (λi ys l hi z=>by
   let(rfl,S):=z;have:=S.length;rw[length_map,length_take]at this;show(SqL.of e7,by ac_nf)) ?_ ?_⟩)
  .rintro i y ys l hy ⟨rfl,S⟩;let(p,n,a_,vz,vm,rfl,hb,_):=f7.at_ hy;simpa only[length_singleton,length_cons,length_nil,List.replicate,JaF,map_cons,map_nil,Option.join_some];show ixT (i:=0) hb rfl ?_;show JiK U (List.mem_of_getElem? n) λv fv=>?_;rw[take_succ,n,map_append];show(rfl,S.append (.one fv))
  .rintro oy l ⟨rfl,S⟩;rw[take_of_length_le ∅]at S;rename_i on g8 h4 l H8 S8 e8;cbv;have B:=b6.trans S8;have d7:=S.mono (P':=FLV K H8) λ_ _ z=>z.sameT S8.t;have D8:=U.same S8;have b7:=B _ _ a4;have P8:All2 (PDV K H8) c C:=c6.mono λp v z=>z.sameT B.t;have b3:(c.map λp=>s p.nm).length=c.length:=length_map ..;have c3:=t.fea.fbs t.ctx;cbv;show(M,C,dl,Z,gl,dl,dx,c,N,pf,E_,8,s,rfl,b7,P8,B _ _ c9,d6.mono (λe v z=>RWV.same B z),D8,t.ctx,t.fea,λH9 S9=>?_);cbv;have g3:=B.trans S9;show(x,on,c,N,oy,_,pf,E_,rfl,tk.same g3,SqL.of (S9 _ _ e8),d7.mono (λ_ _ z=>z.sameT S9.t),b3,h8,c3,t.ctx.E1,t.ctx.sE,b5,a1,t.fea.shp t.ctx,λHA SA=>?_);cbv;have a8:=S9.trans SA;have O:=B.trans a8;show(a,M,ns,C,dl,Z,gl,dl,dx,c,N,pf,E_,8,s,rfl,f6.same O,hl,O _ _ a4,c6.mono (λp v z=>z.sameT O.t),h1,O _ _ c9,d6.mono (λe v z=>RWV.same O z),D8.same a8,by decide,t.ctx,t.sE,r0,t.fea,λol e1 h6 HB SB eB f8 g1=>?_);have g2:=a8.trans SB;have c8:=t.ctx.pow t.sE (i:=8) ⋯;cbv;show(ol,rfl,ForA.byLN (xs:=e1) (SqL.of eB) (λi σ l=>i<=e1.length/\∃(a9 a5 c4:Option V),σ=[some (.ref a),some (.int (st:Int)),some (.ref M),some (.ref sd),some (.ref gl),some (.ref dl),some (.ref x),some (.ref Z),v8,v9,X,some (.ref on),a9,a5,c4]/\Same HB l) ⟨Nat.zero_le _,none,none,none,rfl,Same.refl _⟩ (λi σ l q=>by let(_,_,_,_,_,q):=q;show SqL.of (q _ _ eB)) ?_ ?_)
   .intro i y σ HC hy z_ N0 c2;let(hi,a9,a5,c4,rfl,SC):=z_;have li:=(List.getElem?_eq_some_iff.mp hy).1;let(s',f3,od,rfl,hd):=f8.at_ hy;have J:=g1 s' (List.mem_of_getElem? f3);let(w1,w2,w3):=t.none c8 J;have a0:=g2.trans SC;have a7:=hd.same SC;have eC:=a0 _ _ b7;have PC:All2 (PDV K HC) c C:=P8.mono λp v z=>z.sameT a0.t;cbv;show(M,rfl, .inl ⟨⟨_,SqL.of eC⟩,CompJ.list (xs:=C) (λi ys l=>l=HC/\All2 (FLV K HC) ((c.take i).map λp=>s' p.nm) ys) ⟨rfl,rfl⟩ (λi ys l hi z=>by
     let(rfl,S):=z;have:=S.length;rw[length_map,length_take]at this;show(SqL.of eC,by ac_nf)) ?_ ?_⟩)
    .rintro i y ys l hy ⟨rfl,S⟩;let(p,n,a_,vz,vm,rfl,hb,_):=PC.at_ hy;simpa only[length_singleton,length_cons,length_nil,List.replicate,JaF,map_cons,map_nil,Option.join_some];show ixT (i:=0) hb rfl ?_;show JiK a7 (List.mem_of_getElem? n) λv fv=>?_;rw[take_succ,n,map_append];show(rfl,S.append (.one fv))
    .rintro ty l ⟨rfl,hZ⟩;rw[take_of_length_le ∅]at hZ;rename_i ot h0 g9 l HD SD eD;cbv;have I:=a0.trans SD;have b4:(c.map λp=>s' p.nm).length=c.length:=length_map ..;have c1:=J.fbs c8;have b9:=hZ.mono (P':=FLV K HD) λ_ _ z=>z.sameT SD.t;have d1:=d7.mono (P':=FLV K HD) λ_ _ z=>z.sameT I.t;have dD:=a7.same SD;have DD:=D8.same I;have c5:=I _ _ b7;have d2:=I _ _ e8;have PD_:All2 (PDV K HD) c C:=P8.mono λp v z=>z.sameT I.t;have b2:=tk.same (B.trans I);clear hZ PC a7 eC a0;show(x,ot,c,N,ty,_,pf,E_*8 ^ 8,rfl,b2,SqL.of eD,b9,b4,h8,c1,c8.E1,c8.sE,b5,a1,J.shp c8,λHE SE=>?_);cbv;show(M,od,Z,C,c,20,8,s',s,rfl,SE _ _ c5,PD_.mono (λp v z=>z.sameT SE.t),dD.same SE,DD.same SE,c8.bds J,t.ctx.bds t.fea,h8,λHF SF=>?_);have G:=SE.trans SF;rw[w3];cbv;show(x,ot,on,c,_,ty,oy,_,_,rfl,b2.same G,c7,by ac_nf,SqL.of (G _ _ eD),b9.mono (λ_ _ z=>z.sameT G.t),λz hz=>(c1 z hz).1,b4,SqL.of (G _ _ d2),d1.mono (λ_ _ z=>z.sameT G.t),λz hz=>(c3 z hz).1,b3,λHG SG=>?_);have D:=G.trans SG;rw[Jd4,Jd4,show fairB (ordO (c.map λp=>lvl (s' p.nm) p.wt)) (ordO (c.map λp=>lvl (s p.nm) p.wt))=false from w1];show(false,false,rfl,rfl,?_);cbv;show(x,on,ot,c,_,oy,ty,_,_,rfl,b2.same D,c7,by ac_nf,SqL.of (D _ _ d2),d1.mono (λ_ _ z=>z.sameT D.t),λz hz=>(c3 z hz).1,b3,SqL.of (D _ _ eD),b9.mono (λ_ _ z=>z.sameT D.t),λz hz=>(c1 z hz).1,b4,λHI SI=>?_);have Y:=D.trans SI;rw[Jd4,Jd4,show fairB (ordO (c.map λp=>lvl (s p.nm) p.wt)) (ordO (c.map λp=>lvl (s' p.nm) p.wt))=_ from w2];cbv;show("bool",rfl,?_);rw[show(!isiB "bool" "bool")=false from rfl,if_neg ⋯];cbv;show(M,Z,C,c,8,s,rfl,Y _ _ c5,PD_.mono (λp v z=>z.sameT Y.t),DD.same Y,t.ctx.bds t.fea,h8,λl1 y1 HJ SJ _ eJ hJ=>?_);have W:=Y.trans SJ;cbv;show(M,od,C,c,20,s',rfl,W _ _ c5,PD_.mono (λp v z=>z.sameT W.t),dD.same W,c8.bds J,h8,λl2 y2 HL SL _ eL hL=>?_);cbv;have dp:∀ A:List Fr2,depL (A.map frD)<=10:=Jht λa=>by simp[frD,depD,depL]
     show(.lst ((ordO (c.map (lvP s))).map frD), .lst ((ordO (c.map (lvP s'))).map frD),?_,?_,?_,rfl,?_)
     .simp only[Rep];show(l1,y1,rfl,SqL.of (SL _ _ eJ),(hJ.mono (P':=FrL K HL) λ_ _ z=>FrV.sameT SL.t z).repL λ_ _ z=>FrV.rep z)
     .simp only[Rep];show(l2,y2,rfl,SqL.of eL,hL.repL λ_ _ z=>FrV.rep z)
     .have:=dp (ordO (c.map (lvP s)));simp only[depD];ac_nf
     .rw[show eqD (.lst ((ordO (c.map (lvP s))).map frD)) (.lst ((ordO (c.map (lvP s'))).map frD))=_ from JiF];cbv;show c2 _ _ ⟨li,_,_,_,rfl,SC.trans (SD.trans (W.trans SL))⟩
   .intro σ HC z_;let(hi,a9,a5,c4,rfl,SC):=z_;cbv;show k HC
end
theorem lenE1{α}{P:List α->Prop}(h:∀ a,P [a]):∀ us:List α,us.length=1->P us|[a],_=>h a
theorem lenE2{α}{P:List α->Prop}(h:∀ a b,P [a,b]):∀ us:List α,us.length=2->P us|[a,b],_=>h a b
theorem lenE3{α}{P:List α->Prop}(h:∀ a b c,P [a,b,c]):∀ us:List α,us.length=3->P us|[a,b,c],_=>h a b c
theorem lenE4{α}{P:List α->Prop}(h:∀ a b c d,P [a,b,c,d]):∀ us:List α,us.length=4->P us|[a,b,c,d],_=>h a b c d
def FnG(K:W.Frag)(f:Addr)(n q:Str)(s:Stmt)(d:Value):Prop:=∃ fd,FunD K n q s d f fd/\W.keepIn K (.ref f)=true
def FnA(K:W.Frag)(f:Addr)(n:Str)(s:Stmt):Prop:=∃ fd,FunD K n n s .none f fd/\W.keepIn K (.ref f)=true/\W.nsIn K mainGlobals n=some (some (.ref f))
def FnM(K:W.Frag)(C f:Addr)(n q:Str)(s:Stmt):Prop:=FnG K f n q s .none/\W.findIn K (.ref C) n=some (some (.ref f))/\W.isFn K (.ref f)=true
variable{x:Str}{st:Stmt}{oc dc pm cd ct:Value}{od an:Option Addr}{sl:Array (Option Value)}
theorem fnG{K:W.Frag}{f:Addr}{q:Str}{d:Value}{kV:Value}(l:K.lookup f=some ⟨oc,od, .func (W.fnOf x q (Jal st) (Jak st) (Jaf st) d kV dc pm an cd ct),sl⟩)(c:W.codeIn K cd q=true)(k:W.keepIn K (.ref f)=true):FnG K f x q st d:=⟨_,Jap l c k,k⟩
theorem fnA{K:W.Frag}{f:Addr}{kV:Value}(a:W.nsIn K mainGlobals x=some (some (.ref f)))(l:K.lookup f=some ⟨oc,od, .func (W.fnOf x x (Jal st) (Jak st) (Jaf st) .none kV dc pm an cd ct),sl⟩)(c:W.codeIn K cd x=true)(k:W.keepIn K (.ref f)=true):FnA K f x st:=⟨_,Jap l c k,k,a⟩
theorem fnM{K:W.Frag}{C f:Addr}{q:Str}(a:W.findIn K (.ref C) x=some (some (.ref f)))(i:W.isFn K (.ref f)=true)(h:FnG K f x q st .none):FnM K C f x q st:=⟨h,a,i⟩
local macro_rules|`($f:ident∘$n:str)=>`(W.nsIn $(Lean.mkIdent `K) mainGlobals $n=some (some (.ref $f)))|`($i:num∘$n:str∘$t:ident)=>`(FnA $(Lean.mkIdent `K) $(Lean.mkIdent (.mkSimple s!"f{i.getNat}")) $n $t)|`($i:num∘$n:str∘$q:str∘$t:ident)=>`(FnG $(Lean.mkIdent `K) $(Lean.mkIdent (.mkSimple s!"f{i.getNat}")) $n $q $t .none)
local macro_rules|`($c:ident∣$n:str)=>`(W.codeIn $(Lean.mkIdent `K) $c $n=true)
local macro_rules|`(-$f)=>`(W.keepIn $(Lean.mkIdent `K) (.ref $f)=true)
local macro_rules|`($f:ident/$n:str)=>`(W.findIn $(Lean.mkIdent `K) (.ref $f) $n=some none)|`($f:ident/$n:str/$g:ident)=>`(W.findIn $(Lean.mkIdent `K) (.ref $f) $n=some (some (.ref $g)))
local macro_rules|`(!$f:ident)=>`(FunD.binds $f (by bv_omega))
local macro_rules|`(tactic|bv_omega)=>`(tactic|first|exact fun _ _ _ _ _ _=>lenE1 fun _=>rfl|exact fun _ _ _ _ _ _=>lenE2 fun _ _=>rfl|exact fun _ _ _ _ _ _=>lenE3 fun _ _ _=>rfl|exact fun _ _ _ _ _ _=>lenE4 fun _ _ _ _=>rfl)
local macro_rules|`($n:str∘0)=>`(W.nsIn $(Lean.mkIdent `K) mainGlobals $n=some none)|`($c:ident∘$d:ident∘0)=>`(W.kitOne $(Lean.mkIdent `K) (.ref $c) (.ref $d)=some false)|`($c:ident∘$d:ident∘1)=>`(W.kitOne $(Lean.mkIdent `K) (.ref $c) (.ref $d)=some true)|`($c:ident∘$d:ident∘2)=>`(W.mroIn $(Lean.mkIdent `K) $c (.ref $d)=some true)|`($c:ident∘$d:str∘2)=>`(W.mroIn $(Lean.mkIdent `K) $c (.type $d)=some true)|`($c:ident∘0)=>`(W.isFn $(Lean.mkIdent `K) (.ref $c)=true)|`($c:ident∘1)=>`(W.hasDictIn $(Lean.mkIdent `K) $c=true)|`($c:ident∘2)=>`(W.excIn $(Lean.mkIdent `K) $c [.type "ValueError",.type "Exception",.type "BaseException",.type "object"] "ValueError.__new__"=true)|`($c:ident∘$n:str∘$b:str)=>`(W.findIn $(Lean.mkIdent `K) (.ref $c) $n=some (some (.builtin $b)))|`($c:ident∘$i:num∘$n:str∘$q:str∘$t:ident)=>`(FnM $(Lean.mkIdent `K) $c $(Lean.mkIdent (.mkSimple s!"f{i.getNat}")) $n $q $t)|`(!$l:ident*$g)=>`($(Lean.mkIdent `cC) $l $g (by bv_omega))
theorem all_mk{l:W.OpenLaw}{w:World}{K:W.Frag}{h:Heap}{mg:Str->Option Value}{fa:Addr}{NoNumber NoName Part Gap Joints Thing Scale Lid f1 f2 f3 f4 f5 f6 f7 f8 f9 f10 f11 f12 f13 f14 f15 f16 f17 f18 f19 f20 f21 f22 f23 f24 f25 f26 f27 f28 f29 f30 f31 f32 f33 f34 f35 f36 f37 f38 f39 f40 f41 f42 f43 f44 f45 f46 f47 f48 f49 f50 f51 f52 f53 f54 f55 f56 f57 f58 f59 f60 f61 f62 f63 f64 f65 f66 ZERO:Addr}{od66 an66:Option Addr}{sl66:Array (Option Value)}{oc66 kV66 dc66 pm66 cd66 ct66:Value}{Baa:Tok}{Bab:Tok}{Bd3:Option Addr}{Bd4:Nat}{Bd5:Array (Option Value)}{BdV BdW:Tok}(X:K.In h)(G:h.Ns mainGlobals mg)(hfa:mg "law"=some (.ref fa))
 (aa:NoNumber∘"NoNumber") (ab:NoName∘"NoName") (ac:Part∘"Part") (ad:Gap∘"Gap") (ae:Joints∘"Joints") (af:Thing∘"Thing") (ag:Scale∘"Scale") (ah:Lid∘"Lid") (l1:1∘"common_divisor"∘Bak) (l2:2∘"plus"∘BcT) (l3:3∘"minus"∘Bcc) (l4:4∘"times"∘Bcd) (l5:5∘"over"∘BcU) (l6:6∘"under"∘Bce) (l7:7∘"is_name"∘BbE) (l8:8∘"is_whole"∘Bba) (l9:9∘"is_fraction"∘BaE) (l10:10∘"is_bound"∘Bbb) (l11:11∘"are_faces"∘Ba0) (l12:12∘"are_bounds"∘BaM) (l13:13∘"is_tie"∘Bb0) (a14:Part/"__init__"/f14) (l14:14∘"__init__"∘"Part.__init__"∘Bap) (l15:Part∘15∘"plain"∘"Part.plain"∘BaN) (a16:Gap/"__init__"/f16) (l16:16∘"__init__"∘"Gap.__init__"∘Bau) (l17:Gap∘17∘"plain"∘"Gap.plain"∘Ba2) (l18:18∘"is_part"∘BbF) (l19:19∘"is_gap"∘Bb1) (l20:20∘"part_of"∘BbG) (l21:21∘"gap_of"∘Bb2) (a22:Joints/"__init__"/f22) (l22:22∘"__init__"∘"Joints.__init__"∘Bai) (l23:Joints∘23∘"link"∘"Joints.link"∘BaF) (l24:Joints∘24∘"way_between"∘"Joints.way_between"∘Bae) (a25:Thing/"__init__"/f25) (l25:25∘"__init__"∘"Thing.__init__"∘Bal) (l26:Thing∘26∘"parts"∘"Thing.parts"∘BaG) (l27:Thing∘27∘"gaps"∘"Thing.gaps"∘BaO) (l28:Thing∘28∘"way"∘"Thing.way"∘Ba3) (l29:Thing∘29∘"middle"∘"Thing.middle"∘Bav) (l30:Thing∘30∘"room"∘"Thing.room"∘BaP) (a31:Scale/"__init__"/f31) (l31:31∘"__init__"∘"Scale.__init__"∘Bam) (l32:Scale∘32∘"lifted"∘"Scale.lifted"∘Baw) (l33:Scale∘33∘"lowered"∘"Scale.lowered"∘Baq) (l34:34∘"scale_of"∘Bbc) (l35:35∘"part_names"∘BaQ) (a36:Lid/"__init__"/f36) (l36:36∘"__init__"∘"Lid.__init__"∘Bax) (l37:Lid∘37∘"full_level"∘"Lid.full_level"∘Ban) (l38:Lid∘38∘"settle"∘"Lid.settle"∘BaR) (l39:Lid∘39∘"has_stopped"∘"Lid.has_stopped"∘Baj) (l40:40∘"lids_of"∘BbH) (l41:41∘"most_levels"∘BaH) (l42:42∘"coming_stops"∘Bay) (l43:43∘"first_level"∘BaI) (l44:44∘"stopped_at"∘BaT) (l45:45∘"risen_levels"∘Baz) (l46:46∘"gap_stop"∘Bbd) (l47:47∘"share"∘Bcf) (l48:48∘"fits"∘BcW) (l49:49∘"is_sharing"∘BaU) (l50:50∘"in_order"∘Bbf) (l51:51∘"for_weights"∘BaJ) (l52:52∘"fairer"∘Bb3) (l53:53∘"_law_cell"∘Bbg) (l54:54∘"_law_low"∘BbI) (l55:55∘"_law_plus"∘Bbh) (l56:56∘"_law_less"∘Bbi) (l57:57∘"_law_name"∘Bbj) (l58:58∘"_law_parts"∘Ba4) (l59:59∘"_law_gaps"∘Bbk) (l60:60∘"_law_left"∘Bbl) (l61:61∘"_law_filled"∘BaW) (l62:62∘"_law_keeps"∘Ba5) (l63:63∘"_law_sorted"∘BaX) (l64:64∘"_law_not_fairer"∘Bao) (l65:65∘"_law_others"∘BaY) (a66:f66∘"law") (l66:K.lookup f66=some ⟨oc66,od66, .func (W.fnOf "law" "law" (Jal Bc2) (Jak Bc2) (Jaf Bc2) .none kV66 dc66 pm66 an66 cd66 ct66),sl66⟩) (c66:cd66∣"law") (k66:-f66) (ai:"abs"∘0) (aj:"isinstance"∘0) (ak:"len"∘0) (al:"int"∘0) (am:"bool"∘0) (an:"tuple"∘0) (ao:"str"∘0) (ap:"range"∘0) (aq:"list"∘0) (ar:"min"∘0) (au:"sorted"∘0) (av:"all"∘0) (aw:"sum"∘0) (ax:"dict"∘0) (ay:"zip"∘0) (az:W.nsIn K mainGlobals "SMALL_LETTERS"=some (some (.str "abcdefghijklmnopqrstuvwxyz" Baa))) (aA:W.nsIn K mainGlobals "LONGEST_NAME"=some (some (.int 8 Bab))) (aB:ZERO∘"ZERO") (aC:K.lookup ZERO=some ⟨.type "tuple",Bd3, .seq #[.int 0 BdV, .int 1 BdW] Bd4,Bd5⟩) (aD:NoNumber∘2) (aE:NoName∘2) (aF:Mk K Part f14) (aG:Mk K Gap f16) (aH:Mk K Joints f22) (aI:Mk K Thing f25) (aJ:Mk K Scale f31) (aK:Mk K Lid f36) (aZ:PartC K Part) (a0:GapC K Gap) (ba:Jk6 K Joints) (bb:Jl6 K Thing) (bc:Jl5 K Scale) (bd:LidC K Lid)
  : ∃ fd:FuncData,(∀(s:Shared)(v:Value),BindsTo s fd ⟨[v],[]⟩ [("_law_script",v)])/\∀ base:Heap,K.In base->base.Ns mainGlobals mg->FnOk l.prog w K mg base (CX1 l.prog w) 11 fa fd ["_law_script"] (Bdo K):=by
 have e:=hfa.symm.trans (W.mg_of X G a66);cases e;have o:∀{x:Str}{v:Value},W.nsIn K mainGlobals x=some (some v)->mg x=some v:=λh=>W.mg_of X G h;have n:∀{x:Str},W.nsIn K mainGlobals x=some none->mg x=none:=λh=>W.mg_none_of X G h;have T:Txt K mg ⟨NoNumber,NoName,Part,Gap,Joints,Thing,Scale,Lid,(.str "abcdefghijklmnopqrstuvwxyz" Baa),(.int 8 Bab),ZERO⟩:=⟨n ai,n aj,n ak,n al,n am,n an,n ao,n ap,n aq,n ar,n au,n av,n aw,n ax,n ay,o aa,o ab,o ac,o ad,o ae,o af,o ag,o ah,o az,⟨_,rfl⟩,o aA,⟨_,rfl⟩,o aB,rfl,λH=>.inr ⟨_,_,_,aC,rfl,rfl,by show 2<=sizeLine;decide, .cons ⟨_,rfl⟩ (.cons ⟨_,rfl⟩ (.nil))⟩,aD,aE,(λC hC=>by cases hC;show aZ),(λC hC=>by cases hC;show a0),(λC hC=>by cases hC;show ba),(λC hC=>by cases hC;show bb),(λC hC=>by cases hC;show bc),(λC hC=>by cases hC;show bd)⟩;have F66:=Jap l66 c66 k66;show(W.fnOf "law" "law" (Jal Bc2) (Jak Bc2) (Jaf Bc2) .none kV66 dc66 pm66 an66 cd66 ct66,λs v=>.of_eq rfl,λbase _ _=>?_);have cC:∀{ps:List Str}{sp:Sp}{k:Nat}{x:Str}{f:Addr}{st:Stmt},FnA K f x st->(∀{fd:FuncData},FunD K x x st .none f fd->FnOk l.prog w K mg base (CX1 l.prog w) k f fd ps sp)->(∀(kV dc pm:Value)(an:Option Addr)(cd ct:Value)(us:List Value),us.length=ps.length->bindArgs (W.fnOf x x (Jal st) (Jak st) (Jaf st) .none kV dc pm an cd ct) ⟨us,[]⟩=pure (ps.zip us))->Cal l.prog w K mg base k x ps [] sp:=λ⟨_,F,c,a⟩ g b=>⟨_,_,[],g F,o a,c,F.binds b, .nil⟩;have cK:∀{ps:List Str}{sp:Sp}{k:Nat}{x y q:Str}{f C:Addr}{st:Stmt},FnG K f x q st .none->(∀{fd:FuncData},FunD K x q st .none f fd->FnOk l.prog w K mg base (CX1 l.prog w) k f fd ps sp)->W.nsIn K mainGlobals y=some (some (.ref C))->Mk K C f->(∀(kV dc pm:Value)(an:Option Addr)(cd ct:Value)(us:List Value),us.length=ps.length->bindArgs (W.fnOf x q (Jal st) (Jak st) (Jaf st) .none kV dc pm an cd ct) ⟨us,[]⟩=pure (ps.zip us))->KCal l.prog w K mg base k y C ps sp:=λ⟨_,F,_⟩ g a c b=>⟨_,_,g F,o a,c,F.binds b⟩;have cM:∀{ps:List Str}{sp:Sp}{k:Nat}{x q:Str}{f C:Addr}{st:Stmt},FnM K C f x q st->(∀{fd:FuncData},FunD K x q st .none f fd->FnOk l.prog w K mg base (CX1 l.prog w) k f fd ps sp)->Cls K C->(∀(kV dc pm:Value)(an:Option Addr)(cd ct:Value)(us:List Value),us.length=ps.length->bindArgs (W.fnOf x q (Jal st) (Jak st) (Jaf st) .none kV dc pm an cd ct) ⟨us,[]⟩=pure (ps.zip us))->MCal l.prog w K mg base k x (·=C) ps sp:=λ⟨⟨_,F,c⟩,a,i⟩ g d b=>⟨_,_,g F,(λD e=>by cases e;show(d,a,i,c)),c,F.binds b⟩;have be:=!l1*(JdI · T);have bf:=!l2*(JlF · T be);have bg:=!l3*(Jj0 · T bf);have bh:=!l4*(Jj2 · T be);have bi:=!l5*(JlE · T bh);have bj:=!l6*(Jj3 · T);have bk:=!l7*(Jh6 · T);have bl:=!l8*(JgU · T);have bm:=!l9*(JeW · T bl be);have bn:=!l10*(JgT · T bm);have bo:=!l11*(Jgk · T bk);have bp:=!l12*(Jfx · T bn bj);have bq:=!l13*(JiZ · T bk bo bp);have br:=cK l14 (JdY · T) ac aF (by bv_omega);have bs:=cM l15 (Jfu · T) aZ.cls (by bv_omega);have bt:=cK l16 (Jeq · T) ad aG (by bv_omega);have bu:=cM l17 (Jgi · T) a0.cls (by bv_omega);have bv:=!l18*(Jh7 · T bk bo bm bl bj);have bw:=!l19*(JiY · T bq);have bx:=!l20*(Jia · T bv br);have bz:=!l21*(JiX · T bw bt);have bA:=cK l22 (Jdo · T) ae aH (by bv_omega);have bB:=cM l23 (JeS · T) ba.cls (by bv_omega);have bC:=cM l24 (JcS · T) ba.cls (by bv_omega);have bD:=cK l25 (JdH · T bA bx bz bC bB) af aI (by bv_omega);have bE:=cM l26 (JeT · T bs) bb.cls (by bv_omega);have bF:=cM l27 (Jfv · T bu) bb.cls (by bv_omega);have bG:=cM l28 (Jgj · T) bb.cls (by bv_omega);have bH:=cM l29 (Jet · T bG bf bg) bb.cls (by bv_omega);have bI:=cM l30 (Jfw · T bH bg bj) bb.cls (by bv_omega);have bJ:=cK l31 (JdG · T be) ag aJ (by bv_omega);have bK:=cM l32 (Jes · T be) bc.cls (by bv_omega);have bL:=cM l33 (JdZ · T be) bc.cls (by bv_omega);have bM:=!l34*(Jg1 · T bE bF bJ);have bN:=!l35*(JfC · T bG);have bO:=cK l36 (Jer · T) ah aK (by bv_omega);have bP:=cM l37 (JdF · T bi) bd.cls (by bv_omega);have bQ:=cM l38 (Jft · T bg bh) bd.cls (by bv_omega);have bR:=cM l39 (Jdp · T) bd.cls (by bv_omega);have bS:=!l40*(Jh9 · T bE bF bI bj bN bO bK);have bT:=!l41*(JeX · T bE bK bi);have bU:=!l42*(Jeu · T bP);have bV:=!l43*(JeU · T bj);have bW:=!l44*(JfD · T);have bX:=!l45*(Jev · T bU bV bW bQ);have bY:=!l46*(JgR · T bR);have bZ:=!l47*(Jj1 · T bM bS bT bX bE bL bh bY);have b0:=!l48*(JlD · T bf bj);have ca:=!l49*(Jfy · T bM bE bF bj bK bN b0 bI);have cb:=!l50*(JgS · T bj);have cc:=!l51*(JeV · T bE bi);have cd:=!l52*(JiW · T cb cc bj);have ce:=!l53*(JgV · T);have cf:=!l54*(Jh8 · T);have cg:=!l55*(Jg0 · T cf);have ch:=!l56*(JgY · T);have ci:=!l57*(JgZ · T);have cj:=!l58*(Jgm · T ce ci cf cg);have ck:=!l59*(JgW · T ce ci cf cg ch);have cl:=!l60*(JgX · T cg ch);have cm:=!l61*(Jfz · T cl);have cn:=!l62*(Jgl · T cl ch);have co:=!l63*(JfB · T cf ch);have cp:=!l64*(JdJ · T co ch);have cq:=!l65*(JfA · T ce cm cf cl);show Jmp F66 T ce cj ck bD bZ cn ca cq cp cd co
theorem walk{l:PySem.W.OpenLaw}{q:Program}{loose:List Str}{XP:(Str->Option Value)->Heap->Prop}{YP:World->Heap->Prop}{d:DefRec}{K:Params->PySem.W.Frag}(hn:l.most=some 63)(hdf:d.params.defaults=[])
  (hY:∀(w:World)(h:Heap),YP w h->(K w.params).In h)
  (F:∀(w:World)(mg:Str->Option Value)(fa:Addr)(h:Heap),(K w.params).In h->h.Ns mainGlobals mg->mg d.name=some (.ref fa) ->
   ∃ fd:FuncData,(∀(s:Shared)(u:Value),BindsTo s fd ⟨[u],[]⟩ [("_law_script",u)])/\∀ base:Heap,(K w.params).In base->base.Ns mainGlobals mg->FnOk l.prog w (K w.params) mg base (CX1 l.prog w) 11 fa fd ["_law_script"] (Bdo (K w.params))) :
  PySem.W.WalkO q loose XP YP l.row.toRowW d [] (λf vs=>PySem.call f vs) :=
 L2.JjH (n:=63) (k:=11) (x:="_law_script") (CX:=λw=>CX1 l.prog w) (sp:=λw=>Bdo (K w.params)) hn (by decide) hdf ⟨rfl,by decide,by decide⟩ hY F (λ_ _ a ns hl _ hS=>⟨a,ns,rfl,hS,hl,λ_=>rfl⟩) λ_ _ _ _ _ z=>by
  let(_,_,_,_,_,_,_,_,_,_,_,_,z):=z;show z
end Prg
open PySem PySem.W PyProof.Rows
local macro_rules|`(command|universe $x)=>do return Lean.mkNullNode (<-(((List.range 692).map (fun i=>s!"o_{i+43}")++"tree_93 view_39 sts_272 sts_220 sts_169 sts_64 tree_168 sts_548 tree_153 tree_584 env_41 sts_389 sts_49 tree_388 tree_219 tree_78 tree_503 tree_547 heap_46 tree_108 sts_333 tree_466 tree_734 sts_79 tree_63 sts_639 sts_585 sts_723 sts_124 tree_271 sts_94 tree_47 tree_332 sts_139 sts_154 heap_39 sts_504 tree_638 sts_109 heap_735 tree_722 sts_467 tree_138 tree_123".splitOn " ").map ((`PySem.Challenge.cw_slackchain_k57_whole_none_is_fairer_holds).str ·)++[`PySem.Challenge.pw_slackchain_k57_whole_none_is_fairer]).toArray.mapM fun x=>`(command|noncomputable def $(Lean.mkIdent (.str `PySem.W.Fast s!"tw{x.hash}")):ident:Nat:=0))
universe x
set_option maxRecDepth 100000 in
set_option maxHeartbeats 0 in
theorem PySem.Challenge.cw_slackchain_k57_whole_none_is_fairer_holds : PySem.Challenge.rw_slackchain_k57_whole_none_is_fairer.Holds := by
 w_on;o_law;k_head;(case hw=>w_witness2)
 k_fill
 refine Prg.walk (l:=PySem.Challenge.rw_slackchain_k57_whole_none_is_fairer) rfl rfl (fun w h Y=>PySem.W.kIn_of Y) ?F;case F=>
  intro w mg fa h KX G hmg;refine' Prg.all_mk KX G hmg ..;all_goals try repeat' first|with_reducible refine' Prg.fnM ..|with_reducible refine' Prg.fnA ..|with_reducible refine' Prg.fnG ..|with_reducible apply Prg.PartC.mk|with_reducible apply Prg.GapC.mk|with_reducible apply Prg.Jk6.mk|with_reducible apply Prg.Jl6.mk|with_reducible apply Prg.Jl5.mk|with_reducible apply Prg.LidC.mk|with_reducible apply L2.Cls.mk|with_reducible apply L2.Mk.mk|k_is|k_exc|(show _=_;k_is)|kit_is
