import PyProof.Rows.All
import Wide.All
import OpenK.AllK
import Wide.FinOn
import Lean
import PyProof.EqAt
import PyProof.EqKinds
import PyProof.TupleCall
import PyProof.ZipIter
import PyProof.Rows.SetFrom
import PyProof.Rows.SortStr
import KE.KDictList
import PyProof.AttrMissHeap
import KE.KDictOf
import KE.KDictLaws
import KE.KRevIter
import PyProof.CollectIter
import PyProof.FactsAll.range_2
import PyProof.FactsAll.range_iterator_1
import PyProof.WalksEnum
import PyProof.EnumMake
import PyProof.Rows.Range3
import PySem.Challenge.RW_slackchain_k61_a_part_measured
set_option Elab.async false
set_option linter.all false
set_option maxRecDepth 100000
open List (mem_filter mem_cons_self mem_cons_of_mem mem_cons mem_append mem_append_right length_cons map_cons length_map append_nil nodup_cons of_mem_zip length_take length_append size_toArray any_cons length_singleton map_nil cons_append length_nil not_mem_nil mem_singleton mem_map take_of_length_le take_zero take_succ map_append mem_flatMap nodup_append nil_append filter_append map_map)
local macro_rules(kind:=Lean.Parser.Command.declaration)|s=>do
  let m:=s[0]
  if m.getArgs.all (·.getNumArgs==0)&&(s[1].isOfKind `Lean.Parser.Command.definition||s[1].isOfKind `Lean.Parser.Command.abbrev)&&s.getHeadInfo matches .original .. then return s.setArg 0 (m.setArg 4 (Lean.mkNullNode #[Lean.mkNode `Lean.Parser.Command.noncomputable #[Lean.mkAtom "noncomputable"]])) else Lean.Macro.throwUnsupported
local macro_rules(kind:=Lean.Parser.Tactic.tacticLet__)|s=>do
  let m x:=Lean.mkNode `Lean.Parser.Tactic.rcasesPatMed #[Lean.mkNullNode #[x]]
  let g(r:Lean.Syntax->Lean.Syntax)(x:Lean.Syntax):Lean.Syntax:=if x.isIdent then Lean.mkNode `Lean.Parser.Tactic.rcasesPat.one #[x] else if x.isOfKind `Lean.Parser.Term.tuple then Lean.mkNode `Lean.Parser.Tactic.rcasesPat.tuple #[Lean.mkAtom "⟨",Lean.mkNullNode ((#[x[1][0],x[1][1]]++x[1][2].getArgs).map λy=>if y.isAtom then y else Lean.mkNode `Lean.Parser.Tactic.rcasesPatLo #[m (r y),Lean.mkNullNode]),Lean.mkAtom "⟩"] else Lean.mkNode `Lean.Parser.Tactic.rcasesPat.ignore #[x[0]]
  let d:=s[2][0]
  if !d[0].isOfKind `Lean.Parser.Term.tuple then Lean.Macro.throwUnsupported
  let h p v:Lean.TSyntax `tactic:=⟨Lean.mkNode `Lean.Parser.Tactic.obtain #[Lean.mkAtom "obtain",Lean.mkNullNode #[m (g (g (g (g id))) p)],Lean.mkNullNode,Lean.mkNullNode #[Lean.mkAtom ":=",Lean.mkNullNode #[v]]]⟩
  let o:=h d[0] d[4]
  let e:Array Lean.Term:=((#[d[0][1][0]]++d[0][1][2].getArgs).filter (!·.isAtom)).map (⟨·⟩)
  let i(x:Lean.Term):=x.raw.isIdent&&x.raw.getId != `rfl||x.raw.isOfKind `Lean.Parser.Term.hole
  let w:=(e.takeWhile i).size
  if e.size<4 then return o
  let f(c:Lean.Name)(k:Nat):Lean.MacroM (Lean.TSyntax `tactic):=do
    if w<k&&k != 1||e.size<=k||e.size==k+1&&w<=k then return<-`(tactic|fail)
    let mut b:=e.extract 0 k
    let mut u:Lean.TSyntax `tactic<-`(tactic|skip)
    if w==0 then
      let x<-`(x)
      u:=h b[0]! x
      b:=#[x]
    let(r,t):Lean.Term×Lean.TSyntax `tactic<-if e.size==k+1 then pure (e[k]!,<-`(tactic|skip)) else pure (<-`(r),<-`(tactic|let ($(e[k]!),$(e.extract (k+1) e.size),*):=r))
    let v:Lean.Term:=⟨d[4]⟩
    if v.raw.isIdent then `(tactic|(revert $(⟨v.raw⟩):ident;refine fun q=>$(Lean.mkIdent c) q fun $b* $r=>?_;clear q;$u;$t)) else `(tactic|(refine $(Lean.mkIdent c) $v fun $b* $r=>?_;$u;$t))
  `(tactic|first|($(<-f `L2.ex6 6):tactic)|($(<-f `L2.an6 6):tactic)|($(<-f `L2.ex3 3):tactic)|($(<-f `L2.an3 3):tactic)|($(<-f `Exists.elim 1):tactic)|($(<-f `L2.an1 1):tactic)|($o:tactic))
local macro_rules|`(tactic|show $t:term)=>do
  let x:=t.raw
  if !x.isOfKind `Lean.Parser.Term.tuple then return<-`(tactic|first|refine $t|change $t)
  let a:=#[x[1][0],x[1][1]]++x[1][2].getArgs
  let c(a:Array Lean.Syntax):Lean.Term:=⟨Lean.mkNode `Lean.Parser.Term.anonymousCtor #[Lean.mkAtom "⟨",Lean.mkNullNode a,Lean.mkAtom "⟩"]⟩
  let f(n:Lean.Name)(k:Nat):Lean.MacroM (Lean.TSyntax `tactic):=if a.size<2*k+1 then `(tactic|fail) else
    let e:Array Lean.Term:=((Array.range k).map λi=>⟨a[2*i]!⟩).push (if a.size==2*k+1 then ⟨a[2*k]!⟩ else c (a.extract (2*k) a.size))
    `(tactic|refine $(Lean.mkIdent n) $e*)
  if a.size<6 then `(tactic|first|refine $(c a)|change $t) else `(tactic|first|($(<-f `L2.xi6 6):tactic)|($(<-f `L2.xi3 3):tactic)|refine $(c a)|change $t)
local macro_rules|`(tactic|ac_nf)=>`(tactic|first|lia|omega)
local macro_rules|`(⋯)=>`(by decide)
local macro_rules|`(∅)=>`(by ac_nf)
local macro_rules|`(tactic|subst_eqs)=>`(tactic|(intro _ _ _ _ h;(repeat obtain ⟨_,h⟩:=h);subst_vars;rfl))
local macro_rules|`(tactic|decreasing_tactic)=>`(tactic|first|exact $(Lean.mkIdent `L2.Jae) rfl|rfl|exact .inl rfl|exact .inr rfl|exact .inr (.inl rfl)|exact .inr (.inr rfl)|exact fun _=>rfl|exact fun _ _=>rfl|assumption|decide)
namespace L2
theorem xi3{α β γ:Sort _}{p:α->β->γ->Prop}(a b c)(h:p a b c):∃ a b c,p a b c:=⟨a,b,c,h⟩
theorem xi6{α β γ δ ε ζ:Sort _}{p:α->β->γ->δ->ε->ζ->Prop}(a b c d e f)(h:p a b c d e f):∃ a b c d e f,p a b c d e f:=⟨a,b,c,d,e,f,h⟩
theorem Au0(_:True:=by decreasing_tactic):True:=⟨⟩
@[reducible]def Au:=Au0._auto_1
theorem ex3{α β γ:Sort _}{p:α->β->γ->Prop}{r:Prop}:(∃ a b c,p a b c)->(∀ a b c,p a b c->r)->r:=λ⟨a,b,c,h⟩ k=>k a b c h
theorem ex6{α β γ δ ε ζ:Sort _}{p:α->β->γ->δ->ε->ζ->Prop}{r:Prop}:(∃ a b c d e f,p a b c d e f)->(∀ a b c d e f,p a b c d e f->r)->r:=λ⟨a,b,c,d,e,f,h⟩ k=>k a b c d e f h
theorem an1{a b r:Prop}(h:a/\b)(k:a->b->r):r:=k h.1 h.2
theorem an3{a b c d r:Prop}:a/\b/\c/\d->(a->b->c->d->r)->r:=λh k=>k h.1 h.2.1 h.2.2.1 h.2.2.2
theorem an6{a b c d e f g r:Prop}:a/\b/\c/\d/\e/\f/\g->(a->b->c->d->e->f->g->r)->r:=λh k=>an3 h λx y z h=>an3 h (k x y z)
open PySem PySem.Spec PyProof.Rows
abbrev Key:=Sum Bool Str
def isBoolOf:Bool->Value->Bool
 | b, .bool c=>b == c
 | _,_=>false
variable{b:Bool}
theorem JeR{v:Value}(h:isBoolOf b v=true):v=.bool b:=by
 cases v <;> simp_all [isBoolOf]
def keyIs:Key->Value->Bool
 | .inl k,v=>isBoolOf k v
 | .inr x,v=>Value.isStrOf x v
def keyH(w:World):Key->Int
 | .inl k=>hashInt (if k then 1 else 0)
 | .inr x=>hashStr w x
theorem JaP:∀{k:Key}{v:Value},keyIs k v=true->(∃ i,k=Sum.inl i/\v=Value.bool i)\/(∃ x t,k=Sum.inr x/\v=Value.str x t)
 | .inl i,v,h=>.inl ⟨i,rfl,JeR h⟩
 | .inr x,v,h=>by
  let(t,e):=Value.isStrOf_shape (x:=x) (v:=v) h;show .inr ⟨x,t,rfl,e⟩
theorem Jia(i:Bool):keyIs (.inl i) (.bool i)=true:=by simp[keyIs,isBoolOf]
theorem JiV(x:Str)(t:Tok):keyIs (.inr x) (.str x t)=true:=by simp[keyIs,Value.isStrOf]
theorem JmJ(a b:Bool):decide ((Sum.inl a:Key)=Sum.inl b)=(a == b):=by cases a <;> cases b <;> rfl
theorem JmM(a b:Str):decide ((Sum.inr a:Key)=Sum.inr b)=decide (a=b):=by
 by_cases e:a=b
 .subst e;simp
 .have h:¬(Sum.inr a:Key)=Sum.inr b:=λq=>e (Sum.inr.inj q);rw[decide_eq_false h,decide_eq_false e]
theorem JmK(a:Bool)(b:Str):decide ((Sum.inl a:Key)=Sum.inr b)=false:=decide_eq_false (λq=>nomatch q)
theorem JmL(a:Str)(b:Bool):decide ((Sum.inr a:Key)=Sum.inl b)=false:=decide_eq_false (λq=>nomatch q)
variable{prog:Program}{A:Around}{E:Value->Shared->Prop}
theorem Jhd{w:World}{s:Shared}{Q:Int->Shared->Prop}(h:Q (hashInt (if b then 1 else 0)) { s with toks:=s.toks+1 }) :
  wpAny (model prog w) A (pyHash (.bool b)) Q E s:=by
 have c:=rawHash_range (if b then 1 else 0);have a:s.TypeIs (.bool b) "bool":=rfl;unfold pyHash;have d:[Value.bool b].any Value.onHeap=false:=rfl;show wpAny_bind ?_;rw[cRoomFor,if_neg (by rw[d];show Bool.false_ne_true)];show wpAny_pure ?_;show wpAny_bind (wpAny_specialOf a F.slot_bool_hash.lookup ?_);show wpAny _ _ (if(some (Value.builtin "int.__hash__") == some Value.none)=true then _ else _) Q E s;rw[if_neg (by rw[beq_builtin_none];show Bool.false_ne_true)];show wpAny_bind (wpAny_specialOf a F.slot_bool_hash.lookup ?_);show wpAny _ _ (callSpecialIfBoundUnlessNone? (.bool b) "__hash__" _ >>= _) Q E s;show wpAny_bind (wpAny_callSpecialIfBoundUnlessNone?_slot a F.slot_bool_hash
  (wpAny_call_entry F.slot_bool_hash a entry_int_hash
   (show wpAny _ _ (do ret (<- mkInt (rawHash (if b then 1 else 0)))) _ _ s from wpAny_ret_mkInt ?_) (args_int_hash _)))
 show wpAny _ _ (if(decide (-(2:Int) ^ 63<=rawHash (if b then 1 else 0))&&decide (rawHash (if b then 1 else 0)<2 ^ 63))=true then _ else _) Q E _;rw[if_pos (by rw[decide_eq_true c.1,decide_eq_true c.2];rfl)];show wpAny_pure h
def Jaw(prog:Program)(w:World):PySem.KeyKind prog w Key where
 is:=keyIs
 hash:=keyH w
 inj:=λv a b ha hb=>by
  rcases JaP ha with⟨i,rfl,rfl⟩ | ⟨x,t,rfl,rfl⟩
  .rcases JaP hb with⟨j,rfl,e⟩ | ⟨y,u,rfl,e⟩
   .injection e with e1;rw[e1]
   .show nomatch e
  .rcases JaP hb with⟨j,rfl,e⟩ | ⟨y,u,rfl,e⟩
   .show nomatch e
   .injection e with e1 _;rw[e1]
 byValue:=λk v h=>by
  rcases JaP h with⟨i,rfl,rfl⟩ | ⟨x,t,rfl,rfl⟩ <;> rfl
 pyHash:=λhv h=>by
  rcases JaP hv with⟨i,rfl,rfl⟩ | ⟨x,t,rfl,rfl⟩
  .show Jhd h
  .show wpAny_pyHash_str h
 eqBool:=λhu hv h=>by
  rcases JaP hu with⟨i,rfl,rfl⟩ | ⟨x,t,rfl,rfl⟩
  .rcases JaP hv with⟨j,rfl,rfl⟩ | ⟨y,u,rfl,rfl⟩
   .rw[JmJ]at h;show SeqAt.EqAt.bool_bool i j _ _ _ _ h
   .rw[JmK]at h;show SeqAt.EqAt.bool_str i y u _ _ _ _ h
  .rcases JaP hv with⟨j,rfl,rfl⟩ | ⟨y,u,rfl,rfl⟩
   .rw[JmL]at h;show SeqAt.EqAt.str_bool x t j _ _ _ _ h
   .rw[JmM]at h;show wpAny_eqBool_str h
 «strs»:=λk x t v h=>by
  rcases JaP h with⟨i,rfl,e⟩ | ⟨y,u,rfl,e⟩
  .show nomatch e
  .injection e with e1 _
   subst e1;cases v <;> rfl
theorem Jgk(prog:Program)(w:World)(i:Bool):(Jaw prog w).is (.inl i) (.bool i)=true:=Jia i
theorem JgV(prog:Program)(w:World)(x:Str)(t:Tok):(Jaw prog w).is (.inr x) (.str x t)=true:=JiV x t
inductive V where
 | non | bl (b:Bool) | int (i:Int) | str (x:Str) | byt (b:Array UInt8) | flt (b:UInt64) | ref (a:Addr) | ty (n:String)
 deriving DecidableEq
def RelV:V->Value->Prop
 | .non,u=>u=Value.none
 | .bl b,u=>u=Value.bool b
 | .int i,u=>∃ t,u=Value.int i t
 | .str x,u=>∃ t,u=Value.str x t
 | .byt b,u=>∃ t,u=Value.bytes b t
 | .flt b,u=>∃ t,u=Value.float b t
 | .ref a,u=>u=Value.ref a
 | .ty n,u=>u=Value.type n
abbrev Vals:List V->List Value->Prop:=Paired RelV
variable{xs:List V}{us:List Value}
theorem Vals.length(r:Vals xs us):xs.length=us.length:=Paired.length r
theorem Vals.get{i:Nat}{x:V}(h:Vals xs us):xs[i]?=some x->∃ u,us[i]?=some u/\RelV x u:=by
 induction h generalizing i with
 | nil=>showλe=>by cases e
 | cons r _ ih=>
  cases i with
  | zero=>showλe=>by cases e;show(_,rfl,r)
  | succ i=>showλe=>ih e
variable{ys:List V}
theorem Vals.append{ws:List Value}(h:Vals xs us)(s:Vals ys ws):Vals (xs++ys) (us++ws):=by
 induction h with
 | nil=>show s
 | cons r _ ih=>show .cons r ih
theorem Vals.take(n:Nat)(h:Vals xs us):Vals (xs.take n) (us.take n):=by
 induction h generalizing n with
 | nil=>cases n <;> show .nil
 | cons r _ ih=>
  cases n with
  | zero=>show .nil
  | succ n=>show .cons r (ih n)
theorem Vals.drop:∀{xs:List V}{us:List Value}(n:Nat),Vals xs us->Vals (xs.drop n) (us.drop n)
 | _,_,0,r=>r
 | _,_,_+1, .nil=>.nil
 | _,_,n+1, .cons _ t=>Vals.drop n t
def RelO:Option V->Option Value->Prop
 | some v,some u=>RelV v u
 | none,none=>True
 | _,_=>False
def KV{κ:Type}:List (κ × V)->List (κ × Value)->Prop:=Paired λ(p : κ × V)(q : κ × Value)=>p.1=q.1/\RelV p.2 q.2
def kV:Key->V
 | .inl i=>.bl i
 | .inr x=>.str x
inductive HO where
 | lst (xs:List V)
 | tup (xs:List V)
 | dK (kvs:List (Key × V)) | dT (kvs:List (List Key × V))
 | set (S:Int->Bool) (n:Nat)
 | ins (C dx:Addr) (fs:List (Str × V))
 | own (x:Addr)
 | xd (fs:List (Str × V))
 | met (f x:Addr)
 | rng (lo hi:Int)
 | frz (o:Obj) (u:HO)
 | tbl (ps:Array Value)
 | ext (φ : Heap->Prop)
abbrev Hp:=Addr->Option HO
def upd(H:Hp)(a:Addr)(o:HO):Hp:=λb=>if b=a then some o else H b
variable{H:Hp}{a:Addr}{o:HO}
theorem Jak:upd H a o a=some o:=by unfold upd;rw[if_pos rfl]
variable{b:Addr}
theorem Jah(h:b≠a):upd H a o b=H b:=by unfold upd;rw[if_neg h]
variable{u:HO}
theorem ne_of(h:H a=some o)(h':H b=some u)(d:o≠u):a≠b:=by
 intro e;subst e;rw[h]at h';show d (Option.some.inj h')
theorem Jai(h:H a=some o)(h':H b=none):a≠b:=by
 intro e;subst e;rw[h]at h';cases h'
section
variable(P:Program)(w:World)
def ObjOk(H:Hp)(h:Heap)(a:Addr):HO->Prop
 | .lst xs=>xs.length<=sizeLine/\∃(its:List Value)(n:Nat),Vals xs its/\h.get? a=some { cls:=.type "list",data:=.seq its.toArray n }
 | .tup xs=>xs.length<=sizeLine/\∃ its:List Value,Vals xs its/\IsTup h a its.toArray
 | .dK kvs=>kvs.length<=sizeLine/\(a == sysModules)=false/\∃ vs,KV kvs vs/\h.DictOf (Jaw P w) a vs
 | .dT kvs=>kvs.length<=sizeLine/\(a == sysModules)=false/\∃ xs:List (List Key × Addr × Value),
   Paired (λ(p:List Key × V)(q:List Key × Addr × Value)=>p.1=q.1/\H q.2.1=some (.tup (p.1.map kV))/\RelV p.2 q.2.2) kvs xs /\
   ∃ o es ep,h.get? a=some o/\o.ExactDict/\o.data=.dict es ep/\es.toList=xs.map (entryOfKey (tupleKind (Jaw P w)))/\(xs.map (·.1)).Nodup
 | .set S n=>h.SetOf (intKind P w) a S n
 | .ins C dx fs=>H dx=some (.own a)/\fs.length<=1000/\dx≠a/\h.get? a=some (W.instObj C dx) /\
   ∃ mA,h.Ns1 dx mA/\(∀ f,RelO (fs.lookup f) (mA f))/\PySem.Within mA (fs.map (·.1))
 | .own _=>∃ o,h.get? a=some o
 | .xd fs=>∃ mA,h.Ns1 a mA/\∀ f,RelO (fs.lookup f) (mA f)
 | .rng lo hi=>∃ t u v,h.get? a=some { cls:=.type "range",data:=.fields #[.int lo t, .int hi u, .int 1 v] }
 | .frz o u=>h.get? a=some o/\ObjOk H h a u
 | .tbl ps=>h.get? a=some { cls:=.none,data:=.fields ps }
 | .met f x=>h.get? a=some (W.methodObj (.ref f) (.ref x))
 | .ext φ=>φ h/\(∃ o,h.get? a=some o)/\∀ h1 h2:Heap,φ h1->(∀ o,h1.get? a=some o->h2.get? a=some o)->φ h2
def HOk(H:Hp)(h:Heap):Prop:=∀ a o,H a=some o->ObjOk P w H h a o
end
section
variable{P:Program}{H':Hp}{h h':Heap}{w:World}
theorem ObjOk.lt(x:ObjOk P w H h a o):a<h.objs.size:=by
 cases o with
 | lst xs=>let(_,_,_,_,e):=x;show Heap.lt_size e
 | tup xs=>let(_,_,_,p):=x;show p.lt
 | dK kvs=>let(_,_,_,_,o,_,_,e,_):=x;show Heap.lt_size e
 | dT kvs=>let(_,_,_,_,o,_,_,e,_):=x;show Heap.lt_size e
 | set S n=>let(o,_,_,_,e,_):=x;show Heap.lt_size e
 | ins C dx fs=>let(_,_,_,e,_):=x;show Heap.lt_size e
 | own y=>let(_,e):=x;show Heap.lt_size e
 | xd fs=>let(_,(_,_,_,e,_),_):=x;show Heap.lt_size e
 | rng lo hi=>let(_,_,_,e):=x;show Heap.lt_size e
 | frz ob u=>let(e,_):=x;show Heap.lt_size e
 | tbl ps=>show Heap.lt_size (show h.get? a=some _ from x)
 | met f y=>show Heap.lt_size (show h.get? a=some _ from x)
 | ext φ=>let(_,(_,e),_):=x;show Heap.lt_size e
variable{α:Type}
theorem Paired.mapP{β:Type}{F G : α->β->Prop}{l₁ : List α}{l₂ : List β}(h:Paired F l₁ l₂)(f:∀ a b,F a b->G a b):Paired G l₁ l₂:=by
 induction h with
 | nil=>show .nil
 | cons r _ ih=>show .cons (f _ _ r) ih
theorem ObjOk.stay(x:ObjOk P w H h a o)(k:∀ b u,(b=a\/H b=some (.own a))->h.get? b=some u->h'.get? b=some u)
  (ho:∀ b,H b=some (.own a)->H' b=some (.own a)) (ht:∀ b xs,H b=some (.tup xs)->H' b=some (.tup xs)):ObjOk P w H' h' a o:=by
 induction o with
 | lst xs=>let(z,l,n,r,e):=x;show(z,l,n,r,k _ _ (.inl rfl) e)
 | tup xs=>let(z,l,r,g,e,c):=x;show(z,l,r,g,k _ _ (.inl rfl) e,c)
 | dK kvs=>let(z,y,E,r,g,j,i,e,c):=x;show(z,y,E,r,g,j,i,k _ _ (.inl rfl) e,c)
 | dT kvs=>
  let(z,y,xs,r,g,j,i,e,c):=x;show(z,y,xs,Paired.mapP r λp q z=>⟨z.1,ht _ _ z.2.1,z.2.2⟩,g,j,i,k _ _ (.inl rfl) e,c)
 | set S n=>let(g,j,i,t,e,c):=x;show(g,j,i,t,k _ _ (.inl rfl) e,c)
 | ins C dx fs=>
  let(d,z,D,e,m,(s,j,i,B,c),r):=x;show(ho _ d,z,D,k _ _ (.inl rfl) e,m,⟨s,j,i,k _ _ (.inr d) B,c⟩,r)
 | own y=>let(g,e):=x;show(g,k _ _ (.inl rfl) e)
 | xd fs=>let(m,(s,j,i,e,c),r):=x;show(m,⟨s,j,i,k _ _ (.inl rfl) e,c⟩,r)
 | rng lo hi=>let(t,u,v,e):=x;show(t,u,v,k _ _ (.inl rfl) e)
 | frz g u ih=>let(e,q):=x;show(k _ _ (.inl rfl) e,ih q)
 | tbl ps=>
  have e:h.get? a=some { cls:=.none,data:=.fields ps }:=x;show h'.get? a=some { cls:=.none,data:=.fields ps };show k a _ (.inl rfl) e
 | met f y=>
  have e:h.get? a=some (W.methodObj (.ref f) (.ref y)):=x;show h'.get? a=some (W.methodObj (.ref f) (.ref y));show k a _ (.inl rfl) e
 | ext φ=>let(p,(o,e),A):=x;show(A _ _ p λo q=>k _ _ (.inl rfl) q,⟨o,k _ _ (.inl rfl) e⟩,A)
theorem HOk.lt(x:HOk P w H h)(e:H a=some o):a<h.objs.size:=(x a o e).lt
theorem HOk.fresh(x:HOk P w H h)(e:h.objs.size<=a):H a=none:=by
 cases q:H a with
 | none=>rfl
 | some u=>show absurd (Nat.lt_of_lt_of_le (x.lt q) e) (Nat.lt_irrefl _)
theorem HOk.kept(x:HOk P w H h)(k:∀ b u,h.get? b=some u->h'.get? b=some u):HOk P w H h':=λa o e=>
 (x a o e).stay (λb u _ q=>k b u q) (λ_ q=>q) λ_ _ q=>q
theorem HOk.laid(x:HOk P w H h)(k:∀ b u,h.get? b=some u->h'.get? b=some u)(hp:h.objs.size<=a)(new:ObjOk P w (upd H a o) h' a o):HOk P w (upd H a o) h':=λb u e=>by
 have f:=x.fresh hp;by_cases d:b=a
 .subst d;rw[Jak]at e;cases e;show new
 .rw[Jah d]at e;show(x b u e).stay (λc v _ q=>k c v q) (λc q=>by rw[Jah (Jai q f)];show q) λc g q=>by rw[Jah (Jai q f)];show q
end
def Rd(H:Hp)(a:Addr)(u:HO):Prop:=H a=some u\/∃ o,H a=some (.frz o u)
variable{P:Program}{h:Heap}
theorem Rd.ok{w:World}(r:Rd H a u)(x:HOk P w H h):ObjOk P w H h a u:=by
 rcases r with r | ⟨o,r⟩
 .show x a u r
 .let(_,q):=x a _ r;show q
def Mut:Option HO->Prop
 | some (.lst _)=>True
 | some (.dK _)=>True
 | some (.dT _)=>True
 | some (.set _ _)=>True
 | some (.ins _ _ _)=>True
 | some (.ext _)=>True
 | _=>False
section
variable{h':Heap}{x e:Addr}{o':HO}{w:World}
theorem HOk.write(ok:HOk P w H h)(mu:Mut (H x))(he:e=x\/H e=some (.own x))(k:∀ b u,b≠e->h.get? b=some u->h'.get? b=some u)(heo:∃ u,h'.get? e=some u)
  (new:ObjOk P w (upd H x o') h' x o'):HOk P w (upd H x o') h':=λb u q=>by
 have d:∀ c y,H c=some (.own y)->c≠x:=λc y r z=>by subst z;rw[r]at mu;show mu
 have f:∀ c i,H c=some (.tup i)->c≠x:=λc i r z=>by subst z;rw[r]at mu;show mu
 by_cases g:b=x
 .subst g;rw[Jak]at q;cases q;show new
 .rw[Jah g]at q;by_cases a:b=e
  .have l:H b=some (.own x):=by
    rcases he with z | z
    .show absurd (a.trans z) g
    .rw[a];show z
   rw[q]at l;cases l;let(v,m):=heo;show(v,by rw[a];show m)
  .show(ok b u q).stay (λc v j r=>k c v ?_ r) (λc r=>by rw[Jah (d c b r)];show r) λc i r=>by rw[Jah (f c i r)];show r
   rcases j with rfl | j
   .show a
   .rintro rfl;rcases he with z | z
    .show d c b j z
    .rw[j]at z;cases z;show g rfl
end
structure Un(fs ex:List Addr)(H H':Hp)(h h':Heap):Prop where
 keep:∀ b o,h.get? b=some o->H b=none->b∉fs->b∉ex->h'.get? b=some o
 slot:∀ b o,h.get? b=some o->H b=none->b∈fs->b∉ex->∃ sl,h'.get? b=some { o with slots:=sl }
 free:∀ b o,h.get? b=some o->H b=none->b∉ex->H' b=none
 there:∀ b o,h.get? b=some o->b∉ex->∃ o',h'.get? b=some o'
 tups:∀ b xs,H b=some (.tup xs)->H' b=some (.tup xs)
 frzs:∀ b o u,H b=some (.frz o u)->H' b=some (.frz o u)
 tbls:∀ b ps,H b=some (.tbl ps)->∃ more,H' b=some (.tbl (ps++more))
section
variable{fs' ex ex':List Addr}{H1 H2:Hp}{h1 h2 h':Heap}{x e:Addr}{fs:List Addr}
theorem Un.any(u:Un fs ex H H1 h h1){b:Addr}{ob:Obj}(q:h.get? b=some ob)(n:H b=none)(hx:b∉ex):∃ sl,h1.get? b=some { ob with slots:=sl }:=by
 by_cases a:b∈fs
 .show u.slot b ob q n a hx
 .show(ob.slots,u.keep b ob q n a hx)
theorem Un.kept(k:∀ b u,h.get? b=some u->h'.get? b=some u):Un fs ex H H h h' :=
 ⟨λb a q _ _ _=>k b a q,λb a q _ _ _=>⟨a.slots,k b a q⟩,λ_ _ _ n _=>n,λb a q _=>⟨a,k b a q⟩,λ_ _ q=>q,λ_ _ _ q=>q,λ_ c q=>⟨#[],by rw[q];simp⟩⟩
theorem Un.refl:Un fs ex H H h h:=Un.kept λ_ _ q=>q
theorem Un.laid(k:∀ b u,h.get? b=some u->h'.get? b=some u)(hp:h.objs.size<=a)(hn:H a=none):Un fs ex H (upd H a o) h h' where
 keep:=λb u q _ _ _=>k b u q
 slot:=λb u q _ _ _=>⟨u.slots,k b u q⟩
 free:=λb u q n _=>by rw[Jah (Nat.ne_of_lt (Nat.lt_of_lt_of_le (Heap.lt_size q) hp))];show n
 there:=λb u q _=>⟨u,k b u q⟩
 tups:=λb c q=>by rw[Jah (Jai q hn)];show q
 frzs:=λb u c q=>by rw[Jah (Jai q hn)];show q
 tbls:=λb d q=>⟨#[],by rw[Jah (Jai q hn),q];simp⟩
theorem Un.write(mu:Mut (H x))(he:e=x\/H e=some (.own x))(k:∀ b u,b≠e->h.get? b=some u->h'.get? b=some u)(heo:∃ u,h'.get? e=some u):Un fs ex H (upd H x o) h h':=by
 have f:∀ b,H b=none->b≠x:=λb n z=>by subst z;rw[n]at mu;show mu
 have d:∀ b,H b=none->b≠e:=λb n z=>by
  subst z;rcases he with r | r
  .show f b n r
  .rw[n]at r;cases r
 have c:∀ b u,H b=some u->¬ Mut (some u)->b≠x:=λb u q g z=>by subst z;rw[q]at mu;show g mu
 show(λb u q n _ _=>k b u (d b n) q,λb u q n _ _=>⟨u.slots,k b u (d b n) q⟩,λb u q n _=>by rw[Jah (f b n)];show n,λb u q _=>?_,
  λb i q=>by rw[Jah (c b _ q λz=>z)];show q,λb u i q=>by rw[Jah (c b _ q λz=>z)];show q,λb j q=>⟨#[],by rw[Jah (c b _ q λz=>z),q];simp⟩)
 by_cases a:b=e
 .subst a;show heo
 .show(u,k b u a q)
end
def trk(h:Heap)(H:Hp):List Addr:=(List.range h.objs.size).filter λa=>(H a).isSome
def hidT(h:Heap)(H:Hp):Heap:=W.hideAll h (trk h H)
theorem JiR(h:Heap)(H:Hp):(hidT h H).objs.size=h.objs.size:=W.hideAll_size _ _
variable{o:Obj}
theorem Jj7(e:h.get? b=some o)(n:H b=none):(hidT h H).get? b=some o :=
 W.hideAll_get _ e λa=>by
  have q:(H b).isSome=true:=(mem_filter.mp a).2;rw[n]at q;simp at q
theorem JlL(e:(hidT h H).get? b=some o):h.get? b=some o/\H b=none:=by
 have a:h.get? b=some o:=W.of_hideAll (trk h H) e;show(a,?_);cases q:H b with
 | none=>rfl
 | some x=>
  have c:b∈trk h H:=mem_filter.mpr ⟨List.mem_range.mpr (Heap.lt_size a),by simp[q]⟩;have z:(hidT h H).get? b=none:=W.hideAll_none (trk h H) c;rw[z]at e;cases e
def Jli(g h:Heap)(L:Addr):List (Addr × Obj):=(List.range h.objs.size).filterMap λa=>if a=L\/(g.get? a).isSome=true then none else(h.get? a).map λo=>(a,o)
def rest(g h:Heap)(L d:Addr):List (Addr × Obj):=(Jli g h L).filter λp=>decide (p.1≠d)
structure Mod(K:W.Frag)(mg:Str->Option Value)(base:Heap):Prop where
 kin:K.In base
 glob:base.Ns mainGlobals mg
 blt:∃ mb,base.Ns builtinsNs mb/\∀ x:Str,x≠"__name__"->mb x=bootBuiltins x
 nolimit:base.NoLimit
set_option genInjectivity false in
structure Cx where
 prog:Program
 w:World
 K:W.Frag
 mg:Str->Option Value
 base:Heap
 A:Around
 N:List Str
 s₀ : Shared
 H₀ : Hp
 env:Env
 outer:List Env
 stack:List Env
 ex:List Addr
 fn:Str->Bool
 calm:Bool
 pn:List (Addr × Obj)
 xe:Value->Shared->Prop
def frs(l:List Env):List Addr:=l.filterMap (·.frame)
abbrev Cx.fs(X:Cx):List Addr:=frs X.outer
def Vis(sc:Scope)(x:Str):Prop:=sc.names.lookup x=some .local\/sc.names.lookup x=some .cell\/sc.names.lookup x=some .free
def Loc(sc:Scope)(x:Str):Prop:=sc.names.lookup x=some .local\/sc.names.lookup x=some .cell
def Look(env:Env)(h:Heap)(m:Str->Option Value)(x:Str)(u:Value):Prop :=
 (env.kindOf x=some .local/\m x=some u)\/((env.kindOf x=some .cell\/env.kindOf x=some .free)/\∃ c,env.cells.lookup x=some c/\h.IsCell c (some u))
structure Cx.Ok(X:Cx):Prop where
 mod:Mod X.K X.mg X.base
 kind:X.env.scope.kind=.function
 glob:X.env.globals=mainGlobals
 blt:X.env.builtins=builtinsNs
 above:X.s₀.heap.objs.size<=X.env.locals
 inj:∀ x y c,X.env.cells.lookup x=some c->X.env.cells.lookup y=some c->x=y
 has:∀ x,(X.env.kindOf x=some .cell\/X.env.kindOf x=some .free)->∃ c,X.env.cells.lookup x=some c
 cab:∀ x c,X.fn x=true->X.env.cells.lookup x=some c->X.s₀.heap.objs.size<=c
 hd:X.calm=true->X.A.handled=none
 frames:X.A.frames=some X.stack
 stk:X.stack=X.outer\/(X.stack=X.env::X.outer/\X.env.frame=some X.env.locals)
 exf:∀ b∈X.ex,b≠X.env.locals/\∀ x c,X.env.cells.lookup x=some c->c≠b
 bs:∀ b o,X.base.get? b=some o->X.s₀.heap.get? b=some o/\X.H₀ b=none
 bsz:X.base.objs.size<=X.s₀.heap.objs.size
 noex:∀ b o,X.base.get? b=some o->b∉X.ex
 exfs:∀ b∈X.ex,b∉X.fs
 funs:X.s₀.heap.FunFrames X.base X.outer
 frf:∀ b∈X.fs,X.H₀ b=none
structure Inv(X:Cx)(pins:List (Addr × Obj))(σ : List (Option V))(H:Hp)(s:Shared):Prop where
 ok:X.Ok
 os:s.os=X.s₀.os
 bare:AllBare s.gens
 base:Un X.fs X.ex X.H₀ H X.s₀.heap s.heap
 loc:∃ m,s.heap.Ns X.env.locals m/\∀(i:Nat)(x:Str)(v:V),X.N[i]?=some x->σ[i]?=some (some v)->Vis X.env.scope x->∃ u,RelV v u/\Look X.env s.heap m x u
 cell:∀ x c,X.env.cells.lookup x=some c->∃ v,s.heap.IsCell c v
 free:H X.env.locals=none
 freeC:∀ x c,X.env.cells.lookup x=some c->H c=none
 pin:∀ p∈X.pn++pins,s.heap.get? p.1=some p.2/\H p.1=none/\p.1≠X.env.locals/\p.1∉X.fs/\∀ v,p.2.data≠.cell v
 hok:HOk X.prog X.w H s.heap
 len : σ.length=X.N.length
section
variable{X:Cx}{pins:List (Addr × Obj)}{σ:List (Option V)}{H':Hp}{h':Heap}{s:Shared}
theorem Cx.Ok.nofr(ok:X.Ok){b:Addr}{o:Obj}(e:X.base.get? b=some o):b∉X.fs:=λa=>by
 have:=(ok.funs.mem a).1;rw[e]at this;cases this
theorem Inv.bs(I:Inv X pins σ H s):∀ b o,X.base.get? b=some o->s.heap.get? b=some o/\H b=none:=λb o e=>
 ⟨I.base.keep b o (I.ok.bs b o e).1 (I.ok.bs b o e).2 (I.ok.nofr e) (I.ok.noex b o e),I.base.free b o (I.ok.bs b o e).1 (I.ok.bs b o e).2 (I.ok.noex b o e)⟩
theorem Inv.bk(I:Inv X pins σ H s):∀ b o,X.base.get? b=some o->s.heap.get? b=some o:=λb o e=>(I.bs b o e).1
theorem Inv.mod(I:Inv X pins σ H s):Mod X.K X.mg X.base:=I.ok.mod
theorem Inv.kIn(I:Inv X pins σ H s):X.K.In s.heap:=I.ok.mod.kin.keeps I.bk
theorem Inv.lt(I:Inv X pins σ H s):X.env.locals<s.heap.objs.size:=let⟨_,hn,_⟩:=I.loc;hn.lt
theorem Inv.sz(I:Inv X pins σ H s):X.s₀.heap.objs.size<=s.heap.objs.size:=Nat.le_trans I.ok.above (Nat.le_of_lt I.lt)
theorem Inv.nofs(I:Inv X pins σ H s){a:Addr}(h:s.heap.objs.size<=a):a∉X.fs:=λb=>by
 let(_,o,c,_):=I.ok.funs.mem b;show absurd (Nat.lt_of_lt_of_le (Heap.lt_size c) (Nat.le_trans I.sz h)) (Nat.lt_irrefl _)
theorem Inv.cne(I:Inv X pins σ H s):∀ x c,X.env.cells.lookup x=some c->c≠X.env.locals:=λx c e z=>by
 let(v,o,f,d):=I.cell x c e;let(m,(i,h,g,b,a,_),_):=I.loc;rw[z,b]at f;cases f;rw[a]at d;cases d
theorem Inv.funs(I:Inv X pins σ H s):s.heap.FunFrames X.base X.outer:=by
 have all:∀(l:List Env),(∀ b∈frs l,b∈X.fs)->X.s₀.heap.FunFrames X.base l->s.heap.FunFrames X.base l:=by
  intro l;induction l with
  | nil=>intro _ _;trivial
  | cons env r ih=>
   intro f k;let(h,(L,o,a,j,m,i),g):=k;have d:L∈X.fs:=f L (by unfold frs;rw[List.filterMap_cons,a];show mem_cons_self);let(n,e):=I.base.slot L o m (I.ok.frf L d) d λz=>I.ok.exfs L z d;show(h,⟨L,_,a,j,e,i⟩,ih (λb c=>f b (by unfold frs;rw[List.filterMap_cons,a];show mem_cons_of_mem _ c)) g)
 show all X.outer (λ_ c=>c) I.ok.funs
theorem Inv.stack(I:Inv X pins σ H s):s.heap.FunFrames X.base X.stack:=by
 rcases I.ok.stk with e | ⟨e,hf⟩
 .rw[e];show I.funs
 .rw[e];let(m,a,_):=I.loc;show .cons (by rw[I.ok.kind];decide) hf a ?_ I.funs;show Heap.get?_none_of_le (Nat.le_trans I.ok.bsz I.ok.above)
theorem Inv.stkSub(I:Inv X pins σ H s):∀ b∈frs X.stack,b∈X.env.locals::X.fs:=λb a=>by
 rcases I.ok.stk with e | ⟨e,hf⟩
 .rw[e]at a;show mem_cons_of_mem _ a
 .rw[e]at a;unfold frs at a;rw[List.filterMap_cons,hf]at a;show a
theorem Inv.stkFree(I:Inv X pins σ H s):∀ b∈frs X.stack,H b=none:=λb a=>by
 rcases mem_cons.mp (I.stkSub b a)with e | a
 .rw[e];show I.free
 .let(_,o,c,_):=I.ok.funs.mem a;show I.base.free b o c (I.ok.frf b a) λz=>I.ok.exfs b z a
variable{g':Array GenState}{t':Nat}{d':Drawn}{ch:List Addr}
theorem Inv.step(I:Inv X pins σ H s)
  (hch:∀ b∈ch,(b∈X.ex\/X.s₀.heap.objs.size<=b)/\b≠X.env.locals/\(∀ x c,X.env.cells.lookup x=some c->c≠b)/\∀ p∈X.pn++pins,p.1≠b)
  (keep:∀ b o,b≠X.env.locals->b∉X.fs->b∉ch->s.heap.get? b=some o->H b=none->h'.get? b=some o)
  (slot:∀ b o,b≠X.env.locals->b∈X.fs->b∉ch->s.heap.get? b=some o->H b=none->∃ sl,h'.get? b=some { o with slots:=sl }) (free:∀ b o,b∉ch->s.heap.get? b=some o->H b=none->H' b=none)
  (there:∀ b o,b∉ch->s.heap.get? b=some o->∃ o',h'.get? b=some o')
  (tups:∀ b xs,H b=some (.tup xs)->H' b=some (.tup xs)) (frzs:∀ b o u,H b=some (.frz o u)->H' b=some (.frz o u)) (tbls:∀ b ps,H b=some (.tbl ps)->∃ more,H' b=some (.tbl (ps++more)))
  (ns:∀ m,s.heap.Ns X.env.locals m->h'.Ns X.env.locals m) (hok:HOk X.prog X.w H' h') (hg:AllBare g') :
  Inv X pins σ H' { s with heap:=h',gens:=g',drawn:=d',toks:=t' }:=by
 have B:∀ b o,X.s₀.heap.get? b=some o->b≠X.env.locals:=λb o e=>Nat.ne_of_lt (Nat.lt_of_lt_of_le (Heap.lt_size e) I.ok.above);have j:∀ b o,X.s₀.heap.get? b=some o->b∉X.ex->b∉ch:=λb o e a t=>by
  rcases(hch b t).1 with z | z
  .show a z
  .show absurd (Nat.lt_of_lt_of_le (Heap.lt_size e) z) (Nat.lt_irrefl _)
 have f:∀ x c,X.env.cells.lookup x=some c->∀ v,s.heap.IsCell c v->h'.IsCell c v:=λx c e v ⟨o,y,C⟩=>by
  have g:c∉ch:=λz=>(hch c z).2.2.1 x c e rfl;by_cases G:c∈X.fs
  .let(sl,q):=slot c o (I.cne x c e) G g y (I.freeC x c e);show(_,q,C)
  .show(o,keep c o (I.cne x c e) G g y (I.freeC x c e),C)
 show(I.ok,I.os,hg,⟨λb o e n t a=>?_,λb o e n t a=>?_,λb o e n a=>?_,λb o e a=>?_,λb xs e=>tups b xs (I.base.tups b xs e),λb o xs e=>frzs b o xs (I.base.frzs b o xs e),λb ps e=>?_⟩,?_,λx c e=>?_,?_,λx c e=>?_,λp J=>?_,hok,I.len)
 .show keep b o (B b o e) t (j b o e a) (I.base.keep b o e n t a) (I.base.free b o e n a)
 .let(sl,h):=I.base.slot b o e n t a;let(D,A):=slot b _ (B b o e) t (j b o e a) h (I.base.free b o e n a);show(D,A)
 .let(o',h):=I.base.there b o e a;show free b o' (j b o e a) h (I.base.free b o e n a)
 .let(o',h):=I.base.there b o e a;show there b o' (j b o e a) h
 .let(N,h):=I.base.tbls b ps e;let(O,A):=tbls b _ h;show(N++O,by rw[A,Array.append_assoc])
 .let(m,K,L):=I.loc;show(m,ns m K,λi x v h A M=>?_);let(u,r,l):=L i x v h A M;show(u,r,?_);rcases l with l | ⟨k,c,e,z⟩
  .show .inl l
  .show .inr ⟨k,c,e,f x c e _ z⟩
 .let(v,z):=I.cell x c e;show(v,f x c e v z)
 .let(m,(o,_,_,y,_),_):=I.loc;show free _ o (λz=>(hch _ z).2.1 rfl) y I.free
 .let(v,o,y,C):=I.cell x c e;show free c o (λz=>(hch c z).2.2.1 x c e rfl) y (I.freeC x c e)
 .let(e,n,E,F,d):=I.pin p J;have g:p.1∉ch:=λz=>(hch p.1 z).2.2.2 p J rfl;show(keep p.1 p.2 E F g e n,free p.1 p.2 g e n,E,F,d)
theorem Inv.un(I:Inv X pins σ H s)(u:Un X.fs [] H H' s.heap h')(hok:HOk X.prog X.w H' h'):Inv X pins σ H' { s with heap:=h',toks:=t' }:=by
 let(m,(o,t,k,g,r),_):=id I.loc;let(q,j):=u.any g I.free (by simp);show I.step (g':=s.gens) (d':=s.drawn) (ch:=[]) (λ_ z=>nomatch z) (λb o _ f _ e n=>u.keep b o e n f (by simp)) (λb o _ f _ e n=>u.slot b o e n f (by simp)) (λb o _ e n=>u.free b o e n (by simp)) (λb o _ e=>u.there b o e (by simp)) u.tups u.frzs u.tbls (λl i=>by
  let(p,c,d,a,h):=i;rw[g]at a;cases a;show(_,c,d,j,h)) hok I.bare
theorem Inv.call(I:Inv X pins σ H s)(u:Un (frs X.stack) ch H H' s.heap h')(hok:HOk X.prog X.w H' h')(hg:AllBare g')
  (hch:∀ b∈ch,(b∈X.ex\/X.s₀.heap.objs.size<=b)/\b≠X.env.locals/\(∀ x c,X.env.cells.lookup x=some c->c≠b)/\∀ p∈X.pn++pins,p.1≠b) :
  Inv X pins σ H' { s with heap:=h',gens:=g',drawn:=d',toks:=t' }:=by
 let(m,(o,A,q,i,r),_):=id I.loc;let(y,h):=u.any i I.free λz=>(hch _ z).2.1 rfl;show I.step (ch:=ch) hch (λb o h l a e n=>u.keep b o e n (λz=>(mem_cons.mp (I.stkSub b z)).elim h l) a) (λb o _ _ a e n=>u.any e n a) (λb o a e n=>u.free b o e n a) (λb o a e=>u.there b o e a) u.tups u.frzs u.tbls (λt k=>by
  let(v,f,g,d,j):=k;rw[i]at d;cases d;show(_,f,g,h,j)) hok hg
variable{it:Addr}
theorem Inv.turned(I:Inv X pins σ H s)(k:∀ b o,b≠it->s.heap.get? b=some o->h'.get? b=some o)(hn:H it=none)(hL:it≠X.env.locals)
  (h1:it∈X.ex\/X.s₀.heap.objs.size<=it) (h2:∀ x c,X.env.cells.lookup x=some c->c≠it) (h3:∀ p∈X.pn++pins,p.1≠it):Inv X pins σ H { s with heap:=h',toks:=t' }:=by
 have d:∀ b u,H b=some u->b≠it:=λb u e z=>by rw[z,hn]at e;cases e
 show I.step (g':=s.gens) (d':=s.drawn) (ch:=[it]) (λb j=>?_) (λb o _ _ a e _=>k b o (λz=>a (by simp[z])) e) (λb o _ _ a e _=>⟨o.slots,k b o (λz=>a (by simp[z])) e⟩) (λ_ _ _ _ n=>n)
  (λb o a e=>⟨o,k b o (λz=>a (by simp[z])) e⟩) (λ_ _ e=>e) (λ_ _ _ e=>e) (λb l e=>⟨#[],by rw[e];simp⟩) (λm h=>?_) (λb u e=>?_) I.bare
 .have e:b=it:=by simpa using j
  subst e;show(h1,hL,h2,h3)
 .let(o,i,f,g,r):=h;show(o,i,f,k _ o (Ne.symm hL) g,r)
 .show(I.hok b u e).stay (λc v a q=>k c v ?_ q) (λ_ q=>q) λ_ _ q=>q;rcases a with z | z
  .rw[z];show d b u e
  .show d c _ z
theorem Inv.tok(I:Inv X pins σ H s)(t:Nat):Inv X pins σ H { s with toks:=t }:=I.un (h':=s.heap) (t':=t) Un.refl I.hok
theorem Inv.kept(I:Inv X pins σ H s)(k:∀ b u,s.heap.get? b=some u->h'.get? b=some u):Inv X pins σ H { s with heap:=h',toks:=t' }:=I.un (Un.kept k) (I.hok.kept k)
variable{o:HO}
theorem Inv.laid(I:Inv X pins σ H s)(k:∀ b u,s.heap.get? b=some u->h'.get? b=some u)(hp:s.heap.objs.size<=a)(new:ObjOk X.prog X.w (upd H a o) h' a o) :
  Inv X pins σ (upd H a o) { s with heap:=h',toks:=t' }:=I.un (Un.laid k hp (I.hok.fresh hp)) (I.hok.laid k hp new)
theorem Inv.write{x e:Addr}(I:Inv X pins σ H s)(mu:Mut (H x))(he:e=x\/H e=some (.own x))(k:∀ b u,b≠e->s.heap.get? b=some u->h'.get? b=some u)(heo:∃ u,h'.get? e=some u)
  (new:ObjOk X.prog X.w (upd H x o) h' x o):Inv X pins σ (upd H x o) { s with heap:=h',toks:=t' }:=I.un (Un.write mu he k heo) (I.hok.write mu he k heo new)
theorem Inv.pins_of{pins':List (Addr × Obj)}(I:Inv X pins σ H s)(h:∀ p∈pins',s.heap.get? p.1=some p.2/\H p.1=none/\p.1≠X.env.locals/\p.1∉X.fs/\∀ v,p.2.data≠.cell v):Inv X pins' σ H s :=
 ⟨I.ok,I.os,I.bare,I.base,I.loc,I.cell,I.free,I.freeC,λp a=>(mem_append.mp a).elim (λz=>I.pin p (List.mem_append_left _ z)) (h p),I.hok,I.len⟩
variable{N:List Str}
theorem Jft(hN:N.Nodup){i j:Nat}{x:Str}(a:N[i]?=some x)(b:N[j]?=some x):i=j:=by
 let(f,d):=List.getElem?_eq_some_iff.mp a;let(e,c):=List.getElem?_eq_some_iff.mp b;show(List.getElem_inj hN).mp (d.trans c.symm)
variable{M:Model}{x:Str}{v:V}{u:Value}{Q:Unit->Shared->Prop}
theorem Jgz{i:Nat}(I:Inv X pins σ H s)(hN:X.N.Nodup)(hi:X.N[i]?=some x)(hx:Loc X.env.scope x)(r:RelV v u)
  (h:∀ s',Inv X pins (σ.set i (some v)) H s'->(∃ a,Heap.SameBut a s.heap s'.heap/\(a=X.env.locals\/X.env.cells.lookup x=some a))->Q () s') (hf:autoParam (X.fn x=true\/X.env.scope.names.lookup x=some .local) Au):wpAny M A (storeName X.env x u) Q E s:=by
 let(m,hn,hl):=id I.loc;have S:(X.env.scope.kind == .class||(X.env.scope.kind == .module&&X.env.locals != X.env.globals))=false:=by rw[I.ok.kind];rfl
 have hiσ : i<σ.length:=by rw[I.len];show(List.getElem?_eq_some_iff.mp hi).1
 have D:=I.cne;have g:∀{a:Addr}{K:Heap},(∃ o,s.heap.get? a=some o/\H a=none)->Heap.SameBut a s.heap K->HOk X.prog X.w H K:=λ{a K} ha f b ob e=>by
  let(_,_,B):=ha;show(I.hok b ob e).stay (λc T t q=>(f.2 c ?_).trans q) (λ_ q=>q) λ_ _ q=>q;rintro rfl;rcases t with rfl | t
  .rw[B]at e;cases e
  .rw[B]at t;cases t
 rcases hx with hk | hk
 .show wpAny_storeName_local hk hn (λK Y f=>?_) S;let(oL,_,_,a0,_):=id hn;show h _ ⟨I.ok,I.os,I.bare,⟨λb o e n J hx=>?_,λb o e n J hx=>?_,I.base.free,λb o e hx=>?_,I.base.tups,I.base.frzs,I.base.tbls⟩,⟨_,Y,λj y v' l C e3=>?_⟩,λy c e=>?_,I.free,I.freeC,λp hp=>?_,g ⟨oL,a0,I.free⟩ f,by simpa using I.len⟩ ⟨_,f, .inl rfl⟩
  .show(f.2 b (Nat.ne_of_lt (Nat.lt_of_lt_of_le (Heap.lt_size e) I.ok.above))).trans (I.base.keep b o e n J hx)
  .let(sl,l):=I.base.slot b o e n J hx;show(sl,(f.2 b (Nat.ne_of_lt (Nat.lt_of_lt_of_le (Heap.lt_size e) I.ok.above))).trans l)
  .let(Z,l):=I.base.there b o e hx;show(Z,(f.2 b (Nat.ne_of_lt (Nat.lt_of_lt_of_le (Heap.lt_size e) I.ok.above))).trans l)
  .by_cases F:j=i
   .subst F;rw[hi]at l;cases l;rw[List.getElem?_set_self hiσ]at C;cases C;show(u,r, .inl ⟨hk,by simp⟩)
   .rw[List.getElem?_set_ne (Ne.symm F)]at C;let(u',r',q):=hl j y v' l C e3;show(u',r',?_);rcases q with⟨k,e⟩ | ⟨k,c,e,z⟩
    .show .inl ⟨k,?_⟩;have : y≠x:=λe=>F (Jft hN l (e ▸ hi));simp[this,e]
    .show .inr ⟨k,c,e,z.sameBut f (D y c e)⟩
  .let(T,z):=I.cell y c e;show(T,z.sameBut f (D y c e))
  .let(e,n,U,nf,d):=I.pin p hp;show((f.2 p.1 U).trans e,n,U,nf,d)
 .have G:X.fn x=true:=by
   rcases hf with z | z
   .show z
   .rw[z]at hk;cases hk
  let(c,t):=I.ok.has x (.inl hk);let(T,z):=I.cell x c t;show wpAny_storeName_cell I.ok.kind hk t z (λK R f=>?_);let(oc,L,P):=id z;show h { s with heap:=K } ⟨I.ok,I.os,I.bare,⟨λb o e n J hx=>?_,λb o e n J hx=>?_,I.base.free,λb o e hx=>?_,I.base.tups,I.base.frzs,I.base.tbls⟩,⟨m,hn.sameBut f (Ne.symm (D x c t)),λj y v' l C e3=>?_⟩,λy W e=>?_,I.free,I.freeC,λp hp=>?_,g ⟨oc,L,I.freeC x c t⟩ f,by simpa using I.len⟩ ⟨c,f, .inr t⟩
  .show(f.2 b (Nat.ne_of_lt (Nat.lt_of_lt_of_le (Heap.lt_size e) (I.ok.cab x c G t)))).trans (I.base.keep b o e n J hx)
  .let(sl,l):=I.base.slot b o e n J hx;show(sl,(f.2 b (Nat.ne_of_lt (Nat.lt_of_lt_of_le (Heap.lt_size e) (I.ok.cab x c G t)))).trans l)
  .let(Z,l):=I.base.there b o e hx;show(Z,(f.2 b (Nat.ne_of_lt (Nat.lt_of_lt_of_le (Heap.lt_size e) (I.ok.cab x c G t)))).trans l)
  .by_cases F:j=i
   .subst F;rw[hi]at l;cases l;rw[List.getElem?_set_self hiσ]at C;cases C;show(u,r, .inr ⟨.inl hk,c,t,R⟩)
   .rw[List.getElem?_set_ne (Ne.symm F)]at C;let(u',r',q):=hl j y v' l C e3;show(u',r',?_);rcases q with q | ⟨k,W,e,z'⟩
    .show .inl q
    .show .inr ⟨k,W,e,z'.sameBut f ?_⟩;rintro rfl;show F (Jft hN l (I.ok.inj _ _ _ e t ▸ hi))
  .by_cases O:W=c
   .subst O;show(_,R)
   .let(w2,z2):=I.cell y W e;show(w2,z2.sameBut f O)
  .let(e,n,U,nf,d):=I.pin p hp;show((f.2 p.1 ?_).trans e,n,U,nf,d);intro q;rw[q,L]at e;have q':oc=p.2:=Option.some.inj e;show d T (by rw[<- q'];show P)
theorem Jd9{i:Nat}(I:Inv X pins σ H s)(hN:X.N.Nodup)(hi:X.N[i]?=some x)(hx:Loc X.env.scope x)(r:RelV v u)
  (h:∀ s',Inv X pins (σ.set i (some v)) H s'->Q () s') (hf:autoParam (X.fn x=true\/X.env.scope.names.lookup x=some .local) Au):wpAny M A (storeName X.env x u) Q E s :=
 Jgz I hN hi hx r (λs' I' _=>h s' I') hf
variable{s':Shared}
theorem Inv.call'(I:Inv X pins σ H s)(ho:s'.os=s.os)(u:Un (frs X.stack) ch H H' s.heap s'.heap)(hok:HOk X.prog X.w H' s'.heap)(hg:AllBare s'.gens)
  (hch:∀ b∈ch,(b∈X.ex\/X.s₀.heap.objs.size<=b)/\b≠X.env.locals/\(∀ x c,X.env.cells.lookup x=some c->c≠b)/\∀ p∈X.pn++pins,p.1≠b):Inv X pins σ H' s':=by
 let(d,g',d',t',a):=s';have e:a=s.os:=ho;subst e;show I.call (g':=g') (t':=t') (d':=d') u hok hg hch
end
abbrev XK:=Value->Option Addr->Hp->Prop
abbrev St:=List (Option V)
abbrev VK:=V->Hp->Prop
abbrev TE:=St->Hp->VK->Prop
abbrev TT:=St->Hp->(Bool->Hp->Prop)->Prop
abbrev TA:=St->Hp->(List V->Hp->Prop)->Prop
structure Ends where
 nx:St->Hp->Prop
 rt:VK
 bk:St->Hp->Prop:=λ_ _=>False
 ct:St->Hp->Prop:=λ_ _=>False
abbrev TS:=Ends->St->Hp->Prop
def EP(X:Cx)(pins:List (Addr × Obj))(σ : St)(Q:VK)(u:Value)(s':Shared):Prop:=∃ v H',Inv X pins σ H' s'/\RelV v u/\Q v H'
def TP(X:Cx)(pins:List (Addr × Obj))(σ : St)(Q:Bool->Hp->Prop)(b:Bool)(s':Shared):Prop:=∃ H',Inv X pins σ H' s'/\Q b H'
def AP(X:Cx)(pins:List (Addr × Obj))(σ : St)(Q:List V->Hp->Prop)(us:List Value)(s':Shared):Prop:=∃ vs H',Inv X pins σ H' s'/\Vals vs us/\Q vs H'
def SP(X:Cx)(pins:List (Addr × Obj))(D:Ends)(f:Flow)(s':Shared):Prop :=
 match f with
 | .next=>∃ σ' H',Inv X pins σ' H' s'/\D.nx σ' H'
 | .brk=>∃ σ' H',Inv X pins σ' H' s'/\D.bk σ' H'
 | .cont=>∃ σ' H',Inv X pins σ' H' s'/\D.ct σ' H'
 | .ret u=>∃ v σ' H',Inv X pins σ' H' s'/\RelV v u/\D.rt v H'
def PE(X:Cx)(e:Expr)(t:TE):Prop :=
 ∀(pins:List (Addr × Obj))(s:Shared)(σ : St)(H:Hp)(Q:VK),Inv X pins σ H s->t σ H Q->wpAny (model X.prog X.w) X.A (eval e X.env) (EP X pins σ Q) X.xe s
def PT(X:Cx)(e:Expr)(t:TT):Prop :=
 ∀(pins:List (Addr × Obj))(s:Shared)(σ : St)(H:Hp)(Q:Bool->Hp->Prop),Inv X pins σ H s->t σ H Q->wpAny (model X.prog X.w) X.A (isTrue e X.env (eval e X.env)) (TP X pins σ Q) X.xe s
def PW(X:Cx)(e:Expr)(t:TT):Prop :=
 ∀(whole:Sem Value)(pins:List (Addr × Obj))(s:Shared)(σ : St)(H:Hp)(Q:Bool->Hp->Prop),Inv X pins σ H s->t σ H Q->wpAny (model X.prog X.w) X.A (isTrue e X.env whole) (TP X pins σ Q) X.xe s
variable{X:Cx}{e:Expr}
theorem PW.pt{t:TT}(h:PW X e t):PT X e t:=h _
def PA(X:Cx)(es:List Expr)(t:TA):Prop :=
 ∀(pos:Pos)(pins:List (Addr × Obj))(s:Shared)(σ : St)(H:Hp)(Q:List V->Hp->Prop),Inv X pins σ H s->t σ H Q->wpAny (model X.prog X.w) X.A (spliced (backTo pos (starEach es X.env))) (AP X pins σ Q) X.xe s
def PS(X:Cx)(st:Stmt)(t:TS):Prop :=
 ∀(pins:List (Addr × Obj))(s:Shared)(σ : St)(H:Hp)(D:Ends),Inv X pins σ H s->t D σ H->wpAny (model X.prog X.w) X.A (exec st X.env) (SP X pins D) X.xe s
def PSs(X:Cx)(st:List Stmt)(t:TS):Prop :=
 ∀(pins:List (Addr × Obj))(s:Shared)(σ : St)(H:Hp)(D:Ends),Inv X pins σ H s->t D σ H->wpAny (model X.prog X.w) X.A (execs st X.env) (SP X pins D) X.xe s
variable{M:Model}
theorem thn{α:Type}{t:Sem α}{Q Q' : α->Shared->Prop}{s:Shared}(h:wpAny M A t Q E s)(hQ:∀ a s,Q a s->Q' a s):wpAny M A t Q' E s:=wpAny_mono h hQ λ_ _ x=>x
section
def tVar(i:Nat):TE:=λσ H Q=>∃ v,σ[i]?=some (some v)/\Q v H
def tC(v:V):TE:=λ_ H Q=>Q v H
variable{x:Str}{pos:Pos}
theorem Jm6{i:Nat}(hN:X.N[i]?=some x)(hv:Vis X.env.scope x)(hd:autoParam ((x == ("__debug__" : Str))=false) Au)(hcd:autoParam ((x == ("__classdict__" : Str))=false) Au):PE X (.Name x pos) (tVar i):=by
 intro b s σ H Q I h;let(v,e,h):=h;let(m,d,f):=I.loc;let(u,r,l):=f i x v hN e hv;have a:EP X b σ Q u s:=⟨v,H,I,r,h⟩;rcases l with⟨hk,hm⟩ | ⟨hk,c,hc,hcell⟩
 .show wpAny_Name (wpAny_loadName_local I.ok.kind hk d hm a) hd
 .rcases hk with hk | hk
  .show wpAny_Name (wpAny_loadName_cell I.ok.kind hk hc hcell a) hd
  .show wpAny_Name (wpAny_loadName_free I.ok.kind hk hc hcell a hcd) hd
theorem Jad{i j pos}:PE X (.Constant (.int i) j pos) (tC (.int i)):=λ_ _ _ H _ I h=>wpAny_Constant_int ⟨.int i,H,I.tok _,⟨_,rfl⟩,h⟩
theorem pe_bl{b j pos}:PE X (.Constant (.bool b) j pos) (tC (.bl b)):=λ_ _ _ H _ I h=>Constant_bool ⟨.bl b,H,I,rfl,h⟩
theorem JcX{j pos}:PE X (.Constant .none j pos) (tC .non):=λ_ _ _ H _ I h=>Constant_none ⟨.non,H,I,rfl,h⟩
theorem Jbe{x j pos}:PE X (.Constant (.str x) j pos) (tC (.str x)):=λ_ _ _ H _ I h=>Calls.Constant_str ⟨.str x,H,I.tok _,⟨_,rfl⟩,h⟩
def Gl(X:Cx)(x:Str):Prop:=X.env.kindOf x=some .globalImplicit
variable{pins:List (Addr × Obj)}{σ:St}{u:Value}{Q:Value->Shared->Prop}
theorem Jcv{s:Shared}(I:Inv X pins σ H s)(hg:Gl X x)(hm:X.mg x=some u)(h:Q u s)
  (hd:autoParam ((x == ("__debug__" : Str))=false) Au):wpAny (model X.prog X.w) X.A (eval (.Name x pos) X.env) Q E s :=
 Calls.Name_function_global I.ok.kind hg (Calls.loadGlobal_global (by rw[I.ok.glob];show I.mod.glob.keeps I.bk) hm h) hd
theorem Jej{s:Shared}(I:Inv X pins σ H s)(hg:Gl X x)(hm:X.mg x=none)(hv:bootBuiltins x=some u)(h:Q u s)
  (hn:autoParam (x≠"__name__") Au) (hd:autoParam ((x == ("__debug__" : Str))=false) Au):wpAny (model X.prog X.w) X.A (eval (.Name x pos) X.env) Q E s:=by
 let(c,b,a):=I.mod.blt;show Calls.Name_function_global I.ok.kind hg (Calls.loadGlobal_builtin (by rw[I.ok.glob];show I.mod.glob.keeps I.bk) hm (by rw[I.ok.blt];show b.keeps I.bk) ((a x hn).trans hv) h) hd
variable{v:V}
theorem Jbh(hg:Gl X x)(hm:X.mg x=some u)(r:RelV v u)(hd:autoParam ((x == ("__debug__" : Str))=false) Au):PE X (.Name x pos) (tC v) :=
 λ_ _ _ H _ I h=>Jcv I hg hm ⟨v,H,I,r,h⟩ hd
theorem Jdc(hg:Gl X x)(hm:X.mg x=none)(hv:bootBuiltins x=some u)(r:RelV v u)(hn:autoParam (x≠"__name__") Au)(hd:autoParam ((x == ("__debug__" : Str))=false) Au):PE X (.Name x pos) (tC v) :=
 λ_ _ _ H _ I h=>Jej I hg hm hv ⟨v,H,I,r,h⟩ hn hd
variable{a b:Expr}{ta tb:TE}
def PC(X:Cx)(op:CmpOp)(a b:Expr)(t:TE):Prop :=
 ∀(pins:List (Addr × Obj))(s:Shared)(σ : St)(H:Hp)(Q:VK),Inv X pins σ H s->t σ H Q ->
  wpAny (model X.prog X.w) X.A (eval a X.env) (λv s₁=>wpAny (model X.prog X.w) X.A (eval b X.env) (λu s₂=>wpAny (model X.prog X.w) X.A (compareOp op v u) (EP X pins σ Q) X.xe s₂) X.xe s₁) X.xe s
def tB(t:TE):TT:=λσ H Q=>t σ H λx H1=>∃ c,x=.bl c/\Q c H1
variable{op:CmpOp}
theorem Jm5{t:TE}(h:PC X op a b t)(h1:autoParam (behindInMarks op b=false) Au):PE X (.Compare a [op] [b] pos) t:=λc s σ H Q I d=>wpAny_Compare1 (h c s σ H Q I d) h1
theorem JeB{t:TE}(h:PC X op a b t)(h1:autoParam (behindInMarks op b=false) Au):PT X (.Compare a [op] [b] pos) (tB t):=by
 intro e s σ H Q I k;show wpAny_isTrue_Compare1 (thn (h e s σ H _ I k) λv n h1=>thn h1 λu m j=>thn j λc l ζ=>?_) h1;let(x,f,I1,i,g):=ζ;let(d,rfl,q):=g;cases i;show wpAny_truthy_bool ⟨f,I1,q⟩
theorem Jbc{t:TE}(h:PE X e t)(he:autoParam (∀ whole,isTrue e X.env whole=(do let v <- whole;standAt e.pos;holding [v] (truthy v))) Au):PT X e (tB t):=by
 intro a s σ H Q I f;show isTrue_plain (thn (h a s σ H _ I f) λv i ζ=>?_) (he _);let(x,c,I1,b,g):=ζ;let(d,rfl,q):=g;cases b;show wpAny_truthy_bool ⟨c,I1,q⟩
variable{tA tB':TT}{rest:List Expr}
def tAnd(t u:TT):TT:=λσ H Q=>t σ H λc H1=>if c=true then u σ H1 Q else Q false H1
def tOr(t u:TT):TT:=λσ H Q=>t σ H λc H1=>if c=true then Q true H1 else u σ H1 Q
def tNot(t:TT):TT:=λσ H Q=>t σ H λc H1=>Q (!c) H1
theorem Jl8(ha:PT X a tA):PW X (.BoolOp .And [a] pos) tA:=by
 intro d b s σ H Q I h;show isTrue_and (thn (ha b s σ H Q I h) λc f e=>?_);cases c with
 | true=>show isTrue_and_nil e
 | false=>show e
theorem JbZ(ha:PT X a tA):PW X (.BoolOp .Or [a] pos) tA:=by
 intro d b s σ H Q I h;show isTrue_or (thn (ha b s σ H Q I h) λc f e=>?_);cases c with
 | false=>show isTrue_or_nil e
 | true=>show e
theorem Jm9(ha:PT X a tA)(hb:PW X (.BoolOp .And (b::rest) pos) tB'):PW X (.BoolOp .And (a::b::rest) pos) (tAnd tA tB'):=by
 intro g d s σ H Q I h;show isTrue_and (thn (ha d s σ H _ I h) λc i ζ=>?_);let(e,I1,f):=ζ;cases c with
 | true=>show hb g d i σ e Q I1 f
 | false=>show(e,I1,f)
theorem pw_or(ha:PT X a tA)(hb:PW X (.BoolOp .Or (b::rest) pos) tB'):PW X (.BoolOp .Or (a::b::rest) pos) (tOr tA tB'):=by
 intro g d s σ H Q I h;show isTrue_or (thn (ha d s σ H _ I h) λc i ζ=>?_);let(e,I1,f):=ζ;cases c with
 | true=>show(e,I1,f)
 | false=>show hb g d i σ e Q I1 f
theorem JbP(ha:PT X a tA):PT X (.UnaryOp .Not a pos) (tNot tA):=by
 intro b s σ H Q I h;show isTrue_not (ha b s σ H (λc d=>Q (!c) d) I h)
def tAndV(ta tb:TE):TE:=λσ H Q=>ta σ H λx H1=>∃ c,x=.bl c/\if c=true then tb σ H1 Q else Q (.bl false) H1
def tOrV(ta tb:TE):TE:=λσ H Q=>ta σ H λx H1=>∃ c,x=.bl c/\if c=true then Q (.bl true) H1 else tb σ H1 Q
def tNotV(ta:TE):TE:=λσ H Q=>ta σ H λx H1=>∃ c,x=.bl c/\Q (.bl (!c)) H1
theorem Jdv{op}{t:TE}(h:PE X a t):PE X (.BoolOp op [a] pos) t:=λb s σ H Q I c=>BoolOp_one (h b s σ H Q I c)
theorem JcV(ha:PE X a ta)(hb:PE X (.BoolOp .And (b::rest) pos) tb):PE X (.BoolOp .And (a::b::rest) pos) (tAndV ta tb):=by
 intro d s σ H Q I h;show BoolOp_and (thn (ha d s σ H _ I h) λv i ζ=>?_);let(x,f,I1,g,e):=ζ;let(c,rfl,e):=e;cases g;show wpAny_truthy_bool ?_;cases c with
 | true=>show hb d i σ f Q I1 e
 | false=>show(.bl false,f,I1,rfl,e)
theorem pe_or(ha:PE X a ta)(hb:PE X (.BoolOp .Or (b::rest) pos) tb):PE X (.BoolOp .Or (a::b::rest) pos) (tOrV ta tb):=by
 intro d s σ H Q I h;show BoolOp_or (thn (ha d s σ H _ I h) λv i ζ=>?_);let(x,f,I1,g,e):=ζ;let(c,rfl,e):=e;cases g;show wpAny_truthy_bool ?_;cases c with
 | false=>show hb d i σ f Q I1 e
 | true=>show(.bl true,f,I1,rfl,e)
theorem JhQ(ha:PE X a ta):PE X (.UnaryOp .Not a pos) (tNotV ta):=by
 intro b s σ H Q I h;show UnaryOp_ (thn (ha b s σ H _ I h) λv g ζ=>?_);let(x,f,I1,e,d):=ζ;let(c,rfl,d):=d;cases e;show not_of (wpAny_truthy_bool ⟨.bl (!c),f,I1,rfl,d⟩)
def tIf(t:TT)(ta tb:TE):TE:=λσ H Q=>t σ H λc H1=>if c=true then ta σ H1 Q else tb σ H1 Q
variable{c:Expr}
theorem JfI(hc:PT X c tA)(ha:PE X a ta)(hb:PE X b tb):PE X (.IfExp c a b pos) (tIf tA ta tb):=by
 intro e s σ H Q I h;show wpAny_IfExp (thn (hc e s σ H _ I h) λd i ζ=>?_);let(f,I1,g):=ζ;cases d with
 | true=>show ha e i σ f Q I1 g
 | false=>show hb e i σ f Q I1 g
end
def SqL(K:W.Frag)(H:Hp)(a:Addr)(xs:List V):Prop :=
 Rd H a (.lst xs) \/
  ∃(o:Obj)(its:Array Value)(n:Nat),K.lookup a=some o/\o.cls=.type "list"/\o.dict=none/\o.data=.seq its n/\its.size<=sizeLine/\Vals xs its.toList
def SqT(K:W.Frag)(H:Hp)(a:Addr)(xs:List V):Prop :=
 Rd H a (.tup xs) \/
  ∃(o:Obj)(its:Array Value)(n:Nat),K.lookup a=some o/\o.cls=.type "tuple"/\o.data=.seq its n/\its.size<=sizeLine/\Vals xs its.toList
def absV:Value->Option V
 | .none=>some .non
 | .bool b=>some (.bl b)
 | .int i _=>some (.int i)
 | .str x _=>some (.str x)
 | .bytes b _=>some (.byt b)
 | .float b _=>some (.flt b)
 | .ref a=>some (.ref a)
 | .type n=>some (.ty n)
 | _=>none
variable{x:V}{u:Value}
theorem RelV.abs(r:RelV x u):absV u=some x:=by
 cases x with
 | non=>cases r;rfl
 | bl _=>cases r;rfl
 | int _=>let(t,rfl):=r;rfl
 | str _=>let(t,rfl):=r;rfl
 | byt _=>let(t,rfl):=r;rfl
 | flt _=>let(t,rfl):=r;rfl
 | ref _=>cases r;rfl
 | ty _=>cases r;rfl
variable{y:V}
theorem RelV.inj(r:RelV x u)(q:RelV y u):x=y:=Option.some.inj (r.abs.symm.trans q.abs)
theorem Vals.inj(h:Vals xs us)(k:Vals ys us):xs=ys:=by
 induction h generalizing ys with
 | nil=>cases k;rfl
 | cons r _ ih=>
  cases k with
  | cons q s=>rw[r.inj q,ih s]
section
variable{pins:List (Addr × Obj)}{σ:St}{s:Shared}
theorem SqL.of{K:W.Frag}(h:H a=some (.lst xs)):SqL K H a xs:=.inl (.inl h)
theorem SqT.of{K:W.Frag}(h:H a=some (.tup xs)):SqT K H a xs:=.inl (.inl h)
theorem Inv.list(I:Inv X pins σ H s)(h:SqL X.K H a xs):∃ its:List Value,Vals xs its/\PlainL s.heap a its.toArray/\xs.length<=sizeLine:=by
 rcases h with h | ⟨o,its,n,hk,hc,hd,hs,hz,r⟩
 .let(z,its,n,r,e):=h.ok I.hok;show(its,r,⟨_,n,e,rfl,rfl,rfl⟩,z)
 .show(its.toList,r,⟨o,n,I.kIn a o hk,hc,hd,by simpa using hs⟩,?_);have e:=r.length;simp only[Array.length_toList]at e;ac_nf
theorem Inv.tuple(I:Inv X pins σ H s)(h:SqT X.K H a xs):∃ its:List Value,Vals xs its/\IsTup s.heap a its.toArray/\xs.length<=sizeLine:=by
 rcases h with h | ⟨o,its,n,hk,hc,hs,hz,r⟩
 .let(z,its,r,p):=h.ok I.hok;show(its,r,p,z)
 .show(its.toList,r,⟨o,I.kIn a o hk,hc,n,by simpa using hs⟩,?_);have e:=r.length;simp only[Array.length_toList]at e;ac_nf
theorem Inv.list_inj(I:Inv X pins σ H s)(h:SqL X.K H a xs)(h':SqL X.K H a ys):xs=ys:=by
 let(c,r,(o,n,e,_,_,d),_):=I.list h;let(b,i,(k,j,f,_,_,g),_):=I.list h';rw[e]at f;cases f;rw[d]at g;injection g with d1 _
 have : c=b:=by simpa using congrArg Array.toList d1
 subst this;show r.inj i
theorem Inv.tuple_inj(I:Inv X pins σ H s)(h:SqT X.K H a xs)(h':SqT X.K H a ys):xs=ys:=by
 let(c,r,(o,e,_,n,d),_):=I.tuple h;let(b,i,(k,f,_,j,g),_):=I.tuple h';rw[e]at f;cases f;rw[d]at g;injection g with d1 _
 have : c=b:=by simpa using congrArg Array.toList d1
 subst this;show r.inj i
end
abbrev Cx.wish(X:Cx)(E:Value->Shared->Prop):Cx:={ X with xe:=E }
abbrev Cx.nox(X:Cx):Cx:=X.wish λ_ _=>False
theorem Cx.Ok.wish(ok:X.Ok)(E:Value->Shared->Prop):(X.wish E).Ok :=
 ⟨ok.mod,ok.kind,ok.glob,ok.blt,ok.above,ok.inj,ok.has,ok.cab,ok.hd,ok.frames,ok.stk,ok.exf,ok.bs,ok.bsz,ok.noex,ok.exfs,ok.funs,ok.frf⟩
theorem Cx.Ok.unwish(ok:(X.wish E).Ok):X.Ok :=
 ⟨ok.mod,ok.kind,ok.glob,ok.blt,ok.above,ok.inj,ok.has,ok.cab,ok.hd,ok.frames,ok.stk,ok.exf,ok.bs,ok.bsz,ok.noex,ok.exfs,ok.funs,ok.frf⟩
section
variable{pins:List (Addr × Obj)}{σ:St}{s:Shared}
theorem Inv.wish(I:Inv X pins σ H s)(E:Value->Shared->Prop):Inv (X.wish E) pins σ H s:=⟨I.ok.wish E,I.os,I.bare,I.base,I.loc,I.cell,I.free,I.freeC,I.pin,I.hok,I.len⟩
theorem Inv.unwish(I:Inv (X.wish E) pins σ H s):Inv X pins σ H s:=⟨I.ok.unwish,I.os,I.bare,I.base,I.loc,I.cell,I.free,I.freeC,I.pin,I.hok,I.len⟩
variable{s':Shared}
theorem SP.unwish{D:Ends}{f:Flow}(h:SP (X.wish E) pins D f s'):SP X pins D f s':=by
 cases f with
 | next=>let(σ',a,I,q):=h;show(σ',a,I.unwish,q)
 | brk=>let(σ',a,I,q):=h;show(σ',a,I.unwish,q)
 | cont=>let(σ',a,I,q):=h;show(σ',a,I.unwish,q)
 | ret u=>let(v,σ',a,I,r,q):=h;show(v,σ',a,I.unwish,r,q)
theorem PSs.nox{st:List Stmt}{t:TS}(h:PSs X.nox st t):PSs X st t:=λa s σ H D I b=>
 wpAny_mono (h a s σ H D (I.wish _) b) (λ_ _ q=>q.unwish) λ_ _ z=>False.elim z
end
section
variable{st:Stmt}{u:TS}{te:TE}{pos:Pos}{rest:List Stmt}{t:TS}
def tNext:TS:=λD σ H=>D.nx σ H
def tSeq(t u:TS):TS:=λD σ H=>t { D with nx:=u D } σ H
theorem Jav:PSs X [] tNext:=λ_ _ σ H _ I h=>wpAny_execs_nil ⟨σ,H,I,h⟩
theorem Jab(h1:PS X st t)(h2:PSs X rest u):PSs X (st::rest) (tSeq t u):=by
 intro a s σ H D I h;show wpAny_execs_cons (thn (h1 a s σ H { D with nx:=u D } I h) λf c q=>?_);cases f with
 | next=>
  let(σ',b,I',q):=q;show h2 a c σ' b D I' q
 | ret v=>show q
 | brk=>show q
 | cont=>show q
theorem Jag(h1:PS X st t):PSs X [st] t:=by
 intro a s σ H D I h;show wpAny_execs_cons (thn (h1 a s σ H D I h) λf b q=>?_);cases f with
 | next=>show wpAny_execs_nil q
 | ret v=>show q
 | brk=>show q
 | cont=>show q
variable{pins:List (Addr × Obj)}{σ:St}
theorem Inv.quiet{s:Shared}(I:Inv X pins σ H s):interactive X.env=false:=by simp[interactive,I.ok.kind]
def tDrop(te:TE):TS:=λD σ H=>te σ H λ_ H1=>D.nx σ H1
theorem Jbi(he:PE X e te)(hs:autoParam (swapsWith e none pos.line X.env=pure false) Au):PS X (.Expr e pos) (tDrop te):=by
 intro a s σ H D I h;show wpAny_Expr_any (thn (he a s σ H _ I h) λv f ζ=>by let(x,b,I1,d,c):=ζ;show(σ,b,I1,c)) I.quiet hs
def tRet(te:TE):TS:=λD σ H=>te σ H D.rt
theorem Jap(he:PE X e te):PS X (.Return (some e) pos) (tRet te):=by
 intro a s σ H D I h;show wpAny_Return_some (thn (he a s σ H _ I h) λv f ζ=>by let(x,c,I1,b,d):=ζ;show(x,σ,c,I1,b,d))
def tIfS(c:TT)(t u:TS):TS:=λD σ H=>c σ H λb H1=>if b=true then t D σ H1 else u D σ H1
variable{c:Expr}{tc:TT}
theorem ps_if{a b:List Stmt}(hc:PT X c tc)(ha:PSs X a t)(hb:PSs X b u):PS X (.If c a b pos) (tIfS tc t u):=by
 intro e s σ H D I h;show wpAny_If (thn (hc e s σ H _ I h) λd i ζ=>?_);let(f,I1,g):=ζ;cases d with
 | true=>show ha e i σ f D I1 g
 | false=>show hb e i σ f D I1 g
end
abbrev TG:=V->St->Hp->(St->Hp->Prop)->Prop
abbrev TGs:=List V->St->Hp->(St->Hp->Prop)->Prop
def PG(X:Cx)(target:Expr)(t:TG):Prop :=
 ∀(pins:List (Addr × Obj))(s:Shared)(σ : St)(H:Hp)(v:V)(u:Value)(Q:St->Hp->Prop),Inv X pins σ H s->RelV v u->t v σ H Q ->
  wpAny (model X.prog X.w) X.A (assign target X.env u) (λ_ s'=>∃ σ' H',Inv X pins σ' H' s'/\Q σ' H') X.xe s
def PGs(X:Cx)(ts:List Expr)(t:TGs):Prop :=
 ∀(pins:List (Addr × Obj))(s:Shared)(σ : St)(H:Hp)(vs:List V)(us:List Value)(Q:St->Hp->Prop),Inv X pins σ H s->Vals vs us->t vs σ H Q ->
  wpAny (model X.prog X.w) X.A (assignInOrder ((assignEach ts X.env).map (·.2)) us) (λ_ s'=>∃ σ' H',Inv X pins σ' H' s'/\Q σ' H') X.xe s
variable{pos:Pos}
def gName(i:Nat):TG:=λv σ H Q=>Q (σ.set i (some v)) H
variable{x:Str}
theorem Jaq(i:Nat)(hN:X.N.Nodup)(hi:autoParam (X.N[i]?=some x) Au)(hx:autoParam (Loc X.env.scope x) Au)(hf:autoParam (X.fn x=true\/X.env.scope.names.lookup x=some .local) Au):PG X (.Name x pos) (gName i):=by
 intro a s σ H v u Q I r h;show wpAny_assign_Name (Jd9 I hN hi hx r (λb I'=>⟨_,H,I',h⟩) hf)
def gNil:TGs:=λvs σ H Q=>vs=[]/\Q σ H
def gCons(t:TG)(u:TGs):TGs:=λvs σ H Q=>∃ v r,vs=v::r/\t v σ H λσ' H'=>u r σ' H' Q
theorem JdO:PGs X [] gNil:=by
 intro a s σ H c b Q I r h;let(e,h):=h;subst e;cases r;show assignInOrder_nil ⟨σ,H,I,h⟩
variable{es:List Expr}
theorem Jbo{t:TG}{u:TGs}(h1:PG X e t)(h2:PGs X es u)
  (hs:autoParam ((assignEach (e::es) X.env).map (·.2)=assign e X.env::(assignEach es X.env).map (·.2)) Au):PGs X (e::es) (gCons t u):=by
 intro a s σ H j i Q I r h;let(v,g,f,h):=h;subst f;cases r with
 | cons r rr=>
  rw[hs];show assignInOrder_cons (thn (h1 a s σ H _ _ _ I r h) λ_ d ζ=>?_);let(σ1,b,I1,c):=ζ;show h2 a d σ1 b _ _ Q I1 rr c
def gTup(K:W.Frag)(n:Nat)(t:TGs):TG:=λv σ H Q=>∃ a xs,v=.ref a/\SqT K H a xs/\xs.length=n/\t xs σ H Q
theorem Jfc{k:Nat}{t:TGs}{n:Nat}(hc:X.calm=true)(h:PGs X es t)
  (hn:autoParam ((assignEach es X.env).length=n) Au) (hst:autoParam ((assignEach es X.env).findIdx? (·.1)=none) Au):PG X (.Tuple es k pos) (gTup X.K n t):=by
 intro c s σ H v u Q I r d;let(a,w,j,l,i,d):=d;subst j;cases r;let(m,f,p,x):=I.tuple l;show assign_Tuple_tuple (I.ok.hd hc) p (by simp[hn, <- i,f.length]) hst λq g=>?_;have I1:Inv X c σ H { s with heap:=q }:=I.kept (t':=s.toks) λb o e=>g b o (Nat.ne_of_lt (Heap.lt_size e)) e;show h c _ σ H w _ Q I1 (by simpa using f) d
def tAsg(te:TE)(g:TG):TS:=λD σ H=>te σ H λx H1=>g x σ H1 D.nx
variable{tg:Expr}{te:TE}
theorem Jjm{g:TG}(he:PE X e te)(hg:PG X tg g)(hs:autoParam (swapsWithSole [tg] e pos.line X.env=pure false) Au)(hw:autoParam (swappedStores [tg] e X.env=pure none) Au)
  (h1:autoParam ((assignEach [tg] X.env).map (·.2)=[assign tg X.env]) Au):PS X (.Assign [tg] e pos) (tAsg te g):=by
 intro a s σ H D I h;show wpAny_Assign_stores (thn (he a s σ H _ I h) λv f ζ=>?_) hs hw;let(x,c,I1,b,d):=ζ;rw[h1];show thn (hg a f σ c x v _ I1 b d) λ_ i q=>q
variable{pos':Pos}
theorem Jaj(i:Nat)(hN:X.N.Nodup)(he:PE X e te)(hi:autoParam (X.N[i]?=some x) Au)(hx:autoParam (Loc X.env.scope x) Au)(hs:autoParam (swapsWith e (some (.Name x pos')) pos.line X.env=pure false) Au)(hf:autoParam (X.fn x=true\/X.env.scope.names.lookup x=some .local) Au) :
  PS X (.Assign [.Name x pos'] e pos) (tAsg te (gName i)):=by
 intro a s σ H D I h;show wpAny_Assign_Name (thn (he a s σ H _ I h) λv g ζ=>?_) hs;let(y,c,I1,b,d):=ζ;show Jd9 I1 hN hi hx b (λf I2=>⟨_,c,I2,d⟩) hf
def Jnp(c:TT)(tb:TS):TS:=λD σ H=>∃ W:Nat->St->Hp->Prop,(∃ m,W m σ H)/\∀ m σ H,W m σ H ->
 c σ H λb H1=>if b=true then∃ N:St->Hp->Prop,(∀ σ' H',N σ' H'->∃ m',m'<m/\W m' σ' H')/\tb { D with nx:=N,ct:=N,bk:=D.nx } σ H1 else D.nx σ H1
variable{c:Expr}{body:List Stmt}{tb:TS}
theorem Jd8{tc:TT}(hp:PassesOwn (model X.prog X.w) X.A X.env X.xe)(hc:PT X c tc)(hb:PSs X body tb):PS X (.While c body [] pos) (Jnp tc tb):=by
 intro a s σ H D I h;let(W,(x,t),e):=h;show wpAny_While (codeAny_whileLoop (λn z=>∃ σ' H',Inv X a σ' H' z/\W n σ' H') ?_ x ⟨σ,H,I,t⟩);rintro n u ⟨σ1,o,I1,y⟩;show wpAny_passesOwn hp (thn (hc a u σ1 o _ I1 (e n σ1 o y)) λb r ζ=>?_);let(p,I2,g):=ζ;cases b with
 | true=>
  let(N,q,g):=g;rw[if_pos rfl];show wpAny_passesOwn hp (thn (hb a r σ1 p _ I2 g) λf B i=>?_);cases f with
  | next=>
   let(σ3,d,I3,m):=i;let(k,l,j):=q σ3 d m;show(k,l,σ3,d,I3,j)
  | cont=>
   let(σ3,d,I3,m):=i;let(k,l,j):=q σ3 d m;show(k,l,σ3,d,I3,j)
  | brk=>show i
  | ret v=>show i
 | false=>
  rw[if_neg Bool.false_ne_true];show wpAny_execs_nil ⟨σ1,p,I2,g⟩
structure It where
 go:Nat->Hp->Prop
 yld:Nat->Hp->V->Hp->Prop
 stop:Nat->Hp->Prop
def FpOk(X:Cx)(pins:List (Addr × Obj))(H:Hp)(b:Addr):Prop :=
 H b=none/\b≠X.env.locals/\b∉X.fs/\(b∈X.ex\/X.s₀.heap.objs.size<=b)/\(∀ x c,X.env.cells.lookup x=some c->c≠b)/\∀ p∈X.pn++pins,p.1≠b
variable{pins:List (Addr × Obj)}{σ:St}{H':Hp}
theorem Inv.fpOk{s:Shared}(I:Inv X pins σ H s)(hb:s.heap.objs.size<=b)(hn:H' b=none):FpOk X pins H' b:=by
 show(hn,Nat.ne_of_gt (Nat.lt_of_lt_of_le I.lt hb),I.nofs hb, .inr (Nat.le_trans I.sz hb),λx c e z=>?_,λp a z=>?_)
 .let(v,q):=I.cell x c e;show absurd (Nat.lt_of_lt_of_le q.lt (by rw[z];show hb)) (Nat.lt_irrefl _)
 .show absurd (Nat.lt_of_lt_of_le (Heap.lt_size (I.pin p a).1) (by rw[z];show hb)) (Nat.lt_irrefl _)
structure Turn(P:Program)(w:World)(K:W.Frag)(tg:Expr)(J:It)(fp:List Addr)(it:Addr)(tn:Nat->Heap->Prop):Prop where
 mem:it∈fp
 obj:∀ i h,tn i h->∀ b∈fp, ∃ o,h.get? b=some o/\∀ v,o.data≠.cell v
 keep:∀ i h h',tn i h->(∀ b∈fp, ∀ o,h.get? b=some o->h'.get? b=some o)->tn i h'
 item:∀(X:Cx),X.prog=P->X.w=w->X.K=K->X.calm=true->∀(i:Nat)(pins:List (Addr × Obj))(s:Shared)(σ : St)(H:Hp)(E:Value->Shared->Prop),Inv X pins σ H s->(∀ b∈fp,FpOk X pins H b)->tn i s.heap->J.go i H ->
  wpAny (model P w) X.A (pyNext (.ref it)) (λr s1=>∃ u,r=some u /\
   wpAny (model P w) X.A (letOwnedTupleGo tg (.ref it) u) (λ_ s2=>∃ x H',Inv X pins σ H' s2/\RelV x u/\J.yld i H x H'/\tn (i+1) s2.heap/\∀ b∈fp,H' b=none) E s1) E s
 done:∀(X:Cx),X.prog=P->X.w=w->X.K=K->X.calm=true->∀(i:Nat)(pins:List (Addr × Obj))(s:Shared)(σ : St)(H:Hp)(E:Value->Shared->Prop),Inv X pins σ H s->(∀ b∈fp,FpOk X pins H b)->tn i s.heap->J.stop i H ->
  wpAny (model P w) X.A (pyNext (.ref it)) (λr s1=>r=none/\Inv X pins σ H s1) E s
 self:∀(A:Around)(i:Nat)(s:Shared)(Q:Value->Shared->Prop)(E:Value->Shared->Prop),tn i s.heap->Q (.ref it) s->wpAny (model P w) A (pyIter (.ref it)) Q E s
abbrev TI:=St->Hp->(It->Hp->Prop)->Prop
def PIE(X:Cx)(pins:List (Addr × Obj))(σ : St)(tg:Expr)(R:It->Hp->Prop)(itv:Value)(s2:Shared):Prop :=
 ∃(it:Addr)(fp:List Addr)(tn:Nat->Heap->Prop)(J:It)(H':Hp),itv=.ref it/\Inv X pins σ H' s2/\Turn X.prog X.w X.K tg J fp it tn/\tn 0 s2.heap/\(∀ b∈fp,FpOk X pins H' b)/\R J H'
def PI(X:Cx)(tg iter:Expr)(wi:TI):Prop :=
 ∀(pins:List (Addr × Obj))(s:Shared)(σ : St)(H:Hp)(R:It->Hp->Prop),Inv X pins σ H s->wi σ H R ->
  wpAny (model X.prog X.w) X.A (eval iter X.env) (λv s1=>wpAny (model X.prog X.w) X.A (pyIter v) (PIE X pins σ tg R) X.xe s1) X.xe s
theorem go_of{s:Shared}{it:Addr}{n:String}{vs:Array Value}{Q:Unit->Shared->Prop}(ho:s.heap.get? it=some o)(hc:o.cls=.type n)(hd:o.data=.fields vs)
    (hn:["enumerate","zip","dict_itemiterator","dict_reverseitemiterator","odict_iterator","itertools.zip_longest","itertools.pairwise"].contains n=false) (hQ:Q () s):wpAny M A (letOwnedTupleGo tg (.ref it) u) Q E s:=by
  unfold letOwnedTupleGo;cases tg <;> first
    | show wpAny_pure hQ
    | (cases u <;> first
        | show wpAny_pure hQ
        | (show wpAny_bind (wpAny_load ho ?_)
           rw[hc,hd];show wpAny M A (if(["enumerate","zip","dict_itemiterator","dict_reverseitemiterator","odict_iterator","itertools.zip_longest","itertools.pairwise"].contains n&&vs[0]? == some (rawInt _))=true then _ else _) Q E s;rw[if_neg (by intro h;rw[hn,Bool.false_and]at h;cases h)];show wpAny_pure hQ))
def Itl(K:W.Frag)(a:Addr):It :=
 ⟨λi H=>∃ xs x,SqL K H a xs/\xs[i]?=some x,λi H x H'=>H'=H/\∀ xs,SqL K H a xs->xs[i]?=some x,λi H=>∃ xs,SqL K H a xs/\xs.length<=i⟩
def Itt(K:W.Frag)(a:Addr):It :=
 ⟨λi H=>∃ xs x,SqT K H a xs/\xs[i]?=some x,λi H x H'=>H'=H/\∀ xs,SqT K H a xs->xs[i]?=some x,λi H=>∃ xs,SqT K H a xs/\xs.length<=i⟩
def Itr(lo:Int)(n:Nat):It:=⟨λi _=>i<n,λi H x H'=>H'=H/\x=.int (lo+i),λi _=>n<=i⟩
theorem JjS{w:World}{K:W.Frag}(a it:Addr):Turn P w K tg (Itl K a) [it] it (λi h=>h.IsListIter it a i) where
 mem:=by simp
 obj:=λi h f b j=>by
  have e:b=it:=by simpa using j
  subst e;let(o,e,c,d):=f;show(o,e,λv z=>by rw[d]at z;cases z)
 keep:=λi h q f k=>f.at λo e=>k it (by simp) o e
 item:=by
  intro X y L t N i g s σ H E I m f F;subst y L t;let(Y,x,n,A):=F;let(J,B,p,Q):=I.list n;let(u,U,V):=B.get A;let(r,G,T,D,C,M):=m it (by simp);show wpAny_pyNext_list_item f p.isList (x:=u) (by simpa using U) λq l R=>?_;have I1:Inv X g σ H { s with heap:=q }:=I.turned (t':=s.toks) (λb o j e=>(R.2 b j).trans e) r G D C M;let(o,e,c,d):=id l;show(u,rfl,go_of (s:={ s with heap:=q }) e c d ⋯ ⟨x,H,I1,V,⟨rfl,λys S=>by rw[I.list_inj S n];show A⟩,l,λb j=>(m b j).1⟩)
 done:=by
  intro X y L t N i g s σ H E I m f F;subst y L t;let(Y,n,A):=F;let(J,B,p,Q):=I.list n;let(r,G,T,D,C,M):=m it (by simp);have Z:=B.length;show wpAny_pyNext_list_end (I.ok.hd N) f p.isList (by simp;ac_nf) λq O=>⟨rfl,I.turned (t':=s.toks) (λb o j e=>O b o j e) r G D C M⟩
 self:=λ_ _ _ _ _ f h=>wpAny_pyIter_listiter f h
theorem Jit{w:World}{K:W.Frag}(a it:Addr):Turn P w K tg (Itt K a) [it] it (λi h=>h.IsTupleIter it a i) where
 mem:=by simp
 obj:=λi h f b j=>by
  have e:b=it:=by simpa using j
  subst e;let(o,e,c,d):=f;show(o,e,λv z=>by rw[d]at z;cases z)
 keep:=λi h r f k=>f.at λo e=>k it (by simp) o e
 item:=by
  intro X A L y N i g s σ H E I n f G;subst A L y;let(Y,x,q,B):=G;let(l,C,p,Q):=I.tuple q;let(u,U,V):=C.get B;let(t,J,T,F,D,M):=n it (by simp);show wpAny_pyNext_tuple_item f (show s.heap.IsTuple a l.toArray from p) (x:=u) (by simpa using U) λr m R=>?_;have I1:Inv X g σ H { s with heap:=r }:=I.turned (t':=s.toks) (λb o j e=>(R.2 b j).trans e) t J F D M;let(o,e,c,d):=id m;show(u,rfl,go_of (s:={ s with heap:=r }) e c d ⋯ ⟨x,H,I1,V,⟨rfl,λys S=>by rw[I.tuple_inj S q];show B⟩,m,λb j=>(n b j).1⟩)
 done:=by
  intro X A L y N i g s σ H E I n f G;subst A L y;let(Y,q,B):=G;let(l,C,p,Q):=I.tuple q;let(t,J,T,F,D,M):=n it (by simp);have Z:=C.length;show wpAny_pyNext_tuple_end (I.ok.hd N) f (show s.heap.IsTuple a l.toArray from p) (by simp;ac_nf) λr O=>⟨rfl,I.turned (t':=s.toks) (λb o j e=>O b o j e) t J F D M⟩
 self:=λ_ _ _ _ _ f h=>wpAny_pyIter_tupleiter f h
theorem Jis{w:World}{K:W.Frag}(it:Addr)(lo:Int)(n:Nat):Turn P w K tg (Itr lo n) [it] it (λi h=>IsRangeIter h it (lo+(i:Nat)*1) ((n:Int)-(i:Nat)) 1) where
 mem:=by simp
 obj:=λi h a b d=>by
  have e:b=it:=by simpa using d
  subst e;show(_,a,λv z=>by
   have L:Data.fields _=Data.cell v:=z;cases L)
 keep:=λi h j a k=>k it (by simp) _ a
 item:=by
  intro X p y m B i c s σ H E I g a u;subst p y m;let(l,x,J,r,q,A):=g it (by simp);have W:=Walks.range (prog:=X.prog) (w:=X.w) (I.ok.hd B) it lo 1 n;show W.item i s _ _ u a λv j C F f D=>?_;let(t,rfl):=F;have I1:Inv X c σ H { s with heap:=j,toks:=C }:=I.turned (λb o d e=>D b o (by simpa using d) e) l x r q A;show(_,rfl,go_of (s:={ s with heap:=j,toks:=C }) (n:="range_iterator") f rfl rfl ⋯ ⟨.int (lo+i),H,I1,⟨t,?_⟩,⟨rfl,rfl⟩,f,λb d=>(g b d).1⟩);rw[Int.mul_one]
 done:=by
  intro X p y m B i c s σ H E I g a u;subst p y m;let(l,x,J,r,q,A):=g it (by simp);show wpAny_pyNext_range_end (I.ok.hd B) a (by have : n<=i:=u;ac_nf) λj G=>⟨rfl,I.turned (t':=s.toks) (λb o d e=>G b o d e) l x r q A⟩
 self:=λ_ _ _ _ _ a h=>wpAny_pyIter_rangeiter a h
theorem Jku{s:Shared}{R:It->Hp->Prop}{lo hi:Int}{t u v:Tok}{tk:Nat}(I:Inv X pins σ H s)(h1 : -(2 ^ 62)<=lo)(h2:lo<2 ^ 62)(h3 : -(2 ^ 62)<=hi)(h4:hi<2 ^ 62)
  (q:R (Itr lo (hi-lo).toNat) H):wpAny (model X.prog X.w) X.A (pyIter (.ref s.heap.objs.size)) (PIE X pins σ tg R) E { s with heap:=s.heap.push { cls:=.type "range",data:=.fields #[.int lo t, .int hi u, .int 1 v] },toks:=tk }:=by
 show wpAny_pyIter_range (IsRange.new ..) (small_one h1 h2 h3 h4) ?_;have I1:Inv X pins σ H { s with heap:=s.heap.push { cls:=.type "range",data:=.fields #[.int lo t, .int hi u, .int 1 v] },toks:=tk }:=I.kept λb o e=>Heap.get?_push_of_some _ e;show((s.heap.push { cls:=.type "range",data:=.fields #[.int lo t, .int hi u, .int 1 v] }).objs.size,[(s.heap.push { cls:=.type "range",data:=.fields #[.int lo t, .int hi u, .int 1 v] }).objs.size],_,_,H,rfl,
  I1.kept (t':=tk) λb o e=>Heap.get?_push_of_some _ e,Jis _ lo (hi-lo).toNat,?_,λb a=>?_,q)
 .have d:lo+((0:Nat):Int)*1=lo:=by simp
  have c:(((hi-lo).toNat:Nat):Int)-((0:Nat):Int)=Builtin.Range.rangeSize lo hi 1:=by rw[rangeSize_one];split <;> ac_nf
  show IsRangeIter _ _ (lo+((0:Nat):Int)*1) ((((hi-lo).toNat:Nat):Int)-((0:Nat):Int)) 1;rw[d,c];show Heap.get?_push_size _ rfl
 .have e:b=(s.heap.push { cls:=.type "range",data:=.fields #[.int lo t, .int hi u, .int 1 v] }).objs.size:=by simpa using a
  subst e;show I1.fpOk (Nat.le_refl _) (I1.hok.fresh (Nat.le_refl _))
def iRng1(ta:TA):TI:=λσ H R=>ta σ H λvs H1=>∃ j:Int,vs=[.int j]/\-(2 ^ 62)<=j/\j<2 ^ 62/\R (Itr 0 j.toNat) H1
variable{a:Expr}
theorem Jdw{ta:TA}{p:Pos}(hg:Gl X "range")(hm:X.mg "range"=none)(ha:PA X [a] ta)(hs:autoParam (starEach [a] X.env=[(false,eval a X.env)]) Au):PI X tg (.Call (.Name "range" p) [a] [] pos) (iRng1 ta):=by
 intro b s σ H R I h;show Call_ (Jej I hg hm boot_range (PyProof.Rows.callWith_type1 (thn (ha pos b s σ H _ I h) λi l ζ=>?_) hs rfl));let(k,g,I1,d,c):=ζ;let(j,e,c,f,q):=c;subst e;cases d with
 | cons r rr=>
  cases rr;let(t,rfl):=r;show call_range_1 (Jku I1 ∅ ∅ c f (by simpa using q))
def tFor(wi:TI)(g:TG)(tb:TS):TS:=λD σ H=>wi σ H λJ H1=>∃ W:Nat->Nat->St->Hp->Prop,(∃ m,W 0 m σ H1)/\∀ i m σ H,W i m σ H ->
 (J.stop i H/\D.nx σ H)\/(J.go i H/\∃ N:St->Hp->Prop,(∀ σ' H',N σ' H'->∃ m',m'<m/\W (i+1) m' σ' H')/\∀ x H',J.yld i H x H'->g x σ H' λσ2 H2=>tb { D with nx:=N,ct:=N,bk:=D.nx } σ2 H2)
def JhR(fp:List Addr)(h:Heap):List (Addr × Obj):=fp.filterMap λb=>(h.get? b).map λo=>(b,o)
variable{fp:List Addr}
theorem Jc6(hb:b∈fp)(e:h.get? b=some o):(b,o)∈JhR fp h:=List.mem_filterMap.mpr ⟨b,hb,by rw[e];rfl⟩
theorem Ji5{p:Addr × Obj}(hp:p∈JhR fp h):p.1∈fp/\h.get? p.1=some p.2:=by
 let(b,a,e):=List.mem_filterMap.mp hp;cases q:h.get? b with
 | none=>rw[q]at e;cases e
 | some o=>
  rw[q]at e;have c:(b,o)=p:=Option.some.inj e;subst c;show(a,q)
theorem Inv.pinned{s:Shared}(I:Inv X pins σ H s)(hf:∀ b∈fp,FpOk X pins H b)(ho:∀ b∈fp, ∃ o,s.heap.get? b=some o/\∀ v,o.data≠.cell v):Inv X (pins++JhR fp s.heap) σ H s :=
 I.pins_of λp i=>(mem_append.mp i).elim (λz=>I.pin p (mem_append_right _ z)) λz=>by
  let(a,e):=Ji5 z;let(f,g,h,_):=hf p.1 a;let(o,c,d):=ho p.1 a;rw[e]at c;cases c;show(e,f,g,h,d)
theorem Inv.unpinned{pl:List (Addr × Obj)}{s:Shared}(I:Inv X (pins++pl) σ H s):Inv X pins σ H s:=I.pins_of λp a=>I.pin p (mem_append_right _ (List.mem_append_left _ a))
theorem JaV{iter:Expr}{wi:TI}{g:TG}(hp:PassesOwn (model X.prog X.w) X.A X.env X.xe)(hc:X.calm=true)(hi:PI X tg iter wi)(hg:PG X tg g)(hb:PSs X body tb)
  (hs:autoParam (∀ x,foldedSetIterable iter X.env x=pure x) Au):PS X (.For tg iter body [] pos) (tFor wi g tb):=by
 intro a s σ H D I h;show wpAny_For (thn (hi a s σ H _ I h) λv s1 h1=>thn h1 λa0 s2 h2=>?_) hs;let(it,t,O,J,H2,e,I2,T,G,Q,W,(m0,Y),B):=h2;subst e;have j:∀{H':Hp},(∀ b∈t,H' b=none)->∀ b∈t,FpOk X a H' b:=λhn b hb=>⟨hn b hb,(Q b hb).2⟩;show codeAny_forLoop_any (λn R=>∃ i σ' H',Inv X a σ' H' R/\O i R.heap/\(∀ b∈t,H' b=none)/\W i n σ' H') ?_ m0 ⟨0,σ,H2,I2,G,λb hb=>(Q b hb).1,Y⟩;intro n L z_;let(i,σ3,C,I3,z,q,S):=z_;rcases B i n σ3 C S with⟨stop,qn⟩ | ⟨go,N,hN,step⟩
 .show wpAny_passesOwn hp (thn (T.done X rfl rfl rfl hc i a L σ3 C X.xe I3 (j q) z stop) λr s4 ⟨E,I4⟩=>?_);subst E;show wpAny_execs_nil ⟨σ3,C,I4,qn⟩
 .show wpAny_passesOwn hp (thn (T.item X rfl rfl rfl hc i a L σ3 C X.xe I3 (j q) z go) λr s4 ζ=>?_);let(u,E,h4):=ζ;subst E;show wpAny_passesOwn hp (thn h4 λ_ P ζ=>?_);let(x,M,I5,r5,y5,p,K):=ζ;have I5':=I5.pinned (j K) (T.obj _ _ p);show wpAny_passesOwn hp (thn (hg _ P σ3 M x u _ I5' r5 (step x M y5)) λ_ s6 ζ=>?_);let(σ6,H6,I6,q6):=ζ;show wpAny_passesOwn hp (thn (hb _ s6 σ6 H6 _ I6 q6) λf F l=>?_);have c:∀{σ7:St}{k:Hp},Inv X (a++JhR t P.heap) σ7 k F->N σ7 k->∃ m,m<n/\∃ i σ' H',Inv X a σ' H' F/\O i F.heap/\(∀ b∈t,H' b=none)/\W i m σ' H':=λ{σ7 k} I7 y=>by
   let(V,hm,U):=hN σ7 k y;show(V,hm,i+1,σ7,k,I7.unpinned,T.keep _ _ _ p λb hb o e=>(I7.pin (b,o) (mem_append_right _ (mem_append_right _ (Jc6 hb e)))).1,λb hb=>?_,U);let(o,e,d):=T.obj _ _ p b hb;show(I7.pin (b,o) (mem_append_right _ (mem_append_right _ (Jc6 hb e)))).2.1
  cases f with
  | next=>let(σ7,k,I7,y):=l;show c I7 y
  | cont=>let(σ7,k,I7,y):=l;show c I7 y
  | brk=>let(σ7,k,I7,l):=l;show(σ7,k,I7.unpinned,l)
  | ret v=>let(Z,σ7,k,I7,r7,l):=l;show(Z,σ7,k,I7.unpinned,r7,l)
variable{n:Nat}
theorem JiO{lo:Int}{g:TG}{D:Ends}(Pv:Nat->St->Hp->Prop)(h0:Pv 0 σ H)
  (hs:∀ i σ H,i<n->Pv i σ H->g (.int (lo+i)) σ H λσ2 H2=>tb { D with nx:=Pv (i+1),ct:=Pv (i+1),bk:=D.nx } σ2 H2) (hd:∀ σ H,Pv n σ H->D.nx σ H) :
  ∃ W:Nat->Nat->St->Hp->Prop,(∃ m,W 0 m σ H)/\∀ i m σ H,W i m σ H ->
   ((Itr lo n).stop i H/\D.nx σ H)\/((Itr lo n).go i H/\∃ N:St->Hp->Prop,(∀ σ' H',N σ' H'->∃ m',m'<m/\W (i+1) m' σ' H')/\∀ x H',(Itr lo n).yld i H x H'->g x σ H' λσ2 H2=>tb { D with nx:=N,ct:=N,bk:=D.nx } σ2 H2):=by
 show(λi m σ H=>m=n-i/\i<=n/\Pv i σ H,⟨n,by simp,Nat.zero_le _,h0⟩,?_);rintro i m σ H ⟨rfl,c,p⟩;by_cases a:i<n
 .show .inr ⟨a,Pv (i+1),λσ' H' b=>⟨n-(i+1),by ac_nf,rfl,a,b⟩,λx H' y=>?_⟩;let(e,y):=y;subst e y;show hs i σ _ a p
 .have e:i=n:=by ac_nf
  subst e;show .inl ⟨Nat.le_refl _,hd σ H p⟩
abbrev R2:=V->V->Hp->VK->Prop
def OpR(X:Cx)(f:Value->Value->Sem Value)(r:R2):Prop :=
 ∀(pins:List (Addr × Obj))(s:Shared)(σ : St)(H:Hp)(x y:V)(v u:Value)(Q:VK),Inv X pins σ H s->RelV x v->RelV y u->r x y H Q ->
  wpAny (model X.prog X.w) X.A (f v u) (EP X pins σ Q) X.xe s
def UnR(X:Cx)(f:Value->Sem Value)(r:V->Hp->VK->Prop):Prop :=
 ∀(pins:List (Addr × Obj))(s:Shared)(σ : St)(H:Hp)(x:V)(v:Value)(Q:VK),Inv X pins σ H s->RelV x v->r x H Q ->
  wpAny (model X.prog X.w) X.A (f v) (EP X pins σ Q) X.xe s
def CallR(X:Cx)(f:Value)(r:List V->Hp->VK->Prop):Prop :=
 ∀(pins:List (Addr × Obj))(s:Shared)(σ : St)(H:Hp)(xs:List V)(us:List Value)(Q:VK),Inv X pins σ H s->Vals xs us->r xs H Q ->
  wpAny (model X.prog X.w) X.A (call f us) (EP X pins σ Q) X.xe s
def tOp(r:R2)(ta tb:TE):TE:=λσ H Q=>ta σ H λx H1=>tb σ H1 λy H2=>r x y H2 Q
def tUn(r:V->Hp->VK->Prop)(ta:TE):TE:=λσ H Q=>ta σ H λx H1=>r x H1 Q
def rI(C:Int->Int->Prop)(g:Int->Int->V):R2:=λx y H Q=>∃ i j,x=.int i/\y=.int j/\C i j/\Q (g i j) H
def rI0(g:Int->Int->V):R2:=λx y H Q=>∃ i j,x=.int i/\y=.int j/\Q (g i j) H
def rU(g:Int->V):V->Hp->VK->Prop:=λx H Q=>∃ i,x=.int i/\Q (g i) H
variable{b:Expr}{ta tb tc:TE}
theorem binT(ha:PE X a ta)(hb:PE X b tb){pins:List (Addr × Obj)}{s:Shared}{σ : St}{H:Hp}{R:V->V->Hp->Prop}(I:Inv X pins σ H s)
  (h:ta σ H λx H1=>tb σ H1 λy H2=>R x y H2) {Q:Value->Shared->Prop} {f:Value->Value->Sem Value}
  (hf:∀ v u s2 x y H2,Inv X pins σ H2 s2->RelV x v->RelV y u->R x y H2->wpAny (model X.prog X.w) X.A (f v u) Q X.xe s2) :
  wpAny (model X.prog X.w) X.A (eval a X.env) (λv s₁=>wpAny (model X.prog X.w) X.A (eval b X.env) (λu s₂=>wpAny (model X.prog X.w) X.A (f v u) Q X.xe s₂) X.xe s₁) X.xe s:=by
 show thn (ha pins s σ H _ I h) λv i ζ=>?_;let(x,H1,I1,c,g):=ζ;show thn (hb pins i σ H1 _ I1 g) λu s2 ζ=>?_;let(y,H2,I2,e,d):=ζ;show hf v u s2 x y H2 I2 c e d
theorem pe_op{op:Operator}{r:R2}(ho:OpR X (binaryOp op) r)(ha:PE X a ta)(hb:PE X b tb):PE X (.BinOp a op b pos) (tOp r ta tb):=by
 intro c s σ H Q I h;show wpAny_BinOp (binT ha hb I h λv u e x y d I2 f g q=>ho c e σ d x y v u Q I2 f g q)
theorem pe_un{op:UnaryOp}{r:V->Hp->VK->Prop}(ho:UnR X (unaryOp op) r)(ha:PE X a ta):PE X (.UnaryOp op a pos) (tUn r ta):=by
 intro b s σ H Q I h;show UnaryOp_ (thn (ha b s σ H _ I h) λv f ζ=>by let(x,d,I1,c,e):=ζ;show ho b f σ d x v Q I1 c e)
theorem opI{f:Value->Value->Sem Value}{C:Int->Int->Prop}{g:Int->Int->Int}
  (rule:∀(i j:Int)(t u:Tok)(s:Shared)(Q:Value->Shared->Prop)(E:Value->Shared->Prop),C i j->Q (.int (g i j) s.toks) { s with toks:=s.toks+1 }->wpAny (model X.prog X.w) X.A (f (.int i t) (.int j u)) Q E s) :
  OpR X f (rI C λi j=>.int (g i j)):=by
 intro a s σ H x y v u Q I b c h;let(i,j,rfl,rfl,e,q):=h;let(t,rfl):=b;let(d,rfl):=c;show rule i j t d s _ _ e ⟨.int (g i j),H,I.tok _,⟨_,rfl⟩,q⟩
theorem opI0{f:Value->Value->Sem Value}{g:Int->Int->Int}
  (rule:∀(i j:Int)(t u:Tok)(s:Shared)(Q:Value->Shared->Prop)(E:Value->Shared->Prop),Q (.int (g i j) s.toks) { s with toks:=s.toks+1 }->wpAny (model X.prog X.w) X.A (f (.int i t) (.int j u)) Q E s) :
  OpR X f (rI0 λi j=>.int (g i j)):=by
 intro a s σ H x y v u Q I b c h;let(i,j,rfl,rfl,q):=h;let(t,rfl):=b;let(d,rfl):=c;show rule i j t d s _ _ ⟨.int (g i j),H,I.tok _,⟨_,rfl⟩,q⟩
theorem opB0{f:Value->Value->Sem Value}{g:Int->Int->Bool}
  (rule:∀(i j:Int)(t u:Tok)(s:Shared)(Q:Value->Shared->Prop)(E:Value->Shared->Prop),Q (.bool (g i j)) s->wpAny (model X.prog X.w) X.A (f (.int i t) (.int j u)) Q E s) :
  OpR X f (rI0 λi j=>.bl (g i j)):=by
 intro a s σ H x y v u Q I b c h;let(i,j,rfl,rfl,q):=h;let(t,rfl):=b;let(d,rfl):=c;show rule i j t d s _ _ ⟨.bl (g i j),H,I,rfl,q⟩
def CPow(i j:Int):Prop:=0<=j/\j<=1000000/\i.natAbs<2 ^ 64
theorem JmX:OpR X (binaryOp .Add) (rI0 λi j=>.int (i+j)):=opI0 λ_ _ _ _ _ _ _ q=>add_int q
theorem Jey:OpR X (binaryOp .Sub) (rI0 λi j=>.int (i-j)):=opI0 λ_ _ _ _ _ _ _ q=>sub_int q
theorem JlR:OpR X (binaryOp .Mod) (rI (λ_ j=>j≠0) λi j=>.int (i.fmod j)):=opI λ_ _ _ _ _ _ _ a q=>mod_int' a q
theorem Jm3:OpR X (binaryOp .Pow) (rI CPow λi j=>.int (i ^ j.toNat)):=opI λ_ _ _ _ _ _ _ a q=>pow_int_small a.1 a.2.1 a.2.2 q
theorem unI{f:Value->Sem Value}{g:Int->Int}
  (rule:∀(i:Int)(t:Tok)(s:Shared)(Q:Value->Shared->Prop)(E:Value->Shared->Prop),Q (.int (g i) s.toks) { s with toks:=s.toks+1 }->wpAny (model X.prog X.w) X.A (f (.int i t)) Q E s) :
  UnR X f (rU λi=>.int (g i)):=by
 intro a s σ H x v Q I b h;let(i,rfl,q):=h;let(t,rfl):=b;show rule i t s _ _ ⟨.int (g i),H,I.tok _,⟨_,rfl⟩,q⟩
theorem JgD:UnR X (unaryOp .USub) (rU λi=>.int (-i)):=unI λ_ _ _ _ _ q=>neg_int q
def scal:V->V->Bool
 | .non, .non=>true | .non, .int _=>true | .int _, .non=>true | .non, .bl _=>true | .bl _, .non=>true | .non, .str _=>true | .str _, .non=>true
 | .int _, .int _=>true | .bl _, .bl _=>true | .str _, .str _=>true | .byt _, .byt _=>true
 | .int _, .str _=>true | .str _, .int _=>true | .bl _, .str _=>true | .str _, .bl _=>true
 | _,_=>false
def rEq:R2:=λx y H Q=>scal x y=true/\Q (.bl (decide (x=y))) H
def rNe:R2:=λx y H Q=>scal x y=true/\Q (.bl (!decide (x=y))) H
theorem JiH{i j:Int}:decide (V.int i=V.int j)=(i == j):=by
 rw[Bool.eq_iff_iff];simp
theorem JkM{i j:Bool}:decide (V.bl i=V.bl j)=(i == j):=by
 rw[Bool.eq_iff_iff];simp
theorem JiI{i j:Str}:decide (V.str i=V.str j)=(i == j):=by
 rw[Bool.eq_iff_iff];simp
theorem JiG{i j:Array UInt8}:decide (V.byt i=V.byt j)=(i.toList == j.toList):=by
 rw[Bool.eq_iff_iff];cases i;cases j;simp
theorem JaS{s:Shared}{Q:VK}{k k':Bool}(I:Inv X pins σ H s)(q:Q (.bl k) H)(e:k=k'):EP X pins σ Q (.bool k') s:=by
 subst e;show(.bl k,H,I,rfl,q)
theorem op_eq:OpR X (compareOp .Eq) rEq:=by
 intro e s σ H x y v u Q I d a h;let(c,q):=h;cases x with
 | non=>
  cases d;cases y with
  | non=>cases a;show PySem.EqNone.eq_none_none (JaS I q (by simp))
  | bl j=>cases a;show PySem.EqNone.eq_none_bool (JaS I q (by simp))
  | int j=>let(b,rfl):=a;show PySem.EqNone.eq_none_int (JaS I q (by simp))
  | str j=>let(b,rfl):=a;show PySem.EqNone.eq_none_str (JaS I q (by simp))
  | _=>show absurd (show false=true from c) Bool.false_ne_true
 | bl i=>
  cases d;cases y with
  | non=>cases a;show PySem.EqNone.eq_bool_none (JaS I q (by simp))
  | bl j=>cases a;show eq_bool (JaS I q JkM)
  | str j=>let(b,rfl):=a;show PySem.EqMixed.eq_bool_str (JaS I q (by simp))
  | _=>show absurd (show false=true from c) Bool.false_ne_true
 | int i=>
  let(t,rfl):=d;cases y with
  | non=>cases a;show PySem.EqNone.eq_int_none (JaS I q (by simp))
  | int j=>let(b,rfl):=a;show eq_int (JaS I q JiH)
  | str j=>let(b,rfl):=a;show PySem.EqMixed.eq_int_str (JaS I q (by simp))
  | _=>show absurd (show false=true from c) Bool.false_ne_true
 | str i=>
  let(t,rfl):=d;cases y with
  | non=>cases a;show PySem.EqNone.eq_str_none (JaS I q (by simp))
  | bl j=>cases a;show PySem.EqMixed.eq_str_bool (JaS I q (by simp))
  | int j=>let(b,rfl):=a;show PySem.EqMixed.eq_str_int (JaS I q (by simp))
  | str j=>let(b,rfl):=a;show eq_str (JaS I q JiI)
  | _=>show absurd (show false=true from c) Bool.false_ne_true
 | byt i=>
  let(t,rfl):=d;cases y with
  | byt j=>let(b,rfl):=a;show W.eq_bytes (JaS I q JiG)
  | _=>show absurd (show false=true from c) Bool.false_ne_true
 | _=>cases y <;> show absurd (show false=true from c) Bool.false_ne_true
theorem op_ne:OpR X (compareOp .NotEq) rNe:=by
 intro e s σ H x y v u Q I d a h;let(c,q):=h;cases x with
 | non=>
  cases d;cases y with
  | non=>cases a;show PySem.EqNone.ne_none_none (JaS I q (by simp))
  | bl j=>cases a;show PySem.EqNone.ne_none_bool (JaS I q (by simp))
  | int j=>let(b,rfl):=a;show PySem.EqNone.ne_none_int (JaS I q (by simp))
  | str j=>let(b,rfl):=a;show PySem.EqNone.ne_none_str (JaS I q (by simp))
  | _=>show absurd (show false=true from c) Bool.false_ne_true
 | bl i=>
  cases d;cases y with
  | non=>cases a;show PySem.EqNone.ne_bool_none (JaS I q (by simp))
  | bl j=>cases a;show ne_bool (JaS I q (congrArg not JkM))
  | str j=>let(b,rfl):=a;show PySem.EqMixed.ne_bool_str (JaS I q (by simp))
  | _=>show absurd (show false=true from c) Bool.false_ne_true
 | int i=>
  let(t,rfl):=d;cases y with
  | non=>cases a;show PySem.EqNone.ne_int_none (JaS I q (by simp))
  | int j=>let(b,rfl):=a;show ne_int (JaS I q (congrArg not JiH))
  | str j=>let(b,rfl):=a;show PySem.EqMixed.ne_int_str (JaS I q (by simp))
  | _=>show absurd (show false=true from c) Bool.false_ne_true
 | str i=>
  let(t,rfl):=d;cases y with
  | non=>cases a;show PySem.EqNone.ne_str_none (JaS I q (by simp))
  | bl j=>cases a;show PySem.EqMixed.ne_str_bool (JaS I q (by simp))
  | int j=>let(b,rfl):=a;show PySem.EqMixed.ne_str_int (JaS I q (by simp))
  | str j=>let(b,rfl):=a;show ne_str (JaS I q (congrArg not JiI))
  | _=>show absurd (show false=true from c) Bool.false_ne_true
 | byt i=>
  let(t,rfl):=d;cases y with
  | byt j=>let(b,rfl):=a;show W.ne_bytes (JaS I q (congrArg not JiG))
  | _=>show absurd (show false=true from c) Bool.false_ne_true
 | _=>cases y <;> show absurd (show false=true from c) Bool.false_ne_true
theorem op_lt:OpR X (compareOp .Lt) (rI0 λi j=>.bl (decide (i<j))):=opB0 λ_ _ _ _ _ _ _ q=>lt_int q
theorem op_gt:OpR X (compareOp .Gt) (rI0 λi j=>.bl (decide (j<i))):=opB0 λ_ _ _ _ _ _ _ q=>gt_int q
theorem op_ge:OpR X (compareOp .GtE) (rI0 λi j=>.bl (decide (j<=i))):=opB0 λ_ _ _ _ _ _ _ q=>ge_int q
theorem Jjb:OpR X (compareOp .In) (λx y H Q=>∃ i j,x=.str i/\y=.str j/\Q (.bl (!(Builtin.Str.occurrences j i 0 j.length 1).isEmpty)) H):=by
 intro a s σ H x y v u Q I b c h;let(i,j,rfl,rfl,q):=h;let(t,rfl):=b;let(d,rfl):=c;show in_str (JaS I q rfl)
theorem Jm1:OpR X (compareOp .Is) (λx y H Q=>y=.non/\Q (.bl (decide (x=.non))) H):=by
 intro a s σ H x y v u Q I b c h;let(rfl,q):=h;cases c;show is_none_gen (JaS I q ?_);cases x <;> first
  | (cases b;rfl)
  | (let(t,rfl):=b;rfl)
theorem JlU:OpR X (compareOp .IsNot) (λx y H Q=>y=.non/\Q (.bl (!decide (x=.non))) H):=by
 intro a s σ H x y v u Q I b c h;let(rfl,q):=h;cases c;show isnot_none_gen (JaS I q ?_);cases x <;> first
  | (cases b;rfl)
  | (let(t,rfl):=b;rfl)
theorem Jay(b:Expr){op:CmpOp}(h:autoParam (op≠.In) Au)(h2:autoParam (op≠.NotIn) Au):behindInMarks op b=false:=by
 have c:(op == CmpOp.In)=false:=by cases op <;> first | rfl | show absurd rfl h
 have a:(op == CmpOp.NotIn)=false:=by cases op <;> first | rfl | show absurd rfl h2
 cases b <;> simp[behindInMarks,c,a]
variable{op:CmpOp}{r:R2}
theorem JbR(ho:OpR X (compareOp op) r)(ha:PE X a ta)(hb:PE X b tb)(hm:behindInMarks op b=false):PE X (.Compare a [op] [b] pos) (tOp r ta tb):=by
 intro c s σ H Q I h;show wpAny_Compare1 (binT ha hb I h λv u e x y d I2 f g q=>ho c e σ d x y v u Q I2 f g q) hm
def tTest(t:TE):TT:=λσ H Q=>t σ H λx H'=>∃ k,x=.bl k/\Q k H'
theorem Jat(ho:OpR X (compareOp op) r)(ha:PE X a ta)(hb:PE X b tb)(hm:behindInMarks op b=false):PT X (.Compare a [op] [b] pos) (tTest (tOp r ta tb)):=by
 intro d s σ H Q I h;show wpAny_isTrue_Compare1 (thn (ha d s σ H _ I h) λv p ζ=>?_) hm;let(x,l,I1,q,o):=ζ;show thn (hb d p σ l _ I1 o) λu g ζ=>?_;let(y,n,I2,i,f):=ζ;show thn (ho d g σ n x y v u _ I2 q i f) λc w ζ=>?_;let(z,t,I3,m,k,e,j):=ζ
 subst e;cases m;show wpAny_truthy_bool ⟨t,I3,j⟩
theorem Je9:(sizeLine:Nat)<2 ^ 63:=by rw[sizeLine_eq];decide
theorem Jij:OpR X (binaryOp .Add) (λx y H Q=>∃ i j,x=.str i/\y=.str j/\i.length+j.length<=sizeLine/\Q (.str (i++j)) H):=by
 intro a s σ H x y v u Q I b c h;let(i,j,rfl,rfl,e,q):=h;let(t,rfl):=b;let(d,rfl):=c;show add_str (λd f=>⟨.str (i++j),H,I.tok _,⟨_,rfl⟩,q⟩) e
variable{x:V}
theorem vals1(r:Vals [x] us):∃ u,us=[u]/\RelV x u:=by
 cases r with
 | cons r1 r2=>cases r2;show(_,rfl,r1)
theorem vals2(r:Vals [x,y] us):∃ u w',us=[u,w']/\RelV x u/\RelV y w':=by
 cases r with
 | cons r1 r2=>
  cases r2 with
  | cons r3 r4=>cases r4;show(_,_,rfl,r1,r3)
theorem Jj3:CallR X (.builtin "abs") (λxs H Q=>∃ i,xs=[.int i]/\Q (.int (if i<0 then -i else i)) H):=by
 intro a s σ H xs b Q I r h;let(i,rfl,q):=h;let(u,rfl,t,rfl):=vals1 r;show call_abs_int λu c=>⟨.int (if i<0 then -i else i),H,I.tok _,⟨_,rfl⟩,q⟩
theorem Jiy(hc:X.calm=true):CallR X (.builtin "min") (λxs H Q=>∃ i j,xs=[.int i, .int j]/\Q (.int (if j<i then j else i)) H):=by
 intro b s σ H xs f Q I r h;let(i,j,rfl,q):=h;let(u,c,rfl,(t,rfl),(e,rfl)):=vals2 r;show min_two_ints (I.ok.hd hc) λg d k=>⟨_,H,I.kept k,?_,q⟩;by_cases a:j<i
 .rw[if_pos a,if_pos a];show(_,rfl)
 .rw[if_neg a,if_neg a];show(_,rfl)
structure ObjM(h:Heap)(x dx C:Addr)(mA:Str->Option Value):Prop where
 obj:h.get? x=some (W.instObj C dx)
 ns:h.Ns1 dx mA
 ne:dx≠x
variable{dx:Addr}{mA:Str->Option Value}
theorem Jen(n:h.Ns1 dx mA):∃ od,h.get? dx=some od/\∀ name,W.lookIn name od=some (mA name):=by
 let(o,c,l,j,f,d,_,k):=n;show(o,j,λname=>?_);have e:=k name;unfold nsFind findBy at e;rw[<- Array.find?_toList]at e;unfold W.lookIn;rw[f];dsimp only;split
 .rename_i y q;rw[q]at e;show congrArg some e
 .rename_i q;rw[q]at e;have a:c.toList.any (·.refKey)=false:=by
   rw[List.any_eq_false];intro y g;let(z,t,b):=d y (Array.mem_toList_iff.mp g);simp[DictEntry.refKey,b]
  have i:¬ c.toList.any (·.refKey)=true:=by rw[a];show Bool.false_ne_true
  rw[if_neg i];show congrArg some e
variable{x C:Addr}
theorem ObjM.look(I:ObjM h x dx C mA):∃ od,W.InstAt h x (W.instObj C dx) C (some od)/\∀ name,W.lookIn name od=some (mA name) :=
 let⟨od,ho,hl⟩:=Jen I.ns
 ⟨od,⟨I.obj,rfl,rfl,ho⟩,hl⟩
section
variable{name:Str}{v:Value}{w:World}{s:Shared}{K:W.Frag}{f:Addr}
theorem get_map{expr:Bool}{Q:Value->Shared->Prop}(X:K.In s.heap)(I:ObjM s.heap x dx C mA)(hg:W.plainGet K C name=true)(hh:W.hasDictIn K C=true)
  (ha:W.findIn K (.ref C) name=some none) (hv:mA name=some v) (hv':W.handedIn v=true) (h:Q v { s with toks:=s.toks+1 }) :
  wpAny (model prog w) A (getAttr (.ref x) name expr) Q E s:=by
 let(b,J,a):=I.look;show W.get_value X J (W.plainGet_of hg).1 (W.findObj_own hh ha rfl (by rw[a,hv])) hv' h
variable{pl:Sem Bool}
theorem Jj6{Q:Value × List Value->Shared->Prop}(X:K.In s.heap)(I:ObjM s.heap x dx C mA)(hg:W.plainGet K C name=true)
  (hf:W.findIn K (.ref C) name=some (some (.ref f))) (ht:W.isFn K (.ref f)=true) (hv:mA name=none) (h:Q (.ref f,[.ref x]) s) :
  wpAny (model prog w) A (getMethod (.ref x) name pl) Q E s:=by
 let(b,J,a):=I.look;show W.method_fn X J (W.plainGet_of hg).1 (W.plainGet_of hg).2 hf (beq_iff_eq.mp ht) (by show(W.lookIn name b).map (·.isSome)=some false;rw[a,hv];rfl) h
theorem Jme{ns:List Str}{Q:Unit->Shared->Prop}(X:K.In s.heap)(I:ObjM s.heap x dx C mA)
  (hs:W.findIn K (.ref C) "__setattr__"=some (some (.builtin "object.__setattr__"))) (hp:W.plainOver K C=true) (ht:W.takerIn K C name=some none) (hh:W.hasDictIn K C=true)
  (hw:PySem.Within mA ns) (hsz:ns.length<=sizeLine)
  (h:∀ h',ObjM h' x dx C (λy=>if y=name then some v else mA y)->Heap.SameBut dx s.heap h'->Q () { s with heap:=h',toks:=s.toks+2 }) :
  wpAny (model prog w) A (setAttr (.ref x) name v) Q E s:=by
 let(o,J,n):=I.look;show W.set_plain X J hs (W.osa_open (s:={ s with toks:=s.toks+1 }) (r:=none) X J hp ht λb=>?_);let(q,l,g):=W.any_some hh;have j:s.heap.get? x=some ⟨.ref C,some dx, .plain, #[]⟩:=I.obj;show wpAny_bind (wpAny_pure (wpAny_bind (wpAny_bind (wpAny_loadPart j (wpAny_bind (W.Looks.here (s:={ s with toks:=s.toks+1 }) (W.looks_clsIn X l) ?_))))));rw[g];show wpAny_pure (a:=some dx) (wpAny_bind (wpAny_pure (wpAny_bind ?_)));show wpAny_nsSet1 (s:={ s with toks:=s.toks+1 }) I.ns λh' c d=>?_;let(p,k,m,e,f,i):=c.count (PySem.Within.cons name v hw);show wpAny_bind (wpAny_lookBehind e (by rw[f];show pastItsLine_dict (Nat.le_trans i (by rw[length_cons];ac_nf))) ?_);show wpAny_pure (h _ ⟨(d.2 _ (Ne.symm I.ne)).trans I.obj,c,I.ne⟩ d)
variable{kw:List (Str × Value)}
theorem Jkb{R:Result->Shared->Prop}{vs:List Value}(X:K.In s.heap)(hm:W.makesIn K C=true)
  (hi:W.findIn K (.ref C) "__init__"=some (some (.ref f))) (hf:W.typeIn K (.ref f)=some (.type "function"))
  (h:codeAny (model prog w) (A.under (.builtin "type.__call__" ⟨.ref C::vs,kw⟩)) (.call (.ref f) ⟨.ref (s.heap.objs.size+1)::vs,kw⟩) (W.InitBack (s.heap.objs.size+1) R)
   { s with heap:=(s.heap.push W.emptyDict).push (W.instObj C s.heap.objs.size) }) :
  codeAny (model prog w) A (.call (.ref C) ⟨vs,kw⟩) R s:=by
 let(c,g,d,t,b):=s;show W.make_core (W.makes_of X hm) (W.looks_findIn X hi) (λa=>W.bind_fn X a hf) (.inl rfl) h
end
def putF(f:Str)(v:V):List (Str × V)->List (Str × V)
 | []=>[(f,v)]
 | (g,x)::r=>if g=f then(g,v)::r else(g,x)::putF f v r
theorem Jeo(f g:Str)(v:V):∀ fs:List (Str × V),(putF f v fs).lookup g=if g=f then some v else fs.lookup g
 | []=>by
  show List.lookup g [(f,v)]=_;by_cases h:g=f
  .have hb:(g == f)=true:=beq_iff_eq.mpr h;simp only[List.lookup,hb,if_pos h]
  .have hb:(g == f)=false:=beq_eq_false_iff_ne.mpr h;simp only[List.lookup,hb,if_neg h]
 | (k,x)::r=>by
  have ih:=Jeo f g v r;rw[show putF f v ((k,x)::r)=(if k=f then(k,v)::r else(k,x)::putF f v r)from rfl];by_cases hk:k=f
  .rw[if_pos hk];by_cases h:g=k
   .have hb:(g == k)=true:=beq_iff_eq.mpr h;simp only[List.lookup,hb,if_pos (h.trans hk)]
   .have hb:(g == k)=false:=beq_eq_false_iff_ne.mpr h;simp only[List.lookup,hb,if_neg (λe:g=f=>h (e.trans hk.symm))]
  .rw[if_neg hk];by_cases h:g=k
   .have hb:(g == k)=true:=beq_iff_eq.mpr h;simp only[List.lookup,hb,if_neg (λe:g=f=>hk (h.symm.trans e))]
   .have hb:(g == k)=false:=beq_eq_false_iff_ne.mpr h;simp only[List.lookup,hb];show ih
theorem Jei(f:Str)(v:V):∀ fs:List (Str × V),f∈(putF f v fs).map (·.1)/\∀ g,g∈fs.map (·.1)->g∈(putF f v fs).map (·.1)
 | []=>⟨by simp[putF],λg h=>by simp at h⟩
 | (k,x)::r=>by
  let(i1,i2):=Jei f v r;rw[show putF f v ((k,x)::r)=(if k=f then(k,v)::r else(k,x)::putF f v r)from rfl];by_cases hk:k=f
  .rw[if_pos hk];subst hk;show(by simp,λg h=>by simpa using h)
  .rw[if_neg hk];show(?_,λg h=>?_)
   .rw[map_cons];show mem_cons_of_mem _ i1
   .rw[map_cons]at h ⊢;rcases mem_cons.mp h with e | e
    .show mem_cons.mpr (.inl e)
    .show mem_cons_of_mem _ (i2 g e)
theorem Jem(f:Str)(v:V):∀ fs:List (Str × V),(putF f v fs).length<=fs.length+1
 | []=>by simp[putF]
 | (k,x)::r=>by
  have ih:=Jem f v r;rw[show putF f v ((k,x)::r)=(if k=f then(k,v)::r else(k,x)::putF f v r)from rfl];by_cases hk:k=f
  .rw[if_pos hk,length_cons,length_cons];ac_nf
  .rw[if_neg hk,length_cons,length_cons];ac_nf
variable{v:V}{o:Option Value}
theorem RelO.some_of(r:RelO (some v) o):∃ u,o=some u/\RelV v u:=by
 cases o with
 | none=>show(show False from r).elim
 | some u=>show(u,rfl,r)
theorem RelO.none_of(r:RelO none o):o=none:=by
 cases o with
 | none=>rfl
 | some u=>show(show False from r).elim
theorem Jgf(r:RelV v u):W.handedIn u=true:=by
 cases v with
 | non=>cases(show u=Value.none from r);rfl
 | bl b=>cases(show u=Value.bool b from r);rfl
 | int i=>let(t,e):=(show∃ t,u=Value.int i t from r);cases e;rfl
 | str x=>let(t,e):=(show∃ t,u=Value.str x t from r);cases e;rfl
 | byt b=>let(t,e):=(show∃ t,u=Value.bytes b t from r);cases e;rfl
 | flt b=>let(t,e):=(show∃ t,u=Value.float b t from r);cases e;rfl
 | ref a=>cases(show u=Value.ref a from r);rfl
 | ty n=>cases(show u=Value.type n from r);rfl
section
variable{h':Heap}{a:Addr}{fs':List (Str × V)}{w:World}{fs:List (Str × V)}
theorem Jfp(hok:HOk P w H h)(e:H a=some (.ins C dx fs)):∃ mA,ObjM h a dx C mA/\(∀ f,RelO (fs.lookup f) (mA f))/\PySem.Within mA (fs.map (·.1))/\fs.length<=1000/\H dx=some (.own a):=by
 let(d,z,b,c,mA,n,r,q):=(show ObjOk P w H h a (.ins C dx fs)from hok a _ e);show(mA,⟨c,n,b⟩,r,q,z,d)
end
structure Cls(K:W.Frag)(C:Addr):Prop where
 pg:W.plainGet K C Str.empty=true
 hd:W.hasDictIn K C=true
 po:W.plainOver K C=true
 sa:W.findIn K (.ref C) "__setattr__"=some (some (.builtin "object.__setattr__"))
theorem Cls.get{K:W.Frag}(c:Cls K C)(f:Str):W.plainGet K C f=true:=c.pg
def JaY(K:W.Frag)(C:Addr)(f:Str):Prop:=W.findIn K (.ref C) f=some none
theorem JaY.taker{K:W.Frag}{f:Str}(n:JaY K C f):W.takerIn K C f=some none:=by
 unfold W.takerIn;rw[show W.findIn K (.ref C) f=some none from n];rfl
structure Meth(K:W.Frag)(C:Addr)(m:Str)(f:Addr):Prop where
 at_:W.findIn K (.ref C) m=some (some (.ref f))
 fn:W.isFn K (.ref f)=true
 kp:W.keepIn K (.ref f)=true
section
variable{a:Addr}{s:Shared}{fs:List (Str × V)}{f:Str}{b:Bool}
theorem Jh8{Q:Value->Shared->Prop}(I:Inv X pins σ H s)(e:H a=some (.ins C dx fs))(c:Cls X.K C)(n:JaY X.K C f)(l:fs.lookup f=some v)
  (h:∀ u s',Inv X pins σ H s'->RelV v u->Q u s'):wpAny (model X.prog X.w) A (getAttr (.ref a) f b) Q E s:=by
 let(g,O,r,_,_,_):=Jfp I.hok e;let(u,i,d):=RelO.some_of (v:=v) (o:=g f) (by rw[<- l];show r f);show get_map I.kIn O (c.get f) c.hd n i (Jgf d) (h u _ (I.tok _) d)
theorem Je8{m:Str}{g:Addr}{pl:Sem Bool}{Q:Value × List Value->Shared->Prop}(I:Inv X pins σ H s)(e:H a=some (.ins C dx fs))(c:Cls X.K C)(k:Meth X.K C m g)(l:fs.lookup m=none)
  (h:Q (.ref g,[.ref a]) s):wpAny (model X.prog X.w) A (getMethod (.ref a) m pl) Q E s:=by
 let(d,O,r,_,_,_):=Jfp I.hok e;have b:d m=none:=RelO.none_of (by rw[<- l];show r m);show Jj6 I.kIn O (c.get m) k.at_ k.fn b h
theorem Jio{Q:Unit->Shared->Prop}(I:Inv X pins σ H s)(e:H a=some (.ins C dx fs))(c:Cls X.K C)(n:JaY X.K C f)(hl:fs.length<1000)(ry:RelV y u)
  (h:∀ s',Inv X pins σ (upd H a (.ins C dx (putF f y fs))) s'->Q () s'):wpAny (model X.prog X.w) A (setAttr (.ref a) f u) Q E s:=by
 let(i,O,r,d,_,j):=Jfp I.hok e;have k:(fs.map (·.1)).length<=sizeLine:=by rw[length_map,sizeLine_eq];ac_nf
 show Jme I.kIn O c.sa c.po n.taker c.hd d k λv O' m=>h _ ?_;have l:∃ o,v.get? dx=some o:=let⟨o,_,_,e',_⟩:=O'.ns;⟨o,e'⟩;show I.write (x:=a) (e:=dx) (by rw[e];show True.intro) (.inr j) (λb q p z=>(m.2 b p).trans z) l ?_;show(by rw[Jah O.ne];show j,?_,O.ne,O'.obj,_,O'.ns,λg=>?_,λg t=>?_)
 .have:=Jem f y fs;ac_nf
 .show RelO ((putF f y fs).lookup g) (if g=f then some u else i g);rw[Jeo];by_cases q:g=f
  .rw[if_pos q,if_pos q];show ry
  .rw[if_neg q,if_neg q];show r g
 .by_cases q:g=f
  .rw[q];show(Jei f y fs).1
  .show(Jei f y fs).2 g (d g λz=>t ?_);show(if g=f then some u else i g)=none;rw[if_neg q];show z
theorem Inv.made(I:Inv X pins σ H s):Inv X pins σ (upd (upd H s.heap.objs.size (.own (s.heap.objs.size+1))) (s.heap.objs.size+1) (.ins C s.heap.objs.size []))
  { s with heap:=(s.heap.push W.emptyDict).push (W.instObj C s.heap.objs.size) }:=by
 have d:(s.heap.push W.emptyDict).get? s.heap.objs.size=some W.emptyDict:=Heap.get?_push_size s.heap rfl;have i:((s.heap.push W.emptyDict).push (W.instObj C s.heap.objs.size)).get? (s.heap.objs.size+1)=some (W.instObj C s.heap.objs.size):=by
  have:=Heap.get?_push_size (s.heap.push W.emptyDict) (o:=W.instObj C s.heap.objs.size) rfl
  rwa [Heap.size_push]at this
 have h:(s.heap.push W.emptyDict).Ns s.heap.objs.size (λ_=>none):=⟨W.emptyDict, #[],_,d,rfl,(λe f=>absurd f (by simp)),λ_=>rfl⟩;have I1:=I.laid (a:=s.heap.objs.size) (o:=.own (s.heap.objs.size+1)) (h':=s.heap.push W.emptyDict) (t':=s.toks) (λb u q=>Heap.get?_push_of_some _ q) (Nat.le_refl _) ⟨_,d⟩;show I1.laid (a:=s.heap.objs.size+1) (o:=.ins C s.heap.objs.size []) (t':=s.toks) (λb u q=>Heap.get?_push_of_some _ q) (Nat.le_of_eq (Heap.size_push _ _)) ?_;have c:s.heap.objs.size≠s.heap.objs.size+1:=Nat.ne_of_lt (Nat.lt_succ_self _);show(by rw[Jah c,Jak],Nat.zero_le _,c,i,λ_=>none,(Heap.Ns1.of_empty h).at λo q=>Heap.get?_push_of_some _ q,λ_=>True.intro,λy g=>absurd rfl g)
variable{Q:Value->Shared->Prop}
theorem Jiv{w:World}{env:Env}{f:Str}{s:Shared}(hb:attributeBase e f env (eval e env)=eval e env)
  (h:wpAny (model prog w) A (eval e env) (λo s₁=>wpAny (model prog w) A (getAttr o f true) Q E s₁) E s):wpAny (model prog w) A (eval (.Attribute e f pos) env) Q E s :=
 Attribute_any_ h (by rw[arm_eval_Attribute,hb])
end
def tFld(K:W.Frag)(ta:TE)(f:Str):TE:=λσ H Q=>ta σ H λx H1=>∃ a C dx fs v,x=.ref a/\H1 a=some (.ins C dx fs)/\Cls K C/\JaY K C f/\fs.lookup f=some v/\Q v H1
def sFld(K:W.Frag)(ta tv:TE)(f:Str):TS:=λD σ H=>tv σ H λy H1=>ta σ H1 λx H2=>∃ a C dx fs,x=.ref a/\H2 a=some (.ins C dx fs)/\Cls K C/\JaY K C f/\fs.length<1000 /\
 D.nx σ (upd H2 a (.ins C dx (putF f y fs)))
section
variable{o value:Expr}{tpos:Pos}{tv:TE}{f:Str}
theorem Jar(he:PE X e ta)(hb:attributeBase e f X.env (eval e X.env)=eval e X.env):PE X (.Attribute e f pos) (tFld X.K ta f):=by
 intro b s σ H Q I h;show Jiv hb (thn (he b s σ H _ I h) λu r ζ=>?_);let(x,d,I1,g,a,C,t,m,v,i,k,c,n,l,q):=ζ;subst i;obtain rfl:u=Value.ref a:=g;show Jh8 I1 k c n l λp o I2 j=>⟨v,d,I2,j,q⟩
theorem Ja8(ha:PE X o ta)(hv:PE X value tv)(hs:swapsWith value (some (.Attribute o f pos')) pos.line X.env=pure false):PS X (.Assign [.Attribute o f pos'] value pos) (sFld X.K ta tv f):=by
 intro b s σ H D I h;show plainObj_wpAny_Assign_Attribute (thn (hv b s σ H _ I h) λu k ζ=>?_) hs;let(y,e,I1,j,q):=ζ;show thn (ha b k σ e _ I1 q) λp t ζ=>?_;let(x,w,I2,g,a,C,z,v,i,m,c,n,l,d):=ζ;subst i;obtain rfl:p=Value.ref a:=g;show Jio I2 m c n l j λr I3=>⟨σ,_,I3,d⟩
end
section
variable{Q:Value->Shared->Prop}{c:Value}{b:Bool}{s:Shared}
inductive TyOf(K:W.Frag)(H:Hp):V->Value->Prop where
 | non:TyOf K H .non (.type "NoneType")
 | bl (x:Bool):TyOf K H (.bl x) (.type "bool")
 | int (i:Int):TyOf K H (.int i) (.type "int")
 | str (x:Str):TyOf K H (.str x) (.type "str")
 | flt (x:UInt64):TyOf K H (.flt x) (.type "float")
 | lst {a:Addr} {xs:List V} (e:H a=some (.lst xs)):TyOf K H (.ref a) (.type "list")
 | frz {a:Addr} {o:Obj} {xs:List V} (e:H a=some (.frz o (.lst xs))):TyOf K H (.ref a) (.type "list")
 | tup {a:Addr} {xs:List V} (e:H a=some (.tup xs)):TyOf K H (.ref a) (.type "tuple")
 | dK {a:Addr} {kvs:List (Key × V)} (e:H a=some (.dK kvs)):TyOf K H (.ref a) (.type "dict")
 | dT {a:Addr} {kvs:List (List Key × V)} (e:H a=some (.dT kvs)):TyOf K H (.ref a) (.type "dict")
 | ins {a C dx:Addr} {fs:List (Str × V)} (e:H a=some (.ins C dx fs)) (cl:Cls K C) (ha:W.findIn K (.ref C) "__class__"=some (some (.builtin "object.__class__")))
   (hn:W.specialIn K (.builtin "object.__class__") "__get__"=some (some (.builtin "getset_descriptor.__get__"))) (htk:W.takesIn K (.builtin "object.__class__")=some true)
   (hm:W.mroIn K C (.type "object")=some true):TyOf K H (.ref a) (.ref C)
theorem JiU{x:V}{t:Value}(I:Inv X pins σ H s)(rx:RelV x u)(ty:TyOf X.K H x t)(e:W.kitOne X.K t c=some b)(h:∀ tk,Q (.bool b) { s with toks:=tk }) :
  wpAny (model X.prog X.w) A (call (.builtin "isinstance") [u,c]) Q E s:=by
 cases ty with
 | non=>cases(show u=Value.none from rx);show W.kia_one W.kitx_none I.kIn True.intro e (λz=>nomatch z) h
 | bl y=>cases(show u=Value.bool y from rx);show W.kia_one W.kitx_bool I.kIn True.intro e (λz=>nomatch z) h
 | int i=>let(t,q):=(show∃ t,u=Value.int i t from rx);cases q;show W.kia_one W.kitx_int I.kIn True.intro e (λz=>nomatch z) h
 | str y=>let(t,q):=(show∃ t,u=Value.str y t from rx);cases q;show W.kia_one W.kitx_str I.kIn True.intro e (λz=>nomatch z) h
 | flt y=>let(t,q):=(show∃ t,u=Value.float y t from rx);cases q;show W.kia_one W.kitx_float I.kIn True.intro e (λz=>nomatch z) h
 | @lst a f ea=>
  cases(show u=Value.ref a from rx);let(_,_,n,_,d):=(show ObjOk X.prog X.w H s.heap a (.lst f)from I.hok a _ ea);show W.kia_one W.kitx_list I.kIn ⟨_,d,rfl⟩ e (λz=>nomatch z) h
 | @frz a ob f ea=>
  cases(show u=Value.ref a from rx);let(_,_,_,n,_,d):=(show ObjOk X.prog X.w H s.heap a (.frz ob (.lst f))from I.hok a _ ea);show W.kia_one W.kitx_list I.kIn ⟨_,d,rfl⟩ e (λz=>nomatch z) h
 | @tup a f ea=>
  cases(show u=Value.ref a from rx);let(_,_,_,p):=(show ObjOk X.prog X.w H s.heap a (.tup f)from I.hok a _ ea);let(o,d,g,_):=p;show W.kia_one W.kitx_tuple I.kIn ⟨o,d,g⟩ e (λz=>nomatch z) h
 | @dK a kvs ea=>
  cases(show u=Value.ref a from rx);let(_,_,m,_,p):=(show ObjOk X.prog X.w H s.heap a (.dK kvs)from I.hok a _ ea);let(o,k,j,d,g,_):=p;show W.kia_one W.kitx_dict I.kIn ⟨o,d,g.1⟩ e (λz=>nomatch z) h
 | @dT a kvs ea=>
  cases(show u=Value.ref a from rx);let(_,_,f,_,o,k,j,d,g,_):=(show ObjOk X.prog X.w H s.heap a (.dT kvs)from I.hok a _ ea);show W.kia_one W.kitx_dict I.kIn ⟨o,d,g.1⟩ e (λz=>nomatch z) h
 | @ins a C dx fs ea cl ha hn htk hm=>
  cases(show u=Value.ref a from rx);let(l,O,_):=Jfp I.hok ea;let(r,J,_):=O.look;show W.kia_one (W.kitx_own (cl.get _) cl.hd ha hn htk hm) I.kIn J e (λz=>nomatch z) h
end
structure Room(k:Nat)(A:Around):Prop where
 hd:A.handled=none
 dp:A.depth+3*k+5<recursionLimit
 un:A.units+16*k+200<cLine
theorem Room.mono{j k:Nat}(r:Room k A)(h:j<=k):Room j A:=⟨r.hd,by have:=r.dp;ac_nf,by have:=r.un;ac_nf⟩
theorem Room.deeper{k:Nat}(r:Room (k+1) A)(env:Env):Room k (A.deeper env) :=
 ⟨r.hd,by have:=r.dp;show A.depth+1+3*k+5<_;ac_nf,by have:=r.un;show A.units+3+16*k+200<_;ac_nf⟩
variable{kw:List (Str × Value)}
theorem Jic:(A.under (.builtin "type.__call__" ⟨.ref C::us,kw⟩)).depth=A.depth+1:=by
 first | rfl | simp[Around.under,Code.weight,Code.isCreation,Code.isGuard,Code.isCaller,Code.frames,Code.isFrame,guardIds]
theorem Jid:(A.under (.builtin "type.__call__" ⟨.ref C::us,kw⟩)).units=A.units+1:=by
 first | rfl | simp[Around.under,Code.cUnits,Code.frames,Code.isFrame]
theorem Room.make{k:Nat}(r:Room (k+1) A)(C:Addr)(us:List Value)(kw:List (Str × Value)):Room k (A.under (.builtin "type.__call__" ⟨.ref C::us,kw⟩)) :=
 ⟨r.hd,by have:=r.dp;rw[Jic];ac_nf,by have:=r.un;rw[Jid];ac_nf⟩
theorem Room.depth{k:Nat}(r:Room k A):A.depth<recursionLimit:=by have:=r.dp;ac_nf
theorem Room.units{k:Nat}(r:Room k A):A.units+64<cLine:=by have:=r.un;ac_nf
def tNil:TA:=λ_ H Q=>Q [] H
def tCons(ta:TE)(tr:TA):TA:=λσ H Q=>ta σ H λx H1=>tr σ H1 λxs H2=>Q (x::xs) H2
section
variable{t:TA}
theorem Jac:PA X [] tNil:=λ_ _ _ _ H Q I h=>Calls.spliced_nil ⟨[],H,I, .nil,h⟩
theorem JlW(ha:PE X e te)(hr:PA X es t)(hs:autoParam (starEach (e::es) X.env=(false,eval e X.env)::starEach es X.env) Au):PA X (e::es) (tCons te t):=by
 intro b a s σ H Q I h;rw[hs];show wpAny _ _ (spliced ((false,eval e X.env)::backTo b (starEach es X.env))) _ _ s;show Calls.spliced_cons (thn (ha a s σ H _ I h) λu j ζ=>?_);let(x,f,I1,k,i):=ζ;show thn (hr b a j σ f _ I1 i) λn m ζ=>by let(l,g,I2,d,c):=ζ;show(x::l,g,I2, .cons k d,c)
def tTup(t:TA):TE:=λσ H Q=>t σ H λxs H1=>xs.length<=sizeLine/\∀ p,H1 p=none->Q (.ref p) (upd H1 p (.tup xs))
def tLst(t:TA):TE:=λσ H Q=>t σ H λxs H1=>xs.length<=sizeLine/\∀ p,H1 p=none->Q (.ref p) (upd H1 p (.lst xs))
theorem JaF{x1}(h:PA X es t):PE X (.Tuple es x1 pos) (tTup t):=by
 intro a s σ H Q I g;show wpAny_Tuple_spliced (thn (h pos a s σ H _ I g) λi c ζ=>?_);let(j,d,I1,r,z,q):=ζ;show(by rw[<- r.length];show z,?_);have f:d c.heap.objs.size=none:=I1.hok.fresh (Nat.le_refl _);show(.ref c.heap.objs.size,upd d c.heap.objs.size (.tup j),I1.laid (t':=c.toks) (λb u e=>Heap.get?_push_of_some _ e) (Nat.le_refl _) ?_,rfl,q _ f);show(z,i,r,⟨_,Heap.get?_push_size _ rfl,rfl,_,rfl⟩)
theorem Jbd(h:PA X es t):PE X (.List es pos) (tLst t):=by
 intro a s σ H Q I g;show wpAny_List_spliced (thn (h pos a s σ H _ I g) λi c ζ=>?_);let(j,d,I1,r,z,q):=ζ;show(by rw[<- r.length];show z,?_);have f:d c.heap.objs.size=none:=I1.hok.fresh (Nat.le_refl _);show(.ref c.heap.objs.size,upd d c.heap.objs.size (.lst j),I1.laid (t':=c.toks) (λb u e=>Heap.get?_push_of_some _ e) (Nat.le_refl _) ?_,rfl,q _ f);show(z,i,0,r,Heap.get?_push_size _ rfl)
end
abbrev Sp:=List V->Hp->VK->XK->Prop
abbrev CXT:=List Env->Hp->Shared->XK->Value->Shared->Prop
structure Env0(P:Program)(w:World)(K:W.Frag)(mg:Str->Option Value)(base:Heap)(A:Around)(outer:List Env)(s:Shared)(H:Hp):Prop where
 frames:A.frames=some outer
 mod:Mod K mg base
 bs:∀ b o,base.get? b=some o->s.heap.get? b=some o/\H b=none
 bsz:base.objs.size<=s.heap.objs.size
 funs:s.heap.FunFrames base outer
 frf:∀ b∈frs outer,H b=none
 hok:HOk P w H s.heap
 bare:AllBare s.gens
def CE(outer:List Env)(P:Program)(w:World)(H:Hp)(s:Shared)(Q:VK)(u:Value)(s':Shared):Prop :=
 ∃ v H',s'.os=s.os/\AllBare s'.gens/\Un (frs outer) [] H H' s.heap s'.heap/\HOk P w H' s'.heap/\RelV v u/\Q v H'
def CR(CX:CXT)(outer:List Env)(P:Program)(w:World)(H:Hp)(s:Shared)(Q:VK)(E:XK)(r:Result)(s':Shared):Prop :=
 match r with
 | .ok (.ret u)=>CE outer P w H s Q u s'
 | .ok _=>False
 | .error e=>CX outer H s E e s'
structure FnOk(P:Program)(w:World)(K:W.Frag)(mg:Str->Option Value)(base:Heap)(CX:CXT)(k:Nat)(f:Addr)(fd:FuncData)(ps:List Str)(sp:Sp):Prop where
 len:∀ vs H Q E,sp vs H Q E->vs.length=ps.length
 run:∀(A:Around)(outer:List Env)(s:Shared)(H:Hp)(args:Args)(us:List Value)(vs:List V)(Q:VK)(E:XK),Room k A->Env0 P w K mg base A outer s H->BindsTo s fd args (ps.zip us)->Vals vs us->sp vs H Q E ->
  codeAny (model P w) A (.call (.ref f) args) (CR CX outer P w H s Q E) s
variable{mg:Str->Option Value}{base:Heap}{outer:List Env}
theorem Env0.make{w:World}{K:W.Frag}{s:Shared}(e:Env0 P w K mg base A outer s H)(C:Addr)(us:List Value)(kw:List (Str × Value)) :
  Env0 P w K mg base (A.under (.builtin "type.__call__" ⟨.ref C::us,kw⟩)) outer s H:=⟨by first | show e.frames | (simpa[Around.under,Code.envs,Code.isFrame,pushEnvs]using e.frames),e.mod,e.bs,e.bsz,e.funs,e.frf,e.hok,e.bare⟩
section
variable{s':Shared}{s:Shared}
theorem Inv.env0(I:Inv X pins σ H s):Env0 X.prog X.w X.K X.mg X.base X.A X.stack s H :=
 ⟨I.ok.frames,I.ok.mod,I.bs,Nat.le_trans I.ok.bsz I.sz,I.stack,I.stkFree,I.hok,I.bare⟩
variable{Q:VK}
theorem Inv.after(I:Inv X pins σ H s)(h:CE X.stack X.prog X.w H s Q u s'):EP X pins σ Q u s':=by
 let(v,j,f,a,k,e,r,q):=h;let(i,g,d,t,c):=s';obtain rfl:c=s.os:=f;show(v,j,I.call (h':=i) (g':=g) (d':=d) (t':=t) (ch:=[]) k e a (λb z=>absurd z (by simp)),r,q)
end
def tCall(sp:Sp)(dvs:List V)(E:XK)(t:TA):TE:=λσ H Q=>t σ H λvs H1=>sp (vs++dvs) H1 Q E
def tMake(C:Addr)(sp:Sp)(dvs:List V)(E:XK)(t:TA):TE:=λσ H Q=>t σ H λvs H1=>∀ x dx,H1 x=none->H1 dx=none->dx≠x ->
 sp (.ref x::(vs++dvs)) (upd (upd H1 dx (.own x)) x (.ins C dx [])) (λv H2=>v=.non/\Q (.ref x) H2) E
def Binds(K:W.Frag)(fd:FuncData)(ps:List Str)(ds:List Value):Prop :=
 ∀(s:Shared)(us:List Value),K.In s.heap->(us++ds).length=ps.length->BindsTo s fd ⟨us,[]⟩ (ps.zip (us++ds))
variable{fd:FuncData}{ps:List Str}
theorem Binds.all{K:W.Frag}(h:∀ us:List Value,us.length=ps.length->bindArgs fd ⟨us,[]⟩=pure (ps.zip us)):Binds K fd ps []:=λs us _ a=>by
 rw[append_nil]at a ⊢;show .of_eq (h us a)
def Jb4(CX:CXT)(X:Cx)(E:XK):Prop:=∀(pins:List (Addr × Obj))(σ : St)(H:Hp)(s:Shared)(e:Value)(s':Shared),Inv X pins σ H s->CX X.stack H s E e s'->X.xe e s'
section
variable{CX:CXT}{sp:Sp}{dvs:List V}{ds:List Value}{E:XK}{x:Str}{p apos:Pos}{o:Expr}{k:Nat}{f:Addr}{m:Str}{t:TA}{Q:VK}{vs:List V}
theorem Jjr{s:Shared}(F:FnOk X.prog X.w X.K X.mg X.base CX k f fd ps sp)(hr:Room k X.A)(hb:Binds X.K fd ps ds)(hd:Vals dvs ds)(hx:Jb4 CX X E)
  (I:Inv X pins σ H s) (r:Vals vs us) (h:sp (vs++dvs) H Q E):wpAny (model X.prog X.w) X.A (call (.ref f) us) (EP X pins σ Q) X.xe s:=by
 have b:Vals (vs++dvs) (us++ds):=r.append hd;have c:(us++ds).length=ps.length:=by rw[<- b.length];show F.len _ _ _ _ h
 show wpAny_call (codeAny_mono (F.run X.A X.stack s H ⟨us,[]⟩ (us++ds) (vs++dvs) Q E hr I.env0 (hb s us I.kIn c) b h) λr d a=>?_);cases r with
 | error e=>show hx pins σ H s e d I a
 | ok fl=>
  cases fl with
  | ret u=>show I.after a
  | next=>show False.elim a
  | brk=>show False.elim a
  | cont=>show False.elim a
theorem JlX(F:FnOk X.prog X.w X.K X.mg X.base CX k f fd ps sp)(hr:Room k X.A)(hg:Gl X x)(hm:X.mg x=some (.ref f))(hk:W.keepIn X.K (.ref f)=true)(hb:Binds X.K fd ps ds)(hd:Vals dvs ds)(hx:Jb4 CX X E)
  (ha:PA X (e::es) t) (hdb:autoParam ((x == ("__debug__" : Str))=false) Au) (he:autoParam (starEach (e::es) X.env=(false,eval e X.env)::starEach es X.env) Au) (hpl:autoParam ((backTo pos (starEach es X.env)).any (·.1)=false) Au) :
  PE X (.Call (.Name x p) (e::es) [] pos) (tCall sp dvs E t):=by
 intro a s σ H Q I h;show wpAny_Call_Name_kw (Jcv I hg hm ?_ hdb);show W.callWith_K (h₀:=X.base) I.ok.mod.kin hk (thn (ha pos a s σ H _ I h) λc g ζ=>?_) he hpl;let(d,b,I1,r,q):=ζ;show(I1.kIn,?_);show Jjr F hr hb hd hx I1 r q
structure Mk(K:W.Frag)(C f:Addr):Prop where
 makes:W.makesIn K C=true
 init:W.findIn K (.ref C) "__init__"=some (some (.ref f))
 fn:W.isFn K (.ref f)=true
 kp:W.keepIn K (.ref C)=true
theorem JhS{s:Shared}(M:Mk X.K C f)(F:FnOk X.prog X.w X.K X.mg X.base CX k f fd ps sp)(hr:Room (k+1) X.A)(hb:Binds X.K fd ps ds)(hd:Vals dvs ds)
  (hx:Jb4 CX X E) (I:Inv X pins σ H s) (r:Vals vs us)
  (h:∀ x dx,H x=none->H dx=none->dx≠x->sp (.ref x::(vs++dvs)) (upd (upd H dx (.own x)) x (.ins C dx [])) (λv H2=>v=.non/\Q (.ref x) H2) E) :
  wpAny (model X.prog X.w) X.A (call (.ref C) us) (EP X pins σ Q) X.xe s:=by
 have c:=h (s.heap.objs.size+1) s.heap.objs.size (I.hok.fresh (Nat.le_succ _)) (I.hok.fresh (Nat.le_refl _)) (Nat.ne_of_lt (Nat.lt_succ_self _));have I2:=Inv.made (C:=C) I;have b:Vals (V.ref (s.heap.objs.size+1)::(vs++dvs)) (Value.ref (s.heap.objs.size+1)::(us++ds)):=.cons rfl (r.append hd);have i:(Value.ref (s.heap.objs.size+1)::us++ds).length=ps.length:=by
  have e:=b.length;rw[F.len _ _ _ _ c]at e;show e.symm
 show wpAny_call (Jkb (f:=f) I.kIn M.makes M.init (beq_iff_eq.mp M.fn) (codeAny_mono (F.run _ X.stack _ _ ⟨Value.ref (s.heap.objs.size+1)::us,[]⟩ (Value.ref (s.heap.objs.size+1)::(us++ds)) _ _ E (hr.make C us [])
  (I2.env0.make C us []) (hb _ (Value.ref (s.heap.objs.size+1)::us) I2.kIn i) b c) λr l a=>?_))
 cases r with
 | error e=>show hx pins σ _ _ e l I2 a
 | ok fl=>
  cases fl with
  | ret u=>
   let(v,j,I3,d,m,g):=I2.after a;subst m;show(d,⟨V.ref (s.heap.objs.size+1),j,I3,rfl,g⟩)
  | next=>show False.elim a
  | brk=>show False.elim a
  | cont=>show False.elim a
theorem Jl1(M:Mk X.K C f)(F:FnOk X.prog X.w X.K X.mg X.base CX k f fd ps sp)(hr:Room (k+1) X.A)(hg:Gl X x)(hm:X.mg x=some (.ref C))(hb:Binds X.K fd ps ds)(hd:Vals dvs ds)(hx:Jb4 CX X E)
  (ha:PA X (e::es) t) (hdb:autoParam ((x == ("__debug__" : Str))=false) Au) (he:autoParam (starEach (e::es) X.env=(false,eval e X.env)::starEach es X.env) Au) (hpl:autoParam ((backTo pos (starEach es X.env)).any (·.1)=false) Au) :
  PE X (.Call (.Name x p) (e::es) [] pos) (tMake C sp dvs E t):=by
 intro a s σ H Q I h;show wpAny_Call_Name_kw (Jcv I hg hm ?_ hdb);show W.callWith_K (h₀:=X.base) I.ok.mod.kin M.kp (thn (ha pos a s σ H _ I h) λc g ζ=>?_) he hpl;let(d,b,I1,r,q):=ζ;show(I1.kIn,?_);show JhS M F hr hb hd hx I1 r q
theorem Jkn(M:Mk X.K C f)(F:FnOk X.prog X.w X.K X.mg X.base CX k f fd ps sp)(hr:Room (k+1) X.A)(hg:Gl X x)(hm:X.mg x=some (.ref C))(hb:Binds X.K fd ps ds)(hd:Vals dvs ds)(hx:Jb4 CX X E)
  (hdb:autoParam ((x == ("__debug__" : Str))=false) Au):PE X (.Call (.Name x p) [] [] pos) (tMake C sp dvs E tNil):=by
 intro a s σ H Q I h;show wpAny_Call_Name_kw (Jcv I hg hm ?_ hdb);show W.callWith_K0 I.kIn M.kp (JhS (us:=[]) M F hr hb hd hx I .nil h)
end
section
variable{CX:CXT}{ks:List Str}{sp:Sp}{E:XK}{x:Str}{p apos kpos:Pos}{o:Expr}{kws:List Keyword}{tk:TA}{nm:Option Str}{k:Nat}{f:Addr}{m:Str}{t:TA}{gV:List V->List V->List V}{g:List Value->List Value->List Value}
end
structure Jan(N P:List Str)(sc:Scope):Prop where
 kind:sc.kind=.function
 co:sc.isCoroutine=false
 gen:sc.isGenerator=false
 nd:N.Nodup
 pre:N.take P.length=P
 par:∀ x∈P,sc.names.lookup x=some .local\/sc.names.lookup x=some .cell
 nofree:∀ y∈sc.names,y.2≠.free
variable{kindOf:Str->Option NameKind}{x:Str}
theorem Jf7:∀{binds:List (Str × Value)}{m:Str->Option Value},(∀ v,(x,v)∉binds)->bindL kindOf binds m x=m x
 | [],_,_=>rfl
 | (n,v)::r,m,h=>by
  unfold bindL;rw[Jf7 λw hw=>h w (mem_cons_of_mem _ hw)];split
  .have : x≠n:=by rintro rfl;show h v mem_cons_self
   simp[this]
  .rfl
theorem Jf5:∀{binds:List (Str × Value)}{m:Str->Option Value},(∀ v,(x,v)∉binds)->bindC kindOf binds m x=m x
 | [],_,_=>rfl
 | (n,v)::r,m,h=>by
  unfold bindC;rw[Jf5 λw hw=>h w (mem_cons_of_mem _ hw)];split
  .rfl
  .have : x≠n:=by rintro rfl;show h v mem_cons_self
   simp[this]
variable{v:Value}
theorem Jf6:∀{P:List Str}{vs:List Value}{i:Nat}{m:Str->Option Value},P.Nodup->P[i]?=some x->vs[i]?=some v->kindOf x=some .local ->
  bindL kindOf (P.zip vs) m x=some v
 | [],_,_,_,_,h,_,_=>by simp at h
 | _::_,[],_,_,_,_,h,_=>by simp at h
 | p::P,w::vs,0,m,nd,h1,h2,hk=>by
  simp at h1 h2;subst h1;subst h2;show bindL kindOf ((p,w)::P.zip vs) m p=_;unfold bindL;rw[Jf7 λv hv=>(nodup_cons.mp nd).1 (of_mem_zip hv).1,if_pos hk];simp
 | p::P,w::vs,i+1,m,nd,h1,h2,hk=>by
  show bindL kindOf ((p,w)::P.zip vs) m x=_;unfold bindL;show Jf6 (i:=i) (nodup_cons.mp nd).2 (by simpa using h1) (by simpa using h2) hk
theorem Jf4:∀{P:List Str}{vs:List Value}{i:Nat}{m:Str->Option Value},P.Nodup->P[i]?=some x->vs[i]?=some v->kindOf x≠some .local ->
  bindC kindOf (P.zip vs) m x=some v
 | [],_,_,_,_,h,_,_=>by simp at h
 | _::_,[],_,_,_,_,h,_=>by simp at h
 | p::P,w::vs,0,m,nd,h1,h2,hk=>by
  simp at h1 h2;subst h1;subst h2;show bindC kindOf ((p,w)::P.zip vs) m p=_;unfold bindC;rw[Jf5 λv hv=>(nodup_cons.mp nd).1 (of_mem_zip hv).1,if_neg hk];simp
 | p::P,w::vs,i+1,m,nd,h1,h2,hk=>by
  show bindC kindOf ((p,w)::P.zip vs) m x=_;unfold bindC;show Jf4 (i:=i) (nodup_cons.mp nd).2 (by simpa using h1) (by simpa using h2) hk
def start(N:List Str)(vs:List V):St:=vs.map some++List.replicate (N.length-vs.length) none
def cxOf(CX:CXT)(P:Program)(w:World)(K:W.Frag)(mg:Str->Option Value)(base:Heap)(N:List Str)(qual:Str)(scope:Scope)(f:Addr)(cd:Value)(A:Around)(outer:List Env)(s:Shared)(H:Hp)(E:XK):Cx where
 prog:=P
 w:=w
 K:=K
 mg:=mg
 base:=base
 A:=A.deeper (envOfC qual scope s.heap.objs.size f cd)
 N:=N
 s₀:=s
 H₀:=H
 env:=envOfC qual scope s.heap.objs.size f cd
 outer:=outer
 stack:=envOfC qual scope s.heap.objs.size f cd::outer
 ex:=[]
 calm:=true
 fn:=λ_=>true
 pn:=[]
 xe:=λe s'=>wpAny (model P w) (A.deeper (envOfC qual scope s.heap.objs.size f cd)) (leaving (envOfC qual scope s.heap.objs.size f cd) e) (λ_ s''=>CX outer H s E e s'') (λe' s''=>CX outer H s E e' s'') s'
theorem Jhy{sc:Scope}(h:sc.names.lookup x=some .cell):∃ c,(cellsFrom n sc.names []).lookup x=some c:=by
 have q:=W.cellsFrom_some sc.names n [] (.inl h);show Option.isSome_iff_exists.mp q
variable{CX:CXT}{qual:Str}{scope:Scope}
theorem JiT{w:World}{K:W.Frag}{N:List Str}{f:Addr}{cd:Value}{s s1:Shared}{E:XK}{vs:List V}
  (S:Jan N ps scope) (hd:A.handled=none) (e0:Env0 P w K mg base A outer s H) (hl:vs.length=ps.length) (r:Vals vs us)
  (x:InCallC s s.heap.objs.size (bindL (envOfC qual scope s.heap.objs.size f cd).kindOf (ps.zip us) λ_=>none) (cellsFrom (s.heap.objs.size+1) scope.names []) (bindC (envOfC qual scope s.heap.objs.size f cd).kindOf (ps.zip us) λ_=>none) s1) :
  Inv (cxOf CX P w K mg base N qual scope f cd A outer s H E) [] (start N vs) H s1:=by
 have F:ps.length<=N.length:=by have:=congrArg List.length S.pre;rw[length_take]at this;ac_nf
 let(o,I,rfl,B):=x.done;have j:∀ b:Addr,b∉(cxOf CX P w K mg base N qual scope f cd A outer s H E).ex:=λb z=>absurd (show b∈([]:List Addr)from z) (by simp);show(⟨e0.mod,S.kind,rfl,rfl,Nat.le_refl _,λy z c o d=>?_,λy g=>?_,λy c _ h=>?_,λ_=>hd,Around.frames_deeper e0.frames, .inr ⟨rfl,rfl⟩,λb z=>absurd z (j b),e0.bs,e0.bsz,λb _ _=>j b,λb z=>absurd z (j b),e0.funs,e0.frf⟩,
  rfl,e0.bare,Un.kept B,⟨_,x.toInCall.ns,λi y v o d J=>?_⟩,λy c h=>⟨_,x.cell y c h⟩,e0.hok.fresh (Nat.le_refl _),λy c h=>?_,λp m=>absurd (show p∈([]:List (Addr × Obj))from m) (by simp),e0.hok.kept B,?_)
 .show name_of_addr x.apart (PySem.mem_of_lookup o) (PySem.mem_of_lookup d)
 .have g:scope.names.lookup y=some .cell\/scope.names.lookup y=some .free:=g;rcases g with g | g
  .show Jhy g
  .show absurd rfl (S.nofree _ (PySem.mem_of_lookup g))
 .show Nat.le_of_lt (x.above y c (PySem.mem_of_lookup h))
 .have t:i<vs.length:=by
   unfold start at d;by_cases t:i<vs.length
   .show t
   .rw[List.getElem?_append_right (by simpa using t)]at d;rw[List.getElem?_replicate]at d;split at d <;> cases d
  have G:vs[i]?=some v:=by
   unfold start at d;rw[List.getElem?_append_left (by simpa using t),List.getElem?_map]at d;cases e:vs[i]? with
   | none=>rw[e]at d;cases d
   | some a=>rw[e]at d;cases d;rfl
  let(u,C,D):=r.get G;have m:ps[i]?=some y:=by
   rw[<- S.pre,List.getElem?_take_of_lt ∅];show o
  have l:ps.Nodup:=by rw[<- S.pre];show S.nd.sublist (List.take_sublist _ _)
  show(u,D,?_);rcases S.par y (List.mem_of_getElem? m)with k | k
  .show .inl ⟨k,Jf6 l m C k⟩
  .let(c,e):=Jhy (n:=s.heap.objs.size+1) k;show .inr ⟨.inl k,c,e,?_⟩;have q:=x.cell y c e;rw[Jf4 l m C (by show scope.names.lookup y≠_;rw[k];decide)]at q;show q
 .show e0.hok.fresh (Nat.le_of_lt (x.above y c (PySem.mem_of_lookup h)))
 .unfold start;show _=N.length;rw[length_append,length_map,List.length_replicate];ac_nf
theorem fn_of{w:World}{K:W.Frag}{k:Nat}{f:Addr}{name:Str}{params:Arguments}{dV kV doc pm cdv ct oc:Value}{an od:Option Addr}
  {osl:Array (Option Value)} {N ps:List Str} {sp:Sp} (lk:K.lookup f=some ⟨oc,od, .func (W.fnOf name qual params body scope dV kV doc pm an cdv ct),osl⟩) (hcd:W.codeIn K cdv qual=true) (S:Jan N ps scope)
  (len:∀ vs H Q E,sp vs H Q E->vs.length=ps.length)
  (hbody:∀(A:Around)(outer:List Env)(s:Shared)(H:Hp)(vs:List V)(Q:VK)(E:XK),Room k (A.deeper (envOfC qual scope s.heap.objs.size f cdv))->sp vs H Q E ->
   ∃ t,PSs (cxOf CX P w K mg base N qual scope f cdv A outer s H E) body t/\t { nx:=λ_ H'=>Q .non H',rt:=Q } (start N vs) H) :
  FnOk P w K mg base CX (k+1) f (W.fnOf name qual params body scope dV kV doc pm an cdv ct) ps sp:=by
 show(len,λA outer s H z O vs Q E i h L r g=>?_);have G:=len _ _ _ _ g;have KX:K.In s.heap:=h.mod.kin.keeps λb o e=>(h.bs b o e).1;have m:s.heap.NoLimit:=h.mod.nolimit.keeps λb o e=>(h.bs b o e).1;have a:∀ y∈ps.zip O,scope.names.lookup y.1=some .local\/(scope.names.lookup y.1=some .cell/\((cellsFrom (s.heap.objs.size+1) scope.names []).lookup y.1).isSome=true):=λ⟨n,v⟩ F=>by
  rcases S.par n (of_mem_zip F).1 with q | q
  .show .inl q
  .show .inr ⟨q,W.cellsFrom_some _ _ _ (.inl q)⟩
 show codeAny_call_function i.depth (KX _ _ lk) rfl S.co S.gen rfl (W.codeRec_of KX hcd) (L _ _ _ _ ?_);show wpAny_newFunctionEnv_cells S.kind a λB C p x=>?_;subst C;show(m.keeps x.toInCall.keep,codeAny_func ?_);let(t,R,M):=hbody A outer s H vs Q E (i.deeper _) g;have I:Inv (cxOf CX P w K mg base N qual scope f cdv A outer s H E) [] (start N vs) H p:=JiT S i.hd h G r x;show wpAny_mono (R [] p (start N vs) H _ I M) (λD l c=>?_) λe l c=>c;have d:∀{σ':St}{H':Hp}{v:V}{u:Value},Inv (cxOf CX P w K mg base N qual scope f cdv A outer s H E) [] σ' H' l->RelV v u->Q v H'->CE outer P w H s Q u l :=
  λ{σ' H' v u} J j q=>⟨v,H',J.os,J.bare,J.base,J.hok,j,q⟩
 cases D with
 | ret u=>
  let(v,σ',H',J,j,q):=c;show d J j q
 | next=>
  let(σ',H',J,q):=c;show d (v:=V.non) (u:=Value.none) J rfl q
 | brk=>
  let(_,_,_,q):=c;show False.elim q
 | cont=>
  let(_,_,_,q):=c;show False.elim q
section
variable{p:Pos}{id T:String}{r:List V->Hp->VK->Prop}{t:TA}
def tCB(r:List V->Hp->VK->Prop)(t:TA):TE:=λσ H Q=>t σ H λvs H1=>r vs H1 Q
theorem Jau(hc:CallR X (.builtin id) r)(hg:Gl X x)(hm:X.mg x=none)(hv:bootBuiltins x=some (.builtin id))(ha:PA X (e::es) t)(hn:autoParam (x≠"__name__") Au)(hdb:autoParam ((x == ("__debug__" : Str))=false) Au)
  (he:autoParam (starEach (e::es) X.env=(false,eval e X.env)::starEach es X.env) Au) (hpl:autoParam ((backTo pos (starEach es X.env)).any (·.1)=false) Au):PE X (.Call (.Name x p) (e::es) [] pos) (tCB r t):=by
 intro a s σ H Q I h;show wpAny_Call_Name_kw (Jej I hg hm hv ?_ hn hdb);show PyProof.Rows.callWith_builtin1 (thn (ha pos a s σ H _ I h) λd i ζ=>by let(f,c,I1,b,g):=ζ;show hc a i σ c f d Q I1 b g) he hpl
theorem Jdu(hc:CallR X (.type T) r)(hg:Gl X x)(hm:X.mg x=none)(hv:bootBuiltins x=some (.type T))(ha:PA X (e::es) t)(hn:autoParam (x≠"__name__") Au)(hdb:autoParam ((x == ("__debug__" : Str))=false) Au)
  (he:autoParam (starEach (e::es) X.env=(false,eval e X.env)::starEach es X.env) Au) (hpl:autoParam ((backTo pos (starEach es X.env)).any (·.1)=false) Au):PE X (.Call (.Name x p) (e::es) [] pos) (tCB r t):=by
 intro a s σ H Q I h;show wpAny_Call_Name_kw (Jej I hg hm hv ?_ hn hdb);show PyProof.Rows.callWith_type1 (thn (ha pos a s σ H _ I h) λd i ζ=>by let(f,c,I1,b,g):=ζ;show hc a i σ c f d Q I1 b g) he hpl
end
end L2
namespace HT
open PySem PyProof.Rows
section
open PySem.SeqAt
open PySem.AutoSeq1 (wpAny_loadPart')
open PySem.MeetsSeq PySem.MeetsSeq2 PySem.MeetsSeq3
end
section
variable{prog:Program}{A:Around}{E:Value->Shared->Prop}{w:World}{s:Shared}
theorem cat_tup{t b:Addr}{vs ws:List Value}{Q:Value->Shared->Prop}(ht:IsTup s.heap t vs.toArray)(hb:IsTup s.heap b ws.toArray)(hv:vs≠[])
  (h1:ws=[]->Q (.ref t) s) (h2:ws≠[]->Q (.ref s.heap.objs.size) { s with heap:=s.heap.push { cls:=.type "tuple",data:=.seq (vs++ws).toArray } })
  (hsz:vs.length+ws.length<=sizeLine):wpAny (model prog w) A (binaryOp .Add (.ref t) (.ref b)) Q E s:=by
 let((cls,q,data,o),i,k,n,l):=id ht;let((m,g,j,f),a,d,p,c):=id hb;simp only at k l d c;subst k l d c;have e:vs.toArray++ws.toArray=(vs++ws).toArray:=by simp
 by_cases h:ws=[]
 .show concat_meets ⟨_,i,rfl⟩ ⟨_,a,rfl⟩ noFill_tuple_add seq_tuple_add PySem.F.slot_tuple_add PySem.F.entry_tuple_add (PySem.F.args_tuple_add_2 _ _)
   (tuple_addW1 t b vs.toArray ws.toArray n p q g o f (by simpa using hv) (by simp[h])) ⟨i,a,h1 h⟩
 .show concat_meets ⟨_,i,rfl⟩ ⟨_,a,rfl⟩ noFill_tuple_add seq_tuple_add PySem.F.slot_tuple_add PySem.F.entry_tuple_add (PySem.F.args_tuple_add_2 _ _)
   (tuple_addW2 t b vs.toArray ws.toArray n p q g o f (by simpa using hv) (by simpa using h) (by rw[size_toArray,size_toArray];show hsz)) ⟨i,a,?_⟩
  rw[e];show h2 h
def sIx(n d:Nat):Option Int->Nat
 | none=>d
 | some v=>if v<0 then(v+(n:Int)).toNat else min v.toNat n
theorem Jnh(n d:Nat)(hd:d<=n)(o:Option Int):sIx n d o<=n:=by
 cases o with
 | none=>show hd
 | some v=>
  show(if v<0 then(v+(n:Int)).toNat else min v.toNat n)<=n;by_cases a:v<0
  .rw[if_pos a];ac_nf
  .rw[if_neg a];show Nat.min_le_right _ _
theorem JiA(v:Int)(n d:Nat):(if v<0 then max (v+(n:Int)) 0 else min v (n:Int))=((sIx n d (some v):Nat):Int):=by
 show(if v<0 then max (v+(n:Int)) 0 else min v (n:Int))=(((if v<0 then(v+(n:Int)).toNat else min v.toNat n):Nat):Int);by_cases a:v<0
 .simp only[if_pos a];ac_nf
 .simp only[if_neg a];ac_nf
theorem Jh3(lo hi:Option Int)(n:Nat):Builtin.Slice.sliceAdjust lo hi 1 (n:Int)=(((sIx n 0 lo:Nat):Int),((sIx n n hi:Nat):Int)):=by
 have a:¬((1:Int)<0):=by ac_nf
 unfold Builtin.Slice.sliceAdjust;simp only[a,if_false];show Prod.ext ?_ ?_
 .cases lo with
  | none=>rfl
  | some v=>show JiA v n 0
 .cases hi with
  | none=>rfl
  | some v=>show JiA v n n
theorem Jik(i j:Nat):Builtin.Slice.slicePlaces (i:Int) (j:Int) 1=j-i:=by
 unfold Builtin.Slice.slicePlaces;have a:(1:Int) > 0:=by ac_nf
 simp only[a,if_true,Int.ediv_one];split <;> ac_nf
theorem Jfg{v:Value}{o:Option Int}{Q:Option Int->Shared->Prop}(p:IsPart v o)(h:Q o s):wpAny (model prog w) A (Builtin.Slice.slicePartIndex v) Q E s:=by
 cases p with
 | none=>show slicePart_none h
 | int i t=>show slicePart_int h
variable{sl:Addr}{vu:Value}{hi:Option Int}
theorem Jd2{vl:Value}{lo:Option Int}{n:Nat}{Q:Int × Int × Nat->Shared->Prop}(hs:s.heap.IsSliceOf sl vl vu .none)(pl:IsPart vl lo)(pu:IsPart vu hi)
  (h:Q (((sIx n 0 lo:Nat):Int),1,sIx n n hi-sIx n 0 lo) s):wpAny (model prog w) A (Builtin.Slice.sliceApplied (.ref sl) (pure (n:Int))) Q E s:=by
 let(d,b,c,a):=id hs;unfold Builtin.Slice.sliceApplied Builtin.Slice.sliceFields;show wpAny_bind (wpAny_bind (wpAny_field b a (x:=vl) rfl (wpAny_bind (wpAny_field b a (x:=vu) rfl (wpAny_bind (wpAny_field b a (x:=.none) rfl (wpAny_pure ?_)))))));show wpAny_bind (slicePart_none ?_);show wpAny _ _ (if((1:Int) == 0)=true then _ else _) _ _ s;rw[if_neg ⋯];show wpAny_bind (Jfg pl (wpAny_bind (Jfg pu (wpAny_bind (wpAny_pure ?_)))));show wpAny _ _ (match Builtin.Slice.sliceAdjust lo hi 1 (n:Int)with | (lo,hi)=>pure (lo,(1:Int),Builtin.Slice.slicePlaces lo hi 1)) _ _ s;rw[Jh3 lo hi n];show wpAny _ _ (pure (((sIx n 0 lo:Nat):Int),(1:Int),Builtin.Slice.slicePlaces ((sIx n 0 lo:Nat):Int) ((sIx n n hi:Nat):Int) 1)) _ _ s;rw[Jik];show wpAny_pure h
theorem Jkq(xs:Array Value)(i k:Nat):((List.range k).filterMap λ(m:Nat)=>xs[((i:Int)+(m:Int)*1).toNat]?).toArray=((xs.toList.drop i).take k).toArray:=by
 have e:(λ(m:Nat)=>xs[((i:Int)+(m:Int)*1).toNat]?)=λm=>xs[i+m]?:=by
  funext m
  have : ((i:Int)+(m:Int)*1).toNat=i+m:=by ac_nf
  rw[this]
 rw[e];have:=pick_run xs i k;rw[List.filterMap_map]at this;have a:((λx=>xs[x]?) ∘ λx=>i+x)=λm=>xs[i+m]?:=rfl;rw[a]at this;rw[this]
theorem getItem_tuple_cut{t:Addr}{items:Array Value}{vl:Value}{lo:Option Int}{Q:Value->Shared->Prop}(ht:IsTup s.heap t items)(hs:s.heap.IsSliceOf sl vl vu .none)(pl:IsPart vl lo)(pu:IsPart vu hi)
  (hw:¬(sIx items.size 0 lo=0/\sIx items.size items.size hi=items.size))
  (h:Q (.ref s.heap.objs.size) { s with heap:=s.heap.push { cls:=.type "tuple",data:=.seq ((items.toList.drop (sIx items.size 0 lo)).take (sIx items.size items.size hi-sIx items.size 0 lo)).toArray } })
  (hsz:items.size<=sizeLine):wpAny (model prog w) A (getItem (.ref t) (.ref sl)) Q E s:=by
 have a:sizeOk (.seq ((items.toList.drop (sIx items.size 0 lo)).take (sIx items.size items.size hi-sIx items.size 0 lo)).toArray):=by
  show((items.toList.drop (sIx items.size 0 lo)).take (sIx items.size items.size hi-sIx items.size 0 lo)).toArray.size<=sizeLine;rw[size_toArray,length_take,List.length_drop,Array.length_toList];omega
 have i:sIx items.size items.size hi<=items.size:=Jnh _ _ (Nat.le_refl _) hi;let(f,d,e,g):=id hs;have c:s.TypeIs (.ref sl) "slice":=⟨f,d,e⟩;unfold getItem;try with_reducible show wpAny_holding ?_
 first | show wpAny_bind (wpAny_pure ?_) | skip
 show wpAny_bind (wpAny_sequenceKey ht.typeIs ⋯ ?_);show wpAny_bind (wpAny_callSpecial?_slot (name:=Str.ofString "__getitem__") ht.typeIs PyProof.Rows.slot_tuple_getitem
  (wpAny_call_entry PyProof.Rows.slot_tuple_getitem ht.typeIs entry_tuple_getitem ?_ (args_tuple_getitem _ _)))
 show wpAny _ _ (Builtin.Tuple.tupleItemsOf (.ref t) >>= _) _ _ s;show wpAny_bind (tupleItemsOf_ ht ?_);show wpAny_bind (wpAny_typeOf c ?_);rw[if_pos ⋯];show wpAny_bind (Jd2 hs pl pu ?_);have b:¬((((sIx items.size 0 lo:Nat):Int) == 0&&(1:Int) == 1&&(sIx items.size items.size hi-sIx items.size 0 lo) == items.size)=true):=by
  intro q;rw[Bool.and_eq_true,Bool.and_eq_true]at q;have k:((sIx items.size 0 lo:Nat):Int)=0:=eq_of_beq q.1.1;have j:sIx items.size items.size hi-sIx items.size 0 lo=items.size:=eq_of_beq q.2;show hw ⟨by omega,by omega⟩
 show wpAny _ _ (if(((sIx items.size 0 lo:Nat):Int) == 0&&(1:Int) == 1&&(sIx items.size items.size hi-sIx items.size 0 lo) == items.size)=true then _ else _) _ _ s;rw[if_neg b,Jkq];first
  | show wpAny_bind (m:=Builtin.Tuple.tupleExact _) (wpAny_newObj_type (wpAny_pure ⟨_,rfl,wpAny_pure h⟩) a)
  | show wpAny_bind (m:=Builtin.Tuple.tupleExact _) (wpAny_newObj_type (wpAny_bind (wpAny_pure (wpAny_pure ⟨_,rfl,wpAny_pure h⟩))) a)
  | show wpAny_bind (wpAny_bind (m:=Builtin.Tuple.tupleExact _) (wpAny_newObj_type (wpAny_pure (wpAny_pure ⟨_,rfl,wpAny_pure h⟩)) a))
  | show wpAny_bind (wpAny_bind (m:=Builtin.Tuple.tupleExact _) (wpAny_newObj_type (wpAny_pure ⟨_,rfl,wpAny_pure h⟩) a))
end
end HT
namespace L2
open PySem PySem.Spec PyProof.Rows
abbrev TO:=St->Hp->(Option Int->Hp->Prop)->Prop
def PO(X:Cx)(e:Option Expr)(t:TO):Prop :=
 ∀(pins:List (Addr × Obj))(s:Shared)(σ : St)(H:Hp)(Q:Option Int->Hp->Prop),Inv X pins σ H s->t σ H Q ->
  wpAny (model X.prog X.w) X.A (evalPart e X.env) (λu s'=>∃ o H',Inv X pins σ H' s'/\IsPart u o/\Q o H') X.xe s
def JjK:TO:=λ_ H Q=>Q none H
def tPart(t:TE):TO:=λσ H Q=>t σ H λx H1=>∃ i,x=.int i/\Q (some i) H1
section
variable{X:Cx}{e:Expr}{te:TE}{hi:Option Expr}{tl th:TO}{pos p2:Pos}{lo:Option Expr}
theorem Jhb:PO X none JjK:=by
 intro a s σ H Q I h;rw[evalPart_none];show wpAny_pure ⟨none,H,I, .none,h⟩
theorem Jhc(h:PE X e te):PO X (some e) (tPart te):=by
 intro a s σ H Q I f;rw[evalPart_some];show thn (h a s σ H _ I f) λu g ζ=>?_;let(x,c,I1,b,d):=ζ;let(i,rfl,q):=d;let(t,rfl):=b;show(some i,c,I1, .int i t,q)
def SlR(X:Cx)(r:V->Option Int->Option Int->Hp->VK->Prop):Prop :=
 ∀(pins:List (Addr × Obj))(s:Shared)(σ : St)(H:Hp)(x:V)(v vl vu:Value)(lo hi:Option Int)(sl:Addr)(Q:VK),Inv X pins σ H s->RelV x v->s.heap.IsSliceOf sl vl vu .none->IsPart vl lo->IsPart vu hi->r x lo hi H Q ->
  ∃ T id,typeLookup (.type T) "__getitem__"=pure (some (.builtin id))/\s.TypeIs v T/\wpAny (model X.prog X.w) X.A (getItem v (.ref sl)) (EP X pins σ Q) X.xe s
variable{r:V->Option Int->Option Int->Hp->VK->Prop}
theorem SlR.or{r':V->Option Int->Option Int->Hp->VK->Prop}(h:SlR X r)(h':SlR X r'):SlR X (λx lo hi H Q=>r x lo hi H Q\/r' x lo hi H Q):=by
 intro a s σ H x v vl b lo hi c Q I d g f e q;rcases q with q | q
 .show h a s σ H x v vl b lo hi c Q I d g f e q
 .show h' a s σ H x v vl b lo hi c Q I d g f e q
def tSl(r:V->Option Int->Option Int->Hp->VK->Prop)(te:TE)(tl th:TO):TE:=λσ H Q=>te σ H λx H1=>tl σ H1 λl H2=>th σ H2 λu H3=>r x l u H3 Q
theorem JfJ(hr:SlR X r)(he:PE X e te)(hl:PO X lo tl)(hu:PO X hi th):PE X (.Subscript e (.Slice lo hi none p2) pos) (tSl r te tl th):=by
 intro a s σ H Q I h;show Subscript_ (thn (he a s σ H _ I h) λv p ζ=>?_);let(x,m,I1,t,o):=ζ;show wpAny_Slice (thn (hl a p σ m _ I1 o) λvl i ζ=>?_);let(l,n,I2,C,g):=ζ;show thn (hu a i σ n _ I2 g) λd c ζ=>?_;let(u,f,I3,z,k):=ζ;rw[evalPart_none];show wpAny_pure ?_;have I4:Inv X a σ f { c with heap:=c.heap.push { cls:=.type "slice",data:=.fields #[vl,d, .none] } }:=I3.kept (t':=c.toks) λb D q=>Heap.get?_push_of_some _ q;let(T,id,j,B,y):=hr a { c with heap:=c.heap.push { cls:=.type "slice",data:=.fields #[vl,d, .none] } } σ f x v vl d l u c.heap.objs.size Q I4 t (Heap.IsSliceOf.new ..) C z k;show wpAny (model X.prog X.w) X.A (subscriptTail e (.Slice lo hi none p2) v (.ref c.heap.objs.size)) (EP X a σ Q) X.xe { c with heap:=c.heap.push { cls:=.type "slice",data:=.fields #[vl,d, .none] } };show tail_any (ops:=[.ref c.heap.objs.size,v]) B j y (by with_unfolding_all rfl)
def cutV(xs:List V)(lo hi:Option Int):List V:=(xs.drop (HT.sIx xs.length 0 lo)).take (HT.sIx xs.length xs.length hi-HT.sIx xs.length 0 lo)
theorem Jee(xs:List V)(lo hi:Option Int):(cutV xs lo hi).length<=xs.length:=by
 unfold cutV;rw[length_take,List.length_drop];ac_nf
def rSlT(K:W.Frag):V->Option Int->Option Int->Hp->VK->Prop:=λx lo hi H Q=>∃ a xs,x=.ref a/\SqT K H a xs /\
 ¬(HT.sIx xs.length 0 lo=0/\HT.sIx xs.length xs.length hi=xs.length)/\∀ p,H p=none->Q (.ref p) (upd H p (.tup (cutV xs lo hi)))
theorem Jnl:SlR X (rSlT X.K):=by
 intro i s σ H x v vl z e f w Q I m l u p h;let(a,d,rfl,n,t,q):=h;cases m;let(g,r,k,j):=I.tuple n;have c:g.toArray.size=d.length:=by rw[size_toArray];show r.length.symm
 show("tuple",_,PyProof.Rows.slot_tuple_getitem.lookup,k.typeIs,?_);show HT.getItem_tuple_cut k l u p (by rw[c];show t) ?_ (by rw[c];show j);rw[c];show(.ref s.heap.objs.size,_,I.laid (t':=s.toks) (o:=.tup (cutV d e f)) (λb y q=>Heap.get?_push_of_some _ q) (Nat.le_refl _) ?_,rfl,q _ (I.hok.fresh (Nat.le_refl _)));show(Nat.le_trans (Jee d e f) j,_,(r.drop (HT.sIx d.length 0 e)).take (HT.sIx d.length d.length f-HT.sIx d.length 0 e),IsTup.new _ _)
def rCatT(K:W.Frag):R2:=λx y H Q=>∃ a b xs ys,x=.ref a/\y=.ref b/\SqT K H a xs/\SqT K H b ys/\xs≠[]/\xs.length+ys.length<=sizeLine /\
 (ys=[]->Q (.ref a) H)/\(ys≠[]->∀ p,H p=none->Q (.ref p) (upd H p (.tup (xs++ys))))
variable{xs:List V}{us:List Value}
theorem Vals.nil_iff(r:Vals xs us):us=[]↔xs=[]:=by
 cases r with
 | nil=>simp
 | cons _ _=>simp
theorem JlQ:OpR X (binaryOp .Add) (rCatT X.K):=by
 intro e s σ H x y v u Q I k n h;let(a,b,C,t,rfl,rfl,r,A,m,f,p,i):=h;cases k;cases n;let(B,d,j,_):=I.tuple r;let(g,c,l,_):=I.tuple A;show HT.cat_tup j l (λz=>m (d.nil_iff.mp z)) (λz=>⟨.ref a,H,I,rfl,p (c.nil_iff.mp z)⟩) (λz=>?_) (by rw[<- d.length, <- c.length];show f);show(.ref s.heap.objs.size,_,I.laid (t':=s.toks) (o:=.tup (C++t)) (λb D q=>Heap.get?_push_of_some _ q) (Nat.le_refl _) ?_,rfl,i (λw=>z (c.nil_iff.mpr w)) _ (I.hok.fresh (Nat.le_refl _)));show(by rw[length_append];show f,_,d.append c,IsTup.new _ _)
end
def ixN(n:Nat)(i:Int):Option Nat:=if 0<=i then(if i<n then some i.toNat else none)else if -(n:Int)<=i then some (i+n).toNat else none
variable{α:Type}
def atI(xs:List α)(i:Int):Option α:=(ixN xs.length i).bind λj=>xs[j]?
variable{n j:Nat}
theorem Jly{i:Int}(h:ixN n i=some j):seqIndex? i n=some j/\j<n/\-(n:Int)<=i/\i<n:=by
 unfold ixN at h;by_cases b:0<=i
 .rw[if_pos b]at h;by_cases a:i<n
  .rw[if_pos a]at h;have e:i.toNat=j:=Option.some.inj h;show(by rw[seqIndex_of b a,e],by ac_nf,by ac_nf,a)
  .rw[if_neg a]at h;cases h
 .rw[if_neg b]at h;by_cases a : -(n:Int)<=i
  .rw[if_pos a]at h;have e:(i+n).toNat=j:=Option.some.inj h;show(by rw[seqIndex_neg ∅ a,e],by ac_nf,a,by ac_nf)
  .rw[if_neg a]at h;cases h
theorem JgI{xs:List α}{i:Int}{v : α}(h:atI xs i=some v):∃ j,seqIndex? i xs.length=some j/\xs[j]?=some v/\j<xs.length/\-(xs.length:Int)<=i/\i<xs.length:=by
 unfold atI at h;cases e:ixN xs.length i with
 | none=>rw[e]at h;cases h
 | some j=>
  rw[e]at h;let(c,b,d,a):=Jly e;show(j,c,h,b,d,a)
theorem Jeb{xs:List α}{v : α}(h:xs[j]?=some v):atI xs (j:Int)=some v:=by
 have a:j<xs.length:=(List.getElem?_eq_some_iff.mp h).1;have e:ixN xs.length (j:Int)=some j:=by
  unfold ixN;rw[if_pos ∅,if_pos ∅];simp
 unfold atI;rw[e];show h
def Jlh(b:Expr):Prop:=∀ o i,subscripted b false o i=operate [o,i] (getItem o i)
def IxR(X:Cx)(r:R2):Prop :=
 ∀(value slice:Expr)(pins:List (Addr × Obj))(s:Shared)(σ : St)(H:Hp)(x y:V)(v u:Value)(Q:VK),Inv X pins σ H s->RelV x v->RelV y u->r x y H Q ->
  subscripted slice false v u=operate [v,u] (getItem v u)->wpAny (model X.prog X.w) X.A (subscriptTail value slice v u) (EP X pins σ Q) X.xe s
def MtR(X:Cx)(id:String)(r:V->List V->Hp->VK->Prop):Prop :=
 ∀(pins:List (Addr × Obj))(s:Shared)(σ : St)(H:Hp)(x:V)(xs:List V)(v:Value)(us:List Value)(Q:VK),Inv X pins σ H s->RelV x v->Vals xs us->r x xs H Q ->
  wpAny (model X.prog X.w) X.A (call (.builtin id) (v::us)) (EP X pins σ Q) X.xe s
section
variable{X:Cx}{a b:Expr}{ta tb:TE}{pos:Pos}
theorem pe_ix{r:R2}(hr:IxR X r)(ha:PE X a ta)(hb:PE X b tb)(hs:autoParam (Jlh b) Au):PE X (.Subscript a b pos) (tOp r ta tb):=by
 intro c s σ H Q I h;show Subscript_ (binT ha hb I h λv u e x y d I2 f g q=>hr a b c e σ d x y v u Q I2 f g q (hs _ _))
def rIxL(K:W.Frag):R2:=λx y H Q=>∃ p xs i v,x=.ref p/\y=.int i/\SqL K H p xs/\atI xs i=some v/\Q v H
def rIxT(K:W.Frag):R2:=λx y H Q=>∃ p xs i v,x=.ref p/\y=.int i/\SqT K H p xs/\atI xs i=some v/\Q v H
def rIxS:R2:=λx y H Q=>∃ z i c,x=.str z/\y=.int i/\z.length<=sizeLine/\atI z.cps.toList i=some c/\Q (.str ⟨#[c]⟩) H
theorem Jlz:IxR X (rIxL X.K):=by
 intro d g a s σ H x y v u Q I A B h m;let(p,P,i,z,rfl,rfl,L,C,q):=h;cases A;let(t,rfl):=B;let(k,r,l,N):=I.list L;let(j,c,G,O,E,J):=JgI C;let(w,o,e):=r.get G;have D:=r.length;have M:=Je9;have b:EP X a σ Q w s:=⟨z,H,I,e,q⟩;by_cases n:0<=i
 .have f:i.toNat=j:=by
   rw[seqIndex_of n J]at c;show Option.some.inj c
  show item_listR l.isList n ∅ (by rw[f];simpa using o) b m
 .have f:(i+(k.toArray.size:Int)).toNat=j:=by
   rw[seqIndex_neg ∅ E]at c;rw[size_toArray, <- D];show Option.some.inj c
  show subscriptTail_builtinR (x:=w) l.isList.typeIs slot_list_getitem.lookup
   (wpAny_getItem_list_neg (Q:=λr F=>r=w/\EP X a σ Q r F) l.isList ∅ (by rw[size_toArray] <;> ac_nf) ∅ (by rw[f];simpa using o) ⟨rfl,b⟩) m
theorem JmI:IxR X (rIxT X.K):=by
 intro b e a s σ H x y v u Q I k l h g;let(p,N,i,z,rfl,rfl,D,n,q):=h;cases k;let(t,rfl):=l;let(E,r,f,G):=I.tuple D;let(j,m,B,J,L,M):=JgI n;let(w,C,c):=r.get B;have o:=r.length;have F:=Je9;have d:EP X a σ Q w s:=⟨z,H,I,c,q⟩;show subscriptTail_builtinR (x:=w) f.typeIs slot_tuple_getitem.lookup
  (getItem_tuple (j:=j) (Q:=λr A=>r=w/\EP X a σ Q r A) f ∅ ∅ (by rw[size_toArray, <- o];show m) (by simpa using C) ⟨rfl,d⟩) g
theorem JmH:IxR X rIxS:=by
 intro a b d s σ H x y v u Q I k l h g;let(z,i,c,rfl,rfl,C,m,q):=h;let(t,rfl):=k;let(B,rfl):=l;let(j,e,r,D,o,w):=JgI m;have n:z.cps.toList.length=z.length:=by simp[Str.length]
 rw[n]at e o w;have A:=Je9;show tail_any (typeIs_str s z t) slot_str_getitem.lookup (getItem_str (c:=c) (by
  have p:decide (i < -(2 ^ 63:Int))=false:=decide_eq_false ∅;have f:decide (i ≥ 2 ^ 63)=false:=decide_eq_false ∅;rw[p,f,Bool.or_false]) (by rw[e];simpa using r) ⟨.str ⟨#[c]⟩,H,I.tok _,⟨_,rfl⟩,q⟩) g
theorem Jgy(lo hi:Option Int)(n:Nat):(sliceBounds lo hi none n).1=((HT.sIx n 0 lo:Nat):Int)/\(sliceBounds lo hi none n).2.1=((HT.sIx n n hi:Nat):Int)/\(sliceBounds lo hi none n).2.2=1:=by
 show(?_,?_,rfl)
 .cases lo with
  | none=>simp[sliceBounds,HT.sIx]
  | some i=>
   simp only[sliceBounds,HT.sIx,Option.getD_none,show(1:Int) > 0 by decide,if_true];by_cases h:i<0
   .simp only[h,if_true] <;> ac_nf
   .simp only[h,if_false] <;> ac_nf
 .cases hi with
  | none=>simp[sliceBounds,HT.sIx]
  | some i=>
   simp only[sliceBounds,HT.sIx,Option.getD_none,show(1:Int) > 0 by decide,if_true];by_cases h:i<0
   .simp only[h,if_true] <;> ac_nf
   .simp only[h,if_false] <;> ac_nf
theorem JfV(its:List Value)(lo hi:Option Int):slicePick its.toArray lo hi none=((its.drop (HT.sIx its.length 0 lo)).take (HT.sIx its.length its.length hi-HT.sIx its.length 0 lo)).toArray:=by
 let(b,a,c):=Jgy lo hi its.toArray.size;unfold slicePick;rw[b,a,c];simp only[sliceRange_one,pick_run,size_toArray] <;> rfl
def rSlL(K:W.Frag):V->Option Int->Option Int->Hp->VK->Prop:=λx lo hi H Q=>∃ a xs,x=.ref a/\SqL K H a xs/\∀ p,H p=none->Q (.ref p) (upd H p (.lst (cutV xs lo hi)))
theorem Jmi:SlR X (rSlL X.K):=by
 intro g s σ H x v vl y e f u Q I k j t n h;let(a,c,rfl,l,q):=h;cases k;let(p,r,i,m):=I.list l;have d:=r.length;show("list",_,slot_list_getitem.lookup,i.isList.typeIs,?_);show wpAny_getItem_list_slice i.isList j t n .none (by simp) ?_ (by rw[size_toArray] <;> ac_nf);rw[JfV, <- d];show(.ref s.heap.objs.size,_,I.laid (t':=s.toks) (o:=.lst (cutV c e f)) (λb w q=>Heap.get?_push_of_some _ q) (Nat.le_refl _) ?_,rfl,q _ (I.hok.fresh (Nat.le_refl _)));show(Nat.le_trans (Jee c e f) m,_,0,(r.drop (HT.sIx c.length 0 e)).take (HT.sIx c.length c.length f-HT.sIx c.length 0 e),Heap.get?_push_size _ rfl)
def flatV:V->Bool
 | .non=>true
 | .bl _=>true
 | .int _=>true
 | .str _=>true
 | _=>false
def eqV:V->V->Bool
 | .non, .non=>true
 | .bl a, .bl b=>a == b
 | .bl a, .int b=>(if a then 1 else 0) == b
 | .int a, .bl b=>a == (if b then 1 else 0)
 | .int a, .int b=>a == b
 | .str a, .str b=>a == b
 | _,_=>false
variable{A:Around}{y x:V}{u v:Value}
theorem JkP{s:Shared}(ry:RelV y u)(rx:RelV x v)(fy:flatV y=true)(fx:flatV x=true):SeqAt.EqAt A s u v (eqV y x):=by
 cases y with
 | non=>
  cases ry;cases x with
  | non=>cases rx;show SeqAt.EqAt.same _
  | bl b=>cases rx;show SeqAt.EqAt.none_bool b
  | int b=>let(t,rfl):=rx;show SeqAt.EqAt.none_int b t
  | str b=>let(t,rfl):=rx;show SeqAt.EqAt.none_str b t
  | _=>show absurd (show false=true from fx) Bool.false_ne_true
 | bl a=>
  cases ry;cases x with
  | non=>cases rx;show SeqAt.EqAt.bool_none a
  | bl b=>cases rx;show SeqAt.EqAt.bool_bool a b
  | int b=>let(t,rfl):=rx;show SeqAt.EqAt.bool_int a b t
  | str b=>let(t,rfl):=rx;show SeqAt.EqAt.bool_str a b t
  | _=>show absurd (show false=true from fx) Bool.false_ne_true
 | int a=>
  let(c,rfl):=ry;cases x with
  | non=>cases rx;show SeqAt.EqAt.int_none a c
  | bl b=>cases rx;show SeqAt.EqAt.int_bool a c b
  | int b=>let(t,rfl):=rx;show SeqAt.EqAt.int_int a c b t
  | str b=>let(t,rfl):=rx;show SeqAt.EqAt.int_str a c b t
  | _=>show absurd (show false=true from fx) Bool.false_ne_true
 | str a=>
  let(c,rfl):=ry;cases x with
  | non=>cases rx;show SeqAt.EqAt.str_none a c
  | bl b=>cases rx;show SeqAt.EqAt.str_bool a c b
  | int b=>let(t,rfl):=rx;show SeqAt.EqAt.str_int a c b t
  | str b=>let(t,rfl):=rx;show SeqAt.EqAt.str_str a c b t
  | _=>show absurd (show false=true from fx) Bool.false_ne_true
 | _=>show absurd (show false=true from fy) Bool.false_ne_true
def eqU(x:V)(u:Value):Bool:=match u with
 | .none=>eqV .non x
 | .bool b=>eqV (.bl b) x
 | .int i _=>eqV (.int i) x
 | .str z _=>eqV (.str z) x
 | _=>false
theorem JkQ(r:RelV y u)(f:flatV y=true):eqU x u=eqV y x:=by
 cases y with
 | non=>cases r;rfl
 | bl b=>cases r;rfl
 | int i=>let(t,rfl):=r;rfl
 | str z=>let(t,rfl):=r;rfl
 | _=>show absurd (show false=true from f) Bool.false_ne_true
variable{xs:List V}{us:List Value}
theorem Jiu(h:Vals xs us):xs.all flatV=true->us.any (eqU x)=xs.any λy=>eqV y x:=by
 induction h with
 | nil=>showλ_=>rfl
 | cons r _ ih=>
  intro f;rw[List.all_cons,Bool.and_eq_true]at f;rw[any_cons,any_cons,JkQ r f.1,ih f.2]
theorem JhK{s:Shared}(rx:RelV x v)(fx:flatV x=true){xs:List V}{us:List Value}(h:Vals xs us):xs.all flatV=true->∀ u∈us,SeqAt.EqAt A s u v (eqU x u):=by
 induction h with
 | nil=>showλ_ u a=>by cases a
 | cons r _ ih=>
  intro f b a;rw[List.all_cons,Bool.and_eq_true]at f;rcases mem_cons.mp a with rfl | a
  .rw[JkQ r f.1];show JkP r rx f.1 fx
  .show ih f.2 b a
def inV(x:V)(xs:List V):Bool:=xs.any λy=>eqV y x
def rIn(K:W.Frag)(neg:Bool):R2:=λx y H Q=>∃ p xs,y=.ref p/\(SqL K H p xs\/SqT K H p xs)/\flatV x=true/\xs.all flatV=true/\Q (.bl (if neg then !inV x xs else inV x xs)) H
theorem Jja:OpR X (compareOp .In) (rIn X.K false):=by
 intro f s σ H x y v u Q I i j h;let(p,l,rfl,b,g,c,q):=h;cases j;rcases b with b | b
 .let(a,r,e,k):=I.list b;show SeqAt.in_listAt (eqU x) e.isList (λw d=>JhK i g r c w (by simpa using d)) ⟨.bl _,H,I,rfl,?_⟩;rw[show a.toArray.any (eqU x)=a.any (eqU x) by simp,Jiu r c];show q
 .let(a,r,e,k):=I.tuple b;show SeqAt.in_tupleAt (eqU x) e (λw d=>JhK i g r c w (by simpa using d)) ⟨.bl _,H,I,rfl,?_⟩;rw[show a.toArray.any (eqU x)=a.any (eqU x) by simp,Jiu r c];show q
theorem Jf9:CallR X (.builtin "len") (λxs H Q=>∃ p ys,xs=[.ref p]/\(SqL X.K H p ys\/SqT X.K H p ys)/\Q (.int ys.length) H):=by
 intro f s σ H xs k Q I r h;let(p,ys,rfl,b,q):=h;let(u,rfl,g):=vals1 r;cases g;have j:=Je9;rcases b with b | b
 .let(d,c,e,i):=I.list b;have a:=c.length;show Calls.call_len_list e.isList (by simp only[size_toArray] <;> ac_nf) ⟨.int ys.length,H,I.tok _,⟨s.toks+1,by rw[size_toArray,a]⟩,q⟩
 .let(d,c,e,i):=I.tuple b;have a:=c.length;show len_tuple e (by simp only[size_toArray] <;> ac_nf) ⟨.int ys.length,H,I.tok _,⟨s.toks+1,by rw[size_toArray,a]⟩,q⟩
theorem Jga:CallR X (.builtin "len") (λxs H Q=>∃ z,xs=[.str z]/\z.length<=sizeLine/\Q (.int z.length) H):=by
 intro a s σ H xs d Q I r h;let(z,rfl,b,q):=h;let(u,rfl,t,rfl):=vals1 r;have c:=Je9;show len_str ∅ ⟨.int z.length,H,I.tok _,⟨_,rfl⟩,q⟩
theorem Jgb:CallR X (.type "list") (λxs H Q=>∃ p ys,xs=[.ref p]/\(SqL X.K H p ys\/SqT X.K H p ys)/\∀ l,H l=none->Q (.ref l) (upd H l (.lst ys))):=by
 intro g s σ H xs B Q I r h;let(p,ys,rfl,t,q):=h;let(u,rfl,A):=vals1 r;cases A;have i:∀(a:List Value),Vals ys a->ys.length<=sizeLine->∀(c:Heap)(f:Nat),(∀ b o',s.heap.get? b=some o'->c.get? b=some o') ->
   c.get? s.heap.objs.size=some { cls:=.type "list",dict:=none,data:=.seq a.toArray f,slots:=#[] }->EP X g σ Q (.ref s.heap.objs.size) { s with heap:=c }:=λa d j c f k e=>
  ⟨.ref s.heap.objs.size,_,I.laid (t':=s.toks) k (Nat.le_refl _) (show ObjOk X.prog X.w _ c _ (.lst ys)from⟨j,a,f,d,e⟩),rfl,q _ (I.hok.fresh (Nat.le_refl _))⟩
 rcases t with t | t
 .let(a,d,y,j):=I.list t;have m:=d.length;let(o,x,z,n,v):=y.isList;show call_list_seq p (.inl rfl) x z v (λc f k e=>i a d j c f k e) (by simp only[size_toArray] <;> ac_nf)
 .let(a,d,y,j):=I.tuple t;have m:=d.length;let(o,x,z,n,v):=y;show call_list_seq p (.inr rfl) x z v (λc f k e=>i a d j c f k e) (by simp only[size_toArray] <;> ac_nf)
def tyV(K:W.Frag)(T:String)(x:V)(H:Hp):Prop:=match x with
 | .str _=>T="str"
 | .int _=>T="int"
 | .ref p=>(T="list"/\∃ xs,SqL K H p xs)\/(T="tuple"/\∃ o,K.lookup p=some o/\o.cls=.type "tuple"/\o.dict=none) \/
   (T="dict"/\((∃ kvs,H p=some (.dK kvs))\/∃ kvs,H p=some (.dT kvs)))\/(T="set"/\∃ S n,H p=some (.set S n))
 | _=>False
variable{pins:List (Addr × Obj)}{σ:St}{H:Hp}{T:String}
theorem Jla{s:Shared}(I:Inv X pins σ H s)(r:RelV x v)(ty:tyV X.K T x H) :
  s.TypeIs v T/\∀ a,v=.ref a->∃ ob,s.heap.get? a=some ob/\ob.dict=none:=by
 cases x with
 | str z=>
  let(t,rfl):=r;cases(show T="str" from ty);show(typeIs_str s z t,λ_ e=>nomatch e)
 | int i=>
  let(t,rfl):=r;cases(show T="int" from ty);show(typeIs_int s i t,λ_ e=>nomatch e)
 | ref p=>
  cases r;rcases ty with⟨rfl,xs,hq⟩ | ⟨rfl,o,hk,hc,d⟩ | ⟨rfl,hk⟩ | ⟨rfl,S,n,hk⟩
  .let(h,_,g,_):=I.list hq;show(g.isList.typeIs,λa e=>?_);cases e;let(o,n,e,c,d,_):=g;show(o,e,d)
  .show(⟨o,I.kIn p o hk,hc⟩,λa e=>?_);cases e;show(o,I.kIn _ o hk,d)
  .have z:∃ o,s.heap.get? p=some o/\o.ExactDict:=by
    rcases hk with⟨kvs,hk⟩ | ⟨kvs,hk⟩
    .let(_,_,_,_,o,_,_,e,b,_):=I.hok p _ hk;show(o,e,b)
    .let(_,_,_,_,o,_,_,e,b,_):=I.hok p _ hk;show(o,e,b)
   let(o,e,b):=z;show(⟨o,e,b.1⟩,λa f=>?_);cases f;show(o,e,b.2.1)
  .let(o,_,_,_,e,b,_):=I.hok p _ hk;show(⟨o,e,b.1⟩,λa f=>?_);cases f;show(o,e,b.2.1)
 | _=>show False.elim ty
def tBM0(K:W.Frag)(T:String)(r:V->List V->Hp->VK->Prop)(to:TE):TE:=λσ H Q=>to σ H λx H1=>tyV K T x H1/\r x [] H1 Q
def tBM(K:W.Frag)(T:String)(r:V->List V->Hp->VK->Prop)(to:TE)(t:TA):TE:=λσ H Q=>to σ H λx H1=>tyV K T x H1/\t σ H1 λxs H2=>r x xs H2 Q
variable{o e:Expr}{es:List Expr}{to:TE}{name:Str}{apos cpos:Pos}{id:String}{r:V->List V->Hp->VK->Prop}{t:TA}
theorem Jm4(pa:PlainAttrs T)(slot:Slot T name id)(hty:typeOf (.builtin id)=pure (.type "method_descriptor"))(hm:MtR X id r)(ho:PE X o to)
  (hbase:autoParam (attributeBase o name X.env (eval o X.env)=eval o X.env) Au) (hline:autoParam ((apos.endLine == cpos.line)=true) Au):PE X (.Call (.Attribute o name apos) [] [] cpos) (tBM0 X.K T r to):=by
 intro a s σ H Q I h;show wpAny_Call_method0_late hbase hline (thn (ho a s σ H _ I h) λv i ζ=>?_);let(x,d,I1,b,e,g):=ζ;let(f,c):=Jla I1 b e;show(T,id,pa,slot,hty,f,c,Calls.callWith_builtin rfl (PySem.evalArgs_none (hm a i σ d x [] v [] Q I1 b .nil g)))
theorem pe_bm(pa:PlainAttrs T)(slot:Slot T name id)(hty:typeOf (.builtin id)=pure (.type "method_descriptor"))(hm:MtR X id r)(ho:PE X o to)(ha:PA X (e::es) t)
  (hbase:autoParam (attributeBase o name X.env (eval o X.env)=eval o X.env) Au)
  (hfew:autoParam (((backTo cpos (starEach (e::es) X.env)).all (λx=>!x.1)&&(backToKw cpos (keywordEach [] X.env)).all (λx=>x.1.isSome)
   && decide ((e::es).length+([]:List Keyword).length+(if([]:List Keyword).isEmpty then 0 else 1)<30))=true) Au)
  (hline:autoParam ((apos.endLine == cpos.line)=true) Au) (hs:autoParam (starEach (e::es) X.env=(false,eval e X.env)::starEach es X.env) Au) (hplain:autoParam ((backTo cpos (starEach es X.env)).any (·.1)=false) Au) :
  PE X (.Call (.Attribute o name apos) (e::es) [] cpos) (tBM X.K T r to t):=by
 intro a s σ H Q I h;show wpAny_Call_method_late hbase hfew hline rfl (thn (ho a s σ H _ I h) λv m ζ=>?_);let(x,i,I1,b,n,l):=ζ;let(k,p):=Jla I1 b n;show(T,id,pa,slot,hty,k,p,?_);have c:=ha cpos a m σ i _ I1 l;rw[hs]at c ⊢;show Calls.callWith_builtin (by show(false||(backTo cpos (starEach es X.env)).any (·.1))=false;rw[hplain] <;> rfl) (Calls.evalArgs_plain ?_);show thn c λq f ζ=>by let(u,j,I2,g,d):=ζ;show hm a f σ j x u v q Q I2 b g d
end
def MtM(X:Cx)(id:String)(r:V->List V->Hp->VK->Prop):Prop :=
 ∀(pins:List (Addr × Obj))(s:Shared)(σ : St)(H:Hp)(x:V)(xs:List V)(v:Value)(us:List Value)(Q:VK),Inv X pins σ H s->RelV x v->Vals xs us->r x xs H Q ->
  wpAny (model X.prog X.w) X.A (call (.builtin id) (v::us)) (EP X pins σ Q) X.xe s
variable{us:List Value}
theorem Vals.one{x:V}(h:Vals [x] us):∃ u,us=[u]/\RelV x u:=by
 cases h with
 | cons r t=>cases t;show(_,rfl,r)
theorem Vals.zero:∀{us:List Value},Vals [] us->us=[]
 | _, .nil=>rfl
variable{xs:List V}
theorem Vals.dropLast(h:Vals xs us):Vals xs.dropLast us.dropLast:=by
 induction h with
 | nil=>show .nil
 | cons r t ih=>
  cases t with
  | nil=>show .nil
  | cons q t'=>show .cons r ih
theorem Vals.eraseIdx:∀{xs:List V}{us:List Value}(i:Nat),Vals xs us->Vals (xs.eraseIdx i) (us.eraseIdx i)
 | _,_,_, .nil=>.nil
 | _,_,0, .cons _ t=>t
 | _,_,i+1, .cons r t=>.cons r (Vals.eraseIdx i t)
theorem Jh7(l:List α):l.eraseIdx (l.length-1)=l.dropLast:=by
 induction l with
 | nil=>rfl
 | cons a r ih=>
  cases r with
  | nil=>rfl
  | cons b r=>
   have e:(a::b::r).length-1=((b::r).length-1)+1:=by
    have d:(a::b::r).length=r.length+2:=rfl;have c:(b::r).length=r.length+1:=rfl;ac_nf
   rw[e,List.eraseIdx_cons_succ,ih];all_goals rfl
theorem Jgj:∀(l:List α)(i:Nat),(l.eraseIdx i).length<=l.length
 | [],_=>Nat.le_refl _
 | _::_,0=>Nat.le_succ _
 | _::r,i+1=>Nat.succ_le_succ (Jgj r i)
section
variable{X:Cx}{pins:List (Addr × Obj)}{σ:St}{H:Hp}{l b:Addr}{ys zs:List V}{s:Shared}{its:List Value}{t':Nat}
theorem Inv.lset{its':List Value}{f:Array Value->Array Value}(I:Inv X pins σ H s)(hH:H l=some (.lst xs))
  (e:s.heap.get? l=some { cls:=.type "list",data:=.seq its.toArray n }) (hf:f its.toArray=its'.toArray) (hv:Vals ys its') (hz:ys.length<=sizeLine) :
  Inv X pins σ (upd H l (.lst ys)) { s with heap:=s.heap.update l (Obj.mapSeq f),toks:=t' }:=by
 have q:=PySem.IsL.update e f;rw[hf]at q;show I.write (x:=l) (e:=l) (by rw[hH];show trivial) (.inl rfl) (λc u a b=>(Heap.get?_update_other s.heap (Obj.mapSeq f) (Ne.symm a)).trans b) ⟨_,q⟩ ?_;show(hz,its',_,hv,q)
theorem Inv.lnew(I:Inv X pins σ H s)(hv:Vals ys its)(hz:ys.length<=sizeLine) :
  Inv X pins σ (upd H s.heap.objs.size (.lst ys)) { s with heap:=s.heap.push { cls:=.type "list",data:=.seq its.toArray },toks:=t' } :=
 I.laid (λ_ _ q=>Heap.get?_push_of_some _ q) (Nat.le_refl _) ⟨hz,its,0,hv,Heap.get?_push_size _ rfl⟩
theorem Inv.fresh(I:Inv X pins σ H s):H s.heap.objs.size=none:=I.hok.fresh (Nat.le_refl _)
theorem Inv.lstM(I:Inv X pins σ H s)(hH:H l=some (.lst xs)):xs.length<=sizeLine/\∃(its:List Value)(n:Nat),Vals xs its/\xs.length=its.length/\s.heap.get? l=some { cls:=.type "list",data:=.seq its.toArray n }:=by
 let(z,its,n,r,e):=I.hok l _ hH;show(z,its,n,r,r.length,e)
theorem Jke(h:n<=sizeLine):Builtin.List.listTooLong n=false:=by
 unfold Builtin.List.listTooLong;show decide_eq_false ∅
end
variable{X:Cx}
def Jl9:V->List V->Hp->VK->Prop:=λx vs H Q=>∃ l xs y,x=.ref l/\vs=[y]/\H l=some (.lst xs)/\xs.length<sizeLine/\Q .non (upd H l (.lst (xs++[y])))
theorem Jbb:MtM X "list.append" Jl9:=by
 intro b s σ H x m v k Q I d f h;let(l,o,y,rfl,rfl,c,i,q):=h;cases d;let(u,rfl,g):=f.one;let(z,a,n,r,j,e):=I.lstM c;show call_meets F.slot_list_append ⟨_,e,rfl⟩ F.entry_list_append (F.args_list_append_2 _ _) (PySem.list_append l a.toArray n u (by rw[size_toArray];ac_nf)) ⟨e,?_⟩;show(.non,_,I.lset (its':=a++[u]) c e (by simp) (r.append (.cons g .nil)) ?_,rfl,q);rw[length_append,length_singleton];ac_nf
def Jma:V->List V->Hp->VK->Prop:=λx vs H Q=>∃ l b xs zs,x=.ref l/\vs=[.ref b]/\H l=some (.lst xs)/\H b=some (.lst zs)/\xs.length+zs.length<=sizeLine/\Q .non (upd H l (.lst (xs++zs)))
theorem Jgm:MtM X "list.extend" Jma:=by
 intro g s σ H x G v E Q I p t h;let(l,b,J,B,rfl,rfl,i,y,C,q):=h;cases p;let(u,rfl,w):=t.one;cases w;let(z,c,n,r,D,e):=I.lstM i;let(A,a,m,k,j,o):=I.lstM y;have f:c.toArray.size+a.toArray.size<=sizeLine:=by rw[size_toArray,size_toArray];ac_nf
 have d:¬(!c.toArray.isEmpty&&Builtin.List.listTooLong (c.toArray.size+a.toArray.size))=true:=by
  rw[Jke f,Bool.and_false];show Bool.false_ne_true
 show call_meets F.slot_list_extend ⟨_,e,rfl⟩ F.entry_list_extend (F.args_list_extend_2 _ _)
  (AutoSeq1.list_extend_list_list_0 l c.toArray n b a.toArray m d (by rw[size_toArray];ac_nf) ∅) ⟨e,o,?_⟩
 show(.non,_,I.lset (its':=c++a) i e (by simp) (r.append k) ?_,rfl,q);rw[length_append];ac_nf
def rPop:V->List V->Hp->VK->Prop:=λx vs H Q=>∃ l xs y,x=.ref l/\vs=[]/\H l=some (.lst xs)/\xs[xs.length-1]?=some y/\Q y (upd H l (.lst xs.dropLast))
theorem JmS:MtM X "list.pop" rPop:=by
 intro d s σ H x t v p Q I g i h;let(l,w,y,rfl,rfl,f,j,q):=h;cases g;have c:=i.zero;subst c;let(z,a,n,r,k,e):=I.lstM f;let(u,m,o):=r.get j;have b:a.toArray[a.toArray.size-1]?=some u:=by
  show a.toArray[a.length-1]?=some u;rw[<- Array.getElem?_toList, <- k];show m
 show call_meets F.slot_list_pop ⟨_,e,rfl⟩ F.entry_list_pop (F.args_list_pop_1 _) (MeetsSeq.list_pop_last l a.toArray n u b (by rw[size_toArray];ac_nf)) ⟨e,?_⟩;show(y,_,I.lset (its':=a.dropLast) f e ?_ r.dropLast ?_,o,q)
 .show a.toArray.eraseIdxIfInBounds (a.toArray.size-1)=a.dropLast.toArray;rw[size_toArray,List.eraseIdxIfInBounds_toArray,Jh7]
 .rw[List.length_dropLast];ac_nf
def Jne:V->List V->Hp->VK->Prop:=λx vs H Q=>∃ l xs i k y,x=.ref l/\vs=[.int i]/\H l=some (.lst xs)/\-(2 ^ 63)<=i/\i<2 ^ 63/\seqIndex? i xs.length=some k/\xs[k]?=some y/\Q y (upd H l (.lst (xs.eraseIdx k)))
theorem Jkd:MtM X "list.pop" Jne:=by
 intro c s σ H x G v E Q I g j h;let(l,D,i,k,y,rfl,rfl,d,m,B,f,o,q):=h;cases g;let(u,rfl,A):=j.one;let(t,rfl):=A;let(z,a,n,r,p,e):=I.lstM d;let(w,C,b):=r.get o;show call_meets F.slot_list_pop ⟨_,e,rfl⟩ F.entry_list_pop (F.args_list_pop_2 _ _)
  (MeetsSeq.list_pop_at l a.toArray n i t k w (fitsIndex_both m B) (by rw[size_toArray, <- p];show f) (by rw[<- Array.getElem?_toList];show C) (by rw[size_toArray];ac_nf)) ⟨e,?_⟩
 show(y,_,I.lset (its':=a.eraseIdx k) d e ?_ (r.eraseIdx k) ?_,b,q)
 .show a.toArray.eraseIdxIfInBounds k=(a.eraseIdx k).toArray;rw[List.eraseIdxIfInBounds_toArray]
 .have:=Jgj D k;ac_nf
def rCat:R2:=λx y H Q=>∃ l b xs zs,x=.ref l/\y=.ref b/\H l=some (.lst xs)/\H b=some (.lst zs)/\xs.length+zs.length<=sizeLine/\∀ p,H p=none->Q (.ref p) (upd H p (.lst (xs++zs)))
theorem JmY:OpR X (binaryOp .Add) rCat:=by
 intro d s σ H x y v u Q I j m h;let(l,b,D,A,rfl,rfl,k,p,B,q):=h;cases j;cases m;let(z,c,n,r,C,e):=I.lstM k;let(t,a,w,g,f,i):=I.lstM p;show PySem.P.add_list e i ?_ (by rw[size_toArray,size_toArray];ac_nf);have o:c.toArray++a.toArray=(c++a).toArray:=by simp
 rw[o];show(.ref _,_,I.lnew (t':=s.toks) (r.append g) (by rw[length_append];ac_nf),rfl,q _ I.fresh)
section
variable{prog:Program}{A:Around}{E:Value->Shared->Prop}{w:World}{s:Shared}
end
end L2
namespace Att
open PySem PySem.W PySem.Calls PyProof.Rows
theorem Jeg{P:Params}{h:Heap}:∀(ns:List Int)(vs:List Value),WellAll P h vs (ns.map WData.int)->IntsAre vs ns:=by
 intro ns;induction ns with
 | nil=>
  intro vs w;rw[map_nil]at w;cases w;show .nil
 | cons n ns ih=>
  intro vs w;rw[map_cons]at w;cases w with
  | cons a b=>
   cases a;show .cons _ _ (ih _ b)
variable{l:OpenLaw}{n:Nat}
theorem Jjw(hn:l.most=some n){P:Params}{h:Heap}{args:List WData}{vals:List Value}
  (hpre:l.row.toRowW.claim.pre args=true) (hwl:WellAll P h vals args) :
  ∃ a vs ns,vals=[Value.ref a]/\args=[WData.list (ns.map WData.int)]/\h.get? a=some { cls:=.type "list",data:=.seq vs.toArray }/\IntsAre vs ns/\ns.length<=n:=by
 have f:WShape.hasAll [] args [.list .int]=true:=(pre_splitW hpre).1;have g:l.pre.holds [] { args:=args }=true:=(pre_splitW hpre).2;let(d,r,rfl,m,i):=hasAllW_cons f;obtain rfl:=hasAllW_nil i;let(o,rfl,k):=hasW_list m;let(ns,rfl):=items_int k;have b:ns.length<=n:=by
  unfold OpenLaw.pre at g;have e:(WTm.not (.lt (.lit (.int (n:Int))) (.len (.arg 0)))).holds [] { args:=[.list (ns.map .int)] }=true:=by
   have e:=(holds_andW g).1;rw[hn]at e;show e
  have c:=condW_of e (w_not (w_lt w_lit (w_len_list (w_arg rfl))));rw[length_map]at c;show Nat.le_of_not_lt λq=>?_;have j:(n:Int)<((ns.length:Nat):Int):=by ac_nf
  first
   | (rw[decide_eq_true j]at c;show absurd c ⋯)
   | (simp at c;ac_nf)
 cases hwl with
 | cons w1 w2=>
  cases w2;cases w1 with
  | list ho hall=>show(_,_,ns,rfl,rfl,ho,Jeg ns _ hall,b)
theorem Jjj(l:OpenLaw)(args:List WData):l.row.toRowW.claim.post args (.bool true) args=true :=
 postW_of (r:=l.row.toRowW) (X:=(true == true))
  (show WShape.has [] (.bool true) .bool=true by first | rfl | decide | simp[WShape.has,WShape.arms,WShape.armsAll])
  (show(WTm.eq .res (.lit (.bool true))).value [] { args:=args,res:=some (.bool true),after:=args }=some (.bool (true == true))from w_eq_bool (w_res rfl) w_lit) rfl
theorem attach_call{q:Program}{loose:List Str}{XP:(Str->Option Value)->Heap->Prop}{YP:World->Heap->Prop}{d:DefRec}
  (hn:l.most=some n) (hdf:d.params.defaults=[])
  (call:∀(w:World)(s₀ s₁ : Shared)(mg mb:Str->Option Value)(fa:Addr)(o:Obj)(pm cd doc:Value)(a:Addr)(vs:List Value)(ns:List Int),
   Ground q loose [] XP w s₀ mg mb s₁.heap->YP w s₁.heap ->
   s₁.heap.get? fa=some o->o.data=.func (docDef d.name d.params d.body d.scope pm cd doc)->s₁.heap.CodeRec cd d.name->mg d.name=some (.ref fa) ->
   s₁.heap.get? a=some { cls:=.type "list",data:=.seq vs.toArray }->IntsAre vs ns->ns.length<=n->s₁.gens=#[] ->
   codeAny (model l.prog w) callerA (.call (.ref fa) ⟨[.ref a],[]⟩) (λr s'=>r=.ok (.ret (.bool true))/\OldK s₁.heap s'.heap/\s'.os=s₁.os/\AllBare s'.gens) s₁) :
  WalkO q loose XP YP l.row.toRowW d [] (λf vs=>PySem.call f vs):=by
 intro w s₀ s₁ mg mb G Y fa o pm cd doc v kV x u h p i B t m H g k F j y;obtain rfl:v=.none:=Dflts.none p hdf;obtain rfl:kV=.none:=Dflts.noKw p;let(a,vs,ns,rfl,rfl,c,b,e):=Jjw hn g j;show enter_call (codeAny_mono (call w s₀ s₁ mg mb fa o pm cd doc a vs ns G Y x (fd_plain u) h i c b e B) λr s' E=>?_);let(rfl,D,A,C):=E;show(.inl ⟨.bool true, .bool true,[],rfl,λ_=>rfl, .bool true,Jjj l _,λ_=>⟨List.Pairwise.nil,λ_ z=>(nomatch z)⟩⟩,D,A,C)
section
variable{prog:Program}{A:Around}{E:Value->Shared->Prop}{K:Frag}{w:World}{s:Shared}
end
end Att
namespace L2
open PySem PySem.Spec PyProof.Rows
variable{vs:List Value}{ns:List Int}
theorem JjU(h:IntsAre vs ns):Vals (ns.map V.int) vs:=by
 induction h with
 | nil=>show .nil
 | cons n t _ ih=>show .cons ⟨t,rfl⟩ ih
def Only(H:Hp):Prop:=∀ b,H b=none\/∃ o xs,H b=some (.frz o (.lst xs))
variable{P:Program}{mg:Str->Option Value}{a:Addr}{fd:FuncData}{x:Str}
theorem Jj9{w:World}{K:W.Frag}{mb:Str->Option Value}{CX:CXT}{k:Nat}{fa:Addr}{sp:Sp}{s₁:Shared}
  (KX:K.In s₁.heap) (hns:s₁.heap.Ns mainGlobals mg) (hb:s₁.heap.Ns builtinsNs mb) (hbb:∀ x:Str,x≠"__name__"->mb x=bootBuiltins x) (hlim:s₁.heap.NoLimit) (hg:s₁.gens=#[])
  (ha:s₁.heap.get? a=some { cls:=.type "list",data:=.seq vs.toArray }) (hi:IntsAre vs ns) (hl:ns.length<=sizeLine) (hr:Room k callerA)
  (F:∀ base:Heap,K.In base->base.Ns mainGlobals mg->FnOk P w K mg base CX k fa fd [x] sp) (hbind:∀(s:Shared)(u:Value),BindsTo s fd ⟨[u],[]⟩ [(x,u)])
  (hsp:∀ H:Hp,Only H->SqL K H a (ns.map V.int)->sp [.ref a] H (λv _=>v=.bl true) λ_ _ _=>False)
  (hCX:∀ H e s',CX [] H s₁ (λ_ _ _=>False) e s'->False) :
  codeAny (model P w) callerA (.call (.ref fa) ⟨[.ref a],[]⟩) (λr s'=>r=.ok (.ret (.bool true))/\OldK s₁.heap s'.heap/\s'.os=s₁.os/\AllBare s'.gens) s₁:=by
 have D:=JjU hi;have p:=hi.length;have g:∀ H:Hp,Only H->SqL K H a (ns.map V.int)->HOk P w H s₁.heap->(∀ b,H b≠none->b=a)->(H a≠none->K.lookup a=none) ->
   codeAny (model P w) callerA (.call (.ref fa) ⟨[.ref a],[]⟩) (λr s'=>r=.ok (.ret (.bool true))/\OldK s₁.heap s'.heap/\s'.os=s₁.os/\AllBare s'.gens) s₁:=by
  intro H C J i E N;have c:∀{b:Addr}{o:Obj},s₁.heap.get? b=some o->H b=none->(hidT s₁.heap H).get? b=some o:=λe n=>Jj7 e n;have A:∀{b:Addr}{o:Obj}{es:Array DictEntry}{ep:Nat},s₁.heap.get? b=some o->o.data=.dict es ep->H b=none:=λ{b o es ep} e d=>by
   cases q:H b with
   | none=>rfl
   | some u=>
    have B:b=a:=E b (by rw[q];simp);subst B;rw[ha]at e;cases e;have Q:Data.seq vs.toArray _=Data.dict es ep:=d;cases Q
  have f:∀{b:Addr}{m:Str->Option Value},s₁.heap.Ns b m->(hidT s₁.heap H).Ns b m:=λ{b m} ζ=>(by let(o,es,ep,e,d,r):=ζ;show(o,es,ep,c e (A e d),d,r));have t:K.In (hidT s₁.heap H):=λb o e=>c (KX b o e) (by
   cases q:H b with
   | none=>rfl
   | some u=>
    have B:b=a:=E b (by rw[q];simp);subst B;rw[N (by rw[q];simp)]at e;cases e)
  have R:Mod K mg (hidT s₁.heap H):=⟨t,f hns,⟨mb,f hb,hbb⟩,let⟨mc,h1,h2⟩:=hlim;⟨mc,f h1,h2⟩⟩;have S:Env0 P w K mg (hidT s₁.heap H) callerA [] s₁ H:=⟨rfl,R,λb o e=>JlL e,Nat.le_of_eq (JiR _ _),trivial,λb hb=>absurd (show b∈([]:List Addr)from hb) (by simp),i, .of_eq hg⟩;show codeAny_mono ((F _ t (f hns)).run callerA [] s₁ H ⟨[.ref a],[]⟩ [.ref a] [.ref a] _ _ hr S (hbind s₁ (.ref a)) (.cons rfl .nil) (hsp H C J)) λr s' h=>?_;cases r with
  | error e=>show(hCX H e s' h).elim
  | ok fl=>
   cases fl with
   | next=>show False.elim h
   | brk=>show False.elim h
   | cont=>show False.elim h
   | ret u=>
    let(v,U,os,j,I,l,O,q):=h;have T:v=.bl true:=q;subst T;obtain rfl:u=Value.bool true:=O;show(rfl,OldK.of_keep λb o e=>?_,os,j);cases q:H b with
    | none=>show I.keep b o e q (by intro z;show absurd (show b∈([]:List Addr)from z) (by simp)) (by simp)
    | some u=>
     rcases C b with z | ⟨ob,xs,z⟩
     .rw[q]at z;cases z
     .have L:=I.frzs b ob _ z;let(G,_):=i b _ z;let(M,_):=l b _ L;rw[e]at G;cases G;show M
 cases hk:K.lookup a with
 | some o=>
  have e:=KX a o hk;rw[ha]at e;cases e;show g (λ_=>none) (λ_=>.inl rfl) (.inr ⟨_,vs.toArray,_,hk,rfl,rfl,rfl,by rw[size_toArray,p];show hl,by simpa using D⟩) (λb u z=>by have y:(none:Option HO)=some u:=z;cases y) (λb z=>absurd rfl z) λz=>absurd rfl z
 | none=>
  show g (λb=>if b=a then some (.frz { cls:=.type "list",data:=.seq vs.toArray } (.lst (ns.map V.int)))else none) (λb=>?_) (.inl (.inr ⟨{ cls:=.type "list",data:=.seq vs.toArray },if_pos rfl⟩)) (λb u z=>?_) (λb z=>?_) λ_=>hk
  .by_cases hb:b=a
   .show .inr ⟨_,_,if_pos hb⟩
   .show .inl (if_neg hb)
  .by_cases hb:b=a
   .have y:=(if_pos hb).symm.trans z;cases y;subst hb;show(ha,by rw[length_map];show hl,vs,_,D,ha)
   .have y:=(if_neg hb).symm.trans z;cases y
  .by_cases hb:b=a
   .show hb
   .show absurd (if_neg hb) z
abbrev KOf{K:W.Frag}{h:Heap}(_:K.In h):W.Frag:=K
theorem JjX{l:W.OpenLaw}{n k:Nat}{q:Program}{loose:List Str}{XP:(Str->Option Value)->Heap->Prop}{YP:World->Heap->Prop}{d:DefRec}{K:Params->W.Frag}{CX:World->CXT}{sp:World->Sp}
  (hn:l.most=some n) (hn2:n<=sizeLine) (hdf:d.params.defaults=[]) (hr:Room k callerA)
  (hY:∀(w:World)(h:Heap),YP w h->(K w.params).In h)
  (F:∀(w:World)(mg:Str->Option Value)(fa:Addr)(h:Heap),(K w.params).In h->h.Ns mainGlobals mg->mg d.name=some (.ref fa) ->
   ∃ fd:FuncData,(∀(s:Shared)(u:Value),BindsTo s fd ⟨[u],[]⟩ [(x,u)]) /\
    ∀ base:Heap,(K w.params).In base->base.Ns mainGlobals mg->FnOk l.prog w (K w.params) mg base (CX w) k fa fd [x] (sp w))
  (hsp:∀(w:World)(H:Hp)(a:Addr)(ns:List Int),ns.length<=n->Only H->SqL (K w.params) H a (ns.map V.int)->sp w [.ref a] H (λv _=>v=.bl true) λ_ _ _=>False)
  (hCX:∀(w:World)(H:Hp)(s:Shared)(e:Value)(s':Shared),CX w [] H s (λ_ _ _=>False) e s'->False) :
  W.WalkO q loose XP YP l.row.toRowW d [] (λf vs=>PySem.call f vs):=by
 show Att.attach_call hn hdf λw s₀ s₁ mg J fa o E I y a vs ns G Y D C p m j i c A=>?_;have KX:=hY w _ Y;let(fd,B,z):=F w mg fa _ KX G.T.g m;show Jj9 KX G.T.g G.T.b G.T.builtins G.T.nolimit A j i (Nat.le_trans c hn2) hr z B (λH t r=>hsp w H a ns c t r) λH e s'=>hCX w H s₁ e s'
def inClass(s:Stmt)(j:Nat):Stmt:=match s with
 | .ClassDef _ _ _ body _ _ _ _ _ _ _=>body.getD j (.Pass ⟨0,0,0,0⟩)
 | _=>.Pass ⟨0,0,0,0⟩
def Jam(s:Stmt):Arguments:=match s with
 | .FunctionDef _ a _ _ _ _ _ _ _ _=>a
 | _=>{ posonlyargs:=[],args:=[],vararg:=none,kwonlyargs:=[],kw_defaults:=[],kwarg:=none,defaults:=[] }
def Jal(s:Stmt):List Stmt:=match s with
 | .FunctionDef _ _ b _ _ _ _ _ _ _=>b
 | _=>[]
def Jaf(s:Stmt):Scope:=match s with
 | .FunctionDef _ _ _ _ _ _ sc _ _ _=>sc
 | _=>{ kind:=.function,names:=[],isGenerator:=false,isCoroutine:=false }
abbrev E0:XK:=λ_ _ _=>False
structure Fun(K:W.Frag)(x qual:Str)(st:Stmt)(f:Addr)(fd:FuncData):Prop where
 ex:∃(oc:Value)(od:Option Addr)(kV doc pm:Value)(an:Option Addr)(cdv ct:Value)(osl:Array (Option Value)),
  fd=W.fnOf x qual (Jam st) (Jal st) (Jaf st) .none kV doc pm an cdv ct/\K.lookup f=some ⟨oc,od, .func fd,osl⟩/\W.codeIn K cdv qual=true
 kp:W.keepIn K (.ref f)=true
section
variable{base:Heap}{w:World}{K:W.Frag}
theorem Fun.binds{qual:Str}{st:Stmt}{f:Addr}{ps:List Str}(F:Fun K x qual st f fd)
  (h:∀(kV doc pm:Value)(an:Option Addr)(cdv ct:Value)(us:List Value),us.length=ps.length->bindArgs (W.fnOf x qual (Jam st) (Jal st) (Jaf st) .none kV doc pm an cdv ct) ⟨us,[]⟩=pure (ps.zip us)):Binds K fd ps []:=by
 let(d,c,kV,doc,pm,an,cdv,ct,b,rfl,e,a):=F.ex;show .all (h kV doc pm an cdv ct)
end
variable{X:Cx}
theorem pv(i:Nat){x:Str}{pos:Pos}(hN:autoParam (X.N[i]?=some x) Au)(hv:autoParam (Vis X.env.scope x) Au)(hd:autoParam ((x == ("__debug__" : Str))=false) Au)
  (hcd:autoParam ((x == ("__classdict__" : Str))=false) Au):PE X (.Name x pos) (tVar i):=Jm6 hN hv hd hcd
def Same(H H':Hp):Prop:=∀ b o,H b=some o->H' b=some o
theorem Same.refl(H:Hp):Same H H:=λ_ _ h=>h
variable{H:Hp}
theorem Same.trans{H1 H2:Hp}(a:Same H H1)(b:Same H1 H2):Same H H2:=λc o h=>b c o (a c o h)
theorem Same.seq{K:W.Frag}{H':Hp}{xs:List V}(e:Same H H')(h:SqL K H a xs):SqL K H' a xs:=by
 rcases h with(h | ⟨o,h⟩) | h
 .show .inl (.inl (e _ _ h))
 .show .inl (.inr ⟨o,e _ _ h⟩)
 .show .inr h
end L2
set_option maxHeartbeats 4000000
namespace L2
open PySem PySem.Spec PyProof.Rows
section
variable{κ:Type}[DecidableEq κ]
def valV(kvs:List (κ × V))(k : κ):Option V:=(kvs.find? λkv=>decide (kv.1=k)).map (·.2)
def putK(kvs:List (κ × V))(k : κ)(v:V):List (κ × V) :=
 if(kvs.any λkv=>decide (kv.1=k))=true then kvs.map (λkv=>if kv.1=k then(kv.1,v)else kv)else kvs++[(k,v)]
theorem Jbl{p : κ × V}{r:List (κ × V)}{k : κ}(e:p.1=k):valV (p::r) k=some p.2:=by simp[valV,List.find?_cons,e]
theorem Jbq{p : κ × V}{r:List (κ × V)}{k : κ}(e:¬ p.1=k):valV (p::r) k=valV r k:=by simp[valV,List.find?_cons,e]
theorem JcN(k : κ):∀ kvs:List (κ × V),(kvs.any λkv=>decide (kv.1=k))=(valV kvs k).isSome
 | []=>rfl
 | p::r=>by
  rw[any_cons];by_cases e:p.1=k
  .simp only[Jbl e,decide_eq_true e,Bool.true_or,Option.isSome_some]
  .rw[Jbq e,decide_eq_false e,Bool.false_or];show JcN k r
theorem JhX(k j : κ)(y:V):∀ kvs:List (κ × V),valV (kvs.map λkv=>if kv.1=k then(kv.1,y)else kv) j=(valV kvs j).map λx=>if j=k then y else x
 | []=>rfl
 | p::r=>by
  have ih:=JhX k j y r;rw[map_cons];by_cases h:p.1=k
  .rw[if_pos h];by_cases e:p.1=j
   .rw[Jbl (p:=(p.1,y)) e,Jbl e,Option.map_some,if_pos (e.symm.trans h)]
   .rw[Jbq (p:=(p.1,y)) e,Jbq e,ih]
  .rw[if_neg h];by_cases e:p.1=j
   .rw[Jbl (p:=p) e,Jbl e,Option.map_some,if_neg (λz=>h (e.trans z))]
   .rw[Jbq (p:=p) e,Jbq e,ih]
theorem JgE(k j : κ)(y:V):∀ kvs:List (κ × V),valV kvs k=none->valV (kvs++[(k,y)]) j=if j=k then some y else valV kvs j
 | [],_=>by
  by_cases e:k=j
  .rw[if_pos e.symm];show Jbl (p:=(k,y)) e
  .rw[if_neg (λz=>e z.symm)];show Jbq (p:=(k,y)) e
 | p::r,hn=>by
  rw[cons_append];have hk:¬ p.1=k:=λz=>by rw[Jbl z]at hn;cases hn
  rw[Jbq hk]at hn;have ih:=JgE k j y r hn;by_cases e:p.1=j
  .rw[Jbl e,Jbl e,if_neg (λz=>hk (e.trans z))]
  .rw[Jbq e,Jbq e,ih]
theorem Jea(kvs:List (κ × V))(k j : κ)(y:V):valV (putK kvs k y) j=if j=k then some y else valV kvs j:=by
 unfold putK;by_cases a:(kvs.any λc=>decide (c.1=k))=true
 .rw[if_pos a,JhX];rw[JcN]at a;by_cases e:j=k
  .let(x,b):=Option.isSome_iff_exists.mp a;rw[if_pos e,e,b,Option.map_some,if_pos rfl]
  .rw[if_neg e];cases valV kvs j with
   | none=>rfl
   | some x=>rw[Option.map_some,if_neg e]
 .rw[if_neg a];show JgE k j y kvs ?_;rw[JcN]at a;cases q:valV kvs k with
  | none=>rfl
  | some x=>rw[q]at a;show(a rfl).elim
theorem Jbg(kvs:List (κ × V))(k : κ)(v:V):(putK kvs k v).length<=kvs.length+1:=by
 unfold putK;split
 .rw[length_map];ac_nf
 .rw[length_append,length_cons,length_nil];ac_nf
theorem Jkt{kvs:List (κ × V)}{k : κ}(v:V)(h:valV kvs k=none):putK kvs k v=kvs++[(k,v)]:=by
 unfold putK;rw[JcN,h];show if_neg ⋯
variable{o:Option V}{u:Option Value}
theorem RelO.isSome_eq(r:RelO o u):o.isSome=u.isSome:=by
 cases o with
 | none=>cases u with
  | none=>rfl
  | some _=>show(show False from r).elim
 | some _=>cases u with
  | none=>show(show False from r).elim
  | some _=>rfl
variable{d:V}
theorem RelO.getD{d':Value}(r:RelO o u)(rd:RelV d d'):RelV (o.getD d) (u.getD d'):=by
 cases o with
 | none=>cases u with
  | none=>show rd
  | some _=>show(show False from r).elim
 | some _=>cases u with
  | none=>show(show False from r).elim
  | some _=>show r
theorem KV.val{kvs:List (κ × V)}{vs:List (κ × Value)}(r:KV kvs vs)(k : κ):RelO (valV kvs k) (valueAt vs k):=by
 unfold KV at r;induction r with
 | nil=>show True.intro
 | @cons p q ps qs h t ih=>
  let(c,d):=h;by_cases e:p.1=k
  .have a:q.1=k:=c.symm.trans e;have b:valueAt (q::qs) k=some q.2:=by simp[valueAt,List.find?_cons,a]
   rw[Jbl e,b];show d
  .have a:¬ q.1=k:=λz=>e (c.trans z);have b:valueAt (q::qs) k=valueAt qs k:=by simp[valueAt,List.find?_cons,a]
   rw[Jbq e,b];show ih
theorem KV.any{kvs:List (κ × V)}{vs:List (κ × Value)}(r:KV kvs vs)(k : κ):(kvs.any λkv=>decide (kv.1=k))=vs.any λkv=>decide (kv.1=k):=by
 unfold KV at r;induction r with
 | nil=>rfl
 | cons h t ih=>rw[any_cons,any_cons,ih,h.1]
theorem KV.repl{kvs:List (κ × V)}{vs:List (κ × Value)}(r:KV kvs vs)(k : κ){y:V}{u:Value}(ry:RelV y u) :
  KV (kvs.map λkv=>if kv.1=k then(kv.1,y)else kv) (vs.map λkv=>if kv.1=k then(kv.1,u)else kv):=by
 unfold KV at r ⊢;induction r with
 | nil=>show .nil
 | @cons p q ps qs h t ih=>
  rw[map_cons,map_cons];show .cons ?_ ih;let(a,b):=h;by_cases e:p.1=k
  .rw[if_pos e,if_pos (a.symm.trans e)];show(a,ry)
  .rw[if_neg e,if_neg (λz=>e (a.trans z))];show(a,b)
theorem KV.put{kvs:List (κ × V)}{vs:List (κ × Value)}(r:KV kvs vs)(k : κ){y:V}{u:Value}(ry:RelV y u):KV (putK kvs k y) (stored vs k u):=by
 unfold putK stored;rw[r.any k];by_cases e:(vs.any λa=>decide (a.1=k))=true
 .rw[if_pos e,if_pos e];show r.repl k ry
 .rw[if_neg e,if_neg e];show Paired.snoc r ⟨rfl,ry⟩
theorem KV.length{kvs:List (κ × V)}{vs:List (κ × Value)}(r:KV kvs vs):kvs.length=vs.length:=Paired.length r
end
variable{P:Program}
theorem kV_is{w:World}{k:Key}{u:Value}(r:RelV (kV k) u):(Jaw P w).is k u=true:=by
 cases k with
 | inl i=>have e:=(show u=Value.bool i from r);subst e;show Jgk P w i
 | inr x=>let(t,e):=(show∃ t,u=Value.str x t from r);subst e;show JgV P w x t
theorem Jgi{w:World}:∀{ks:List Key}{us:List Value},Vals (ks.map kV) us->ItemsAre (Jaw P w) ks us
 | [],_,r=>by rw[map_nil]at r;cases r;show .nil
 | k::ks,_,r=>by
  rw[map_cons]at r;cases r with
  | cons h t=>show .cons (kV_is h) (Jgi t)
abbrev KT(H:Hp):List (List Key × V)->List (List Key × Addr × Value)->Prop:=Paired λp q=>p.1=q.1/\H q.2.1=some (.tup (p.1.map kV))/\RelV p.2 q.2.2
variable{H:Hp}{kvs:List (List Key × V)}{xs:List (List Key × Addr × Value)}
theorem KT.val(r:KT H kvs xs)(k:List Key):RelO (valV kvs k) ((atKey xs k).map (·.2)):=by
 induction r with
 | nil=>show True.intro
 | @cons p q ps qs h t ih=>
  let(c,_,d):=h;by_cases e:p.1=k
  .have a:q.1=k:=c.symm.trans e;have b:atKey (q::qs) k=some q.2:=by simp[atKey,List.find?_cons,a]
   rw[Jbl e,b];show d
  .have a:¬ q.1=k:=λz=>e (c.trans z);have b:atKey (q::qs) k=atKey qs k:=by simp[atKey,List.find?_cons,a]
   rw[Jbq e,b];show ih
theorem KT.repl(r:KT H kvs xs)(k:List Key){y:V}{u:Value}(ry:RelV y u) :
  KT H (kvs.map λkv=>if kv.1=k then(kv.1,y)else kv) (xs.map (putAt k u)):=by
 induction r with
 | nil=>show .nil
 | @cons p q ps qs h t ih=>
  rw[map_cons,map_cons];show .cons ?_ ih;let(a,b,c):=h;unfold putAt;by_cases e:p.1=k
  .rw[if_pos e,if_pos (a.symm.trans e)];show(a,b,ry)
  .rw[if_neg e,if_neg (λz=>e (a.trans z))];show(a,b,c)
theorem KT.put(r:KT H kvs xs)(k:List Key){b:Addr}{y:V}{u:Value}(hb:H b=some (.tup (k.map kV)))(ry:RelV y u) :
  KT H (putK kvs k y) (storedH xs k b u):=by
 have e:(kvs.any λa=>decide (a.1=k))=(atKey xs k).isSome:=by
  rw[JcN,(r.val k).isSome_eq,Option.isSome_map]
 unfold putK storedH;rw[e];by_cases q:(atKey xs k).isSome=true
 .rw[if_pos q,if_pos q];show r.repl k ry
 .rw[if_neg q,if_neg q];show Paired.snoc r ⟨rfl,hb,ry⟩
variable{H':Hp}
theorem KT.keeps(r:KT H kvs xs)(ht:∀ b ys,H b=some (.tup ys)->H' b=some (.tup ys)):KT H' kvs xs :=
 Paired.mapP r λ_ _ z=>⟨z.1,ht _ _ z.2.1,z.2.2⟩
section
variable{h:Heap}{a:Addr}{w:World}
theorem y7by{u:HO}(ok:HOk P w H h)(e:Rd H a u):ObjOk P w H h a u:=e.ok ok
variable{kvs:List (Key × V)}
theorem dk_rd(ok:HOk P w H h)(e:Rd H a (.dK kvs)):kvs.length<=sizeLine/\(a == sysModules)=false/\∃ vs,KV kvs vs/\h.DictOf (Jaw P w) a vs :=
 show ObjOk P w H h a (.dK kvs)from y7by ok e
theorem dk_of(ok:HOk P w H h)(e:H a=some (.dK kvs)):kvs.length<=sizeLine/\(a == sysModules)=false/\∃ vs,KV kvs vs/\h.DictOf (Jaw P w) a vs:=dk_rd ok (.inl e)
theorem Jeh{ks:List Key}(ok:HOk P w H h)(e:H a=some (.tup (ks.map kV))):(tupleKind (Jaw P w)).is h ks a:=by
 let(_,b,r,o,f,c,n,d):=(show ObjOk P w H h a (.tup (ks.map kV))from ok a _ e);show(o,b.toArray,n,f,c,d,by simpa using Jgi r)
variable{kvs:List (List Key × V)}
theorem dt_rd(ok:HOk P w H h)(e:Rd H a (.dT kvs)):kvs.length<=sizeLine/\(a == sysModules)=false /\
  ∃ xs,KT H kvs xs/\h.DictOfH (tupleKind (Jaw P w)) a xs:=by
 let(z,y,xs,r,o,g,f,j,c,i,k,d):=(show ObjOk P w H h a (.dT kvs)from y7by ok e);show(z,y,xs,r,o,g,f,j,c,i,k,λx b=>?_,d);have all:∀{l:List (List Key × V)}{m:List (List Key × Addr × Value)},KT H l m->∀ x∈m,(tupleKind (Jaw P w)).is h x.1 x.2.1:=by
  intro l m q;induction q with
  | nil=>intro x b;show nomatch b
  | @cons p q ps qs hq t ih=>
   intro x b;rcases mem_cons.mp b with e | b
   .subst e;show Jeh ok (by rw[<- hq.1];show hq.2.1)
   .show ih x b
 show all r x b
theorem dt_of(ok:HOk P w H h)(e:H a=some (.dT kvs)):kvs.length<=sizeLine/\(a == sysModules)=false /\
  ∃ xs,KT H kvs xs/\h.DictOfH (tupleKind (Jaw P w)) a xs:=dt_rd ok (.inl e)
end
def DGet(H:Hp)(a:Addr)(y:V)(r:Option V):Prop :=
 (∃ kvs k,Rd H a (.dK kvs)/\y=kV k/\r=valV kvs k)\/∃ kvs k b,Rd H a (.dT kvs)/\y=.ref b/\H b=some (.tup (k.map kV))/\r=valV kvs k
def DPut(H:Hp)(a:Addr)(y v:V)(H':Hp):Prop :=
 (∃ kvs k,H a=some (.dK kvs)/\y=kV k/\kvs.length<sizeLine/\H'=upd H a (.dK (putK kvs k v))) \/
 ∃ kvs k b,H a=some (.dT kvs)/\y=.ref b/\H b=some (.tup (k.map kV))/\kvs.length<sizeLine/\H'=upd H a (.dT (putK kvs k v))
variable{a:Addr}{kvs:List (Key × V)}
theorem DGet.k{k:Key}(e:H a=some (.dK kvs)):DGet H a (kV k) (valV kvs k):=.inl ⟨kvs,k, .inl e,rfl,rfl⟩
variable{v:V}
theorem DPut.k{k:Key}(e:H a=some (.dK kvs))(hl:kvs.length<sizeLine):DPut H a (kV k) v (upd H a (.dK (putK kvs k v))):=.inl ⟨kvs,k,e,rfl,hl,rfl⟩
section
variable{X:Cx}{pins:List (Addr × Obj)}{σ:St}{y:V}{u r:Value}{o:Option V}{A:Around}{E:Value->Shared->Prop}{s:Shared}
theorem Inv.big(I:Inv X pins σ H s):sysModules<s.heap.objs.size:=by
 have h:mainGlobals<s.heap.objs.size:=(I.mod.glob.keeps I.bk).lt;show Nat.lt_trans ⋯ h
variable{Q:Value->Shared->Prop}
theorem JiE(hu:A.units+1<cLine)(I:Inv X pins σ H s)(g:DGet H a y (some v))(ry:RelV y u)(h:∀ w' s',Inv X pins σ H s'->RelV v w'->Q w' s') :
  wpAny (model X.prog X.w) A (getItem (.ref a) u) Q E s:=by
 rcases g with⟨kvs,k,e,ey,l⟩ | ⟨kvs,k,b,e,ey,eb,l⟩
 .subst ey;let(z,m,n,c,j):=dk_rd I.hok e;let(w',i,d):=RelO.some_of (v:=v) (o:=valueAt n k) (by rw[l];show c.val k);show wpAny_getItem_of (kV_is ry) j.mapOf i (h w' _ (I.tok _) d)
 .subst ey;cases(show u=Value.ref b from ry);let(z,m,q,c,j):=dt_rd I.hok e;let(w',i,d):=RelO.some_of (v:=v) (o:=(atKey q k).map (·.2)) (by rw[l];show c.val k);let(p,r,f):=Option.map_eq_some_iff.mp i;show wpAny_getItem_heap (tupleKind_room_in1 hu) (Jeh I.hok eb) j r ?_;rw[f];show h w' _ (I.tok _) d
theorem d_in(hu:A.units+1<cLine)(I:Inv X pins σ H s)(g:DGet H a y o)(ry:RelV y u)(h:∀ s',Inv X pins σ H s'->Q (.bool o.isSome) s') :
  wpAny (model X.prog X.w) A (compareOp .In u (.ref a)) Q E s:=by
 rcases g with⟨kvs,k,e,ey,l⟩ | ⟨kvs,k,b,e,ey,eb,l⟩
 .subst ey;let(z,d,i,c,f):=dk_rd I.hok e;show wpAny_in_of (kV_is ry) d f.mapOf ?_;rw[<- (c.val k).isSome_eq, <- l];show h _ (I.tok _)
 .subst ey;cases(show u=Value.ref b from ry);let(z,d,j,c,f):=dt_rd I.hok e;show wpAny_in_heap (tupleKind_room_in1 hu) (Jeh I.hok eb) d f ?_;have q:=(c.val k).isSome_eq;rw[Option.isSome_map]at q;rw[<- q, <- l];show h _ (I.tok _)
theorem Jlr(hu:A.units+1<cLine)(I:Inv X pins σ H s)(g:DGet H a y o)(ry:RelV y u)(h:∀ s',Inv X pins σ H s'->Q (.bool (!o.isSome)) s') :
  wpAny (model X.prog X.w) A (compareOp .NotIn u (.ref a)) Q E s:=by
 rcases g with⟨kvs,k,e,ey,l⟩ | ⟨kvs,k,b,e,ey,eb,l⟩
 .subst ey;let(z,d,i,c,f):=dk_rd I.hok e;show wpAny_notIn_of (kV_is ry) d f.mapOf ?_;rw[<- (c.val k).isSome_eq, <- l];show h _ (I.tok _)
 .subst ey;cases(show u=Value.ref b from ry);let(z,d,j,c,f):=dt_rd I.hok e;show wpAny_notIn_heap (tupleKind_room_in1 hu) (Jeh I.hok eb) d f ?_;have q:=(c.val k).isSome_eq;rw[Option.isSome_map]at q;rw[<- q, <- l];show h _ (I.tok _)
variable{h':Heap}{t':Nat}
theorem Jfl{ob:HO}(I:Inv X pins σ H s)(mu:Mut (H a))(hs:Heap.SameBut a s.heap h')(he:∃ q,h'.get? a=some q)(new:ObjOk X.prog X.w (upd H a ob) h' a ob) :
  Inv X pins σ (upd H a ob) { s with heap:=h',toks:=t' } :=
 I.write (x:=a) (e:=a) mu (.inl rfl) (λb q c z=>(hs.2 b c).trans z) he new
theorem JhC{w:World}{vs:List (Key × Value)}(z:kvs.length<=sizeLine)(hd:(a == sysModules)=false)(rel:KV kvs vs)(dd:h'.DictOf (Jaw P w) a vs) :
  ObjOk P w H' h' a (.dK kvs):=⟨z,hd,vs,rel,dd⟩
theorem JiF{Q:Unit->Shared->Prop}(hu:A.units+1<cLine)(I:Inv X pins σ H s)(g:DPut H a y v H')(ry:RelV y u)(rv:RelV v r)(h:∀ s',Inv X pins σ H' s'->Q () s') :
  wpAny (model X.prog X.w) A (setItem (.ref a) u r) Q E s:=by
 rcases g with⟨kvs,k,e,ey,l,eH⟩ | ⟨kvs,k,b,e,ey,eb,l,eH⟩
 .subst ey eH;let(z,j,L,d,p):=dk_of I.hok e;have n:L.length<=sizeLine:=by rw[<- d.length];show z
  have o:(putK kvs k v).length<=sizeLine:=by have:=Jbg kvs k v;ac_nf
  show wpAny_setItem_pairs (hsz:=n) (kV_is ry) p λx f m=>h _ ?_;have C:∃ q,x.get? a=some q:=let⟨q,_,_,i,_⟩:=f;⟨q,i⟩;show Jfl I (by rw[e];show True.intro) m C (JhC o j (d.put k rv) f)
 .subst ey eH;cases(show u=Value.ref b from ry);let(z,j,M,d,p):=dt_of I.hok e;have n:M.length<=sizeLine:=by rw[<- Paired.length d];show z
  have o:(putK kvs k v).length<=sizeLine:=by have:=Jbg kvs k v;ac_nf
  show wpAny_setItem_heap (hsz:=n) (tupleKind_room_in1 hu) (Jeh I.hok eb) p λx f m=>h _ ?_;let(q,D,B,i,J,F,G,_,K):=f;show Jfl I (by rw[e];show True.intro) m ⟨q,i⟩ ⟨o,j,_,(d.put k eb rv).keeps λc N t=>?_,q,D,B,i,J,F,G,K⟩;rw[Jah (ne_of t e (λz=>nomatch z))];show t
end
section
variable{X:Cx}{pins:List (Addr × Obj)}{σ:St}{u:Value}{A:Around}{E:Value->Shared->Prop}{s:Shared}{k:Key}
end
def NoSl(i:Expr):Prop:=∀ ov iv,subscripted i false ov iv=operate [ov,iv] (getItem ov iv)
variable{A:Around}{E Q:Value->Shared->Prop}{env:Env}{value:Expr}{pos:Pos}
theorem Jmj{prog:Program}{w:World}{s:Shared}{slice:Expr}{T id:String}
  (hl:typeLookup (.type T) "__getitem__"=pure (some (.builtin id))) (hs:NoSl slice)
  (h:wpAny (model prog w) A (eval value env) (λo s₁=>wpAny (model prog w) A (eval slice env) (λi s₂=>s₂.TypeIs o T/\wpAny (model prog w) A (getItem o i) Q E s₂) E s₁) E s) :
  wpAny (model prog w) A (eval (.Subscript value slice pos) env) Q E s:=by
 show Subscript_ (wpAny_mono h (λo s₁ h₁=>wpAny_mono h₁ (λi s₂ h₂=>?_) λ_ _ x=>x) λ_ _ x=>x);let(b,h₂):=h₂;unfold subscriptTail;show wpAny_bind ?_;rw[getitemInPython_of_ne b.not_modules];show wpAny_bind (wpAny_specialOf b hl ?_);have a:wpAny (model prog w) A (subscripted slice false o i) (λr s₃=>wpAny (model prog w) A (letTemporaryGo value o r >>= λ_=>pure r) Q E s₃) E s₂:=by
  rw[hs o i];show wpAny_operating (wpAny_mono h₂ (λr s₃ h₃=>wpAny_bind (wpAny_letTemporaryGo (wpAny_pure h₃))) λ_ _ x=>x)
 first
  | show wpAny_pure (wpAny_bind a)
  | show wpAny_bind (wpAny_pure (wpAny_bind a))
  | show wpAny_bind a
variable{X:Cx}{pins:List (Addr × Obj)}{σ:St}{y:V}
theorem JgN{s:Shared}{o:Option V}(I:Inv X pins σ H s)(g:DGet H a y o):s.TypeIs (.ref a) "dict":=by
 rcases g with⟨kvs,k,e,_,_⟩ | ⟨kvs,k,b,e,_,_,_⟩
 .let(_,_,f,_,c):=dk_rd I.hok e;show c.typeIs
 .let(_,_,d,_,c):=dt_rd I.hok e;show c.typeIs
def tDGet(td ty:TE):TE:=λσ H Q=>td σ H λx H1=>ty σ H1 λy H2=>∃ a v,x=.ref a/\DGet H2 a y (some v)/\Q v H2
def tDIn(ty td:TE):TE:=λσ H Q=>ty σ H λy H1=>td σ H1 λx H2=>∃ a o,x=.ref a/\DGet H2 a y o/\Q (.bl o.isSome) H2
def JjH(ty td:TE):TE:=λσ H Q=>ty σ H λy H1=>td σ H1 λx H2=>∃ a o,x=.ref a/\DGet H2 a y o/\Q (.bl (!o.isSome)) H2
def sDPut(td ty tv:TE):TS:=λD σ H=>tv σ H λv H1=>td σ H1 λx H2=>ty σ H2 λy H3=>∃ a H4,x=.ref a/\DPut H3 a y v H4/\D.nx σ H4
section
variable{o e:Expr}{pos' tpos:Pos}{ty tv:TE}{i:Expr}{td:TE}
theorem Ja9(hu:X.A.units+1<cLine)(ho:PE X o td)(hi:PE X i ty)(hs:NoSl i):PE X (.Subscript o i pos) (tDGet td ty):=by
 intro b s σ H Q I h;show Jmj PySem.F.slot_dict_getitem.lookup hs (thn (ho b s σ H _ I h) λu n ζ=>?_);let(x,e,I1,j,m):=ζ;show thn (hi b n σ e _ I1 m) λr t ζ=>?_;let(y,f,I2,l,a,v,k,g,d):=ζ;subst k;obtain rfl:u=Value.ref a:=j;show(JgN I2 g,JiE hu I2 g l λq p I3 c=>⟨v,f,I3,c,d⟩)
theorem JhO(hu:X.A.units+1<cLine)(hi:PE X i ty)(ho:PE X o td):PC X .In i o (tDIn ty td):=by
 intro b s σ H Q I h;show thn (hi b s σ H _ I h) λq m ζ=>?_;let(y,d,I1,k,l):=ζ;show thn (ho b m σ d _ I1 l) λu r ζ=>?_;let(x,e,I2,f,a,n,j,g,c):=ζ;subst j;obtain rfl:u=Value.ref a:=f;show d_in hu I2 g k λp I3=>⟨.bl n.isSome,e,I3,rfl,c⟩
theorem Jdt(hu:X.A.units+1<cLine)(hi:PE X i ty)(ho:PE X o td):PC X .NotIn i o (JjH ty td):=by
 intro b s σ H Q I h;show thn (hi b s σ H _ I h) λq m ζ=>?_;let(y,d,I1,k,l):=ζ;show thn (ho b m σ d _ I1 l) λu r ζ=>?_;let(x,e,I2,f,a,n,j,g,c):=ζ;subst j;obtain rfl:u=Value.ref a:=f;show Jlr hu I2 g k λp I3=>⟨.bl (!n.isSome),e,I3,rfl,c⟩
theorem JbC(hu:X.A.units+1<cLine)(ho:PE X o td)(hi:PE X i ty)(hv:PE X value tv)(hs:swapsWith value (some (.Subscript o i pos')) pos.line X.env=pure false) :
  PS X (.Assign [.Subscript o i pos'] value pos) (sDPut td ty tv):=by
 intro b s σ H D I h;show wpAny_Assign_Subscript (thn (hv b s σ H _ I h) λr t ζ=>?_) hs;let(v,j,I1,n,q):=ζ;show thn (ho b t σ j _ I1 q) λu d ζ=>?_;let(x,k,I2,l,c):=ζ;show thn (hi b d σ k _ I2 c) λz w ζ=>?_;let(y,C,I3,p,a,f,m,g,e):=ζ;subst m;obtain rfl:u=Value.ref a:=l;show JiF hu I3 g p n λB I4=>⟨σ,f,I4,e⟩
end
theorem JhB{w:World}(h:Heap)(hb:sysModules<h.objs.size):ObjOk P w H (h.push { cls:=.type "dict",data:=.dict #[] }) h.objs.size (.dK []) :=
 ⟨Nat.zero_le _,beq_eq_false_iff_ne.mpr (Ne.symm (Nat.ne_of_lt hb)),[], .nil,Heap.DictOf.new h⟩
def Jk6:TE:=λ_ H Q=>∀ p,H p=none->Q (.ref p) (upd H p (.dK []))
theorem Jbt:PE X (.Dict [] [] pos) Jk6:=λb s σ H Q I h=>
 wpAny_Dict_empty ⟨.ref s.heap.objs.size,_,I.laid (a:=s.heap.objs.size) (o:=.dK []) (t':=s.toks) (λ_ _ q=>Heap.get?_push_of_some _ q) (Nat.le_refl _) (JhB s.heap I.big),rfl,h _ (I.hok.fresh (Nat.le_refl _))⟩
def JgA:List (TE × TE)->St->Hp->(List (V × V)->Hp->Prop)->Prop
 | [],_,H,Q=>Q [] H
 | (tk,tv)::r,σ,H,Q=>tk σ H λx H1=>tv σ H1 λy H2=>JgA r σ H2 λps H3=>Q ((x,y)::ps) H3
abbrev VV:List (V × V)->List (Value × Value)->Prop:=Paired λp q=>RelV p.1 q.1/\RelV p.2 q.2
def PPs(X:Cx)(pos:Pos)(keys:List (Option Expr))(values:List Expr)(trs:List (TE × TE)):Prop :=
 ∀(pins:List (Addr × Obj))(s:Shared)(σ : St)(H:Hp)(Q:List (V × V)->Hp->Prop),Inv X pins σ H s->JgA trs σ H Q ->
  wpAny (model X.prog X.w) X.A (evalPairs (pairTrees keys values X.env pos)) (λvs s'=>∃ ps H',Inv X pins σ H' s'/\VV ps vs/\Q ps H') X.xe s
theorem Jl5:PPs X pos [] [] []:=λa s σ H Q I h=>pairTrees_nil_walk ⟨[],H,I, .nil,h⟩
variable{trs:List (TE × TE)}
theorem Jkr{k v:Expr}{ks:List (Option Expr)}{vs:List Expr}{tk tv:TE}(hk:PE X k tk)(hv:PE X v tv)(hr:PPs X pos ks vs trs) :
  PPs X pos (some k::ks) (v::vs) ((tk,tv)::trs):=λa s σ H Q I h=>
 pairTrees_cons_walk (thn (hk a s σ H _ I h) λu n ζ=>by let(x,f,I1,j,m):=ζ;show thn (hv a n σ f _ I1 m) λp d ζ=>by let(y,i,I2,l,c):=ζ;show thn (hr a d σ i _ I2 c) λr q ζ=>by let(g,o,I3,b,e):=ζ;show((x,y)::g,o,I3, .cons ⟨j,l⟩ b,e))
def Jfa(kvs more:List (Key × V)):List (Key × V):=more.foldl (λacc kv=>putK acc kv.1 kv.2) kvs
theorem KV.merge:∀{more:List (Key × V)}{rs:List (Key × Value)}{kvs:List (Key × V)}{vs:List (Key × Value)},KV more rs->KV kvs vs->KV (Jfa kvs more) (merged vs rs):=by
 intro more rs kvs vs r;unfold KV at r;induction r generalizing kvs vs with
 | nil=>intro q;show q
 | @cons p q ps qs h t ih=>
  intro a;have e:KV (putK kvs p.1 p.2) (stored vs q.1 q.2):=by
   have:=a.put p.1 h.2;rw[<- h.1];show this
  show ih e
theorem Jdq:∀(more kvs:List (Key × V)),(Jfa kvs more).length<=kvs.length+more.length
 | [],kvs=>by show kvs.length<=kvs.length+0;ac_nf
 | p::r,kvs=>by
  have h1:=Jdq r (putK kvs p.1 p.2);have h2:=Jbg kvs p.1 p.2;show(Jfa (putK kvs p.1 p.2) r).length<=_;rw[length_cons];ac_nf
theorem Je3{P:Program}{w:World}:∀{kvs:List (Key × V)}{ws:List (Value × Value)},VV (kvs.map λkv=>(kV kv.1,kv.2)) ws->∃ rs,Carries (Jaw P w) ws rs/\KV kvs rs
 | [],_,r=>by rw[map_nil]at r;cases r;show([],True.intro, .nil)
 | p::kvs,_,r=>by
  rw[map_cons]at r;cases r with
  | @cons a b as bs h t=>
   let(rs,c,q):=Je3 (P:=P) (w:=w) t;let(b1,b2):=b;show((p.1,b2)::rs,⟨kV_is h.1,rfl,c⟩, .cons ⟨rfl,h.2⟩ q)
def tDisp(trs:List (TE × TE)):TE:=λσ H Q=>∀ p,H p=none->JgA trs σ (upd H p (.dK [])) λps H2=>H2 p=some (.dK [])/\∃ kvs:List (Key × V),ps=kvs.map (λkv=>(kV kv.1,kv.2))/\kvs.length<=15/\Q (.ref p) (upd H2 p (.dK (Jfa [] kvs)))
theorem JlY{keys:List (Option Expr)}{values:List Expr}(h:PPs X pos keys values trs)(hall:keys.all (·.isSome)=true)(hl:keys.length=values.length)(h0:keys≠[])
  (h15:keys.length<=15):PE X (.Dict keys values pos) (tDisp trs):=by
 intro b s σ H Q I q;have p:=I.hok.fresh (Nat.le_refl s.heap.objs.size);have I1:=I.laid (a:=s.heap.objs.size) (o:=.dK []) (h':=s.heap.push { cls:=.type "dict",data:=.dict #[] }) (t':=s.toks) (λ_ _ q=>Heap.get?_push_of_some _ q) (Nat.le_refl _) (JhB s.heap I.big);show wpAny_Dict_walk (knd:=Jaw X.prog X.w) hall hl h0 h15 (thn (h b _ σ _ _ I1 (q _ p)) λB A ζ=>?_);let(D,E,I2,g,e,d,k,C,l):=ζ;subst k;let(n,c,i):=Je3 (P:=X.prog) (w:=X.w) g;let(z,j,u,x,y):=dk_of I2.hok e;cases x;show(n,c,y,λh' f m=>⟨.ref s.heap.objs.size,_,?_,rfl,l⟩);have t:(Jfa [] d).length<=sizeLine:=by
  have r:=Jdq d [];rw[length_nil]at r;rw[sizeLine_eq];ac_nf
 have v:∃ q,h'.get? s.heap.objs.size=some q:=let⟨q,_,_,hq,_⟩:=f;⟨q,hq⟩;show Jfl I2 (by rw[e];show True.intro) m v (JhC t j (i.merge .nil) f)
structure M1(X:Cx)(o:Expr)(m:Str)(apos:Pos)(e:Expr)(cpos:Pos):Prop where
 base:attributeBase o m X.env (eval o X.env)=eval o X.env
 few:((backTo cpos (starEach [e] X.env)).all (λx=>!x.1)&&(backToKw cpos (keywordEach [] X.env)).all (λx=>x.1.isSome)
  && decide (([e]:List Expr).length+([]:List Keyword).length+(if([]:List Keyword).isEmpty then 0 else 1)<30))=true
 line:(apos.endLine == cpos.line)=true
 trees:backTo cpos (starEach [e] X.env)=[(false,eval e X.env)]
structure M2(X:Cx)(o:Expr)(m:Str)(apos:Pos)(e f:Expr)(cpos:Pos):Prop where
 base:attributeBase o m X.env (eval o X.env)=eval o X.env
 few:((backTo cpos (starEach [e,f] X.env)).all (λx=>!x.1)&&(backToKw cpos (keywordEach [] X.env)).all (λx=>x.1.isSome)
  && decide (([e,f]:List Expr).length+([]:List Keyword).length+(if([]:List Keyword).isEmpty then 0 else 1)<30))=true
 line:(apos.endLine == cpos.line)=true
 trees:backTo cpos (starEach [e,f] X.env)=[(false,eval e X.env),(false,eval f X.env)]
def IsD(H:Hp)(a:Addr):Prop:=(∃ kvs,Rd H a (.dK kvs))\/∃ kvs,Rd H a (.dT kvs)
theorem Jgg{s:Shared}(I:Inv X pins σ H s)(d:IsD H a) :
  s.TypeIs (.ref a) "dict"/\(∀ b,Value.ref a=.ref b->∃ ob,s.heap.get? b=some ob/\ob.dict=none)/\(a == sysModules)=false:=by
 rcases d with⟨kvs,e⟩ | ⟨kvs,e⟩
 .let(_,g,i,_,c):=dk_rd I.hok e;show(c.typeIs,λb q=>?_,g);cases q;let(ob,_,_,h,f,_):=c;show(ob,h,f.2.1)
 .let(_,g,j,_,c):=dt_rd I.hok e;show(c.typeIs,λb q=>?_,g);cases q;let(ob,_,_,h,f,_):=c;show(ob,h,f.2.1)
section
variable{d:V}{u r:Value}{o:Option V}{s:Shared}
theorem JmA(hu:A.units+1<cLine)(I:Inv X pins σ H s)(g:DGet H a y o)(ry:RelV y u)(h:∀ w' s',Inv X pins σ H s'->RelV (o.getD .non) w'->Q w' s') :
  wpAny (model X.prog X.w) A (call (.builtin "dict.get") [.ref a,u]) Q E s:=by
 rcases g with⟨kvs,k,e,ey,l⟩ | ⟨kvs,k,b,e,ey,eb,l⟩
 .subst ey;let(z,f,j,c,d):=dk_rd I.hok e;show call_meetsIn PySem.F.slot_dict_get d.typeIs PySem.F.entry_dict_get (PySem.F.args_dict_get_2 _ _) (meets_dict_get (Jaw X.prog X.w) a (kV_is ry) f) ⟨_,d.mapOf,h _ _ (I.tok _) ?_⟩;rw[l];show(c.val k).getD rfl
 .subst ey;cases(show u=Value.ref b from ry);let(z,f,i,c,d):=dt_rd I.hok e;show call_meetsIn PySem.F.slot_dict_get d.typeIs PySem.F.entry_dict_get (PySem.F.args_dict_get_2 _ _) (meetsH_dict_get (tupleKind (Jaw X.prog X.w)) a b f) ⟨tupleKind_room_in1 hu,k,i,Jeh I.hok eb,d,h _ _ (I.tok _) ?_⟩;rw[l];show(c.val k).getD rfl
theorem JmB(hu:A.units+1<cLine)(I:Inv X pins σ H s)(g:DGet H a y o)(ry:RelV y u)(rd:RelV d r)(h:∀ w' s',Inv X pins σ H s'->RelV (o.getD d) w'->Q w' s') :
  wpAny (model X.prog X.w) A (call (.builtin "dict.get") [.ref a,u,r]) Q E s:=by
 rcases g with⟨kvs,k,e,ey,l⟩ | ⟨kvs,k,b,e,ey,eb,l⟩
 .subst ey;let(z,i,m,c,f):=dk_rd I.hok e;show call_meetsIn PySem.F.slot_dict_get f.typeIs PySem.F.entry_dict_get (PySem.F.args_dict_get_3 _ _ _) (meets_dict_get_default (Jaw X.prog X.w) a (kV_is ry) i r) ⟨_,f.mapOf,h _ _ (I.tok _) ?_⟩;rw[l];show(c.val k).getD rd
 .subst ey;cases(show u=Value.ref b from ry);let(z,i,j,c,f):=dt_rd I.hok e;show call_meetsIn PySem.F.slot_dict_get f.typeIs PySem.F.entry_dict_get (PySem.F.args_dict_get_3 _ _ _) (meetsH_dict_get_default (tupleKind (Jaw X.prog X.w)) a b i r) ⟨tupleKind_room_in1 hu,k,j,Jeh I.hok eb,f,h _ _ (I.tok _) ?_⟩;rw[l];show(c.val k).getD rd
end
def Jk4(td ty:TE):TE:=λσ H Q=>td σ H λx H1=>∃ a,x=.ref a/\IsD H1 a/\ty σ H1 λy H2=>∃ o,DGet H2 a y o/\Q (o.getD .non) H2
def Jk5(td ty tx:TE):TE:=λσ H Q=>td σ H λx H1=>∃ a,x=.ref a/\IsD H1 a/\ty σ H1 λy H2=>tx σ H2 λz H3=>∃ o,DGet H3 a y o/\Q (o.getD z) H3
section
variable{o e:Expr}{apos cpos:Pos}{ty tx:TE}{f:Expr}{td:TE}
theorem Jkl(hu:X.A.units+1<cLine)(ho:PE X o td)(he:PE X e ty)(m:M1 X o "get" apos e cpos):PE X (.Call (.Attribute o "get" apos) [e] [] cpos) (Jk4 td ty):=by
 intro b s σ H Q I h;show wpAny_Call_method m.base m.few m.line PySem.F.plainAttrs_dict PySem.F.slot_dict_get PySem.F.type_dict_get (thn (ho b s σ H _ I h) λu r ζ=>?_);let(x,i,I1,l,a,n,d,q):=ζ;subst n;obtain rfl:u=Value.ref a:=l;let(t,k,_):=Jgg I1 d;show(t,k,?_);rw[m.trees];show Calls.callWith_builtin rfl (Calls.evalArgs_plain (Calls.spliced_cons (thn (he b r σ i _ I1 q) λz B ζ=>?_)));let(y,j,I2,p,C,g,f):=ζ;show Calls.spliced_nil ?_;show JmA hu I2 g p λw v I3 c=>⟨_,j,I3,c,f⟩
theorem JhP(hu:X.A.units+1<cLine)(ho:PE X o td)(he:PE X e ty)(hf:PE X f tx)(m:M2 X o "get" apos e f cpos):PE X (.Call (.Attribute o "get" apos) [e,f] [] cpos) (Jk5 td ty tx):=by
 intro b s σ H Q I h;show wpAny_Call_method m.base m.few m.line PySem.F.plainAttrs_dict PySem.F.slot_dict_get PySem.F.type_dict_get (thn (ho b s σ H _ I h) λu w ζ=>?_);let(x,l,I1,q,a,r,d,v):=ζ;subst r;obtain rfl:u=Value.ref a:=q;let(C,p,_):=Jgg I1 d;show(C,p,?_);rw[m.trees];show Calls.callWith_builtin rfl (Calls.evalArgs_plain (Calls.spliced_cons (thn (he b w σ l _ I1 v) λJ j ζ=>?_)));let(y,n,I2,t,i):=ζ;show Calls.spliced_cons (thn (hf b j σ n _ I2 i) λK E ζ=>?_);let(z,B,I3,D,M,g,k):=ζ;show Calls.spliced_nil ?_
 show JmB hu I3 g t D λG L I4 c=>⟨_,B,I4,c,k⟩
end
section
variable{s:Shared}
end
section
variable{u:Value}{s:Shared}
end
section
variable{κ:Type}[DecidableEq κ]
end
def DictAt(h:Heap)(e:Addr)(od:Option Addr):Prop:=∃ o,h.get? e=some o/\o.dict=od
theorem JiK(o:Obj)(f):(o.mapFields f).dict=o.dict:=by
 let(c,d,a,b):=o;cases a <;> rfl
section
variable{M:Model}{base:Heap}{outer l:List Env}{L e:Addr}{oe:Obj}{vs:Array Value}{head a0 fl:Value}{od:Option Addr}{Q:Unit->Shared->Prop}{s:Shared}{cls:Value}
theorem JkO{hadNext:Bool}(hfr:A.frames=some (env::outer))(hl:s.heap.FunFrames base (env::outer))(hf:env.frame=some L)
  (he:s.heap.get? e=some oe) (hkb:base.StaysIn s.heap) (hen:base.get? e=none) (hd:oe.data=.fields vs) (hsz:1<vs.size) (h0:vs[0]?=some a0)
  (h:∀ h',Heap.NotedW base (env::outer) e oe.cls a0 (rawInt L) s.heap h'->DictAt h' e oe.dict->Q () { s with heap:=h' }) :
  wpAny M A (do let a <- frameOf env;let pl <- entryPlaceOf L hadNext;let b <- EntryCells.newEntry head a .none (rawInt L) .none pl;setField (.ref e) 1 b) Q E s:=by
 have C:e∉(env::outer).filterMap (·.frame):=λu=>by
  let(_,o,w,f):=hl.mem u;rw[he]at w;cases w;show f vs hd
 show wpAny_bind (wpAny_frameOf_fun hfr hl hf λh₁ r=>wpAny_bind (wpAny_entryPlaceOf λpl l=>?_));unfold EntryCells.newEntry newFields;show wpAny_bind (wpAny_newObj_type ?_ (l.sizeOk5 _ _ _ _ _));have i:h₁.get? e=some oe:=(r.2.1 e C).trans he;have k:base.StaysIn h₁:=λb o c=>(r.2.1 b λu=>by rw[(hl.mem u).1]at c;cases c).trans (hkb b o c);generalize v:({ cls:=.type "traceback",dict:=none,data:=.fields ([head, .ref L, .none,rawInt L, .none]++(if pl.isEmpty then List.replicate 6 Value.none else pl)).toArray }:Obj)=p;have g:=Heap.get?_push_of_some (h:=h₁) p i;show wpAny_setField g hd hsz ?_;have B:h₁.objs.size≠e:=Nat.ne_of_gt (Heap.lt_size i);have j:=Obj.data_mapFields hd (·.setIfInBounds 1 (Value.ref h₁.objs.size));have m:=Heap.get?_update_self (Obj.mapFields (·.setIfInBounds 1 (Value.ref h₁.objs.size))) g (Obj.isFreed_of_fields j);have t:=(Heap.get?_update_other (h₁.push p) (Obj.mapFields (·.setIfInBounds 1 (Value.ref h₁.objs.size))) (Ne.symm B)).trans (Heap.get?_push_size h₁ (by rw[<- v];rfl));have d:∀ b o,b≠e->h₁.get? b=some o->((h₁.push p).update e (Obj.mapFields (·.setIfInBounds 1 (Value.ref h₁.objs.size)))).get? b=some o:=λb o n c=>by
  rw[Heap.get?_update_other _ _ (Ne.symm n)];show Heap.get?_push_of_some _ c
 have y:∀ b o,s.heap.get? b=some o->(∀ vs,o.data≠.fields vs)->b≠e:=λb o c f q=>by
  rw[q,he]at c;cases c;show f vs hd
 show h _ ⟨λb o c=>d b o (λq=>by rw[q,hen]at c;cases c) (k b o c),hl.of_keeps λb o c f=>?_,?_,λb o c f=>?_⟩ ⟨_,m,JiK _ _⟩
 .let(x,z):=r.2.2 b o c;show(_,d b _ (y b o c f) z,rfl)
 .show(_,_,h₁.objs.size,p,_,m,⟨Obj.cls_mapFields _ _,by rw[Array.getElem?_setIfInBounds_ne ⋯];show h0⟩,j,by simp[hsz],k.fresh,B,t,by rw[<- v],?_);first | (simp;done) | (rcases l with rfl | ⟨_,_,_,_,_,_,_,rfl⟩ <;> simp)
 .let(x,z):=r.2.2 b o c;show(x,d b _ (y b o c f) z)
theorem noteD(hfr:A.frames=some (env::outer))(hf:env.frame=some L)(hfl:Heap.FlyingW base (env::outer) e cls a0 s.heap)(hdc:DictAt s.heap e od)
  (h:∀ h',Heap.HeldW base (env::outer) e cls a0 L h'->s.heap.UpToSlots h'->DictAt h' e od->Q () { s with heap:=h' }):wpAny M A (noteFrame (.ref e) env) Q E s:=by
 let(m,g,D,K,x,T,J,y,n,(i,G),t,u,r,p,l,d,v):=hfl;subst i;let(C,j,k):=hdc;rw[n]at j;cases j;unfold noteFrame;simp only[hf];show wpAny_bind (wpAny_field n t u ?_);rw[if_pos (show(Value.ref T != Value.none)=true from by simp)];show wpAny_bind (wpAny_field l d v ?_);rw[if_neg (show¬((Value.none == rawInt L)=true)from by simp[rawInt])];show wpAny_bind (wpAny_setField l d (Array.getElem?_eq_some_iff.mp v).1 ?_);have a:∀ b,b≠T->(s.heap.update T (Obj.mapFields (·.setIfInBounds 3 Value.none))).get? b=s.heap.get? b:=λb c=>Heap.get?_update_other _ _ (Ne.symm c);have w:∀ b o,s.heap.get? b=some o->(∀ x,o.data≠.fields x)->b≠T:=λb o c f q=>by
  rw[q,l]at c;cases c;show f y d
 show JkO hfr (D.of_keeps λb o c f=>⟨o,(a b (w b o c f)).trans c,rfl⟩) hf ((a e (Ne.symm p)).trans n)
  (λb o c=>(a b λq=>by rw[q,r]at c;cases c).trans (m b o c)) g t (Array.getElem?_eq_some_iff.mp u).1 G λh' ⟨I,B,H,z⟩ F=>?_
 show h h' ⟨I,g,B,H⟩ (λb o c f=>z b o ((a b (w b o c f)).trans c) f) (k ▸ F)
theorem Jfo(hkb:base.StaysIn s.heap)(hl:s.heap.FunFrames base l)(ht:s.heap.TracedAtW base e cls a0 fl)(hdc:DictAt s.heap e od)
  (h:∀ h',base.StaysIn h'->h'.FunFrames base l->h'.TracedW base e cls a0->s.heap.UpToSlots h'->DictAt h' e od->Q () { s with heap:=h' }):wpAny M A (setFlight (.ref e) none) Q E s:=by
 let(z,r,T,B,w,u,k,t,n,m,g,p,d,x):=ht;have j:=(Array.getElem?_eq_some_iff.mp x).1;have a:∀ b,b≠T->(s.heap.update T (Obj.mapFields (·.setIfInBounds 3 ((none:Option Addr).elim Value.none λf=>rawInt f)))).get? b=s.heap.get? b:=λb c=>Heap.get?_update_other _ _ (Ne.symm c);have v:∀ b o,s.heap.get? b=some o->(∀ r,o.data≠.fields r)->b≠T:=λb o c i q=>by
  rw[q,p]at c;cases c;show i w d
 unfold setFlight;show wpAny_bind (wpAny_field u t n ?_);rw[if_pos (show(Value.ref T != Value.none)=true from by simp)];show wpAny_setField p d j (h _ (λb o c=>(a b λq=>by rw[q,m]at c;cases c).trans (hkb b o c)) (hl.of_keeps λb o c i=>⟨o,(a b (v b o c i)).trans c,rfl⟩) ?_ (λb o c i=>⟨o.slots,(a b (v b o c i)).trans c⟩) ?_)
 .show(z,r,T,_,_,(a e (Ne.symm g)).trans u,k,t,n,m,g,Heap.get?_update_self _ p (Obj.isFreed_of_fields (Obj.data_mapFields d _)),Obj.data_mapFields d _,by simp[j])
 .let(o,n,y):=hdc;show(o,(a e (Ne.symm g)).trans n,y)
theorem JlD(hfr:A.frames=some (env::outer))(hf:env.frame=some L)(hfl:Heap.FlyingW base (env::outer) e cls a0 s.heap)(hdc:DictAt s.heap e od)
  (hQ:∀ h',Heap.FlyingW base outer e cls a0 h'->s.heap.UpToSlots h'->DictAt h' e od->Q () { s with heap:=h' }):wpAny M A (leaving env (.ref e)) Q E s:=by
 unfold leaving;show wpAny_bind (noteD hfr hf hfl hdc λj n i c=>?_);let(o,b,f,k):=n;show Jfo (s:={ s with heap:=j }) o f k c λa d ⟨_,_,m⟩ l g h=>hQ a ⟨d,b,m,l⟩ (i.trans g) h
theorem JmN(hh:Heap.HeldW base l e cls a0 L s.heap)(hdc:DictAt s.heap e od)(hQ:∀ h',Heap.FlyingW base l e cls a0 h'->s.heap.UpToSlots h'->DictAt h' e od->Q () { s with heap:=h' }):wpAny M A (setFlight (.ref e) none) Q E s:=by
 let(k,b,d,i):=hh;show Jfo k d i hdc λa c j h f g=>hQ a ⟨c,b,j,h⟩ f g
theorem Jms(hh:Heap.FlyingW base l e cls a0 s.heap)(hdc:DictAt s.heap e od)(hQ:∀ h',Heap.FlyingW base l e cls a0 h'->s.heap.UpToSlots h'->DictAt h' e od->Q () { s with heap:=h' }):wpAny M A (setFlight (.ref e) none) Q E s:=by
 let(k,b,d,i):=hh;show Jfo k d i.at hdc λa c j h f g=>hQ a ⟨c,b,j,h⟩ f g
theorem JkS(hfr:A.frames=some (env::outer))(hl:s.heap.FunFrames base (env::outer))(hf:env.frame=some L)(he:s.heap.get? e=some oe)(hkb:base.StaysIn s.heap)(hen:base.get? e=none)(hd:oe.data=.fields vs)(h1:vs[1]?=some .none)(h0:vs[0]?=some a0)
  (hQ:∀ h',Heap.FlyingW base outer e oe.cls a0 h'->s.heap.UpToSlots h'->DictAt h' e oe.dict->Q () { s with heap:=h' }):wpAny M A (leaving env (.ref e)) Q E s:=by
 unfold leaving noteFrame;simp only[hf];show wpAny_bind (wpAny_bind (wpAny_field he hd h1 ?_));rw[if_neg ⋯];show JkO hfr hl hf he hkb hen hd (Array.getElem?_eq_some_iff.mp h1).1 h0 λb ⟨g,a,f,i⟩ l=>?_;show Jfo (s:={ s with heap:=b }) g a f l λh c ⟨_,_,m⟩ k d j=>hQ h ⟨c,hen,m,k⟩ (Heap.UpToSlots.trans i d) j
end
variable{h:Heap}
theorem ObjOk.is_there{w:World}{o:HO}(x:ObjOk P w H h a o):∃ ob,h.get? a=some ob:=by
 cases o with
 | lst xs=>let(_,_,_,_,e):=x;show(_,e)
 | tup xs=>let(_,_,_,p):=x;let(o,e,_):=p;show(_,e)
 | dK kvs=>let(_,_,_,_,o,_,_,e,_):=x;show(_,e)
 | dT kvs=>let(_,_,_,_,o,_,_,e,_):=x;show(_,e)
 | set S n=>
  let(o,_,_,_,e,_):=x;show(_,e)
 | ins C dx fs=>let(_,_,_,e,_):=x;show(_,e)
 | own y=>show x
 | xd fs=>let(b,n,_):=x;let(c,e,_):=Jen n;show(_,e)
 | rng lo hi=>let(_,_,_,e):=x;show(_,e)
 | frz ob u=>show(_,x.1)
 | tbl ps=>show(_,x)
 | met f y=>show(_,x)
 | ext φ=>show x.2.1
theorem HOk.isnone{w:World}(x:HOk P w H h)(e:h.get? a=none):H a=none:=by
 cases q:H a with
 | none=>rfl
 | some u=>
  let(b,z):=(x a u q).is_there;rw[e]at z;cases z
structure Fly(l:List Env)(H':Hp)(h0:Heap)(ea:Addr)(od:Option Addr)(cls a0:Value)(B h:Heap):Prop where
 fly:Heap.FlyingW B l ea cls a0 h
 free:H' ea=none
 new:h0.get? ea=none
 dct:DictAt h ea od
 kept:∀ b o,h.get? b=some o->((∃ o',h0.get? b=some o')\/∃ u,H' b=some u)->b∉frs l->B.get? b=some o
def CX1(P:Program)(w:World):CXT:=λouter H s E e s'=>
 ∃(ea:Addr)(od:Option Addr)(cls a0:Value)(B:Heap)(H':Hp),e=.ref ea/\s'.os=s.os/\AllBare s'.gens/\Un (frs outer) [] H H' s.heap s'.heap/\HOk P w H' s'.heap /\
  Fly outer H' s.heap ea od cls a0 B s'.heap/\E cls od H'
section
variable{l l':List Env}{h0 h' B:Heap}{ea:Addr}{od:Option Addr}{a0:Value}{w:World}{cls:Value}
theorem Fly.next(u:Un (frs l) [] H H' h0 h)(hok:HOk P w H' h)(F:Fly l H' h0 ea od cls a0 B h)(fr:∀ b∈frs l,H' b=none)(k:B.StaysIn h')(sl:h.UpToSlots h') :
  HOk P w H' h'/\Un (frs l) [] H H' h0 h'/\∀ b o,h.get? b=some o->((∃ o',h0.get? b=some o')\/∃ u,H' b=some u)->b∉frs l->h'.get? b=some o:=by
 have c:∀ b o,h.get? b=some o->((∃ o',h0.get? b=some o')\/∃ u,H' b=some u)->b∉frs l->h'.get? b=some o:=λb o q r n=>k b o (F.kept b o q r n);have d:∀ b o,b∈frs l->h.get? b=some o->∃ f,h'.get? b=some { o with slots:=f }:=λb o m q=>by
  let(_,o',t,x):=F.fly.2.2.1.mem m;rw[q]at t;cases t;show sl b o q x
 show(λa o e=>?_,⟨λb o q n p _=>?_,λb o q n m _=>?_,u.free,λb o q z=>?_,u.tups,u.frzs,u.tbls⟩,c)
 .have s:∀ b u,H' b=some u->b∉frs l:=λb u q m=>by
   rw[fr b m]at q;cases q
  show(hok a o e).stay (λb v i q=>?_) (λ_ r=>r) (λ_ _ r=>r);rcases i with rfl | i
  .show c _ _ q (.inr ⟨_,e⟩) (s _ _ e)
  .show c _ _ q (.inr ⟨_,i⟩) (s _ _ i)
 .show c b o (u.keep b o q n p (by simp)) (.inl ⟨o,q⟩) p
 .let(y,g):=u.slot b o q n m (by simp);let(f,j):=d b _ m g;show(f,j)
 .let(o',g):=u.there b o q (by simp);by_cases m:b∈frs l
  .let(f,j):=d b _ m g;show(_,j)
  .show(o',c b o' g (.inl ⟨o,q⟩) m)
end
section
variable{h' B:Heap}{ea:Addr}{od:Option Addr}{a0:Value}{s:Shared}{cls:Value}
theorem Inv.out(I:Inv X pins σ H s)(hex:X.ex=[])(u:Un (frs X.stack) [] H H' s.heap h'):Un X.fs [] X.H₀ H' X.s₀.heap h':=by
 have J:=I.base;rw[hex]at J;have l:∀ b o,X.s₀.heap.get? b=some o->b≠X.env.locals:=λb o q z=>by
  have f:=Heap.lt_size q;have p:=I.ok.above;rw[z]at f;show absurd (Nat.lt_of_lt_of_le f p) (Nat.lt_irrefl _)
 have r:∀ b o,X.s₀.heap.get? b=some o->b∉X.fs->b∉frs X.stack:=λb o q c m=>by
  rcases mem_cons.mp (I.stkSub b m)with z | z
  .show l b o q z
  .show c z
 show(λb o q n c _=>?_,λb o q n m _=>?_,λb o q n _=>?_,λb o q _=>?_,λb g q=>u.tups b g (J.tups b g q),λb o v q=>u.frzs b o v (J.frzs b o v q),λb i q=>?_)
 .show u.keep b o (J.keep b o q n c (by simp)) (J.free b o q n (by simp)) (r b o q c) (by simp)
 .let(t,a):=J.slot b o q n m (by simp);let(h,d):=u.any a (J.free b o q n (by simp)) (by simp);show(h,d)
 .let(e,a):=J.there b o q (by simp);show u.free b e a (J.free b o q n (by simp)) (by simp)
 .let(e,a):=J.there b o q (by simp);show u.there b e a (by simp)
 .let(k,a):=J.tbls b i q;let(j,d):=u.tbls b _ a;show(k++j,by rw[d,Array.append_assoc])
theorem Inv.stkFree'(I:Inv X pins σ H s)(u:Un (frs X.stack) [] H H' s.heap h):∀ b∈frs X.stack,H' b=none:=λb m=>by
 let(_,o,q,_):=I.stack.mem m;show u.free b o q (I.stkFree b m) (by simp)
end
section
variable{mg:Str->Option Value}{base:Heap}{N:List Str}{qual:Str}{scope:Scope}{cdv:Value}{outer:List Env}{s0:Shared}{H0:Hp}{E:XK}{w:World}{K:W.Frag}{f:Addr}
theorem pass1:Jb4 (CX1 P w) (cxOf (CX1 P w) P w K mg base N qual scope f cdv A outer s0 H0 E) E:=by
 intro x σ H s e J I O;let(i,S,cls,a0,B,G,rfl,p,R,u,j,F,Q):=O;have C:=I.stkFree' u;show wpAny (model P w) (A.deeper (envOfC qual scope s0.heap.objs.size f cdv)) (leaving (envOfC qual scope s0.heap.objs.size f cdv) (.ref i)) (λ_ h=>CX1 P w outer H0 s0 E (.ref i) h) (λY h=>CX1 P w outer H0 s0 E Y h) J;show JlD (base:=B) (cls:=cls) (a0:=a0) I.ok.frames rfl F.fly F.dct λX g t n=>?_;let(k,M,Z):=F.next u j C g.1 t;have l:s0.heap.get? i=none:=by
  cases q:s0.heap.get? i with
  | none=>rfl
  | some o=>
   let(a,U):=I.base.there i o q (by intro z;cases z);have:=F.new;rw[U]at this;cases this
 show(i,S,cls,a0,B,G,rfl,p.trans I.os,R,I.out rfl M,k,⟨g,F.free,l,n,λb o q r L=>?_⟩,Q);have T:b≠s0.heap.objs.size:=λz=>by
  rcases r with⟨a,c⟩ | ⟨v,c⟩
  .have:=Heap.lt_size c;rw[z]at this;show absurd this (Nat.lt_irrefl _)
  .have V:=C s0.heap.objs.size (by
    show s0.heap.objs.size∈frs (envOfC qual scope s0.heap.objs.size f cdv::outer);show List.mem_filterMap.mpr ⟨_,mem_cons_self ..,rfl⟩)
   rw[z,V]at c;cases c
 have W:b∉frs (envOfC qual scope s0.heap.objs.size f cdv::outer):=λm=>by
  rcases mem_cons.mp (I.stkSub b m)with z | z
  .show T z
  .show L z
 have D:(∃ a,s.heap.get? b=some a)\/∃ v,G b=some v:=by
  rcases r with⟨a,c⟩ | r
  .show .inl (I.base.there b a c (by intro z;cases z))
  .show .inr r
 have d:∃ a,J.heap.get? b=some a:=by
  rcases D with⟨a,c⟩ | ⟨v,c⟩
  .show u.there b a c (by simp)
  .show(j b v c).is_there
 let(a,c):=d;have z:=F.kept b a c D W;have y:=g.1 b a z;rw[show X.get? b=some o from q]at y;cases y;show z
end
theorem passF{w:World}:Jb4 (CX1 P w) X E0:=λ_ _ _ _ _ _ _ h=>by
 let(_,_,_,_,_,_,_,_,_,_,_,_,z):=h;show False.elim z
def unt(H:Hp)(a:Addr):Hp:=λb=>if b=a then none else H b
theorem JhW:unt H a a=none:=if_pos rfl
theorem JdD{b:Addr}(h:b≠a):unt H a b=H b:=if_neg h
variable{C:Addr}{bmB:List Value}{newId:String}
theorem JiN{K:W.Frag}(X:K.In h)(q:W.excIn K C bmB newId=true) :
  ∃(bm:List Value)(N:Addr)(nm qn:Str)(bs:List Value)(hdct:Bool)(sn:List Str)(sub:List Value)(ab:Bool)(col:Option Bool)(dd:Option Addr)(k0 k1 k2 k3 k5:Option Value)(mN:Str->Option Value),
   h.get? C=some (excClassObj nm qn C N bs bm hdct sn sub ab col dd k0 k1 k2 k3 k5 newId)/\h.Ns N mN/\mN "__init__"=none/\OwnTail h bmB bm:=by
 unfold W.excIn at q;split at q
 next dd cd sl ho=>
  split at q
  next C' bm k0 k1 k2 k3 n k5 hm hs=>
   have p:((((C'=C/\n=newId)/\cd.hasDel=false)/\W.tailIn K bmB bm=true)/\W.nsOkIn K cd.ns=true)/\W.nsIn K cd.ns "__init__"=some none:=by simpa using q
   obtain⟨⟨⟨⟨⟨o,j⟩,k⟩,m⟩,e⟩,g⟩:=p;let(nm,bs,a,i,qn,f,sn,sub,ab,col,b):=cd;have l:sl=#[k0,k1,k2,k3,some (.builtin n),k5]:=by
    cases sl;show congrArg Array.mk hs
   subst o;subst j;subst l;have d:a=.ref C'::bm:=hm;subst d;have c:b=false:=k;subst c;show(bm,i,nm,qn,bs,f,sn,sub,ab,col,dd,k0,k1,k2,k3,k5,_,X _ _ ho, .of_isNs (W.isNs_of_in X e),W.nsMap_none_of_in X e g,W.tail_of_in X m)
  next=>cases q
 next=>cases q
section
variable{mg:Str->Option Value}{base:Heap}{N:List Str}{qual:Str}{scope:Scope}{cdv:Value}{outer:List Env}{s0:Shared}{H0:Hp}{E:XK}{w:World}{K:W.Frag}{f:Addr}{h':Heap}{e:Addr}{us:List Value}
theorem JmO{s:Shared}{cls:Value}
  (I:Inv (cxOf (CX1 P w) P w K mg base N qual scope f cdv A outer s0 H0 E) pins σ H s) (hm:Heap.MadeExcOf s.heap h' e cls us) (q:E cls none H) :
  (cxOf (CX1 P w) P w K mg base N qual scope f cdv A outer s0 H0 E).xe (.ref e) { s with heap:=h' }:=by
 show wpAny (model P w) (A.deeper (envOfC qual scope s0.heap.objs.size f cdv)) (leaving (envOfC qual scope s0.heap.objs.size f cdv) (.ref e)) (λ_ j=>CX1 P w outer H0 s0 E (.ref e) j) (λY j=>CX1 P w outer H0 s0 E Y j) { s with heap:=h' };have U:=I.stkFree;have M:∀ h∈(envOfC qual scope s0.heap.objs.size f cdv::outer), ∀ b,h.frame=some b->b∈frs (envOfC qual scope s0.heap.objs.size f cdv::outer):=λh J b k=>List.mem_filterMap.mpr ⟨h,J,k⟩;let(t,J,_,_):=hm.there;show JkS (s:={ s with heap:=h' }) (base:=W.hideAll s.heap (frs (envOfC qual scope s0.heap.objs.size f cdv::outer))) I.ok.frames ((W.funFrames_hide I.stack M).of_keeps λb o k hn=>⟨o,hm.keeps b o k,rfl⟩) rfl J (λb o z=>hm.keeps b o (W.of_hideAll _ z)) ?_ rfl rfl rfl λC p B F=>?_
 .cases z:(W.hideAll s.heap (frs (envOfC qual scope s0.heap.objs.size f cdv::outer))).get? e with
  | none=>rfl
  | some o=>
   have Q:=W.of_hideAll _ z;rw[hm.new]at Q;cases Q
 have i:H e=none:=I.hok.isnone hm.new;have c:∀ b o,s.heap.get? b=some o->b∉frs (envOfC qual scope s0.heap.objs.size f cdv::outer)->C.get? b=some o:=λb o z n=>p.1 b o (W.hideAll_get _ z n);have u:Un (frs (envOfC qual scope s0.heap.objs.size f cdv::outer)) [] H H s.heap C:=by
  show(λb o z _ n _=>c b o z n,λb o z _ m _=>?_,λ_ _ _ n _=>n,λb o z _=>?_,λ_ _ z=>z,λ_ _ _ z=>z,λ_ ps z=>⟨#[],by rw[z];simp⟩)
  .let(_,g,d,L):=I.stack.mem m;rw[z]at d;cases d;show B b o (hm.keeps b o z) L
  .by_cases m:b∈frs (envOfC qual scope s0.heap.objs.size f cdv::outer)
   .let(_,g,d,L):=I.stack.mem m;rw[z]at d;cases d;let(Z,T):=B b o (hm.keeps b o z) L;show(_,T)
   .show(o,c b o z m)
 have G:∀ b v,H b=some v->b∉frs (envOfC qual scope s0.heap.objs.size f cdv::outer):=λb v z m=>by
  rw[U b m]at z;cases z
 have D:HOk P w H C:=λa o z=>by
  show(I.hok a o z).stay (λb v k l=>?_) (λ_ r=>r) (λ_ _ r=>r);rcases k with rfl | k
  .show c _ _ l (G _ _ z)
  .show c _ _ l (G _ _ k)
 have x:s0.heap.get? e=none:=by
  cases z:s0.heap.get? e with
  | none=>rfl
  | some o=>
   let(g,X):=I.base.there e o z (by intro z;cases z);have:=hm.new;rw[X]at this;cases this
 show(e,none,cls, .ref t,_,H,rfl,I.os,I.bare,I.out rfl u,D,⟨p,i,x,F,λb o z r S=>?_⟩,q);have V:∃ g,s.heap.get? b=some g:=by
  rcases r with⟨g,d⟩ | ⟨v,d⟩
  .show I.base.there b g d (by intro z;cases z)
  .show(I.hok b v d).is_there
 have R:b∉frs (envOfC qual scope s0.heap.objs.size f cdv::outer):=λm=>by
  rcases mem_cons.mp (I.stkSub b m)with y | y
  .rcases r with⟨g,d⟩ | ⟨v,d⟩
   .have O:=Heap.lt_size d;rw[y]at O;show absurd O (Nat.lt_irrefl _)
   .show G b v d m
  .show S y
 let(g,d):=V;have l:=c b g d R;rw[show C.get? b=some o from z]at l;cases l;show W.hideAll_get _ d R
variable{oe:Obj}{a0:Value}
theorem JmP{s:Shared}{vs:Array Value}{φ:Heap->Prop}
  (I:Inv (cxOf (CX1 P w) P w K mg base N qual scope f cdv A outer s0 H0 E) pins σ H s) (ht:H e=some (.ext φ)) (he:s.heap.get? e=some oe) (hd:oe.data=.fields vs) (h1:vs[1]?=some .none) (h0:vs[0]?=some a0) (new0:s0.heap.get? e=none) (q:E oe.cls oe.dict (unt H e)) :
  (cxOf (CX1 P w) P w K mg base N qual scope f cdv A outer s0 H0 E).xe (.ref e) s:=by
 show wpAny (model P w) (A.deeper (envOfC qual scope s0.heap.objs.size f cdv)) (leaving (envOfC qual scope s0.heap.objs.size f cdv) (.ref e)) (λ_ k=>CX1 P w outer H0 s0 E (.ref e) k) (λV k=>CX1 P w outer H0 s0 E V k) s;have R:=I.stkFree;have L:∀ j∈(envOfC qual scope s0.heap.objs.size f cdv::outer), ∀ b,j.frame=some b->b∈e::frs (envOfC qual scope s0.heap.objs.size f cdv::outer):=λj he b l=>.tail _ (List.mem_filterMap.mpr ⟨j,he,l⟩);show JkS (base:=W.hideAll s.heap (e::frs (envOfC qual scope s0.heap.objs.size f cdv::outer))) I.ok.frames (W.funFrames_hide I.stack L) rfl he (λb o z=>W.of_hideAll _ z) (W.hideAll_none _ (.head _)) hd h1 h0 λC B J x=>?_;have c:∀ b o,s.heap.get? b=some o->b≠e->b∉frs (envOfC qual scope s0.heap.objs.size f cdv::outer)->C.get? b=some o:=λb o z p n=>B.1 b o (W.hideAll_get _ z λm=>(mem_cons.mp m).elim p n);have t:∀ b,H b=none->b≠e:=λb z y=>by rw[y,ht]at z;cases z
 have g:∀ b o,s.heap.get? b=some o->b∈frs (envOfC qual scope s0.heap.objs.size f cdv::outer)->∃ sl,C.get? b=some { o with slots:=sl }:=λb o z m=>by
  let(_,h,d,U):=I.stack.mem m;rw[z]at d;cases d;show J b o z U
 have u:Un (frs (envOfC qual scope s0.heap.objs.size f cdv::outer)) [] H (unt H e) s.heap C:=by
  show(λb o z n m _=>c b o z (t b n) m,λb o z _ m _=>g b o z m,λb _ _ n _=>by rw[JdD (t b n)];show n,λb o z _=>?_,λb Z z=>?_,λb o v z=>?_,λb Y z=>⟨#[],?_⟩)
  .by_cases y:b=e
   .let(T,i,_):=x;show(T,y ▸ i)
   .by_cases m:b∈frs (envOfC qual scope s0.heap.objs.size f cdv::outer)
    .let(X,Q):=g b o z m;show(_,Q)
    .show(o,c b o z y m)
  .rw[JdD (λy=>by rw[y,ht]at z;cases z)];show z
  .rw[JdD (λy=>by rw[y,ht]at z;cases z)];show z
  .rw[JdD (λy=>by rw[y,ht]at z;cases z),z];simp
 have G:∀ b v,H b=some v->b∉frs (envOfC qual scope s0.heap.objs.size f cdv::outer):=λb v z m=>by
  rw[R b m]at z;cases z
 have D:∀ b v,unt H e b=some v->b≠e/\H b=some v:=λb v z=>by
  by_cases y:b=e
  .rw[y,JhW]at z;cases z
  .show(y,(JdD y).symm.trans z)
 have F:HOk P w (unt H e) C:=λa o z=>by
  let(p,z):=D a o z;show(I.hok a o z).stay (λb v l i=>?_) (λb r=>by rw[JdD (λy=>by rw[y,ht]at r;cases r)];show r) (λb _ r=>by rw[JdD (λy=>by rw[y,ht]at r;cases r)];show r);rcases l with rfl | l
  .show c _ _ i p (G _ _ z)
  .show c _ _ i (λy=>by rw[y,ht]at l;cases l) (G _ _ l)
 show(e,oe.dict,oe.cls,a0,_,unt H e,rfl,I.os,I.bare,I.out rfl u,F,⟨B,JhW,new0,x,λb o z r O=>?_⟩,q);have p:b≠e:=λy=>by
  rcases r with⟨h,d⟩ | ⟨v,d⟩
  .rw[y,new0]at d;cases d
  .show(D _ _ d).1 y
 have S:∃ h,s.heap.get? b=some h:=by
  rcases r with⟨h,d⟩ | ⟨v,d⟩
  .show I.base.there b h d (by intro z;cases z)
  .show(I.hok b v (D _ _ d).2).is_there
 have M:b∉frs (envOfC qual scope s0.heap.objs.size f cdv::outer):=λm=>by
  rcases mem_cons.mp (I.stkSub b m)with y | y
  .rcases r with⟨h,d⟩ | ⟨v,d⟩
   .have h1:=Heap.lt_size d;rw[y]at h1;show absurd h1 (Nat.lt_irrefl _)
   .show G b v (D _ _ d).2 m
  .show O y
 let(h,d):=S;have i:=c b h d p M;rw[show C.get? b=some o from z]at i;cases i;show W.hideAll_get _ d λm=>(mem_cons.mp m).elim p M
def Jk7(E:XK)(C:Addr)(ta:TA):TS:=λ_ σ H=>ta σ H λvs H1=>vs.length<=sizeLine/\E (.ref C) none H1
variable{x:Str}{np:Pos}{e:Expr}{es:List Expr}
theorem Jd7{cpos:Pos}{B initId:String}{ta:TA}(FB:ExcBaseFacts B newId initId bmB)(hx:W.excIn K C bmB newId=true)
  (hg:Gl (cxOf (CX1 P w) P w K mg base N qual scope f cdv A outer s0 H0 E) x) (hm:mg x=some (.ref C)) (ha:PA (cxOf (CX1 P w) P w K mg base N qual scope f cdv A outer s0 H0 E) (e::es) ta)
  (he:autoParam (starEach (e::es) (envOfC qual scope s0.heap.objs.size f cdv)=(false,eval e (envOfC qual scope s0.heap.objs.size f cdv))::starEach es (envOfC qual scope s0.heap.objs.size f cdv)) Au)
  (hpl:autoParam ((backTo cpos (starEach es (envOfC qual scope s0.heap.objs.size f cdv))).any (·.1)=false) Au) (hdb:autoParam ((x == ("__debug__" : Str))=false) Au) :
  PS (cxOf (CX1 P w) P w K mg base N qual scope f cdv A outer s0 H0 E) (.Raise (some (.Call (.Name x np) (e::es) [] cpos)) none pos) (Jk7 E C ta):=by
 intro a s σ H D I h;let(bm,g,nm,j,bs,hdct,sn,sub,ab,col,dd,k0,k1,k2,k3,k5,mN,i,m,b,T):=JiN I.mod.kin hx;have d:(A.deeper (envOfC qual scope s0.heap.objs.size f cdv)).handled=none:=I.ok.hd rfl;show wpAny_Raise_call_subT (C:=C) (nm:=nm) (q:=j) (N:=g) (bs:=bs) (bm:=bm) (hdct:=hdct) (sn:=sn) (sub:=sub) (ab:=ab) (col:=col) (dd:=dd) (k0:=k0) (k1:=k1) (k2:=k2) (k3:=k3) (k5:=k5)
  FB (mN:=mN) (T.hasType FB.hasBase) d ?_ b (Jcv I hg hm ⟨rfl,?_⟩ hdb)
 .show(backTo cpos (starEach (e::es) (envOfC qual scope s0.heap.objs.size f cdv))).any (·.1)=false;rw[he];show(false||(backTo cpos (starEach es (envOfC qual scope s0.heap.objs.size f cdv))).any (·.1))=false;rw[hpl];rfl
 .have z:=ha cpos a s σ H _ I h;show wpAny _ _ (evalArgs (.ref C) true (backTo cpos (starEach (e::es) (envOfC qual scope s0.heap.objs.size f cdv))) []) _ _ _;have l:=he;rw[he];show Calls.evalArgs_plain ?_;have c:wpAny (model P w) (A.deeper (envOfC qual scope s0.heap.objs.size f cdv)) (spliced (backTo cpos (starEach (e::es) (envOfC qual scope s0.heap.objs.size f cdv)))) _ _ s:=z;rw[he]at c;show thn c λp n ζ=>?_;let(t,o,I1,r,k,q):=ζ;show(rfl,by rw[<- r.length];show k,I1.bk _ _ i,m.keeps I1.bk,T.keeps I1.bk,λu e hm=>JmO I1 hm q)
end
def PEx(X:Cx)(e:Expr)(t:St->Hp->VK->XK->Prop):Prop :=
 ∀(pins:List (Addr × Obj))(s:Shared)(σ : St)(H:Hp)(Q:VK)(E:XK),Inv X pins σ H s->t σ H Q E ->
  wpAny (model X.prog X.w) X.A (eval e X.env) (EP X pins σ Q) (λev s'=>∃ H1 s1,Inv X pins σ H1 s1/\CX1 X.prog X.w X.stack H1 s1 E ev s') s
def xCall(sp:Sp)(dvs:List V)(t:TA):St->Hp->VK->XK->Prop:=λσ H Q E=>t σ H λvs H1=>sp (vs++dvs) H1 Q E
section
variable{fd:FuncData}{ps:List Str}{sp:Sp}{dvs:List V}{ds:List Value}{E:XK}{x:Str}{p apos:Pos}{e o:Expr}{es:List Expr}{ta:TE}{k:Nat}{f:Addr}{m:Str}{t:TA}
theorem Jmc{s:Shared}{Q:VK}{us:List Value}{vs:List V}(F:FnOk X.prog X.w X.K X.mg X.base (CX1 X.prog X.w) k f fd ps sp)(hr:Room k X.A)(hb:Binds X.K fd ps ds)(hd:Vals dvs ds)
  (I:Inv X pins σ H s) (r:Vals vs us) (h:sp (vs++dvs) H Q E):wpAny (model X.prog X.w) X.A (call (.ref f) us) (EP X pins σ Q) (λev s'=>∃ H1 s1,Inv X pins σ H1 s1/\CX1 X.prog X.w X.stack H1 s1 E ev s') s:=by
 have c:Vals (vs++dvs) (us++ds):=r.append hd;have d:(us++ds).length=ps.length:=(c.length.symm).trans (F.len _ _ _ _ h);have g:=F.run X.A X.stack s H ⟨us,[]⟩ (us++ds) (vs++dvs) Q E hr I.env0 (hb s us I.kIn d) c h;show wpAny_call (codeAny_mono g λb s' a=>?_);match b,a with
 | .error e,a=>show(H,s,I,a)
 | .ok (.ret u),a=>show I.after a
 | .ok .next,a=>show a.elim
 | .ok .brk,a=>show a.elim
 | .ok .cont,a=>show a.elim
theorem Jkp(F:FnOk X.prog X.w X.K X.mg X.base (CX1 X.prog X.w) k f fd ps sp)(hr:Room k X.A)(hg:Gl X x)(hm:X.mg x=some (.ref f))(hk:W.keepIn X.K (.ref f)=true)(hb:Binds X.K fd ps ds)(hd:Vals dvs ds)
  (ha:PA X.nox (e::es) t) (hdb:autoParam ((x == ("__debug__" : Str))=false) Au) (he:autoParam (starEach (e::es) X.env=(false,eval e X.env)::starEach es X.env) Au) (hpl:autoParam ((backTo pos (starEach es X.env)).any (·.1)=false) Au) :
  PEx X (.Call (.Name x p) (e::es) [] pos) (xCall sp dvs t):=by
 intro a s σ H Q E I h;show wpAny_Call_Name_kw (Jcv I hg hm ?_ hdb);have z:=ha pos a s σ H _ (I.wish _) h;show W.callWith_K (h₀:=X.base) I.ok.mod.kin hk (wpAny_mono z (λc g ζ=>?_) λ_ _ y=>y.elim) he hpl;let(d,b,I1,r,q):=ζ;show(I1.unwish.kIn,?_);show Jmc F hr hb hd I1.unwish r q
end
section
variable{s':Shared}{h' B:Heap}{ea:Addr}{od:Option Addr}{a0:Value}{s:Shared}{cls:Value}
theorem Inv.track{o:HO}(I:Inv X pins σ H s)(hn:H a=none)(h1:X.s₀.heap.get? a=none)(h2:a≠X.env.locals)(h3:∀ x c,X.env.cells.lookup x=some c->c≠a)(h4:∀ p∈X.pn++pins,p.1≠a)
  (ok:ObjOk X.prog X.w (upd H a o) s.heap a o):Inv X pins σ (upd H a o) s:=by
 have d:∀ b u,H b=some u->b≠a:=λb u q=>Jai q hn;show(I.ok,I.os,I.bare,⟨I.base.keep,I.base.slot,λb f q n l=>?_,I.base.there,λb i q=>?_,λb f u q=>?_,λb k q=>?_⟩,I.loc,I.cell,?_,λx c e=>?_,λp h=>?_,λb u q=>?_,I.len)
 .have : b≠a:=λz=>by rw[z,h1]at q;cases q
  rw[Jah this];show I.base.free b f q n l
 .have z:=I.base.tups b i q;rw[Jah (d _ _ z)];show z
 .have z:=I.base.frzs b f u q;rw[Jah (d _ _ z)];show z
 .let(j,z):=I.base.tbls b k q;show(j,by rw[Jah (d _ _ z)];show z)
 .rw[Jah (Ne.symm h2)];show I.free
 .rw[Jah (h3 x c e)];show I.freeC x c e
 .let(e,n,r):=I.pin p h;show(e,by rw[Jah (h4 p h)];show n,r)
 .by_cases g:b=a
  .subst g;rw[Jak]at q;cases q;show ok
  .rw[Jah g]at q;show(I.hok b u q).stay (λ_ _ _ z=>z) (λc z=>by rw[Jah (d _ _ z)];show z) (λc i z=>by rw[Jah (d _ _ z)];show z)
def ExcO(e C:Addr)(od:Option Addr:=none):HO:=.ext λh=>∃ ox vs,h.get? e=some ox/\ox.cls=.ref C/\ox.data=.fields vs/\ox.dict=od
theorem Inv.landed{sF:Shared}(I:Inv X pins σ H s)(hex:X.ex=[])(u:Un (frs X.stack) [] H H' s.heap s'.heap)(hok:HOk X.prog X.w H' s'.heap)(F:Fly X.stack H' s.heap ea od (.ref C) a0 B s'.heap)(hos:s'.os=s.os)(hg:AllBare s'.gens)
  (hfl:Heap.FlyingW B X.stack ea (.ref C) a0 h') (hup:s'.heap.UpToSlots h') (hdc:DictAt h' ea od) (hs:sF={ s' with heap:=h' }):Inv X pins σ (upd H' ea (ExcO ea C od)) sF:=by
 subst hs;let(d,E,_):=F.next u hok (I.stkFree' u) hfl.1 hup;have I2:Inv X pins σ H' { s' with heap:=h' }:=I.call' (s':={ s' with heap:=h' }) hos E d hg (λb z=>absurd z (by simp));have a:∀ b o,s.heap.get? b=some o->b≠ea:=λb o q z=>by
  have:=F.new;rw[<- z,q]at this;cases this
 let(m,G,_):=I.loc;let(N,_,_,l,_):=G;show I2.track F.free ?_ (Ne.symm (a _ _ l)) (λx c e z=>?_) (λp M z=>?_) ?_
 .cases q:X.s₀.heap.get? ea with
  | none=>rfl
  | some o=>
   let(O,j):=I.base.there ea o q (by rw[hex];simp);show absurd rfl (a _ _ j)
 .let(v,n):=I.cell x c e;let(Q,h,_):=n;show a _ _ h z
 .let(e,_):=I.pin p M;show a _ _ e z
 .let(r,L,i,n,y,_):=hfl.first;let(J,f,g):=hdc;rw[show h'.get? ea=some r from i]at f;cases f;show(⟨r,L,i,n,y,g⟩,⟨_,i⟩,λP R ⟨t,A,j,D,K⟩ k=>⟨t,A,k _ j,D,K⟩)
abbrev Cx.inx(X:Cx)(e:Addr):Cx:={ X with A:=X.A.mark (some (.ref e)),calm:=false,xe:=λ_ _=>False }
theorem Cx.Ok.inx(ok:X.Ok)(e:Addr):(X.inx e).Ok :=
 ⟨ok.mod,ok.kind,ok.glob,ok.blt,ok.above,ok.inj,ok.has,ok.cab,λz=>(by cases z),ok.frames,ok.stk,ok.exf,ok.bs,ok.bsz,ok.noex,ok.exfs,ok.funs,ok.frf⟩
theorem Inv.inx(I:Inv X pins σ H s)(e:Addr):Inv (X.inx e) pins σ H s :=
 ⟨I.ok.inx e,I.os,I.bare,I.base,I.loc,I.cell,I.free,I.freeC,I.pin,I.hok,I.len⟩
variable{e:Addr}
theorem Inv.outx(I:Inv (X.inx e) pins σ H s)(ok:X.Ok):Inv X pins σ H s :=
 ⟨ok,I.os,I.bare,I.base,I.loc,I.cell,I.free,I.freeC,I.pin,I.hok,I.len⟩
variable{x:Str}
theorem Inv.goes{i:Nat}{t':Nat}{m m':Str->Option Value}(I:Inv X pins σ H s)(hN:X.N.Nodup)(hi:X.N[i]?=some x)(hs:Heap.SameBut X.env.locals s.heap h')
  (hn:s.heap.Ns X.env.locals m) (hn':h'.Ns X.env.locals m') (hm:∀ y,y≠x->m' y=m y):Inv X pins (σ.set i none) H { s with heap:=h',toks:=t' }:=by
 let(F,t,w):=I.loc;have M:F=m:=(Heap.Ns.eq_nsMap t).trans (Heap.Ns.eq_nsMap hn).symm;subst M;have A:∀ b o,X.s₀.heap.get? b=some o->b≠X.env.locals:=λb o e=>Nat.ne_of_lt (Nat.lt_of_lt_of_le (Heap.lt_size e) I.ok.above);show(I.ok,I.os,I.bare,⟨λb o e n B h=>?_,λb o e n B h=>?_,I.base.free,λb o e h=>?_,I.base.tups,I.base.frzs,I.base.tbls⟩,⟨m',hn',λj y v g f K=>?_⟩,λy c e=>?_,I.free,I.freeC,λp O=>?_,λa o e=>?_,by rw[List.length_set];show I.len)
 .show(hs.2 b (A b o e)).trans (I.base.keep b o e n B h)
 .let(G,g):=I.base.slot b o e n B h;show(G,(hs.2 b (A b o e)).trans g)
 .let(E,g):=I.base.there b o e h;show(E,(hs.2 b (A b o e)).trans g)
 .have C:j≠i:=λz=>by
   subst z;by_cases w:j<σ.length
   .rw[List.getElem?_set_self w]at f;cases f
   .rw[List.getElem?_eq_none (by rw[List.length_set];ac_nf)]at f;cases f
  rw[List.getElem?_set_ne (Ne.symm C)]at f;let(u,r,q):=w j y v g f K;have J:y≠x:=λz=>C (Jft hN g (z ▸ hi));show(u,r,?_);rcases q with⟨k,e⟩ | ⟨k,c,e,z⟩
  .show .inl ⟨k,(hm y J).trans e⟩
  .show .inr ⟨k,c,e,z.sameBut hs (I.cne y c e)⟩
 .let(v,z):=I.cell y c e;show(v,z.sameBut hs (I.cne y c e))
 .let(e,n,D,L,d):=I.pin p O;show((hs.2 p.1 D).trans e,n,D,L,d)
 .show(I.hok a o e).stay (λc v l q=>(hs.2 c ?_).trans q) (λ_ q=>q) λ_ _ q=>q;rintro rfl;rcases l with z | l
  .rw[<- z]at e;rw[I.free]at e;cases e
  .rw[I.free]at l;cases l
end
structure Jcj(K:W.Frag)(C D:Addr):Prop where
 cl:W.hasDictIn K D=true
 ty:W.typeIn K (.ref D)=some (.type "type")
 ex:W.mroIn K D (.type "BaseException")=some true
 ab:W.mroIn K C (.ref D)=some true
variable{M:Model}
theorem Jgh{K:W.Frag}{D:Addr}(X:K.In h)(c:W.hasDictIn K D=true):W.Looks M h (isType (.ref D)) true:=by
 let(b,a,_):=W.any_some c;unfold W.clsIn at a;split at a
 next c' d' cd' sl' ho=>
  intro A' Q' E' d k q;unfold isType loadHead;show wpAny_bind (wpAny_loadPart (k _ _ (X _ _ ho)) (wpAny_pure q))
 next=>cases a
theorem Jgd{K:W.Frag}{s:Shared}{e D:Addr}{oe:Obj}{Q:Bool->Shared->Prop}(X:K.In s.heap)(he:s.heap.get? e=some oe)(hc:oe.cls=.ref C)(c:Jcj K C D)(h:Q true s) :
  wpAny M A (excMatches (.ref e) (.ref D)) Q E s:=by
 let(a,g,d,t,b):=s;have L0:W.Looks M a (typeOf (.ref e)) (.ref C):=hc ▸ (W.Looks.ld he).andThen .now;have L1:=W.looks_typeIn (M:=M) X c.ty;have L2:=W.looks_mroIn (M:=M) X c.ex;have L3:=W.looks_mroIn (M:=M) X c.ab;have L4:=Jgh (M:=M) X c.cl;have f:=tc_notTuple;unfold excMatches isInstance isExcClass;repeat (first | lk | wp_step)
 show h
section
variable{ce:Expr}{epos hpos np:Pos}{x n:Str}{b0:Stmt}{suite:List Stmt}{ts:TS}{D:Addr}{t:St->Hp->VK->XK->Prop}
def Jk9(K:W.Frag)(D:Addr)(i:Nat)(t:St->Hp->VK->XK->Prop)(ts:TS):TS:=λDn σ H=>t σ H (λ_ H1=>Dn.nx σ H1) λcls od H1=>∃ C,cls=.ref C/\Jcj K C D /\
 ∀ ea,H1 ea=none->ts { nx:=λσ' H'=>Dn.nx (σ'.set i none) H',rt:=Dn.rt,bk:=λσ' H'=>Dn.bk (σ'.set i none) H',ct:=λσ' H'=>Dn.ct (σ'.set i none) H' } (σ.set i (some (.ref ea))) (upd H1 ea (ExcO ea C od))
theorem JkK{D:Addr}{i:Nat}{s s1:Shared}{Dn:Ends}{ev:Value}(hN:X.N.Nodup)(hi:X.N[i]?=some n)(hl:X.env.scope.names.lookup n=some .local)(hg:Gl X x)(hm:X.mg x=some (.ref D))(hsu:∀ e,PSs (X.inx e) (b0::suite) ts)
  (hex:X.ex=[]) (hst:X.stack=X.env::X.outer) (hfl:X.env.frame=some X.env.locals) (hdb:(x == ("__debug__" : Str))=false) (I:Inv X pins σ H s)
  (hx:∃ H1 s1',Inv X pins σ H1 s1'/\CX1 X.prog X.w X.stack H1 s1' (λcls od H1=>∃ C,cls=.ref C/\Jcj X.K C D/\∀ ea,H1 ea=none->ts { nx:=λσ' H'=>Dn.nx (σ'.set i none) H',rt:=Dn.rt,bk:=λσ' H'=>Dn.bk (σ'.set i none) H',ct:=λσ' H'=>Dn.ct (σ'.set i none) H' } (σ.set i (some (.ref ea))) (upd H1 ea (ExcO ea C od))) ev s1) :
  wpAny (model X.prog X.w) X.A (noteFrame ev X.env) (λ_ s₂=>wpAny (model X.prog X.w) X.A (setFlight ev none) (λ_ s₃=>wpAny (model X.prog X.w) X.A (handleBy ev X.env [ExceptHandler.ExceptHandler (some (Expr.Name x np)) (some n) (b0::suite) hpos]) (SP X pins Dn) X.xe s₃) X.xe s₂) X.xe s1:=by
 let(H1,s0,I1,ea,od,cls,a0,B,H',rfl,E,Y,u,l,F,C,rfl,o,hq):=hx;have U:X.A.frames=some (X.env::X.outer):=by rw[<- hst];show I.ok.frames
 have F':=F.fly;rw[hst]at F';show noteD U hfl F' F.dct λh4 j G S=>?_;show JmN j S λh5 d p t=>?_;have M:=G.trans p;have b:=d;rw[<- hst]at b;have I5:=I1.landed hex u l F E Y b M t rfl;let(oe,vs,he,hc,_,_):=d.first;show wpAny_handleBy_cons (codeAny_handlers_test (Jcv (X:=X.inx ea) (I5.inx ea) hg hm ?_ hdb)) (by intro z;cases z);show Jgd I5.kIn he hc o (codeAny_handlers_suite_as ?_);show Jms d t λh6 O L T=>?_;have c:=O;rw[<- hst]at c;have I6:=I1.landed hex u l F E Y c (M.trans L) T rfl;show Jd9 (X:=X) (v:=.ref ea) I6 hN hi (.inl hl) rfl (λZ I7=>?_) (.inr hl);show wpAny_mono (hsu ea pins Z _ _ _ (I7.inx ea) (hq ea F.free)) (λf V z=>?_) (λ_ _ z=>z.elim);have a:∀{σ':St}{h:Hp}{R:Flow->Shared->Prop}{E2:Value->Shared->Prop},Inv (X.inx ea) pins σ' h V->(∀ g,Inv X pins (σ'.set i none) h g->R f g) ->
   wpAny (model X.prog X.w) X.A (do bindName X.env n .none;unbindBehindTheSuite X.env n hpos) (λ_ g=>R f g) E2 V:=λ{σ' h R E2} J k=>by
  have J':=J.outx I.ok;let(m,W,_):=J'.loc;show wpAny_nameGoes_keeps hl W (by rw[I.ok.kind];rfl) λh' v P Q=>k _ (J'.goes hN hi Q W P λy hy=>if_neg hy)
 cases f with
 | next=>let(σ',h,J,q):=z;show a J λg J3=>⟨_,_,J3,q⟩
 | brk=>let(σ',h,J,q):=z;show a J λg J3=>⟨_,_,J3,q⟩
 | cont=>let(σ',h,J,q):=z;show a J λg J3=>⟨_,_,J3,q⟩
 | ret v=>let(y,σ',h,J,r,q):=z;show a J λg J3=>⟨y,_,_,J3,r,q⟩
theorem Jks{i:Nat}(hN:X.N.Nodup)(hi:X.N[i]?=some n)(hl:X.env.scope.names.lookup n=some .local)(hcall:PEx X ce t)(hg:Gl X x)(hm:X.mg x=some (.ref D))(hsu:∀ e,PSs (X.inx e) (b0::suite) ts)
  (hex:autoParam (X.ex=[]) Au) (hst:autoParam (X.stack=X.env::X.outer) Au) (hfl:autoParam (X.env.frame=some X.env.locals) Au)
  (hs:autoParam (swapsWith ce none epos.line X.env=pure false) Au) (hdb:autoParam ((x == ("__debug__" : Str))=false) Au) :
  PS X (.Try [.Expr ce epos] [.ExceptHandler (some (.Name x np)) (some n) (b0::suite) hpos] [] [] pos) (Jk9 X.K D i t ts):=by
 intro a s σ H Dn I h;show wpAny_Try_except (wpAny_execs_cons (wpAny_Expr_any (wpAny_mono (hcall a s σ H _ _ I h) (λv f ⟨y,b,I1,g,d⟩=>?_) (λj f c=>?_)) I.quiet hs))
 .show wpAny_execs_nil (wpAny_execs_nil ⟨σ,b,I1,d⟩)
 .show JkK hN hi hl hg hm hsu hex hst hfl hdb I c
end
inductive D where
 | non | bl (b:Bool) | int (i:Int) | str (x:Str) | tup (xs:List D) | lst (xs:List D)
mutual
def Rep(K:W.Frag)(H:Hp):D->V->Prop
 | .non,v=>v=.non
 | .bl b,v=>v=.bl b
 | .int i,v=>v=.int i
 | .str x,v=>v=.str x
 | .tup ds,v=>∃ a xs,v=.ref a/\SqT K H a xs/\RepL K H ds xs
 | .lst ds,v=>∃ a xs,v=.ref a/\SqL K H a xs/\RepL K H ds xs
def RepL(K:W.Frag)(H:Hp):List D->List V->Prop
 | [],vs=>vs=[]
 | d::ds,vs=>∃ v r,vs=v::r/\Rep K H d v/\RepL K H ds r
end
mutual
def eqD:D->D->Bool
 | .non, .non=>true
 | .bl a, .bl b=>a == b
 | .int a, .int b=>a == b
 | .bl a, .int b=>(if a then 1 else 0) == b
 | .int a, .bl b=>a == (if b then 1 else 0)
 | .str a, .str b=>a == b
 | .tup xs, .tup ys=>eqL xs ys
 | .lst xs, .lst ys=>eqL xs ys
 | _,_=>false
def eqL:List D->List D->Bool
 | [],[]=>true
 | x::xs,y::ys=>eqD x y&&eqL xs ys
 | _,_=>false
end
mutual
def depD:D->Nat
 | .tup xs=>depL xs+1
 | .lst xs=>depL xs+1
 | _=>0
def depL:List D->Nat
 | []=>0
 | x::xs=>max (depD x) (depL xs)
end
theorem Je7:∀{xs ys:List D},eqL xs ys=true->xs.length=ys.length
 | [],[],_=>rfl
 | [],_::_,h=>by simp[eqL]at h
 | _::_,[],h=>by simp[eqL]at h
 | x::xs,y::ys,h=>by
  simp only[eqL,Bool.and_eq_true]at h;simp only[length_cons,Je7 h.2]
mutual
theorem Jcf:∀ d:D,eqD d d=true
 | .non=>by simp[eqD]
 | .bl b=>by simp[eqD]
 | .int i=>by simp[eqD]
 | .str x=>by simp[eqD]
 | .tup xs=>by simp only[eqD];show Jfn xs
 | .lst xs=>by simp only[eqD];show Jfn xs
theorem Jfn:∀ d:List D,eqL d d=true
 | []=>by simp[eqL]
 | x::xs=>by simp only[eqL,Bool.and_eq_true];show(Jcf x,Jfn xs)
end
theorem RepL.length{K:W.Frag}:∀{ds:List D}{vs:List V},RepL K H ds vs->ds.length=vs.length
 | [],vs,h=>by
  simp only[RepL]at h;rw[h];rfl
 | d::ds,vs,h=>by
  simp only[RepL]at h;let(v,r,rfl,_,h2):=h;simp only[length_cons,RepL.length h2]
theorem RepL.get{K:W.Frag}:∀{ds:List D}{vs:List V}{i:Nat}{d:D},RepL K H ds vs->ds[i]?=some d->∃ v,vs[i]?=some v/\Rep K H d v
 | [],_,_,_,_,e=>by simp at e
 | d::ds,vs,i,d',h,e=>by
  simp only[RepL]at h;let(v,r,rfl,h1,h2):=h;cases i with
  | zero=>simp at e;subst e;show(v,rfl,h1)
  | succ i=>
   let(v',e',h'):=RepL.get h2 (by simpa using e);show(v',by simpa using e',h')
variable{xs:List V}
theorem SqL.same{K:W.Frag}(e:Same H H')(h:SqL K H a xs):SqL K H' a xs:=e.seq h
theorem SqT.same{K:W.Frag}(e:Same H H')(h:SqT K H a xs):SqT K H' a xs:=by
 rcases h with(h | ⟨o,h⟩) | h
 .show .inl (.inl (e _ _ h))
 .show .inl (.inr ⟨o,e _ _ h⟩)
 .show .inr h
mutual
theorem Rep.same{K:W.Frag}(e:Same H H'):∀{d:D}{v:V},Rep K H d v->Rep K H' d v
 | .non,_,h=>by simpa only[Rep]using h
 | .bl _,_,h=>by simpa only[Rep]using h
 | .int _,_,h=>by simpa only[Rep]using h
 | .str _,_,h=>by simpa only[Rep]using h
 | .tup ds,_,h=>by
  simp only[Rep]at h ⊢;let(a,xs,h1,h2,h3):=h;show(a,xs,h1,h2.same e,RepL.same e h3)
 | .lst ds,_,h=>by
  simp only[Rep]at h ⊢;let(a,xs,h1,h2,h3):=h;show(a,xs,h1,h2.same e,RepL.same e h3)
theorem RepL.same{K:W.Frag}(e:Same H H'):∀{d:List D}{v:List V},RepL K H d v->RepL K H' d v
 | [],_,h=>by simpa only[RepL]using h
 | x::xs,_,h=>by
  simp only[RepL]at h ⊢;let(v,r,h1,h2,h3):=h;show(v,r,h1,Rep.same e h2,RepL.same e h3)
end
section
variable{s:Shared}
theorem Inv.list_tuple(I:Inv X pins σ H s){a:Addr}{xs ys:List V}(h:SqL X.K H a xs)(h':SqT X.K H a ys):False:=by
 let(_,_,p,_):=I.list h;let(_,_,q,_):=I.tuple h';let(o,_,e,d,_):=p;let(f,c,b,_):=q;rw[e]at c;cases c;rw[d]at b;show absurd b ⋯
mutual
theorem Inv.rep_inj(I:Inv X pins σ H s):∀{d e:D}{v:V},Rep X.K H d v->Rep X.K H e v->d=e
 | .non,e,v,h,h'=>by
  simp only[Rep]at h;subst h;cases e <;> simp[Rep]at h' ⊢
 | .bl _,e,v,h,h'=>by
  simp only[Rep]at h;subst h;cases e <;> simp[Rep]at h' ⊢
  show h'
 | .int _,e,v,h,h'=>by
  simp only[Rep]at h;subst h;cases e <;> simp[Rep]at h' ⊢
  show h'
 | .str _,e,v,h,h'=>by
  simp only[Rep]at h;subst h;cases e <;> simp[Rep]at h' ⊢
  show h'
 | .tup ds,e,v,h,h'=>by
  simp only[Rep]at h;let(a,xs,rfl,h2,h3):=h;cases e with
  | tup es=>
   simp only[Rep]at h';let(a',ys,q,g2,g3):=h';cases q;have:=I.tuple_inj h2 g2;subst this;rw[Inv.repL_inj I h3 g3]
  | lst es=>
   simp only[Rep]at h';let(a',ys,q,g2,g3):=h';cases q;show(I.list_tuple g2 h2).elim
  | _=>simp[Rep]at h'
 | .lst ds,e,v,h,h'=>by
  simp only[Rep]at h;let(a,xs,rfl,h2,h3):=h;cases e with
  | lst es=>
   simp only[Rep]at h';let(a',ys,q,g2,g3):=h';cases q;have:=I.list_inj h2 g2;subst this;rw[Inv.repL_inj I h3 g3]
  | tup es=>
   simp only[Rep]at h';let(a',ys,q,g2,g3):=h';cases q;show(I.list_tuple h2 g2).elim
  | _=>simp[Rep]at h'
theorem Inv.repL_inj(I:Inv X pins σ H s):∀{d e:List D}{v:List V},RepL X.K H d v->RepL X.K H e v->d=e
 | [],e,v,h,h'=>by
  simp only[RepL]at h;subst h;cases e <;> simp[RepL]at h' ⊢
 | x::xs,e,v,h,h'=>by
  simp only[RepL]at h;let(u,r,rfl,h1,h2):=h;cases e with
  | nil=>simp[RepL]at h'
  | cons y ys=>
   simp only[RepL]at h';let(u',r',q,g1,g2):=h';cases q;rw[Inv.rep_inj I h1 g1,Inv.repL_inj I h2 g2]
end
end
variable{α β:Type}
def Jc2(f : α->β->Bool):List α->List β->Bool
 | [],[]=>true
 | x::xs,y::ys=>f x y&&Jc2 f xs ys
 | _,_=>false
def atB(f : α->β->Bool)(xs:List α)(ys:List β)(j:Nat):Bool:=match xs[j]?,ys[j]? with
 | some x,some y=>f x y
 | _,_=>true
theorem Jc3(f : α->β->Bool):∀(xs:List α)(ys:List β),
  ((List.range (min xs.length ys.length)).all (atB f xs ys)&&(xs.length == ys.length))=Jc2 f xs ys
 | [],[]=>by simp[Jc2]
 | [],_::_=>by simp[Jc2]
 | _::_,[]=>by simp[Jc2]
 | x::xs,y::ys=>by
  have ih:=Jc3 f xs ys;simp only[Jc2,length_cons];rw[<- ih,Nat.succ_min_succ,List.range_succ_eq_map,List.all_cons,List.all_map];have e:((List.range (min xs.length ys.length)).all (atB f (x::xs) (y::ys) ∘ Nat.succ))=(List.range (min xs.length ys.length)).all (atB f xs ys):=by
   congr 1
  rw[e];have e0:atB f (x::xs) (y::ys) 0=f x y:=by unfold atB;simp
  rw[e0,Bool.and_assoc]
  congr 2
  simp
theorem JgP:∀ xs ys:List D,eqL xs ys=Jc2 eqD xs ys
 | [],[]=>by simp[eqL,Jc2]
 | [],_::_=>by simp[eqL,Jc2]
 | _::_,[]=>by simp[eqL,Jc2]
 | x::xs,y::ys=>by simp only[eqL,Jc2,JgP xs ys]
theorem JhA:∀{ds:List D}{d:D},d∈ds->depD d<=depL ds
 | [],_,h=>by simp at h
 | x::xs,d,h=>by
  simp only[depL];rcases mem_cons.mp h with rfl | h
  .show Nat.le_max_left ..
  .show Nat.le_trans (JhA h) (Nat.le_max_right ..)
def flatD:D->Bool
 | .tup _=>false
 | .lst _=>false
 | _=>true
def valD:D->V
 | .bl b=>.bl b
 | .int i=>.int i
 | .str x=>.str x
 | _=>.non
variable{d:D}
theorem JfL{K:W.Frag}(f:flatD d=true)(h:Rep K H d v):v=valD d:=by
 cases d <;> simp_all [flatD,Rep,valD]
theorem JhD(f:flatD d=true):flatV (valD d)=true:=by
 cases d <;> simp_all [flatD,valD,flatV]
theorem Jlt{e:D}(f:flatD d=true)(g:flatD e=true):eqV (valD d) (valD e)=eqD d e:=by
 cases d <;> cases e <;> simp_all [flatD,valD,eqV,eqD]
section
variable{s:Shared}
theorem in1_units(A:Around):A.in1.units=A.units+1:=rfl
def EqP(X:Cx)(H:Hp)(s:Shared)(n:Nat):Prop:=∀(d e:D)(A:Around)(x y:V)(u v:Value),depD d<=n->Rep X.K H d x->Rep X.K H e y->RelV x u->RelV y v->A.units+n<cLine->SeqAt.EqAt A s u v (eqD d e)
variable{n:Nat}
theorem JhH(ih:EqP X H s n){ds es:List D}{xs ys:List V}{its jts:List Value}(h3:RepL X.K H ds xs)(g3:RepL X.K H es ys)(vi:Vals xs its)(vj:Vals ys jts)(hds:depL ds<=n){A:Around}(hA:A.units+n<cLine) :
  ∀ j (p1:j<its.toArray.size) (p2:j<jts.toArray.size),SeqAt.EqAt A s its.toArray[j] jts.toArray[j] (atB eqD ds es j):=by
 intro j p1 p2;have d:its.length=ds.length:=by rw[h3.length,vi.length]
 have m:jts.length=es.length:=by rw[g3.length,vj.length]
 have a:j<ds.length:=by rw[<- d];simpa using p1
 have b:j<es.length:=by rw[<- m];simpa using p2
 let(v,r,l):=h3.get (List.getElem?_eq_getElem a);let(u,h,f):=g3.get (List.getElem?_eq_getElem b);let(g,t,k):=vi.get r;let(q,o,e):=vj.get h;have p:its.toArray[j]=g:=by
  have:=t;rw[List.getElem?_eq_getElem (by simpa using p1)]at this;simpa using this
 have c:jts.toArray[j]=q:=by
  have:=o;rw[List.getElem?_eq_getElem (by simpa using p2)]at this;simpa using this
 rw[p,c];have i:atB eqD ds es j=eqD ds[j] es[j]:=by
  unfold atB;rw[List.getElem?_eq_getElem a,List.getElem?_eq_getElem b]
 rw[i];show ih _ _ _ _ _ _ _ (Nat.le_trans (JhA (List.getElem_mem a)) hds) l f k e hA
theorem Jnr(I:Inv X pins σ H s){n:Nat}(ih:EqP X H s n){ds es:List D}{a b:Addr}{xs ys:List V}(h2:SqT X.K H a xs)(h3:RepL X.K H ds xs)(g2:SqT X.K H b ys)(g3:RepL X.K H es ys)(hds:depL ds<=n){A:Around}(hA:A.units+(n+1)<cLine) :
  SeqAt.RcAt A s (.ref a) (.ref b) (eqD (.tup ds) (.tup es))/\SeqAt.RcNeAt A s (.ref a) (.ref b) (!eqD (.tup ds) (.tup es)):=by
 let(c,e,f,_):=I.tuple h2;let(d,h,g,_):=I.tuple g2;have k:c.length=ds.length:=by rw[h3.length,e.length]
 have j:d.length=es.length:=by rw[g3.length,h.length]
 have i:=JhH ih h3 g3 e h hds (A:=A.in1) (by rw[in1_units];ac_nf);have l:eqD (.tup ds) (.tup es)=((List.range (min c.toArray.size d.toArray.size)).all (atB eqD ds es)&&c.toArray.size == d.toArray.size):=by
  simp only[eqD,JgP];rw[<- Jc3];simp only[size_toArray,k,j]
 rw[l];show(SeqAt.RcAt.tuples f g ∅ i,SeqAt.RcNeAt.tuples f g ∅ i)
theorem JmQ(I:Inv X pins σ H s){n:Nat}(ih:EqP X H s n){ds es:List D}{a b:Addr}{xs ys:List V}(h2:SqL X.K H a xs)(h3:RepL X.K H ds xs)(g2:SqL X.K H b ys)(g3:RepL X.K H es ys)(hds:depL ds<=n){A:Around}(hA:A.units+(n+1)<cLine) :
  SeqAt.RcAt A s (.ref a) (.ref b) (eqD (.lst ds) (.lst es))/\SeqAt.RcNeAt A s (.ref a) (.ref b) (!eqD (.lst ds) (.lst es)):=by
 let(e,k,g,_):=I.list h2;let(j,l,h,_):=I.list g2;have d:e.length=ds.length:=by rw[h3.length,k.length]
 have f:j.length=es.length:=by rw[g3.length,l.length]
 have m:=JhH ih h3 g3 k l hds (A:=A.in1) (by rw[in1_units];ac_nf);by_cases c:ds.length=es.length
 .have i:eqD (.lst ds) (.lst es)=(List.range e.toArray.size).all (atB eqD ds es):=by
   simp only[eqD,JgP];rw[<- Jc3];simp[d,c]
  rw[i];show(SeqAt.RcAt.lists g.isList h.isList (by simp[d,f,c]) ∅ m,SeqAt.RcNeAt.lists g.isList h.isList (by simp[d,f,c]) ∅ m)
 .have i:eqD (.lst ds) (.lst es)=false:=by
   cases q:eqD (.lst ds) (.lst es)with
   | false=>rfl
   | true=>simp only[eqD]at q;show absurd (Je7 q) c
  rw[i];show(SeqAt.RcAt.lists_lengths g.isList h.isList (by simp[d,f,c]) ∅,SeqAt.RcNeAt.lists_lengths g.isList h.isList (by simp[d,f,c]) ∅)
theorem Jdd{K:W.Frag}{x:V}(h:Rep K H d x):(flatD d=true/\x=valD d)\/(∃ ds a xs,d=.tup ds/\x=.ref a/\SqT K H a xs/\RepL K H ds xs)\/∃ ds a xs,d=.lst ds/\x=.ref a/\SqL K H a xs/\RepL K H ds xs:=by
 cases d with
 | tup ds=>simp only[Rep]at h;let(a,xs,e,b,c):=h;show .inr (.inl ⟨ds,a,xs,rfl,e,b,c⟩)
 | lst ds=>simp only[Rep]at h;let(a,xs,e,b,c):=h;show .inr (.inr ⟨ds,a,xs,rfl,e,b,c⟩)
 | _=>show .inl ⟨rfl,JfL rfl h⟩
theorem Jc7(I:Inv X pins σ H s){d e:D}{x y:V}{u v:Value}(hd:Rep X.K H d x)(he:Rep X.K H e y)(ru:RelV x u)(rv:RelV y v)(m:flatD d=!flatD e){A:Around}(hA:A.units<cLine) :
  eqD d e=false/\SeqAt.EqAt A s u v false/\SeqAt.RcAt A s u v false/\SeqAt.RcNeAt A s u v true:=by
 rcases Jdd hd with⟨fd,rfl⟩ | ⟨ds,a,xs,rfl,rfl,h2,h3⟩ | ⟨ds,a,xs,rfl,rfl,h2,h3⟩
 .rcases Jdd he with⟨fe,rfl⟩ | ⟨es,b,ys,rfl,rfl,g2,g3⟩ | ⟨es,b,ys,rfl,rfl,g2,g3⟩
  .rw[fd,fe]at m;cases m
  .obtain rfl:v=Value.ref b:=rv;let(f,g,c,_):=I.tuple g2;show(by cases d <;> simp[eqD,flatD]at fd ⊢,?_);cases d <;> simp only[valD,RelV]at ru <;> first | (simp[flatD]at fd;done) | skip
   .subst ru;show(SeqAt.EqAt.none_tuple c hA,SeqAt.RcAt.none_tuple c hA,SeqAt.RcNeAt.none_tuple c hA)
   .subst ru;show(SeqAt.EqAt.bool_tuple _ c hA,SeqAt.RcAt.bool_tuple _ c hA,SeqAt.RcNeAt.bool_tuple _ c hA)
   .let(t,rfl):=ru;show(SeqAt.EqAt.int_tuple _ _ c hA,SeqAt.RcAt.int_tuple _ _ c hA,SeqAt.RcNeAt.int_tuple _ _ c hA)
   .let(t,rfl):=ru;show(SeqAt.EqAt.str_tuple _ _ c hA,SeqAt.RcAt.str_tuple _ _ c hA,SeqAt.RcNeAt.str_tuple _ _ c hA)
  .obtain rfl:v=Value.ref b:=rv;let(f,g,c,_):=I.list g2;have c:=c.isList;show(by cases d <;> simp[eqD,flatD]at fd ⊢,?_);cases d <;> simp only[valD,RelV]at ru <;> first | (simp[flatD]at fd;done) | skip
   .subst ru;show(SeqAt.EqAt.none_list c hA,SeqAt.RcAt.none_list c hA,SeqAt.RcNeAt.none_list c hA)
   .subst ru;show(SeqAt.EqAt.bool_list _ c hA,SeqAt.RcAt.bool_list _ c hA,SeqAt.RcNeAt.bool_list _ c hA)
   .let(t,rfl):=ru;show(SeqAt.EqAt.int_list _ _ c hA,SeqAt.RcAt.int_list _ _ c hA,SeqAt.RcNeAt.int_list _ _ c hA)
   .let(t,rfl):=ru;show(SeqAt.EqAt.str_list _ _ c hA,SeqAt.RcAt.str_list _ _ c hA,SeqAt.RcNeAt.str_list _ _ c hA)
 .rcases Jdd he with⟨fe,rfl⟩ | ⟨es,b,ys,rfl,rfl,g2,g3⟩ | ⟨es,b,ys,rfl,rfl,g2,g3⟩
  .obtain rfl:u=Value.ref a:=ru;let(f,g,c,_):=I.tuple h2;show(by cases e <;> simp[eqD,flatD]at fe ⊢,?_);cases e <;> simp only[valD,RelV]at rv <;> first | (simp[flatD]at fe;done) | skip
   .subst rv;show(SeqAt.EqAt.tuple_none c hA,SeqAt.RcAt.tuple_none c hA,SeqAt.RcNeAt.tuple_none c hA)
   .subst rv;show(SeqAt.EqAt.tuple_bool _ c hA,SeqAt.RcAt.tuple_bool _ c hA,SeqAt.RcNeAt.tuple_bool _ c hA)
   .let(t,rfl):=rv;show(SeqAt.EqAt.tuple_int _ _ c hA,SeqAt.RcAt.tuple_int _ _ c hA,SeqAt.RcNeAt.tuple_int _ _ c hA)
   .let(t,rfl):=rv;show(SeqAt.EqAt.tuple_str _ _ c hA,SeqAt.RcAt.tuple_str _ _ c hA,SeqAt.RcNeAt.tuple_str _ _ c hA)
  .simp[flatD]at m
  .simp[flatD]at m
 .rcases Jdd he with⟨fe,rfl⟩ | ⟨es,b,ys,rfl,rfl,g2,g3⟩ | ⟨es,b,ys,rfl,rfl,g2,g3⟩
  .obtain rfl:u=Value.ref a:=ru;let(f,g,c,_):=I.list h2;have c:=c.isList;show(by cases e <;> simp[eqD,flatD]at fe ⊢,?_);cases e <;> simp only[valD,RelV]at rv <;> first | (simp[flatD]at fe;done) | skip
   .subst rv;show(SeqAt.EqAt.list_none c hA,SeqAt.RcAt.list_none c hA,SeqAt.RcNeAt.list_none c hA)
   .subst rv;show(SeqAt.EqAt.list_bool _ c hA,SeqAt.RcAt.list_bool _ c hA,SeqAt.RcNeAt.list_bool _ c hA)
   .let(t,rfl):=rv;show(SeqAt.EqAt.list_int _ _ c hA,SeqAt.RcAt.list_int _ _ c hA,SeqAt.RcNeAt.list_int _ _ c hA)
   .let(t,rfl):=rv;show(SeqAt.EqAt.list_str _ _ c hA,SeqAt.RcAt.list_str _ _ c hA,SeqAt.RcNeAt.list_str _ _ c hA)
  .simp[flatD]at m
  .simp[flatD]at m
theorem seq_eq(I:Inv X pins σ H s){n:Nat}(ih:EqP X H s n){d e:D}{x y:V}{u v:Value}(hn:depD d<=n+1)(hd:Rep X.K H d x)(he:Rep X.K H e y)(ru:RelV x u)(rv:RelV y v)(fd:flatD d=false)(fe:flatD e=false){A:Around}(hA:A.units+(n+1)<cLine) :
  SeqAt.EqAt A s u v (eqD d e)/\SeqAt.RcAt A s u v (eqD d e)/\SeqAt.RcNeAt A s u v (!eqD d e):=by
 have k:=hd;have j:=he;rcases Jdd hd with⟨f,_⟩ | ⟨ds,a,xs,rfl,rfl,h2,h3⟩ | ⟨ds,a,xs,rfl,rfl,h2,h3⟩
 .rw[f]at fd;cases fd
 .obtain rfl:u=Value.ref a:=ru;have g:depL ds<=n:=by simp only[depD]at hn;ac_nf
  rcases Jdd he with⟨f,_⟩ | ⟨es,b,ys,rfl,rfl,g2,g3⟩ | ⟨es,b,ys,rfl,rfl,g2,g3⟩
  .rw[f]at fe;cases fe
  .obtain rfl:v=Value.ref b:=rv;have R:=Jnr I ih h2 h3 g2 g3 g hA;show(?_,R.1,R.2);by_cases c:a=b
   .subst c;rw[I.rep_inj k j,Jcf];show SeqAt.EqAt.same _
   .show SeqAt.EqAt.of_refs c R.1
  .obtain rfl:v=Value.ref b:=rv;let(l,_,h,_):=I.tuple h2;let(m,_,i,_):=I.list g2;show(SeqAt.EqAt.tuple_list h i.isList ∅,SeqAt.RcAt.tuple_list h i.isList ∅,SeqAt.RcNeAt.tuple_list h i.isList ∅)
 .obtain rfl:u=Value.ref a:=ru;have g:depL ds<=n:=by simp only[depD]at hn;ac_nf
  rcases Jdd he with⟨f,_⟩ | ⟨es,b,ys,rfl,rfl,g2,g3⟩ | ⟨es,b,ys,rfl,rfl,g2,g3⟩
  .rw[f]at fe;cases fe
  .obtain rfl:v=Value.ref b:=rv;let(l,_,h,_):=I.list h2;let(m,_,i,_):=I.tuple g2;show(SeqAt.EqAt.list_tuple h.isList i ∅,SeqAt.RcAt.list_tuple h.isList i ∅,SeqAt.RcNeAt.list_tuple h.isList i ∅)
  .obtain rfl:v=Value.ref b:=rv;have R:=JmQ I ih h2 h3 g2 g3 g hA;show(?_,R.1,R.2);by_cases c:a=b
   .subst c;rw[I.rep_inj k j,Jcf];show SeqAt.EqAt.same _
   .show SeqAt.EqAt.of_refs c R.1
theorem Inv.eqP(I:Inv X pins σ H s):∀ n,EqP X H s n
 | 0=>λd e A x y u v hn hd he ru rv hA=>by
  have fd:flatD d=true:=by
   cases d <;> simp[depD,flatD]at hn ⊢
  cases fe:flatD e with
  | true=>
   have ex:=JfL fd hd;have ey:=JfL fe he;subst ex ey;rw[<- Jlt fd fe];show JkP ru rv (JhD fd) (JhD fe)
  | false=>
   let(e1,e2,_):=Jc7 I hd he ru rv (by rw[fd,fe];rfl) (A:=A) ∅;rw[e1];show e2
 | n+1=>λd e A x y u v hn hd he ru rv hA=>by
  cases fd:flatD d with
  | true=>
   have h0:depD d<=n:=by cases d <;> simp[depD,flatD]at fd ⊢
   show Inv.eqP I n d e A x y u v h0 hd he ru rv ∅
  | false=>
   cases fe:flatD e with
   | true=>
    let(e1,e2,_):=Jc7 I hd he ru rv (by rw[fd,fe];rfl) (A:=A) ∅;rw[e1];show e2
   | false=>show(seq_eq I (Inv.eqP I n) hn hd he ru rv fd fe hA).1
def rEqU(K:W.Frag):R2:=λx y H Q=>match x,y with
 | .int i, .int j=>Q (.bl (decide (i=j))) H
 | .str i, .str j=>Q (.bl (decide (i=j))) H
 | .bl i, .bl j=>Q (.bl (decide (i=j))) H
 | .non, .non=>Q (.bl true) H
 | x,y=>∃ d e,Rep K H d x/\Rep K H e y/\depD d<=50/\(flatD d&&flatD e)=false/\Q (.bl (eqD d e)) H
def rNeU(K:W.Frag):R2:=λx y H Q=>match x,y with
 | .int i, .int j=>Q (.bl (!decide (i=j))) H
 | .str i, .str j=>Q (.bl (!decide (i=j))) H
 | .bl i, .bl j=>Q (.bl (!decide (i=j))) H
 | .non, .non=>Q (.bl false) H
 | x,y=>∃ d e,Rep K H d x/\Rep K H e y/\depD d<=50/\(flatD d&&flatD e)=false/\Q (.bl (!eqD d e)) H
theorem JcR(hu:X.A.units+64<cLine):OpR X (compareOp .Eq) (rEqU X.K):=λa s σ H x y v u Q I b c q=>by
 unfold rEqU at q;split at q
 .rename_i i j;show op_eq a s σ H _ _ v u Q I b c ⟨rfl,by rw[show decide (V.int i=V.int j)=decide (i=j)from by simp];show q⟩
 .rename_i i j;show op_eq a s σ H _ _ v u Q I b c ⟨rfl,by rw[show decide (V.str i=V.str j)=decide (i=j)from by simp];show q⟩
 .rename_i i j;show op_eq a s σ H _ _ v u Q I b c ⟨rfl,by rw[show decide (V.bl i=V.bl j)=decide (i=j)from by simp];show q⟩
 .show op_eq a s σ H _ _ v u Q I b c ⟨rfl,by simpa using q⟩
 .let(d,e,f,g,m,l,q):=q;show wpAny (model X.prog X.w) X.A (richCompare .Eq v u) (EP X a σ Q) X.xe s;cases fd:flatD d with
  | true=>
   cases fe:flatD e with
   | true=>rw[fd,fe]at l;cases l
   | false=>
    let(k,_,h,_):=Jc7 I f g b c (by rw[fd,fe];rfl) (A:=X.A) ∅;rw[k]at q;show h _ _ _ _ ⟨V.bl _,H,I,rfl,q⟩
  | false=>
   cases fe:flatD e with
   | true=>
    let(k,_,h,_):=Jc7 I f g b c (by rw[fd,fe];rfl) (A:=X.A) ∅;rw[k]at q;show h _ _ _ _ ⟨V.bl _,H,I,rfl,q⟩
   | false=>show(seq_eq I (I.eqP 49) m f g b c fd fe ∅).2.1 _ _ _ _ ⟨V.bl _,H,I,rfl,q⟩
theorem Jbr(hu:X.A.units+64<cLine):OpR X (compareOp .NotEq) (rNeU X.K):=λa s σ H x y v u Q I b c q=>by
 unfold rNeU at q;split at q
 .rename_i i j;show op_ne a s σ H _ _ v u Q I b c ⟨rfl,by rw[show decide (V.int i=V.int j)=decide (i=j)from by simp];show q⟩
 .rename_i i j;show op_ne a s σ H _ _ v u Q I b c ⟨rfl,by rw[show decide (V.str i=V.str j)=decide (i=j)from by simp];show q⟩
 .rename_i i j;show op_ne a s σ H _ _ v u Q I b c ⟨rfl,by rw[show decide (V.bl i=V.bl j)=decide (i=j)from by simp];show q⟩
 .show op_ne a s σ H _ _ v u Q I b c ⟨rfl,by simpa using q⟩
 .let(d,e,f,g,m,l,q):=q;show wpAny (model X.prog X.w) X.A (richCompare .NotEq v u) (EP X a σ Q) X.xe s;cases fd:flatD d with
  | true=>
   cases fe:flatD e with
   | true=>rw[fd,fe]at l;cases l
   | false=>
    let(k,_,_,h):=Jc7 I f g b c (by rw[fd,fe];rfl) (A:=X.A) ∅;rw[k]at q;show h _ _ _ _ ⟨V.bl _,H,I,rfl,q⟩
  | false=>
   cases fe:flatD e with
   | true=>
    let(k,_,_,h):=Jc7 I f g b c (by rw[fd,fe];rfl) (A:=X.A) ∅;rw[k]at q;show h _ _ _ _ ⟨V.bl _,H,I,rfl,q⟩
   | false=>show(seq_eq I (I.eqP 49) m f g b c fd fe ∅).2.2 _ _ _ _ ⟨V.bl _,H,I,rfl,q⟩
end
def DivOk(j:Int):Prop:=j≠0/\j.natAbs.log2<9000
def rAddU(K:W.Frag):R2:=λx y H Q=>match x,y with
 | .int i, .int j=>Q (.int (i+j)) H
 | .str i, .str j=>i.length+j.length<=sizeLine/\Q (.str (i++j)) H
 | .ref a, .ref b=>rCat (.ref a) (.ref b) H Q\/rCatT K (.ref a) (.ref b) H Q
 | _,_=>False
theorem JaQ:OpR X (binaryOp .Add) (rAddU X.K):=λa s σ H x y v u Q I b c q=>by
 unfold rAddU at q;split at q
 .show JmX a s σ H _ _ v u Q I b c ⟨_,_,rfl,rfl,q⟩
 .show Jij a s σ H _ _ v u Q I b c ⟨_,_,rfl,rfl,q.1,q.2⟩
 .rcases q with q | q
  .show JmY a s σ H _ _ v u Q I b c q
  .show JlQ a s σ H _ _ v u Q I b c q
 .show q.elim
def rMulU:R2:=λx y H Q=>match x,y with
 | .int i, .int j=>IntMulOk i j/\Q (.int (i*j)) H
 | _,_=>False
theorem JlS:OpR X (binaryOp .Mult) (rI IntMulOk λi j=>.int (i*j)):=opI λ_ _ _ _ _ _ _ a q=>mul_int q a
theorem JlT:OpR X (binaryOp .Mult) rMulU:=λa s σ H x y v u Q I b c q=>by
 unfold rMulU at q;split at q
 .show JlS a s σ H _ _ v u Q I b c ⟨_,_,rfl,rfl,q.1,q.2⟩
 .show q.elim
def Jjp:R2:=λx y H Q=>match x,y with
 | .int i, .int j=>DivOk j/\Q (.int (i.fdiv j)) H
 | _,_=>False
theorem Jkj:OpR X (binaryOp .FloorDiv) (rI (λ_ j=>DivOk j) λi j=>.int (i.fdiv j)):=opI λ_ _ _ _ _ _ _ a q=>floordiv_int a.1 q (.inl (PyProof.noPylong_of_log2 a.2))
theorem Jas:OpR X (binaryOp .FloorDiv) Jjp:=λa s σ H x y v u Q I b c q=>by
 unfold Jjp at q;split at q
 .show Jkj a s σ H _ _ v u Q I b c ⟨_,_,rfl,rfl,q.1,q.2⟩
 .show q.elim
def rModU:R2:=λx y H Q=>match x,y with
 | .int i, .int j=>j≠0/\Q (.int (i.fmod j)) H
 | _,_=>False
theorem JaB:OpR X (binaryOp .Mod) rModU:=λa s σ H x y v u Q I b c q=>by
 unfold rModU at q;split at q
 .show JlR a s σ H _ _ v u Q I b c ⟨_,_,rfl,rfl,q.1,q.2⟩
 .show q.elim
def rPowU:R2:=λx y H Q=>match x,y with
 | .int i, .int j=>CPow i j/\Q (.int (i ^ j.toNat)) H
 | _,_=>False
theorem JlV:OpR X (binaryOp .Pow) rPowU:=λa s σ H x y v u Q I b c q=>by
 unfold rPowU at q;split at q
 .show Jm3 a s σ H _ _ v u Q I b c ⟨_,_,rfl,rfl,q.1,q.2⟩
 .show q.elim
def rCmpU(p:Int->Int->Bool):R2:=λx y H Q=>match x,y with
 | .int i, .int j=>Q (.bl (p i j)) H
 | _,_=>False
theorem Jg8{op:CmpOp}{p:Int->Int->Bool}(h:OpR X (compareOp op) (rI0 λi j=>.bl (p i j))):OpR X (compareOp op) (rCmpU p):=λa s σ H x y v u Q I b c q=>by
 unfold rCmpU at q;split at q
 .show h a s σ H _ _ v u Q I b c ⟨_,_,rfl,rfl,q⟩
 .show q.elim
theorem Jgs:OpR X (compareOp .Lt) (rCmpU λi j=>decide (i<j)):=Jg8 op_lt
theorem JhM:OpR X (compareOp .Gt) (rCmpU λi j=>decide (j<i)):=Jg8 op_gt
theorem JkX:OpR X (compareOp .GtE) (rCmpU λi j=>decide (j<=i)):=Jg8 op_ge
def SqA(K:W.Frag)(H:Hp)(a:Addr)(xs:List V):Prop:=SqL K H a xs\/SqT K H a xs
def rIxU(K:W.Frag):R2:=λx y H Q=>match x,y with
 | .ref p, .int i=>∃ xs v,SqA K H p xs/\atI xs i=some v/\Q v H
 | .str z, .int i=>∃ c,z.length<=sizeLine/\atI z.cps.toList i=some c/\Q (.str ⟨#[c]⟩) H
 | _,_=>False
theorem ix_U:IxR X (rIxU X.K):=λa b d s σ H x y v u Q I g i q f=>by
 unfold rIxU at q;split at q
 .obtain⟨l,w,h | h,e,q⟩:=q
  .show Jlz a b d s σ H _ _ v u Q I g i ⟨_,_,_,_,rfl,rfl,h,e,q⟩ f
  .show JmI a b d s σ H _ _ v u Q I g i ⟨_,_,_,_,rfl,rfl,h,e,q⟩ f
 .let(c,j,k,q):=q;show JmH a b d s σ H _ _ v u Q I g i ⟨_,_,_,rfl,rfl,j,k,q⟩ f
 .show q.elim
def rLen(K:W.Frag):List V->Hp->VK->Prop:=λxs H Q=>match xs with
 | [.ref p]=>∃ ys,SqA K H p ys/\Q (.int ys.length) H
 | [.str z]=>z.length<=sizeLine/\Q (.int z.length) H
 | _=>False
theorem Ja4:CallR X (.builtin "len") (rLen X.K):=λa s σ H c b Q I r q=>by
 unfold rLen at q;split at q
 .let(d,h,q):=q;show Jf9 a s σ H _ b Q I r ⟨_,_,rfl,h,q⟩
 .show Jga a s σ H _ b Q I r ⟨_,rfl,q.1,q.2⟩
 .show q.elim
def rAbs:List V->Hp->VK->Prop:=λxs H Q=>match xs with
 | [.int i]=>Q (.int (if i<0 then -i else i)) H
 | _=>False
theorem Jdn:CallR X (.builtin "abs") rAbs:=λa s σ H c b Q I r q=>by
 unfold rAbs at q;split at q
 .show Jj3 a s σ H _ b Q I r ⟨_,rfl,q⟩
 .show q.elim
def rMin:List V->Hp->VK->Prop:=λxs H Q=>match xs with
 | [.int i, .int j]=>Q (.int (if j<i then j else i)) H
 | _=>False
theorem Jiz(hc:X.calm=true):CallR X (.builtin "min") rMin:=λa s σ H c b Q I r q=>by
 unfold rMin at q;split at q
 .show Jiy hc a s σ H _ b Q I r ⟨_,_,rfl,q⟩
 .show q.elim
def rSlU(K:W.Frag):V->Option Int->Option Int->Hp->VK->Prop:=λx lo hi H Q=>rSlL K x lo hi H Q\/rSlT K x lo hi H Q
theorem sl_U:SlR X (rSlU X.K):=SlR.or Jmi Jnl
def isiB(t T:String):Bool:=t == T||(t == "bool"&&T == "int")
def tyN(K:W.Frag)(H:Hp)(x:V)(t:String):Prop:=match x with
 | .int _=>t="int"
 | .str _=>t="str"
 | .bl _=>t="bool"
 | .non=>t="NoneType"
 | .ref a=>(t="list"/\∃ xs,SqL K H a xs)\/(t="tuple"/\∃ xs,SqT K H a xs)
 | _=>False
theorem kit_b(K:W.Frag){t T:String}(ht:t∈["int","str","bool","NoneType","list","tuple"])(hT:T∈["int","str","bool","list","tuple"]):W.kitOne K (.type t) (.type T)=some (isiB t T):=by
 simp only[mem_cons,not_mem_nil,or_false]at ht hT;rcases ht with rfl | rfl | rfl | rfl | rfl | rfl <;> rcases hT with rfl | rfl | rfl | rfl | rfl <;> with_unfolding_all rfl
def rIsi(K:W.Frag):List V->Hp->VK->Prop:=λxs H Q=>match xs with
 | [x, .ty T]=>T∈["int","str","bool","list","tuple"]/\∃ t,tyN K H x t/\Q (.bl (isiB t T)) H
 | _=>False
theorem JaZ:CallR X (.builtin "isinstance") (rIsi X.K):=λf s σ H v n Q I r q=>by
 unfold rIsi at q;split at q
 .rename_i x T;let(e,t,d,q):=q;let(u,c,rfl,g,m):=vals2 r;obtain rfl:c=Value.type T:=m;have b:∀ j,EP X f σ Q (.bool (isiB t T)) { s with toks:=j }:=λj=>⟨V.bl _,H,I.tok j,rfl,q⟩;unfold tyN at d;split at d
  .subst d;let(_,rfl):=g;show W.kia_one W.kitx_int I.kIn True.intro (kit_b _ ⋯ e) (λz=>nomatch z) b
  .subst d;let(_,rfl):=g;show W.kia_one W.kitx_str I.kIn True.intro (kit_b _ ⋯ e) (λz=>nomatch z) b
  .subst d;cases(show u=Value.bool _ from g);show W.kia_one W.kitx_bool I.kIn True.intro (kit_b _ ⋯ e) (λz=>nomatch z) b
  .subst d;cases(show u=Value.none from g);show W.kia_one W.kitx_none I.kIn True.intro (kit_b _ ⋯ e) (λz=>nomatch z) b
  .rename_i a;cases(show u=Value.ref a from g);rcases d with⟨rfl,ys,h⟩ | ⟨rfl,ys,h⟩
   .let(l,_,p,_):=I.list h;let(o,_,i,k,_):=p;show W.kia_one W.kitx_list I.kIn ⟨o,i,k⟩ (kit_b _ ⋯ e) (λz=>nomatch z) b
   .let(l,_,p,_):=I.tuple h;let(o,i,k,_):=p;show W.kia_one W.kitx_tuple I.kIn ⟨o,i,k⟩ (kit_b _ ⋯ e) (λz=>nomatch z) b
  .show d.elim
 .show q.elim
variable{tg:Expr}
def iAny(K:W.Frag)(tl:TE):TI:=λσ H R=>tl σ H λx H1=>∃ a,x=.ref a/\(((∃ xs,SqL K H1 a xs)/\R (Itl K a) H1)\/((∃ xs,SqT K H1 a xs)/\R (Itt K a) H1))
theorem pi_U{l:Expr}{tl:TE}(hl:PE X l tl):PI X tg l (iAny X.K tl):=λd s σ H R I h=>by
 show thn (hl d s σ H _ I h) λv c ζ=>?_;let(x,i,I1,n,a,j,q):=ζ;subst j;cases n;rcases q with⟨⟨xs,hq⟩,q⟩ | ⟨⟨xs,hq⟩,q⟩
 .let(f,k,p,m):=I1.list hq;show wpAny_pyIter_list p.isList ?_;show(c.heap.objs.size,[c.heap.objs.size],_,_,i,rfl,I1.kept (t':=c.toks) λb o e=>Heap.get?_push_of_some _ e,JjS a _,⟨_,Heap.get?_push_size _ rfl,rfl,rfl⟩,λb g=>?_,q);have e:b=c.heap.objs.size:=by simpa using g
  subst e;show I1.fpOk (Nat.le_refl _) (I1.hok.fresh (Nat.le_refl _))
 .let(f,k,p,m):=I1.tuple hq;show wpAny_pyIter_tuple (show c.heap.IsTuple a f.toArray from p) ?_;show(c.heap.objs.size,[c.heap.objs.size],_,_,i,rfl,I1.kept (t':=c.toks) λb o e=>Heap.get?_push_of_some _ e,Jit a _,⟨_,Heap.get?_push_size _ rfl,rfl,rfl⟩,λb g=>?_,q);have e:b=c.heap.objs.size:=by simpa using g
  subst e;show I1.fpOk (Nat.le_refl _) (I1.hok.fresh (Nat.le_refl _))
structure FunD(K:W.Frag)(x qual:Str)(st:Stmt)(dV:Value)(f:Addr)(fd:FuncData):Prop where
 ex:∃(oc:Value)(od:Option Addr)(kV doc pm:Value)(an:Option Addr)(cdv ct:Value)(osl:Array (Option Value)),
  fd=W.fnOf x qual (Jam st) (Jal st) (Jaf st) dV kV doc pm an cdv ct/\K.lookup f=some ⟨oc,od, .func fd,osl⟩/\W.codeIn K cdv qual=true
 kp:W.keepIn K (.ref f)=true
section
variable{mg:Str->Option Value}{base:Heap}{w:World}{K:W.Frag}{x qual:Str}{st:Stmt}{dV:Value}{fd:FuncData}{N ps:List Str}{sp:Sp}
theorem FunD.okn{f:Addr}{k:Nat}(F:FunD K x qual st dV f fd)(S:Jan N ps (Jaf st))(len:∀ vs H Q E,sp vs H Q E->vs.length=ps.length)
  (hbody:∀(cdv:Value)(A:Around)(outer:List Env)(s:Shared)(H:Hp)(vs:List V)(Q:VK)(E:XK),Room k (A.deeper (envOfC qual (Jaf st) s.heap.objs.size f cdv))->sp vs H Q E ->
   ∃ t,PSs (cxOf (CX1 P w) P w K mg base N qual (Jaf st) f cdv A outer s H E).nox (Jal st) t/\t { nx:=λ_ H'=>Q .non H',rt:=Q } (start N vs) H):FnOk P w K mg base (CX1 P w) (k+1) f fd ps sp:=by
 let(n,m,kV,d,j,l,cdv,i,g,rfl,e,a):=F.ex;show fn_of e a S len λA outer s H vs Q E c b=>?_;let(t,h,q):=hbody cdv A outer s H vs Q E c b;show(t,h.nox,q)
theorem FunD.okx{f:Addr}{k:Nat}(F:FunD K x qual st dV f fd)(S:Jan N ps (Jaf st))(len:∀ vs H Q E,sp vs H Q E->vs.length=ps.length)
  (hbody:∀(cdv:Value)(A:Around)(outer:List Env)(s:Shared)(H:Hp)(vs:List V)(Q:VK)(E:XK),Room k (A.deeper (envOfC qual (Jaf st) s.heap.objs.size f cdv))->sp vs H Q E ->
   ∃ t,PSs (cxOf (CX1 P w) P w K mg base N qual (Jaf st) f cdv A outer s H E) (Jal st) t/\t { nx:=λ_ H'=>Q .non H',rt:=Q } (start N vs) H):FnOk P w K mg base (CX1 P w) (k+1) f fd ps sp:=by
 let(m,l,kV,d,i,j,cdv,h,g,rfl,e,a):=F.ex;show fn_of e a S len λA outer s H vs Q E c b=>hbody cdv A outer s H vs Q E c b
theorem FunD.binds{f:Addr}(F:FunD K x qual st dV f fd)
  (h:∀(kV doc pm:Value)(an:Option Addr)(cdv ct:Value)(us:List Value),us.length=ps.length->bindArgs (W.fnOf x qual (Jam st) (Jal st) (Jaf st) dV kV doc pm an cdv ct) ⟨us,[]⟩=pure (ps.zip us)):Binds K fd ps []:=by
 let(d,c,kV,doc,pm,an,cdv,ct,b,rfl,e,a):=F.ex;show .all (h kV doc pm an cdv ct)
theorem FunD.bindsD{T:Addr}{f:Addr}{o:Obj}{items:Array Value}{n:Nat}(F:FunD K x qual st (.ref T) f fd)(hT:K.lookup T=some o)(hs:o.data=.seq items n)(ds:List Value)
  (h:∀(kV doc pm:Value)(an:Option Addr)(cdv ct:Value)(us:List Value),(us++ds).length=ps.length->∃ k,bindArgs (W.fnOf x qual (Jam st) (Jal st) (Jaf st) (.ref T) kV doc pm an cdv ct) ⟨us,[]⟩=seqItems? (.ref T) >>= k/\k (some items)=pure (ps.zip (us++ds))):Binds K fd ps ds:=by
 let(i,g,kV,doc,pm,an,cdv,ct,d,rfl,j,a):=F.ex;intro s us X c;let(k,e,b):=h kV doc pm an cdv ct us c;show BindsTo.of_defaults (T:=T) rfl (X _ _ hT) hs e b
theorem Jao{f:Addr}{oc:Value}{od an:Option Addr}{osl:Array (Option Value)}{kV doc pm cdv ct:Value}(l:K.lookup f=some ⟨oc,od, .func (W.fnOf x qual (Jam st) (Jal st) (Jaf st) dV kV doc pm an cdv ct),osl⟩)
  (c:W.codeIn K cdv qual=true) (k:W.keepIn K (.ref f)=true):FunD K x qual st dV f (W.fnOf x qual (Jam st) (Jal st) (Jaf st) dV kV doc pm an cdv ct):=⟨⟨oc,od,kV,doc,pm,an,cdv,ct,osl,rfl,l,c⟩,k⟩
end
structure Cal(P:Program)(w:World)(K:W.Frag)(mg:Str->Option Value)(base:Heap)(k:Nat)(x:Str)(ps:List Str)(dvs:List V)(sp:Sp):Prop where
 ex:∃(f:Addr)(fd:FuncData)(ds:List Value),FnOk P w K mg base (CX1 P w) k f fd ps sp/\mg x=some (.ref f)/\W.keepIn K (.ref f)=true/\Binds K fd ps ds/\Vals dvs ds
section
variable{k':Nat}{x:Str}{ps:List Str}{dvs:List V}{sp:Sp}{E:XK}{p:Pos}{e:Expr}{es:List Expr}{k:Nat}{t:TA}
theorem Cal.ev(G:Cal X.prog X.w X.K X.mg X.base k x ps dvs sp)(hr:Room k' X.A)(hk:k<=k')(hg:Gl X x)(hx:Jb4 (CX1 X.prog X.w) X E)(ha:PA X (e::es) t)
  (hdb:autoParam ((x == ("__debug__" : Str))=false) Au) (he:autoParam (starEach (e::es) X.env=(false,eval e X.env)::starEach es X.env) Au) (hpl:autoParam ((backTo pos (starEach es X.env)).any (·.1)=false) Au) :
  PE X (.Call (.Name x p) (e::es) [] pos) (tCall sp dvs E t):=by
 let(f,g,h,F,d,a,c,b):=G.ex;show JlX F (hr.mono hk) hg d a c b hx ha hdb he hpl
theorem Cal.tr(G:Cal X.prog X.w X.K X.mg X.base k x ps dvs sp)(hr:Room k' X.A)(hk:k<=k')(hg:Gl X x)(ha:PA X.nox (e::es) t)
  (hdb:autoParam ((x == ("__debug__" : Str))=false) Au) (he:autoParam (starEach (e::es) X.env=(false,eval e X.env)::starEach es X.env) Au) (hpl:autoParam ((backTo pos (starEach es X.env)).any (·.1)=false) Au) :
  PEx X (.Call (.Name x p) (e::es) [] pos) (xCall sp dvs t):=by
 let(f,g,h,F,d,a,c,b):=G.ex;show Jkp F (hr.mono hk) hg d a c b ha hdb he hpl
end
end L2
namespace Mth
def g(a b:Int):Int:=(Int.gcd a b:Nat)
theorem JkU(a:Int):g a 0=(a.natAbs:Int):=by unfold g;rw[Int.gcd_zero_right]
theorem g_pos{a b:Int}(h:b≠0):0<g a b:=by
 unfold g;show Int.natCast_pos.mpr (Int.gcd_pos_of_ne_zero_right a h)
theorem JcP(a b:Int):g a b∣a:=Int.gcd_dvd_left ..
theorem JbY(a b:Int):g a b∣b:=Int.gcd_dvd_right ..
theorem JmF(a b:Int):g b (a % b)=g a b:=by
 unfold g;rw[Int.gcd_comm b (a % b)];first
  | rw[Int.gcd_emod_left]
  | (rw[Int.emod_def];simp[Int.gcd_comm])
theorem Bed(a b:Int):g (if a<0 then -a else a) (if b<0 then -b else b)=g a b:=by
 unfold g;split <;> split <;> simp[Int.neg_gcd,Int.gcd_neg]
theorem JkI(a:Int):0<=(if a<0 then -a else a):=by split <;> ac_nf
theorem g_le{a b:Int}(h:b≠0):g a b<=(b.natAbs:Int):=by
 unfold g;show Int.ofNat_le.mpr (Nat.le_of_dvd ∅ (Int.natAbs_dvd_natAbs.mpr (by simpa using Int.gcd_dvd_right (a:=a) (b:=b)) |> λz=>by simpa using z))
theorem fm{x y:Int}(h:0<y):0<=x.fmod y/\x.fmod y<y:=by
 rw[Int.fmod_eq_emod_of_nonneg _ ∅];show(Int.emod_nonneg _ ∅,Int.emod_lt_of_pos _ h)
theorem JiQ{x y:Int}(h:0<y):g y (x.fmod y)=g x y:=by
 rw[Int.fmod_eq_emod_of_nonneg _ ∅];show JmF x y
def by_(t b:Int):Int:=if b<0 then -(g t b)else g t b
def top(t b:Int):Int:=t.fdiv (by_ t b)
def bot(t b:Int):Int:=b.fdiv (by_ t b)
theorem by_ne{t b:Int}(h:b≠0):by_ t b≠0:=by
 have:=g_pos (a:=t) h;unfold by_;split <;> ac_nf
theorem Jlo(t b:Int):by_ t b∣t:=by
 unfold by_;split
 .show Int.neg_dvd.mpr (JcP t b)
 .show JcP t b
theorem Jlp(t b:Int):by_ t b∣b:=by
 unfold by_;split
 .show Int.neg_dvd.mpr (JbY t b)
 .show JbY t b
theorem JaO{a d:Int}(h:d∣a)(hd:d≠0):a.fdiv d*d=a:=by
 let(k,rfl):=h;rw[Int.mul_comm d k,Int.mul_fdiv_cancel _ hd]
theorem JeP{t b:Int}(h:b≠0):top t b*by_ t b=t:=JaO (Jlo t b) (by_ne h)
theorem Jec{t b:Int}(h:b≠0):bot t b*by_ t b=b:=JaO (Jlp t b) (by_ne h)
theorem JcS{t b:Int}(h:b≠0):1<=bot t b:=by
 have c:=Jec (t:=t) h;have d:=g_pos (a:=t) h;by_cases f:b<0
 .have e:by_ t b = -(g t b):=by unfold by_;rw[if_pos f]
  rw[e]at c;have i:bot t b*g t b = -b:=by rw[Int.mul_neg]at c;ac_nf
  rcases Int.lt_trichotomy (bot t b) 0 with z | z | z
  .have:=Int.mul_neg_of_neg_of_pos z d;ac_nf
  .rw[z]at i;ac_nf
  .ac_nf
 .have e:by_ t b=g t b:=by unfold by_;rw[if_neg f]
  rw[e]at c;rcases Int.lt_trichotomy (bot t b) 0 with z | z | z
  .have:=Int.mul_neg_of_neg_of_pos z d;ac_nf
  .rw[z]at c;ac_nf
  .ac_nf
theorem cross{t b:Int}(h:b≠0):top t b*b=t*bot t b:=by
 have c:=JeP (t:=t) h;have a:=Jec (t:=t) h
 calc top t b*b=top t b*(bot t b*by_ t b):=by rw[a]
  _=(top t b*by_ t b)*bot t b:=by rw[Int.mul_comm (bot t b),Int.mul_assoc]
  _=t*bot t b:=by rw[c]
theorem Ji4(t b:Int):(by_ t b).natAbs=Int.gcd t b:=by
 unfold by_ g;split <;> simp
theorem g_low{t b:Int}(h:b≠0):g (top t b) (bot t b)=1:=by
 have a:0<Int.gcd t b:=Int.gcd_pos_of_ne_zero_right t h;have e:Int.gcd (top t b*by_ t b) (bot t b*by_ t b)=Int.gcd (top t b) (bot t b)*(by_ t b).natAbs:=Int.gcd_mul_right ..;rw[JeP h,Jec h,Ji4]at e;have : Int.gcd (top t b) (bot t b)=1:=by
  rcases Nat.lt_trichotomy (Int.gcd (top t b) (bot t b)) 1 with z | z | z
  .have : Int.gcd (top t b) (bot t b)=0:=by ac_nf
   rw[this]at e;ac_nf
  .show z
  .have:=Nat.mul_le_mul_right (Int.gcd t b) z;ac_nf
 unfold g;rw[this];rfl
theorem JdG{a b d:Int}(g1:Int.gcd a b=1)(h:b∣a*d):b∣d:=by
 have e:b.natAbs∣a.natAbs*d.natAbs:=by rw[<- Int.natAbs_mul];show Int.natAbs_dvd_natAbs.mpr h
 have c:Nat.Coprime b.natAbs a.natAbs:=by
  unfold Nat.Coprime;rw[Nat.gcd_comm];show g1
 show Int.natAbs_dvd_natAbs.mp (c.dvd_of_dvd_mul_left e)
theorem JdH{a b c d:Int}(hb:1<=b)(hd:1<=d)(h1:g a b=1)(h2:g c d=1)(e:a*d=c*b):a=c/\b=d:=by
 have h:Int.gcd a b=1:=by unfold g at h1;ac_nf
 have k:Int.gcd c d=1:=by unfold g at h2;ac_nf
 have i:b∣d:=by
  have : b∣a*d:=⟨c,by rw[e,Int.mul_comm]⟩;show JdG h this
 have f:d∣b:=by
  have : d∣c*b:=⟨a,by rw[<- e,Int.mul_comm]⟩;show JdG k this
 have j:b=d:=Int.dvd_antisymm ∅ ∅ i f;subst j;show(?_,rfl);show Int.eq_of_mul_eq_mul_right ∅ e
theorem Jnq{t b:Int}(h:b≠0):(top t b).natAbs<=t.natAbs:=by
 have c:=JeP (t:=t) h;have d:(by_ t b).natAbs≠0:=by have:=by_ne (t:=t) h;ac_nf
 have a:=congrArg Int.natAbs c;rw[Int.natAbs_mul]at a;rw[<- a];show Nat.le_mul_of_pos_right _ ∅
theorem bot_le{t b:Int}(h:b≠0):(bot t b).natAbs<=b.natAbs:=by
 have c:=Jec (t:=t) h;have d:(by_ t b).natAbs≠0:=by have:=by_ne (t:=t) h;ac_nf
 have a:=congrArg Int.natAbs c;rw[Int.natAbs_mul]at a
 calc (bot t b).natAbs<=(bot t b).natAbs*(by_ t b).natAbs:=Nat.le_mul_of_pos_right _ ∅
  _=b.natAbs:=a
theorem JkV{t b:Int}(h:b≠0):(if b<0 then -t else t).fdiv (g (if b<0 then -t else t) (if b<0 then -b else b))=top t b/\(if b<0 then -b else b).fdiv (g (if b<0 then -t else t) (if b<0 then -b else b))=bot t b:=by
 have i:=JeP (t:=t) h;have d:=Jec (t:=t) h;have j:=g_pos (a:=t) h;by_cases c:b<0
 .have e:by_ t b = -(g t b):=by unfold by_;rw[if_pos c]
  simp only[if_pos c];have f:g (-t) (-b)=g t b:=by unfold g;simp[Int.neg_gcd,Int.gcd_neg]
  rw[f];rw[e,Int.mul_neg]at i d;constructor
  .have : -t=top t b*g t b:=by ac_nf
   rw[this,Int.mul_fdiv_cancel _ ∅]
  .have : -b=bot t b*g t b:=by ac_nf
   rw[this,Int.mul_fdiv_cancel _ ∅]
 .have e:by_ t b=g t b:=by unfold by_;rw[if_neg c]
  simp only[if_neg c];unfold top bot;rw[e];show(rfl,rfl)
theorem JlI{n k:Nat}(h:n<2 ^ k)(hk:k<9000):n.log2<9000:=by
 by_cases z:n=0
 .rw[z];decide
 .show Nat.lt_trans ((Nat.log2_lt z).mpr h) hk
def Sz(n:Nat)(i:Int):Prop:=i.natAbs<2 ^ n
theorem Sz.mono{m n:Nat}{i:Int}(h:Sz m i)(k:m<=n):Sz n i:=Nat.lt_of_lt_of_le h (Nat.pow_le_pow_right ⋯ k)
theorem Sz.mul{m n:Nat}{i j:Int}(h:Sz m i)(k:Sz n j):Sz (m+n) (i*j):=by
 unfold Sz at *;rw[Int.natAbs_mul,Nat.pow_add];show Nat.mul_lt_mul'' h k
theorem Sz.add{n:Nat}{i j:Int}(h:Sz n i)(k:Sz n j):Sz (n+1) (i+j):=by
 unfold Sz at *;have:=Int.natAbs_add_le i j;rw[Nat.pow_succ];ac_nf
theorem Sz.neg{n:Nat}{i:Int}(h:Sz n i):Sz n (-i):=by
 unfold Sz at *;rw[Int.natAbs_neg];show h
theorem Sz.top{n:Nat}{t b:Int}(hb:b≠0)(h:Sz n t):Sz n (Mth.top t b):=Nat.lt_of_le_of_lt (Jnq hb) h
theorem Sz.bot{n:Nat}{t b:Int}(hb:b≠0)(h:Sz n b):Sz n (Mth.bot t b):=Nat.lt_of_le_of_lt (bot_le hb) h
theorem Sz.lit{n:Nat}{i:Int}(h1 : -(2 ^ n)<i)(h2:i<2 ^ n):Sz n i:=by
 unfold Sz;have e:((2 ^ n:Nat):Int)=2 ^ n:=by simp
 ac_nf
end Mth
namespace Mth
theorem Jcu{a b:Int}(h:g a b=1):Int.gcd a b=1:=by unfold g at h;ac_nf
theorem Jd3{a b:Int}(h:Int.gcd a b=1):g a b=1:=by unfold g;rw[h];rfl
theorem Jce{t x y:Int}(h1:Int.gcd t x=1)(h2:Int.gcd t y=1):Int.gcd t (x*y)=1:=by
 unfold Int.gcd at *;rw[Int.natAbs_mul];show Nat.Coprime.mul_right h1 h2
theorem Je5{x y:Int}(h:∀ k:Int,k∣x->k∣y->k∣1):Int.gcd x y=1:=by
 have:=h (Int.gcd x y:Nat) (Int.gcd_dvd_left ..) (Int.gcd_dvd_right ..);have z:=Int.natAbs_dvd_natAbs.mpr this;simp at z;show z
theorem Je6{k x y:Int}(h:Int.gcd x y=1)(h1:k∣x)(h2:k∣y):k∣1:=by
 have z:=Int.dvd_coe_gcd h1 h2;rw[h]at z;show z
theorem Jck{t u x:Int}(h:Int.gcd t x=1)(d:u∣t):Int.gcd u x=1:=Je5 λk b a=>Je6 h (Int.dvd_trans b d) a
theorem JaX{x y:Int}(h:Int.gcd x y=1):Int.gcd y x=1:=by rw[Int.gcd_comm];show h
theorem JiD{a b c d:Int}(h1:Int.gcd a b=1)(h2:Int.gcd d b=1):Int.gcd (a*d+c*b) b=1:=by
 have : Int.gcd b (a*d)=1:=Jce (JaX h1) (JaX h2);show Je5 λk g f=>Je6 this f ?_;have : k∣(a*d+c*b)-c*b:=Int.dvd_sub g (Int.dvd_mul_of_dvd_right f);have e:(a*d+c*b)-c*b=a*d:=by ac_nf
 rwa [e]at this
theorem Jcg{a d:Int}(h:d∣a)(hd:1<=d)(ha:1<=a):1<=a.fdiv d:=by
 have e:=JaO h ∅;rcases Int.lt_trichotomy (a.fdiv d) 0 with z | z | z
 .have:=Int.mul_neg_of_neg_of_pos z (show 0<d by ac_nf);ac_nf
 .rw[z]at e;ac_nf
 .ac_nf
theorem Jc4{b d s:Int}(hs:s=g b d)(p:1<=s):Int.gcd (b.fdiv s) (d.fdiv s)=1:=by
 have c:b.fdiv s*s=b:=JaO (by rw[hs];show JcP ..) ∅;have a:d.fdiv s*s=d:=JaO (by rw[hs];show JbY ..) ∅;have e:Int.gcd (b.fdiv s*s) (d.fdiv s*s)=Int.gcd (b.fdiv s) (d.fdiv s)*s.natAbs:=Int.gcd_mul_right ..;rw[c,a]at e;have f:Int.gcd b d=s.natAbs:=by rw[hs];unfold g;simp
 rw[f]at e;rcases Nat.lt_trichotomy (Int.gcd (b.fdiv s) (d.fdiv s)) 1 with z | z | z
 .have : Int.gcd (b.fdiv s) (d.fdiv s)=0:=by ac_nf
  rw[this]at e;ac_nf
 .show z
 .have:=Nat.mul_le_mul_right s.natAbs z;ac_nf
theorem Jl4{a b c d:Int}(hb:1<=b)(hd:1<=d)(h1:g a b=1)(h2:g c d=1){s t r:Int}(hs:s=g b d)(ht:t=a*d.fdiv s+c*b.fdiv s)(hr:r=g t s) :
  t.fdiv r=top (a*d+c*b) (b*d)/\b.fdiv s*d.fdiv r=bot (a*d+c*b) (b*d):=by
 have j:1<=s:=by rw[hs];have:=g_pos (a:=b) (b:=d) ∅;ac_nf
 have w:1<=r:=by rw[hr];have:=g_pos (a:=t) (b:=s) ∅;ac_nf
 have A:s∣b:=by rw[hs];show JcP ..
 have q:s∣d:=by rw[hs];show JbY ..
 have D:r∣t:=by rw[hr];show JcP ..
 have y:r∣s:=by rw[hr];show JbY ..
 have x:r∣d:=Int.dvd_trans y q;have l:=JaO A ∅;have u:=JaO q ∅;have z:=JaO D ∅;have B:=JaO x ∅;have E:=JaO y ∅;have N:=Jcg A j hb;have M:=Jcg q j hd;have C:=Jcg x w hd;have i:=Jc4 hs j;have m:Int.gcd (t.fdiv r) (s.fdiv r)=1:=Jc4 hr w;have p:d.fdiv r=d.fdiv s*s.fdiv r:=by
  show Int.eq_of_mul_eq_mul_right (a:=r) ∅ ?_;rw[B,Int.mul_assoc,E,u]
 have G:Int.gcd a (b.fdiv s)=1:=JaX (Jck (JaX (Jcu h1)) ⟨s,l.symm⟩);have K:Int.gcd c (d.fdiv s)=1:=JaX (Jck (JaX (Jcu h2)) ⟨s,u.symm⟩);have J:Int.gcd t (b.fdiv s)=1:=by rw[ht];show JiD G (JaX i)
 have H:Int.gcd t (d.fdiv s)=1:=by rw[ht,Int.add_comm];show JiD K i
 have o:g (t.fdiv r) (b.fdiv s*d.fdiv r)=1:=Jd3 (by
  rw[p];have k:t.fdiv r∣t:=⟨r,z.symm⟩;show Jce (Jck J k) (Jce (Jck H k) m))
 have e:b*d≠0:=Int.mul_ne_zero ∅ ∅;have f:=g_low (t:=a*d+c*b) e;have h:=JcS (t:=a*d+c*b) e;have v:=cross (t:=a*d+c*b) e;have n:1<=b.fdiv s*d.fdiv r:=by
  have:=Int.mul_pos (show 0<b.fdiv s by ac_nf) (show 0<d.fdiv r by ac_nf);ac_nf
 have L:t*s=a*d+c*b:=by
  rw[ht,Int.add_mul,Int.mul_assoc,Int.mul_assoc,u,l]
 have F:t.fdiv r*(b*d)=(a*d+c*b)*(b.fdiv s*d.fdiv r):=by
  have I:(t.fdiv r*(b*d))*r=((a*d+c*b)*(b.fdiv s*d.fdiv r))*r:=by
   calc (t.fdiv r*(b*d))*r=(t.fdiv r*r)*(b*d):=by ac_rfl
    _=t*((b.fdiv s*s)*d):=by rw[z,l]
    _=(t*s)*(b.fdiv s*d):=by ac_rfl
    _=(a*d+c*b)*(b.fdiv s*(d.fdiv r*r)):=by rw[L,B]
    _=((a*d+c*b)*(b.fdiv s*d.fdiv r))*r:=by ac_rfl
  show Int.eq_of_mul_eq_mul_right ∅ I
 show JdH n h o f ?_;show Int.eq_of_mul_eq_mul_right (a:=b*d) e ?_
 calc (t.fdiv r*bot (a*d+c*b) (b*d))*(b*d)=(t.fdiv r*(b*d))*bot (a*d+c*b) (b*d):=by ac_rfl
  _=((a*d+c*b)*bot (a*d+c*b) (b*d))*(b.fdiv s*d.fdiv r):=by rw[F];ac_rfl
  _=(top (a*d+c*b) (b*d)*(b*d))*(b.fdiv s*d.fdiv r):=by rw[v]
  _=(top (a*d+c*b) (b*d)*(b.fdiv s*d.fdiv r))*(b*d):=by ac_rfl
theorem Jef{a d:Int}(h:d∣a)(hd:1<=d):(a.fdiv d).natAbs<=a.natAbs:=by
 have e:=congrArg Int.natAbs (JaO h (show d≠0 by ac_nf));rw[Int.natAbs_mul]at e
 calc (a.fdiv d).natAbs<=(a.fdiv d).natAbs*d.natAbs:=Nat.le_mul_of_pos_right _ ∅
  _=a.natAbs:=e
theorem Sz.fdiv{n:Nat}{a d:Int}(h:Sz n a)(k:d∣a)(hd:1<=d):Sz n (a.fdiv d):=Nat.lt_of_le_of_lt (Jef k hd) h
theorem g_neg{a b:Int}:g (-a) b=g a b:=by unfold g;simp[Int.neg_gcd]
end Mth
namespace Mth
theorem JkA{a b c d:Int}(hb:1<=b)(hd:1<=d)(h1:g a b=1)(h2:g c d=1){u v:Int}(hu:u=g a d)(hv:v=g c b) :
  a.fdiv u*c.fdiv v=top (a*c) (b*d)/\b.fdiv v*d.fdiv u=bot (a*c) (b*d):=by
 have l:1<=u:=by rw[hu];have:=g_pos (a:=a) (b:=d) ∅;ac_nf
 have m:1<=v:=by rw[hv];have:=g_pos (a:=c) (b:=b) ∅;ac_nf
 have y:u∣a:=by rw[hu];show JcP ..
 have o:u∣d:=by rw[hu];show JbY ..
 have w:v∣c:=by rw[hv];show JcP ..
 have p:v∣b:=by rw[hv];show JbY ..
 have q:=JaO y ∅;have r:=JaO o ∅;have s:=JaO w ∅;have n:=JaO p ∅;have E:=Jcg p m hb;have D:=Jcg o l hd;have z:=Jc4 hu l;have A:=Jc4 hv m;have x:Int.gcd (a.fdiv u) (b.fdiv v)=1:=JaX (Jck (JaX (Jck (Jcu h1) ⟨u,q.symm⟩)) ⟨v,n.symm⟩);have C:Int.gcd (c.fdiv v) (d.fdiv u)=1:=JaX (Jck (JaX (Jck (Jcu h2) ⟨v,s.symm⟩)) ⟨u,r.symm⟩);have j:g (a.fdiv u*c.fdiv v) (b.fdiv v*d.fdiv u)=1:=Jd3 (JaX (Jce (JaX (Jce x z)) (JaX (Jce A C))));have e:b*d≠0:=Int.mul_ne_zero ∅ ∅;have f:=g_low (t:=a*c) e;have h:=JcS (t:=a*c) e;have k:=cross (t:=a*c) e;have i:1<=b.fdiv v*d.fdiv u:=by
  have:=Int.mul_pos (show 0<b.fdiv v by ac_nf) (show 0<d.fdiv u by ac_nf);ac_nf
 have B:(a.fdiv u*c.fdiv v)*(b*d)=(a*c)*(b.fdiv v*d.fdiv u):=by
  calc (a.fdiv u*c.fdiv v)*(b*d)=(a.fdiv u*c.fdiv v)*((b.fdiv v*v)*(d.fdiv u*u)):=by rw[n,r]
   _=((a.fdiv u*u)*(c.fdiv v*v))*(b.fdiv v*d.fdiv u):=by ac_rfl
   _=(a*c)*(b.fdiv v*d.fdiv u):=by rw[q,s]
 show JdH i h j f ?_;show Int.eq_of_mul_eq_mul_right (a:=b*d) e ?_
 calc ((a.fdiv u*c.fdiv v)*bot (a*c) (b*d))*(b*d)=((a.fdiv u*c.fdiv v)*(b*d))*bot (a*c) (b*d):=by ac_rfl
  _=((a*c)*bot (a*c) (b*d))*(b.fdiv v*d.fdiv u):=by rw[B];ac_rfl
  _=(top (a*c) (b*d)*(b*d))*(b.fdiv v*d.fdiv u):=by rw[k]
  _=(top (a*c) (b*d)*(b.fdiv v*d.fdiv u))*(b*d):=by ac_rfl
theorem JlJ{t b:Int}(h:b<0):top (-t) (-b)=top t b/\bot (-t) (-b)=bot t b:=by
 have c:=JkV (t:=t) (b:=b) ∅;have a:=JkV (t:=-t) (b:=-b) ∅;rw[if_pos h,if_pos h]at c;rw[if_neg ∅,if_neg ∅]at a;show(a.1.symm.trans c.1,a.2.symm.trans c.2)
theorem JmE{a b:Int}:g a (-b)=g a b:=by unfold g;simp[Int.gcd_neg]
theorem JkT(a b:Int):g a b=g b a:=by unfold g;rw[Int.gcd_comm]
end Mth
namespace L2
open PySem PySem.Spec PyProof.Rows
section
variable{σ:St}{H:Hp}{Q:VK}{u:TS}{ta tb te:TE}{tA:TA}{r:R2}{E:XK}{sp:Sp}{D:Ends}{t:TS}{g:TG}{K:W.Frag}
theorem y87y:tSeq t u D σ H=t { D with nx:=u D } σ H:=rfl
theorem y75y:tNext D σ H=D.nx σ H:=rfl
theorem y2by:tAsg te g D σ H=te σ H λx H1=>g x σ H1 D.nx:=rfl
variable{v:V}
theorem y70y{i:Nat}{R:St->Hp->Prop}:gName i v σ H R=R (σ.set i (some v)) H:=rfl
theorem y84y:tRet te D σ H=te σ H D.rt:=rfl
theorem y48y:tDrop te D σ H=te σ H λ_ H1=>D.nx σ H1:=rfl
theorem y2fy:tC v σ H Q=Q v H:=rfl
theorem y7cy:tOp r ta tb σ H Q=ta σ H λx H1=>tb σ H1 λy H2=>r x y H2 Q:=rfl
theorem y98y{f:V->Hp->VK->Prop}:tUn f ta σ H Q=ta σ H λx H1=>f x H1 Q:=rfl
theorem y31y{f:List V->Hp->VK->Prop}:tCB f tA σ H Q=tA σ H λvs H1=>f vs H1 Q:=rfl
variable{R:List V->Hp->Prop}
theorem y3dy:tCons ta tA σ H R=ta σ H λx H1=>tA σ H1 λxs H2=>R (x::xs) H2:=rfl
theorem y76y:tNil σ H R=R [] H:=rfl
variable{dvs:List V}
theorem y30y:tCall sp dvs E tA σ H Q=tA σ H λvs H1=>sp (vs++dvs) H1 Q E:=rfl
variable{R:Bool->Hp->Prop}
theorem y8ey:tTest te σ H R=te σ H λx H'=>∃ k,x=.bl k/\R k H':=rfl
theorem y23y:tB te σ H R=te σ H λx H'=>∃ k,x=.bl k/\R k H':=rfl
variable{a b:TT}
theorem y29y:tAnd a b σ H R=a σ H λc H1=>if c=true then b σ H1 R else R false H1:=rfl
theorem y7dy:tOr a b σ H R=a σ H λc H1=>if c=true then R true H1 else b σ H1 R:=rfl
theorem y78y:tNot a σ H R=a σ H λc H1=>R (!c) H1:=rfl
theorem y2ay:tAndV ta tb σ H Q=ta σ H λx H1=>∃ c,x=.bl c/\if c=true then tb σ H1 Q else Q (.bl false) H1:=rfl
theorem y7ey:tOrV ta tb σ H Q=ta σ H λx H1=>∃ c,x=.bl c/\if c=true then Q (.bl true) H1 else tb σ H1 Q:=rfl
theorem y7ay:tNotV ta σ H Q=ta σ H λx H1=>∃ c,x=.bl c/\Q (.bl (!c)) H1:=rfl
theorem y5dy{c:TT}:tIfS c t u D σ H=c σ H λb H1=>if b=true then t D σ H1 else u D σ H1:=rfl
theorem y9ay{i:Nat}:tVar i σ H Q=∃ v,σ[i]?=some (some v)/\Q v H:=rfl
theorem y26y{i j:Int}:rAddU K (.int i) (.int j) H Q=Q (.int (i+j)) H:=rfl
theorem y27y{i j:Str}:rAddU K (.str i) (.str j) H Q=(i.length+j.length<=sizeLine/\Q (.str (i++j)) H):=rfl
variable{j:Int}
theorem y8cy{f:Int->Int->V}{i:Int}:rI0 f (.int i) (.int j) H Q=Q (f i j) H:=by
 unfold rI0;simp
theorem y74y{f:Int->V}{i:Int}:rU f (.int i) H Q=Q (f i) H:=by
 unfold rU;simp
theorem y4dy{i:Int}:Jjp (.int i) (.int j) H Q=(DivOk j/\Q (.int (i.fdiv j)) H):=rfl
theorem y6cy{i:Int}:rModU (.int i) (.int j) H Q=(j≠0/\Q (.int (i.fmod j)) H):=rfl
theorem y81y{i:Int}:rPowU (.int i) (.int j) H Q=(CPow i j/\Q (.int (i ^ j.toNat)) H):=rfl
theorem y34y{p:Int->Int->Bool}{i:Int}:rCmpU p (.int i) (.int j) H Q=Q (.bl (p i j)) H:=rfl
theorem y4by{i:Int}:rEqU K (.int i) (.int j) H Q=Q (.bl (decide (i=j))) H:=rfl
theorem y72y{i:Int}:rNeU K (.int i) (.int j) H Q=Q (.bl (!decide (i=j))) H:=rfl
variable{j:Str}
theorem y4cy{i:Str}:rEqU K (.str i) (.str j) H Q=Q (.bl (decide (i=j))) H:=rfl
theorem y73y{i:Str}:rNeU K (.str i) (.str j) H Q=Q (.bl (!decide (i=j))) H:=rfl
theorem y71y{i j:Bool}:rNeU K (.bl i) (.bl j) H Q=Q (.bl (!decide (i=j))) H:=rfl
theorem y93y:tTup tA σ H Q=tA σ H λxs H1=>xs.length<=sizeLine/\∀ p,H1 p=none->Q (.ref p) (upd H1 p (.tup xs)):=rfl
theorem y67y:tLst tA σ H Q=tA σ H λxs H1=>xs.length<=sizeLine/\∀ p,H1 p=none->Q (.ref p) (upd H1 p (.lst xs)):=rfl
variable{x:V}{T:String}
theorem y63y:rIsi K [x, .ty T] H Q=(T∈["int","str","bool","list","tuple"]/\∃ t,tyN K H x t/\Q (.bl (isiB t T)) H):=rfl
theorem y25y{i:Int}:rAbs [.int i] H Q=Q (.int (if i<0 then -i else i)) H:=rfl
variable{j:Int}
theorem y6by{i:Int}:rMin [.int i, .int j] H Q=Q (.int (if j<i then j else i)) H:=rfl
theorem y95y{i:Int}{s:String}:tyN K H (.int i) s=(s="int"):=rfl
theorem y97y{i:Str}{s:String}:tyN K H (.str i) s=(s="str"):=rfl
end
theorem Jhx:bootBuiltins "abs"=some (.builtin "abs"):=by decide +kernel
theorem Jbs:bootBuiltins "len"=some (.builtin "len"):=by decide +kernel
theorem Jmv:bootBuiltins "min"=some (.builtin "min"):=by decide +kernel
theorem Jmx:bootBuiltins "sum"=some (.builtin "sum"):=by decide +kernel
theorem Jf8:bootBuiltins "sorted"=some (.builtin "sorted"):=by decide +kernel
theorem Jaz:bootBuiltins "isinstance"=some (.builtin "isinstance"):=by decide +kernel
theorem Jmt:bootBuiltins "all"=some (.builtin "all"):=by decide +kernel
theorem Jmu:bootBuiltins "int"=some (.type "int"):=by decide +kernel
theorem Jmw:bootBuiltins "str"=some (.type "str"):=by decide +kernel
theorem Jlm:bootBuiltins "bool"=some (.type "bool"):=by decide +kernel
theorem JgJ:bootBuiltins "list"=some (.type "list"):=by decide +kernel
theorem Jfj:bootBuiltins "tuple"=some (.type "tuple"):=by decide +kernel
theorem Jln:bootBuiltins "dict"=some (.type "dict"):=by decide +kernel
theorem Jj2:bootBuiltins "range"=some (.type "range"):=by decide +kernel
theorem Jmy:bootBuiltins "zip"=some (.type "zip"):=by decide +kernel
theorem Jfi:bootBuiltins "ValueError"=some (.type "ValueError"):=by decide +kernel
theorem yby:isiB "int" "int"=true:=by decide
theorem yay:isiB "int" "bool"=false:=by decide
theorem y17y:isiB "str" "str"=true:=by decide
theorem y1dy:isiB "tuple" "tuple"=true:=by decide
theorem y1fy:("int"∈["int","str","bool","list","tuple"])=True:=by simp
theorem y21y:("str"∈["int","str","bool","list","tuple"])=True:=by simp
theorem y1ey:("bool"∈["int","str","bool","list","tuple"])=True:=by simp
theorem y22y:("tuple"∈["int","str","bool","list","tuple"])=True:=by simp
variable{P:Program}{scope:Scope}{A:Around}{H:Hp}
theorem y24y{CX:CXT}{w:World}{K:W.Frag}{mg:Str->Option Value}{base:Heap}{N:List Str}{qual:Str}{f:Addr}{cd:Value}{outer:List Env}{s:Shared}{E:XK}:(cxOf CX P w K mg base N qual scope f cd A outer s H E).K=K:=rfl
def ForR(lo:Int)(n:Nat)(g:TG)(tb:TS)(D:Ends)(σ : St)(H:Hp):Prop:=∃ W:Nat->Nat->St->Hp->Prop,(∃ m,W 0 m σ H)/\∀ i m σ H,W i m σ H ->
 ((Itr lo n).stop i H/\D.nx σ H)\/((Itr lo n).go i H/\∃ N:St->Hp->Prop,(∀ σ' H',N σ' H'->∃ m',m'<m/\W (i+1) m' σ' H')/\∀ x H',(Itr lo n).yld i H x H'->g x σ H' λσ2 H2=>tb { D with nx:=N,ct:=N,bk:=D.nx } σ2 H2)
def ForA(K:W.Frag)(a:Addr)(g:TG)(tb:TS)(D:Ends)(σ : St)(H:Hp):Prop :=
 ((∃ xs,SqL K H a xs)/\∃ W:Nat->Nat->St->Hp->Prop,(∃ m,W 0 m σ H)/\∀ i m σ H,W i m σ H ->
  ((Itl K a).stop i H/\D.nx σ H)\/((Itl K a).go i H/\∃ N:St->Hp->Prop,(∀ σ' H',N σ' H'->∃ m',m'<m/\W (i+1) m' σ' H')/\∀ x H',(Itl K a).yld i H x H'->g x σ H' λσ2 H2=>tb { D with nx:=N,ct:=N,bk:=D.nx } σ2 H2)) \/
 ((∃ xs,SqT K H a xs)/\∃ W:Nat->Nat->St->Hp->Prop,(∃ m,W 0 m σ H)/\∀ i m σ H,W i m σ H ->
  ((Itt K a).stop i H/\D.nx σ H)\/((Itt K a).go i H/\∃ N:St->Hp->Prop,(∀ σ' H',N σ' H'->∃ m',m'<m/\W (i+1) m' σ' H')/\∀ x H',(Itt K a).yld i H x H'->g x σ H' λσ2 H2=>tb { D with nx:=N,ct:=N,bk:=D.nx } σ2 H2))
variable{tb:TS}{σ:St}
theorem y51y{ta:TA}{g:TG}{D:Ends}:tFor (iRng1 ta) g tb D σ H=ta σ H λvs H1=>∃ j:Int,vs=[.int j]/\-(2 ^ 62)<=j/\j<2 ^ 62/\ForR 0 j.toNat g tb D σ H1:=rfl
theorem y53y{K:W.Frag}{tl:TE}{g:TG}{D:Ends}:tFor (iAny K tl) g tb D σ H=tl σ H λx H1=>∃ a,x=.ref a/\ForA K a g tb D σ H1:=rfl
variable{n:Nat}
theorem ForR.by{lo:Int}{g:TG}{D:Ends}(Pv:Nat->St->Hp->Prop)(h0:Pv 0 σ H)
  (hs:∀ i σ H,i<n->Pv i σ H->g (.int (lo+i)) σ H λσ2 H2=>tb { D with nx:=Pv (i+1),ct:=Pv (i+1),bk:=D.nx } σ2 H2) (hd:∀ σ H,Pv n σ H->D.nx σ H):ForR lo n g tb D σ H:=JiO Pv h0 hs hd
variable{o:HO}
theorem Jeq{R:V->Hp->Prop}(h:∀ p H1,Same H H1->H1 p=some o->R (.ref p) H1):∀ p,H p=none->R (.ref p) (upd H p o):=λp a=>
 h p _ (λb u q=>by rw[Jah (Jai q a)];show q) Jak
variable{H':Hp}{p:Addr}
theorem newS(h:H p=none)(e:upd H p o=H'):Same H H':=λb u q=>by rw[<- e,Jah (Jai q h)];show q
theorem newE(e:upd H p o=H'):H' p=some o:=by rw[<- e,Jak]
theorem Jfh{i:Int}(h:Mth.Sz n i):Builtin.Int.intBits i<=n:=by
 unfold Builtin.Int.intBits;split
 .show Nat.zero_le _
 .rename_i z;have : i.natAbs.log2<n:=(Nat.log2_lt (by simpa using z)).mpr h;ac_nf
variable{j:Int}
theorem mulOk{m:Nat}{i:Int}(h:Mth.Sz m i)(k:Mth.Sz n j)(hm:autoParam (m<=2 ^ 20) Au)(hn:autoParam (n<=2 ^ 20) Au):IntMulOk i j:=IntMulOk.of_bits (Nat.le_trans (Jfh h) hm) (Nat.le_trans (Jfh k) hn)
theorem Ji3{i:Int}(h:Mth.Sz 64 j):IntMulOk i j:=IntMulOk.of_right (Jfh h)
theorem divOk(h:j≠0)(k:Mth.Sz n j)(hn:autoParam (n<9000) Au):DivOk j:=⟨h,Mth.JlI k hn⟩
theorem len0:([]:List V).length<=sizeLine:=by decide
variable{a b:V}
theorem len2:[a,b].length<=sizeLine:=by show 2<=sizeLine;decide
theorem len5{c d e:V}:[a,b,c,d,e].length<=sizeLine:=by show 5<=sizeLine;decide
theorem Ja1(h:decide (j≠0/\j.natAbs<2 ^ 64)=true):DivOk j:=by
 have z:=of_decide_eq_true h;show divOk z.1 (n:=64) z.2
theorem Ja2{i:Int}(h:decide (j.natAbs<2 ^ 64)=true):IntMulOk i j:=by
 have z:j.natAbs<2 ^ 64:=of_decide_eq_true h;show Ji3 z
theorem JaI{i:Int}(h:decide (i.natAbs<2 ^ 64)=true):IntMulOk i j:=by
 have z:i.natAbs<2 ^ 64:=of_decide_eq_true h;show IntMulOk.of_left (Jfh (n:=64) z)
theorem Ja3{i:Int}(h:decide (0<=j/\j<=1000000/\i.natAbs<2 ^ 64)=true):CPow i j:=by
 have z:0<=j/\j<=1000000/\i.natAbs<2 ^ 64:=of_decide_eq_true h;show z
def FrV(K:W.Frag)(H:Hp)(v:V)(a b:Int):Prop:=∃ p,v=.ref p/\SqT K H p [.int a, .int b]
variable{v:V}{a b:Int}
theorem FrV.same{K:W.Frag}(S:Same H H')(h:FrV K H v a b):FrV K H' v a b:=by
 let(p,e,q):=h;show(p,e,q.same S)
theorem FrV.of{K:W.Frag}(h:H p=some (.tup [.int a, .int b])):FrV K H (.ref p) a b:=⟨p,rfl,SqT.of h⟩
variable{x:V}{r:List V}{Q:VK}
theorem ixT0{K:W.Frag}(h:SqT K H p (x::r))(q:Q x H):rIxU K (.ref p) (.int 0) H Q:=⟨_,x, .inr h,Jeb (j:=0) rfl,q⟩
variable{y:V}
theorem ixT1{K:W.Frag}(h:SqT K H p (x::y::r))(q:Q y H):rIxU K (.ref p) (.int 1) H Q:=⟨_,y, .inr h,Jeb (j:=1) rfl,q⟩
theorem ixF0{K:W.Frag}(h:FrV K H v a b)(q:Q (.int a) H):rIxU K v (.int 0) H Q:=by
 let(p,rfl,z):=h;show ixT0 z q
theorem ixF1{K:W.Frag}(h:FrV K H v a b)(q:Q (.int b) H):rIxU K v (.int 1) H Q:=by
 let(p,rfl,z):=h;show ixT1 z q
theorem FrV.rep{K:W.Frag}(h:FrV K H v a b):Rep K H (.tup [.int a, .int b]) v:=by
 let(p,rfl,z):=h;simp only[Rep,RepL];show(p,_,rfl,z,_,_,rfl,rfl,_,_,rfl,rfl,rfl)
variable{c d:Int}
theorem eqF{K:W.Frag}(h:FrV K H x a b)(g:FrV K H y c d)(q:Q (.bl (decide (a=c)&&decide (b=d))) H):rEqU K x y H Q:=by
 have e:eqD (.tup [.int a, .int b]) (.tup [.int c, .int d])=(decide (a=c)&&decide (b=d)):=by
  simp only[eqD,eqL,Bool.and_true]
  congr 1 <;> simp[BEq.beq]
 have f:=h.rep;have i:=g.rep;let(p,rfl,_):=h;let(j,rfl,_):=g;show(_,_,f,i,by simp[depD,depL],rfl,by rw[e];show q)
theorem neF{K:W.Frag}(h:FrV K H x a b)(g:FrV K H y c d)(q:Q (.bl (!(decide (a=c)&&decide (b=d)))) H):rNeU K x y H Q:=by
 have e:eqD (.tup [.int a, .int b]) (.tup [.int c, .int d])=(decide (a=c)&&decide (b=d)):=by
  simp only[eqD,eqL,Bool.and_true]
  congr 1 <;> simp[BEq.beq]
 have f:=h.rep;have i:=g.rep;let(p,rfl,_):=h;let(j,rfl,_):=g;show(_,_,f,i,by simp[depD,depL],rfl,by rw[e];show q)
variable{xs:List V}
theorem ixT{K:W.Frag}{i:Nat}(h:SqT K H p xs)(e:xs[i]?=some v)(q:Q v H):rIxU K (.ref p) (.int (i:Int)) H Q:=⟨xs,v, .inr h,Jeb e,q⟩
theorem ixL{K:W.Frag}{i:Nat}(h:SqL K H p xs)(e:xs[i]?=some v)(q:Q v H):rIxU K (.ref p) (.int (i:Int)) H Q:=⟨xs,v, .inl h,Jeb e,q⟩
section
open PySem.W PySem.Builtin PySem.Builtin.ObjectAttr PySem.Builtin.Getset_descriptor
variable{prog:Program}{E:Value->Shared->Prop}{K:Frag}{x:Addr}{ox:Obj}{w:World}{s:Shared}{D:Addr}{M:Model}{h:Heap}
theorem Jhv(hx:h.get? x=some ox)(hc:ox.cls=.ref D):Looks M h (typeOf (.ref x)) (.ref D):=hc ▸ (Looks.ld hx).andThen .now
structure ExcC(K:W.Frag)(D:Addr):Prop where
 cl:W.hasDictIn K D=true
 ga:W.findIn K (.ref D) "__getattribute__"=some (some (.builtin "BaseException.__getattribute__"))
 gh:W.findIn K (.ref D) "__getattr__"=some none
 ca:W.findIn K (.ref D) "__class__"=some (some (.builtin "object.__class__"))
 cg:W.specialIn K (.builtin "object.__class__") "__get__"=some (some (.builtin "getset_descriptor.__get__"))
 ct:W.takesIn K (.builtin "object.__class__")=some true
 mo:W.mroIn K D (.type "object")=some true
 mb:W.mroIn K D (.type "BaseException")=some true
theorem Jmn(X:K.In h)(c:ExcC K D):Looks M h (find (.ref x) (.ref D) "__class__") (.bind (.builtin "getset_descriptor.__get__") (.builtin "object.__class__")):=by
 have L1:=looks_findIn (M:=M) X c.ca;have L2:Looks M h (getOf (some (.builtin "object.__class__"))) (some (.builtin "getset_descriptor.__get__")):=looks_specialIn X c.cg;have L3:=looks_takesIn (M:=M) X c.ct;show L1.andThen (L2.andThen ((show Looks M h (dataDescriptor? (some (.builtin "object.__class__")) (some (.builtin "getset_descriptor.__get__"))) (some (.builtin "getset_descriptor.__get__", .builtin "object.__class__"))from L3.andThen .now).andThen (Looks.tag .now)))
theorem Jnu{tp:Value}{R:Result->Shared->Prop}(X:K.In s.heap)(hx:s.heap.get? x=some ox)(hc:ox.cls=.ref D)(c:ExcC K D)(q:R (.ok (.ret (.ref D))) s) :
  codeAny (model prog w) A (.call (.builtin "getset_descriptor.__get__") ⟨[.builtin "object.__class__", .ref x,tp],[]⟩) R s:=by
 let(h,a,e,d,g):=s;have b:=Jhv (M:=model prog w) hx hc;have f:=looks_mroIn (M:=model prog w) X c.mo;show codeAny_call_builtin (KF.slot_gs.plain) (KF.entry_gs) (KF.slot_gs.check _ _ _ _ _ _ _ _ (KF.type_class) (KF.args_gs _ _ _) ?_)
 (unfold Builtin.«getset_descriptor.__get__»;unfold descrGet)
 (rw[dga_obj];show wpAny_bind (wpAny_pure ?_))
 (unfold descrGetter;unfold descrCheckInstance;unfold descrNameAndClass;unfold isInstance)
 (simp only[KF.owner_class];repeat lk)
 show And.intro (Code.quiet_builtin _ (by decide +kernel)) (codeAny_builtin (KF.entry_class) ?_)
 (unfold Builtin.«object.__class__»;unfold shownTypeOf;repeat lk)
 show q
theorem Jmm{Q:Option Value->Shared->Prop}(X:K.In s.heap)(hx:s.heap.get? x=some ox)(hc:ox.cls=.ref D)(c:ExcC K D)(q:Q (some (.ref D)) { s with toks:=s.toks+1 }) :
  wpAny (model prog w) A (getAttr? (.ref x) "__class__") Q E s:=by
 let(p,j,m,e,o):=s;have a:=Jhv (M:=model prog w) hx hc;have f:=looks_findIn (M:=model prog w) X c.ga;have g:=looks_findIn (M:=model prog w) X c.gh;have l:=Jmn (M:=model prog w) (x:=x) X c;have n:=looks_mroIn (M:=model prog w) X c.mb;have i:bindSpecial (.builtin "BaseException.__getattribute__") (.ref x)=pure (.builtin "BaseException.__getattribute__",[.ref x]):=by kernel_rfl
 unfold getAttr? getAttrBy? getAttrBy;show wpAny_bind (wpAny_mkText (wpAny_bind (wpAny_attempt (wpAny_holding (wpAny_bind (a.at (wpAny_bind (f.at ?_))))))));have h:(onTheHeap (Value.ref D)&&Value.builtin "BaseException.__getattribute__" == Value.builtin "object.__getattribute__")=false:=Bool.and_eq_false_iff.mpr (.inr (by decide +kernel));show wpAny _ _ (if(onTheHeap (Value.ref D)&&Value.builtin "BaseException.__getattribute__" == Value.builtin "object.__getattribute__")=true then _ else getAttrByItsOwn _ _ _ _ _ _) _ _ _;rw[if_neg (by rw[h];decide)];unfold getAttrByItsOwn hookBefore;show wpAny_bind ?_;rw[if_pos (show onTheHeap (Value.ref D)=true from rfl)];show g.at ?_;show wpAny_bind (wpAny_attempt (wpAny_holding ?_));unfold callGetattribute boundAndCalled;rw[if_neg ⋯,i];show wpAny_bind (wpAny_pure ?_);show wpAny_call (codeAny_call_builtin (by decide +kernel) F.entry_bexc_ga ?_);have d:builtinKind "BaseException.__getattribute__"=some .slot:=by decide +kernel
 have b:splitId "BaseException.__getattribute__"=some ("BaseException","__getattribute__"):=by decide +kernel
 have k:=F.args_bexc_ga (.ref x) (.str "__class__" e)
 (simp only[checkBuiltinCall,d,b];show wpAny_bind ?_)
 unfold isInstance;repeat (first | lk | wp_step)
 show wpAny_run (Jnu X hx hc c ?_);repeat (first | lk | wp_step)
 show q
theorem Jj8(c:ExcC K D):KitX K (.ref x) (.ref D) (λh=>∃ ox,h.get? x=some ox/\ox.cls=.ref D) where
 ty:=λ_ _ _ ζ=>by let(ox,e,d):=ζ;show Jhv e d
 it:=λ_ _ X _=>Jgh X c.cl
 ne:=λh g j f n i X b=>by
  show Bool.eq_false_iff.mpr λq=>?_;obtain rfl:D=g:=Value.ref.inj (beq_iff_eq.mp q);let(k,a,_):=any_some c.cl
  (unfold clsIn at a;split at a)
  next ho=>have z:=X _ _ ho;rw[b]at z;cases z
  next=>cases a
 ca:=λX ⟨ox,e,d⟩ q=>Jmm X e d c q
end
variable{X:Cx}
def clsV:V->Value
 | .ty T=>.type T
 | .ref C=>.ref C
 | _=>.none
inductive TyU(K:W.Frag)(H:Hp):V->Value->Prop where
 | of {x:V} {t:Value} (h:TyOf K H x t):TyU K H x t
 | sql {a:Addr} {xs:List V} (h:SqL K H a xs):TyU K H (.ref a) (.type "list")
 | sqt {a:Addr} {xs:List V} (h:SqT K H a xs):TyU K H (.ref a) (.type "tuple")
 | exc {a C:Addr} {od:Option Addr} (e:H a=some (ExcO a C od)) (c:ExcC K C):TyU K H (.ref a) (.ref C)
def rIsiC(K:W.Frag):List V->Hp->VK->Prop:=λxs H Q=>∃ x c t b,xs=[x,c]/\((∃ T,c=.ty T)\/∃ C,c=.ref C)/\TyU K H x t/\W.kitOne K t (clsV c)=some b/\Q (.bl b) H
theorem JdX:CallR X (.builtin "isinstance") (rIsiC X.K):=λf s σ H n F Q I r q=>by
 let(x,c,t,b,rfl,D,y,e,q):=q;let(u,w,rfl,j,m):=vals2 r;have B:w=clsV c:=by
  rcases D with⟨T,rfl⟩ | ⟨C,rfl⟩
  .show m
  .show m
 subst B;have d:∀ k,EP X f σ Q (.bool b) { s with toks:=k }:=λk=>⟨V.bl _,H,I.tok k,rfl,q⟩;cases y with
 | of h=>show JiU I j h e d
 | @sql a n h=>
  cases(show u=Value.ref a from j);let(l,_,p,_):=I.list h;let(o,_,g,i,_):=p;show W.kia_one W.kitx_list I.kIn ⟨o,g,i⟩ e (λz=>nomatch z) d
 | @sqt a n h=>
  cases(show u=Value.ref a from j);let(l,_,p,_):=I.tuple h;let(o,g,i,_):=p;show W.kia_one W.kitx_tuple I.kIn ⟨o,g,i⟩ e (λz=>nomatch z) d
 | @exc a C od ea cc=>
  cases(show u=Value.ref a from j);have v:=I.hok a _ ea;let((A,E,g,i,_),_):=v;show W.kia_one (Jj8 cc) I.kIn ⟨A,g,i⟩ e (λz=>nomatch z) d
section
variable{En:Ends}{u:TS}{ta tb te tc:TE}{gs:TGs}{tA:TA}{E:XK}{sp:Sp}{t:TS}{td:TE}{g:TG}{K:W.Frag}
theorem y8ay{r:V->Option Int->Option Int->Hp->VK->Prop}{tl th:TO}:tSl r te tl th σ H Q=te σ H λx H1=>tl σ H1 λl H2=>th σ H2 λu H3=>r x l u H3 Q:=rfl
variable{R:Option Int->Hp->Prop}
theorem y80y:tPart te σ H R=te σ H λx H1=>∃ i,x=.int i/\R (some i) H1:=rfl
theorem y77y:JjK σ H R=R none H:=rfl
theorem y91y{D0:Addr}{i:Nat}{tx:St->Hp->VK->XK->Prop}{ts:TS}:Jk9 K D0 i tx ts En σ H=tx σ H (λ_ H1=>En.nx σ H1) λcls od H1=>∃ C,cls=.ref C/\Jcj K C D0 /\
 ∀ ea,H1 ea=none->ts { nx:=λσ' H'=>En.nx (σ'.set i none) H',rt:=En.rt,bk:=λσ' H'=>En.bk (σ'.set i none) H',ct:=λσ' H'=>En.ct (σ'.set i none) H' } (σ.set i (some (.ref ea))) (upd H1 ea (ExcO ea C od)):=rfl
variable{dvs:List V}
theorem y9by{Qx:VK}{Ex:XK}:xCall sp dvs tA σ H Qx Ex=tA σ H λvs H1=>sp (vs++dvs) H1 Qx Ex:=rfl
variable{C:Addr}
theorem y82y:Jk7 E C tA En σ H=tA σ H λvs H1=>vs.length<=sizeLine/\E (.ref C) none H1:=rfl
variable{a:Addr}{od:Option Addr}{b:Bool}
theorem isiX{c:V}(e:H a=some (ExcO a C od))(x:ExcC K C)(hc:(∃ T,c=.ty T)\/∃ C,c=.ref C)(k:W.kitOne K (.ref C) (clsV c)=some b)(q:Q (.bl b) H):rIsiC K [.ref a,c] H Q :=
 ⟨_,_,_,b,rfl,hc, .exc e x,k,q⟩
theorem isiXr{c:Addr}(e:H a=some (ExcO a C od))(x:ExcC K C)(k:W.kitOne K (.ref C) (.ref c)=some b)(q:Q (.bl b) H):rIsiC K [.ref a, .ref c] H Q:=isiX e x (.inr ⟨_,rfl⟩) k q
variable{T:String}
theorem isiXt(e:H a=some (ExcO a C od))(x:ExcC K C)(k:W.kitOne K (.ref C) (.type T)=some b)(q:Q (.bl b) H):rIsiC K [.ref a, .ty T] H Q:=isiX e x (.inl ⟨_,rfl⟩) k q
theorem JcW{K:W.Frag}(hK:X.K=K){x:Str}{p pos:Pos}{e:Expr}{es:List Expr}{t:TA}(hg:Gl X x)(hm:X.mg x=none)(hv:bootBuiltins x=some (.builtin "isinstance"))(ha:PA X (e::es) t)(hn:autoParam (x≠"__name__") Au)
  (hdb:autoParam ((x == ("__debug__" : Str))=false) Au) (he:autoParam (starEach (e::es) X.env=(false,eval e X.env)::starEach es X.env) Au) (hpl:autoParam ((backTo pos (starEach es X.env)).any (·.1)=false) Au) :
  PE X (.Call (.Name x p) (e::es) [] pos) (tCB (rIsiC K) t):=hK ▸ Jau JdX hg hm hv ha hn hdb he hpl
end
def Its(x:Str):It:=⟨λi _=>i<x.cps.size,λi H v H'=>H'=H/\∃ c,x.cps[i]?=some c/\v=.str ⟨#[c]⟩,λi _=>i=x.cps.size⟩
variable{tg:Expr}{x:Str}
theorem JgC{w:World}{K:W.Frag}{it:Addr}{n:String}{St:Nat->Heap->Prop}(hn:["enumerate","zip","dict_itemiterator","dict_reverseitemiterator","odict_iterator","itertools.zip_longest","itertools.pairwise"].contains n=false)
  (hst:∀ i h,St i h->∃ o vs,h.get? it=some o/\o.cls=.type n/\o.data=.fields vs) (mk:∀ A:Around,A.handled=none->Walks P w A it [it] [it] x.cps.size (SignAt x) St)
  (hself:∀(A:Around)(i:Nat)(s:Shared)(Q:Value->Shared->Prop)(E:Value->Shared->Prop),St i s.heap->Q (.ref it) s->wpAny (model P w) A (pyIter (.ref it)) Q E s):Turn P w K tg (Its x) [it] it St where
 mem:=by simp
 obj:=λi h g b a=>by
  obtain rfl:b=it:=by simpa using a
  let(o,vs,e,_,d):=hst i h g;show(o,e,λv z=>by rw[d]at z;cases z)
 keep:=λi h l g k=>(mk {} rfl).frame i h l g λb a o e=>k b a o e
 item:=by
  intro X t L r N i f s σ H E I m g G;subst t L r;let(p,J,T,C,B,M):=m it (by simp);show(mk X.A (I.ok.hd N)).item i s _ _ G g λv l y O j q=>?_;let(c,u,D,rfl):=O;have I1:Inv X f σ H { s with heap:=l,toks:=y }:=I.turned (λb o a e=>q b o (by simpa using a) e) p J C B M;let(o,vs,U,R,S):=hst _ _ j;show(_,rfl,go_of (s:={ s with heap:=l,toks:=y }) U R S hn ⟨.str ⟨#[c]⟩,H,I1,⟨u,rfl⟩,⟨rfl,c,D,rfl⟩,j,λb a=>(m b a).1⟩)
 done:=by
  intro X t L r N i f s σ H E I m g G;subst t L r;let(p,J,T,C,B,M):=m it (by simp);have F:i=x.cps.size:=G;subst F;show(mk X.A (I.ok.hd N)).done s _ _ g λl y q=>⟨rfl,I.turned (λb o a e=>q b o (by simpa using a) e) p J C B M⟩
 self:=hself
def iStr(tl:TE):TI:=λσ H R=>tl σ H λx H1=>∃ z,x=.str z/\R (Its z) H1
theorem Jm7{l:Expr}{tl:TE}(hl:PE X l tl):PI X tg l (iStr tl):=λf s σ H R I h=>by
 show thn (hl f s σ H _ I h) λv d ζ=>?_;let(x,m,I1,u,z,p,q):=ζ;subst p;let(t,rfl):=u;have key:∀(n:String),(n="str_ascii_iterator"\/n="str_iterator")->PIE X f σ tg R (.ref d.heap.objs.size) { d with heap:=d.heap.push { cls:=.type n,data:=.fields #[.str z t, .int 0 0] } }:=λn r=>by
  have k:Turn X.prog X.w X.K tg (Its z) [d.heap.objs.size] d.heap.objs.size (λi h=>h.IsStrIter d.heap.objs.size n z t i):=by
   rcases r with rfl | rfl
   .show JgC (n:="str_ascii_iterator") ⋯ (λi h g=>let⟨o,a,b,c⟩:=g;⟨o,_,a,b,c⟩) (λA j=>Walks.strAscii j _ z t) λA i s Q E g q=>wpAny_pyIter_striter_ascii g q
   .show JgC (n:="str_iterator") ⋯ (λi h g=>let⟨o,a,b,c⟩:=g;⟨o,_,a,b,c⟩) (λA j=>Walks.strWide j _ z t) λA i s Q E g q=>wpAny_pyIter_striter_wide g q
  show(d.heap.objs.size,[d.heap.objs.size],_,_,m,rfl,I1.kept (t':=d.toks) λb o e=>Heap.get?_push_of_some _ e,k,⟨_,Heap.get?_push_size _ rfl,rfl,rfl⟩,λb y=>?_,q);obtain rfl:b=d.heap.objs.size:=by simpa using y
  show I1.fpOk (Nat.le_refl _) (I1.hok.fresh (Nat.le_refl _))
 cases ha:z.cps.all (· < 128)
 .show wpAny_pyIter_wide ha (key _ (.inr rfl))
 .show wpAny_pyIter_ascii ha (key _ (.inl rfl))
abbrev Cx.inc(X:Cx)(N':List Str)(scope:Scope)(cl:List (Str × Addr))(fp:List Addr)(s2:Shared)(H2:Hp)(C:Addr):Cx :=
 { X with N:=N',s₀:=s2,H₀:=H2,env:=compEnvC scope cl C X.env,outer:=X.stack,ex:=fp,fn:=λ_=>false,pn:=[],xe:=λ_ _=>False }
variable{pins:List (Addr × Obj)}{H2:Hp}{s2:Shared}{N':List Str}{cl:List (Str × Addr)}{fp:List Addr}{C:Addr}
theorem Inv.incOk(I:Inv X pins σ H2 s2)(hf:∀ b∈fp,FpOk X pins H2 b)(hfp:∀ b∈fp,b<s2.heap.objs.size)(hk:scope.kind=.function)(hC:s2.heap.objs.size<=C)(hcl:∀ x c,cl.lookup x=some c->X.env.cells.lookup x=some c)
  (hhas:∀ y,((relabel scope X.env).names.lookup y=some .cell\/(relabel scope X.env).names.lookup y=some .free)->∃ c,cl.lookup y=some c):(X.inc N' scope cl fp s2 H2 C).Ok where
 mod:=I.ok.mod
 kind:=hk
 glob:=I.ok.glob
 blt:=I.ok.blt
 above:=hC
 inj:=λx y c g d=>I.ok.inj x y c (hcl x c g) (hcl y c d)
 has:=λy f=>hhas y f
 cab:=λx c h=>by cases h
 hd:=I.ok.hd
 frames:=I.ok.frames
 stk:=.inl rfl
 exf:=λb a=>⟨Nat.ne_of_lt (Nat.lt_of_lt_of_le (hfp b a) hC),λx c e=>(hf b a).2.2.2.2.1 x c (hcl x c e)⟩
 bs:=I.bs
 bsz:=Nat.le_trans I.ok.bsz I.sz
 noex:=λb o e a=>by
  rcases(hf b a).2.2.2.1 with z | z
  .show I.ok.noex b o e z
  .show absurd (Nat.lt_of_lt_of_le (Nat.lt_of_lt_of_le (Heap.lt_size e) I.ok.bsz) z) (Nat.lt_irrefl _)
 exfs:=λb a i=>by
  rcases mem_cons.mp (I.stkSub b i)with z | z
  .show(hf b a).2.1 z
  .show(hf b a).2.2.1 z
 funs:=I.stack
 frf:=I.stkFree
def JaM(cs:List (Nat × Str))(σ : St):St:=cs.map λp=>(σ[p.1]?).join
variable{s4:Shared}{own:List Str}{cs:List (Nat × Str)}
theorem Inv.capsLoc{m:Str->Option Value}(I:Inv X pins σ H2 s2)(ok:(X.inc (own++cs.map (·.2)) scope cl fp s2 H2 C).Ok)(kept:∀ c v,(∃ x,cl.lookup x=some c)->s2.heap.IsCell c v->s4.heap.IsCell c v)
  (hcl:∀ x c,cl.lookup x=some c->X.env.cells.lookup x=some c) (hcs:∀ p∈cs,X.N[p.1]?=some p.2/\X.env.scope.names.lookup p.2=some .cell/\(relabel scope X.env).names.lookup p.2=some .cell) :
  ∀(i:Nat)(x:Str)(v:V),(own++cs.map (·.2))[i]?=some x->(List.replicate own.length none++JaM cs σ)[i]?=some (some v)->∃ u,RelV v u/\Look (compEnvC scope cl C X.env) s4.heap m x u:=λi x v s e=>by
  by_cases j:i<own.length
  .rw[List.getElem?_append_left (by simpa using j),List.getElem?_replicate,if_pos j]at e;cases e
  .have b:(JaM cs σ)[i-own.length]?=some (some v):=by rw[List.getElem?_append_right (by simp;ac_nf)]at e;simpa using e
   have a:(cs.map (·.2))[i-own.length]?=some x:=by
    rwa [List.getElem?_append_right ∅]at s
   unfold JaM at b;rw[List.getElem?_map]at a b;cases q:cs[i-own.length]? with
   | none=>rw[q]at a;cases a
   | some p=>
    rw[q]at a b;obtain rfl:p.2=x:=by simpa using a
    have d:(σ[p.1]?).join=some v:=by simpa using b
    have f : σ[p.1]?=some (some v):=by
     cases z : σ[p.1]? with
     | none=>rw[z]at d;cases d
     | some o=>rw[z]at d;show congrArg some d
    let(n,l,h):=hcs p (List.mem_of_getElem? q);let(y,_,t):=I.loc;let(u,w,r):=t p.1 p.2 v n f (.inr (.inl l));show(u,w, .inr ⟨.inl h,?_⟩);let(c,g):=ok.has p.2 (.inl h);show(c,g,?_);rcases r with⟨k,_⟩ | ⟨_,c',e',hcell⟩
    .have k:X.env.scope.names.lookup p.2=some .local:=k;rw[l]at k;cases k
    .rw[hcl _ _ g]at e';cases e';show kept _ _ ⟨_,g⟩ hcell
theorem Inv.incStart{m:Str->Option Value}(I:Inv X pins σ H2 s2)(ok:(X.inc (own++cs.map (·.2)) scope cl fp s2 H2 C).Ok)(kept:∀ b o,s2.heap.get? b=some o->s4.heap.get? b=some o)(hos:s4.os=s2.os)(hg:s4.gens=s2.gens)(hm:s4.heap.Ns C m)
  (hC:s2.heap.objs.size<=C) (hcl:∀ x c,cl.lookup x=some c->X.env.cells.lookup x=some c)
  (hcs:∀ p∈cs,X.N[p.1]?=some p.2/\X.env.scope.names.lookup p.2=some .cell/\(relabel scope X.env).names.lookup p.2=some .cell) :
  Inv (X.inc (own++cs.map (·.2)) scope cl fp s2 H2 C) [] (List.replicate own.length none++JaM cs σ) H2 s4 where
 ok:=ok
 os:=hos
 bare:=by rw[hg];show I.bare
 base:=Un.kept kept
 loc:=⟨m,hm,λi x v g f _=>I.capsLoc (m:=m) ok (λc v _ ⟨o,d,a⟩=>⟨o,kept _ _ d,a⟩) hcl hcs i x v g f⟩
 cell:=λx c e=>by
  let(v,o,d,a):=I.cell x c (hcl x c e);show(v,o,kept _ _ d,a)
 free:=I.hok.fresh hC
 freeC:=λx c e=>I.freeC x c (hcl x c e)
 pin:=λp h=>by simp at h
 hok:=I.hok.kept kept
 len:=by simp[JaM]
theorem Inv.incAgain{s':Shared}{σ':St}{pl:List (Addr × Obj)}(I:Inv X pins σ H2 s2)(J:Inv (X.inc (own++cs.map (·.2)) scope cl fp s2 H2 C) pl σ' H' s')
  (hf:∀ b∈fp,FpOk X pins H2 b) (hcl:∀ x c,cl.lookup x=some c->X.env.cells.lookup x=some c) (hcs:∀ p∈cs,X.N[p.1]?=some p.2/\X.env.scope.names.lookup p.2=some .cell/\(relabel scope X.env).names.lookup p.2=some .cell) :
  Inv (X.inc (own++cs.map (·.2)) scope cl fp s2 H2 C) [] (List.replicate own.length none++JaM cs σ) H' s' where
 ok:=J.ok
 os:=J.os
 bare:=J.bare
 base:=J.base
 loc:=by
  let(m,a,_):=J.loc;show(m,a,λi x v j h _=>I.capsLoc (m:=m) J.ok (λc v ⟨x,d⟩ ⟨o,g,e⟩=>?_) hcl hcs i x v j h);have f:c∉fp:=λz=>(hf c z).2.2.2.2.1 x c (hcl x c d) rfl;by_cases a:c∈frs X.stack
  .let(l,z):=J.base.slot c o g (I.freeC x c (hcl x c d)) a f;show(_,z,e)
  .show(o,J.base.keep c o g (I.freeC x c (hcl x c d)) a f,e)
 cell:=J.cell
 free:=J.free
 freeC:=J.freeC
 pin:=λp k=>by simp at k
 hok:=J.hok
 len:=by simp[JaM]
section
variable{prog:Program}{E:Value->Shared->Prop}{R:Result->Shared->Prop}{w:World}{s:Shared}{elt iter:Expr}{ifs:List Expr}{pos:Pos}{env:Env}
theorem Jh6{target:Expr}{it acc:Value}(J:Nat->Shared->Prop)
  (turn:∀ n s,J n s->wpAny (model prog w) A (pyNext it) (λr s1=>match r with
   | none=>R (.ok .next) s1
   | some v=>wpAny (model prog w) A (letOwnedTupleGo target it v) (λ_ s2=>wpAny (model prog w) A (assign target env v) (λ_ s3=>wpAny (model prog w) A (forIn ifs true λc r=>if r=true then do let ok <- isTrue c env (eval c env);pure (ForInStep.yield ok)else pure (ForInStep.yield r)) (λb s3'=>if b=true then wpAny (model prog w) A (eval elt env) (λx s4=>
     wpAny (model prog w) A (call (.builtin "list.append") [acc,x]) (λ_ s5=>∃ m,m<n/\J m s5) (λ_ _=>False) s4) (λ_ _=>False) s3' else∃ m,m<n/\J m s3') (λ_ _=>False) s3) (λ_ _=>False) s2) (λ_ _=>False) s1) (λ_ _=>False) s) (n:Nat) (h:J n s) :
  codeAny (model prog w) A (.compLoop (.ListComp elt [⟨target,iter,ifs,0⟩] scope pos) 0 it acc env) R s:=by
 show codeAny_loop rfl J (λn s i=>?_) n h;show wpAny _ A ((compTurn (.ListComp elt [⟨target,iter,ifs,0⟩] scope pos) 0 it acc env).onRaise (λy=>do noteFrame y env;theTreesLotGoes y)) _ _ s
 (show wpAny_noted ?_;rw[compTurn_list])
 show wpAny_bind (wpAny_standAt (wpAny_bind (wpAny_mono (turn n s i) (λr s1 d=>?_) λ_ _ z=>z.elim)));cases r with
 | none=>show wpAny_pure d
 | some v=>
  show wpAny_bind (wpAny_mono d (λ_ s2 e=>wpAny_bind (wpAny_mono e (λ_ s3 f=>?_) λ_ _ z=>z.elim)) λ_ _ z=>z.elim);show wpAny_bind (wpAny_mono f (λb s3' a=>?_) λ_ _ z=>z.elim);cases b with
  | true=>show wpAny_bind (wpAny_bind (wpAny_mono a (λx s4 g=>(wpAny_bind (wpAny_mono g (λ_ s5 j=>(wpAny_pure (wpAny_pure ⟨rfl,j⟩))) λ_ _ z=>z.elim))) λ_ _ z=>z.elim))
  | false=>show wpAny_bind (wpAny_pure (wpAny_pure ⟨rfl,a⟩))
end
def tComp(k:Nat)(cs:List (Nat × Str))(wi:TI)(g:TG)(te:TE):TE:=λσ H Q=>wi σ H λJ H1=>∃ W:Nat->Nat->List V->Hp->Prop,(∃ m,W 0 m [] H1)/\∀ i m ys H2,W i m ys H2->ys.length<=sizeLine /\
  ((J.stop i H2/\∀ p,H2 p=none->Q (.ref p) (upd H2 p (.lst ys))) \/
   (J.go i H2/\∀ x H3,J.yld i H2 x H3->g x (List.replicate k none++JaM cs σ) H3 λσ4 H4=>te σ4 H4 λy H5=>∃ m',m'<m/\W (i+1) m' (ys++[y]) H5))
theorem lstP{us:List Value}{v:Value}:(us.toArray.push v)=(us++[v]).toArray:=by simp
def JeO(k:Nat)(cs:List (Nat × Str))(wi:TI)(g:TG)(tt:TT)(te:TE):TE:=λσ H Q=>wi σ H λJ H1=>∃ W:Nat->Nat->List V->Hp->Prop,(∃ m,W 0 m [] H1)/\∀ i m ys H2,W i m ys H2->ys.length<=sizeLine /\
  ((J.stop i H2/\∀ p,H2 p=none->Q (.ref p) (upd H2 p (.lst ys))) \/
   (J.go i H2/\∀ x H3,J.yld i H2 x H3->g x (List.replicate k none++JaM cs σ) H3 λσ4 H4=>tt σ4 H4 λb H5=>if b=true then te σ4 H5 λy H6=>∃ m',m'<m/\W (i+1) m' (ys++[y]) H6 else∃ m',m'<m/\W (i+1) m' ys H5))
def PTs(X:Cx)(ifs:List Expr)(t:TT):Prop :=
 ∀(pins:List (Addr × Obj))(s:Shared)(σ : St)(H:Hp)(Q:Bool->Hp->Prop),Inv X pins σ H s->t σ H Q->wpAny (model X.prog X.w) X.A (forIn ifs true λc r=>if r=true then do let ok <- isTrue c X.env (eval c X.env);pure (ForInStep.yield ok)else pure (ForInStep.yield r)) (TP X pins σ Q) X.xe s
def tYes:TT:=λ_ H Q=>Q true H
theorem JcY:PTs X [] tYes:=λ_ _ _ H _ I h=>wpAny_tests_nil ⟨H,I,h⟩
theorem JfK{c:Expr}{t:TT}(h:PT X c t):PTs X [c] t:=λa s σ H Q I b=>wpAny_tests_one (h a s σ H Q I b)
variable{iter elt:Expr}{ifs:List Expr}{pos:Pos}{te:TE}{tt:TT}
theorem Je4{g:TG}{it:Addr}{tn:Nat->Heap->Prop}{J:It}
  {W:Nat->Nat->List V->Hp->Prop} {m0:Nat} {QN:List V->Hp->Prop} {RR:Value->Addr->Result->Shared->Prop} {E:Value->Shared->Prop} (hc:X.calm=true)
  (hg:∀ fp s2 H2 C,PG (X.inc (own++cs.map (·.2)) scope cl fp s2 H2 C) tg g) (ht:∀ fp s2 H2 C,PTs (X.inc (own++cs.map (·.2)) scope cl fp s2 H2 C) ifs tt) (he:∀ fp s2 H2 C,PE (X.inc (own++cs.map (·.2)) scope cl fp s2 H2 C) elt te)
  (hcell:∀ y∈scope.names,y.2≠.cell) (hkind:scope.kind=.function)
  (hcl:∀ x c,cl.lookup x=some c->X.env.cells.lookup x=some c) (hhas:∀ y,((relabel scope X.env).names.lookup y=some .cell\/(relabel scope X.env).names.lookup y=some .free)->∃ c,cl.lookup y=some c)
  (hcs:∀ p∈cs,X.N[p.1]?=some p.2/\X.env.scope.names.lookup p.2=some .cell/\(relabel scope X.env).names.lookup p.2=some .cell)
  (I2:Inv X pins σ H2 s2) (T:Turn X.prog X.w X.K tg J fp it tn) (st2:tn 0 s2.heap) (f2:∀ b∈fp,FpOk X pins H2 b) (w0:W 0 m0 [] H2)
  (turn:∀ i m ys H2,W i m ys H2->ys.length<=sizeLine/\((J.stop i H2/\QN ys H2)\/(J.go i H2/\∀ x H3,J.yld i H2 x H3->g x (List.replicate own.length none++JaM cs σ) H3 λσ4 H4=>tt σ4 H4 λb H5=>if b=true then te σ4 H5 λy H6=>∃ m',m'<m/\W (i+1) m' (ys++[y]) H6 else∃ m',m'<m/\W (i+1) m' ys H5)))
  (hRR:∀(D C:Addr)(s6:Shared)(H5:Hp)(ys:List V),(∀ h7,Heap.SameBut C s6.heap h7->Inv X pins σ (upd H5 D (.lst ys)) { s6 with heap:=h7 })->H5 D=none->H5 C=none->D≠C->(∃ m,s6.heap.Ns C m)->s2.heap.objs.size<=C->QN ys H5->RR (.ref D) C (.ok .next) s6) :
  wpAny (model X.prog X.w) X.A (newList []) (λacc s₃=>wpAny (model X.prog X.w) X.A (newFunctionEnv scope X.env.globals cl [] X.env.qual none .none (some X.env)) (λcenv s₄=>
   codeAny (model X.prog X.w) X.A (.compStart (.ListComp elt [⟨tg,iter,ifs,0⟩] scope pos) 0 (.ref it) acc { cenv with scope:=relabel scope X.env }) (RR acc cenv.locals) s₄) E s₃) E s2:=by
 have O:∀ b∈fp,b<s2.heap.objs.size:=λb d=>by
  let(o,e,_):=T.obj _ _ st2 b d;show Heap.lt_size e
 show wpAny_newObj_type (wpAny_newFunctionEnv hcell (by intro y hy;simp at hy) (λh4 t j=>?_) hkind);dsimp only at t j ⊢;generalize hH3:s2.heap.push { cls:=.type "list",dict:=none,data:=.seq ([]:List Value).toArray }=H3 at t j ⊢;have a1:H3.objs.size=s2.heap.objs.size+1:=by rw[<- hH3,Heap.size_push]
 have hC:s2.heap.objs.size<=H3.objs.size:=by ac_nf
 have l:s2.heap.objs.size≠H3.objs.size:=by ac_nf
 have Z:∀ b o,s2.heap.get? b=some o->h4.get? b=some o:=λb o e=>j.extBut b o (by have:=Heap.lt_size e;show Nat.ne_of_lt (Nat.lt_of_lt_of_le this hC)) (Heap.get?_push_of_some _ (hH3 ▸ Heap.get?_push_of_some _ e));have a3:h4.get? s2.heap.objs.size=some { cls:=.type "list",data:=.seq ([]:List Value).toArray }:=j.extBut _ _ l (Heap.get?_push_of_some _ (hH3 ▸ Heap.get?_push_size _ rfl));obtain⟨D,h⟩:∃ D,D=s2.heap.objs.size:=⟨_,rfl⟩;obtain⟨C,b0⟩:∃ C,C=H3.objs.size:=⟨_,rfl⟩;rw[<- b0]at a1 t j hC l ⊢;rw[<- h]at O a1 hC l a3 ⊢;have H:=I2.incOk (N':=own++cs.map (·.2)) (C:=C) f2 (λb d=>by rw[<- h];show O b d) hkind (by rw[<- h];show hC) hcl hhas;have I4:Inv (X.inc (own++cs.map (·.2)) scope cl fp s2 H2 C) [] (List.replicate own.length none++JaM cs σ) H2 { s2 with heap:=h4,toks:=s2.toks+([]:List (Str × Value)).length } :=
  I2.incStart (s4:={ s2 with heap:=h4,toks:=s2.toks+([]:List (Str × Value)).length }) H Z rfl rfl t (by rw[<- h];show hC) hcl hcs
 have Dfree:H2 D=none:=I2.hok.fresh (Nat.le_of_eq h.symm);have L:∀ b o,s2.heap.get? b=some o->b≠D:=λb o e=>by
  rw[h];show Nat.ne_of_lt (Heap.lt_size e)
 have b2:∀ b o,s2.heap.get? b=some o->b≠C:=λb o e=>Nat.ne_of_lt (Nat.lt_of_lt_of_le (by rw[h];show Heap.lt_size e) hC);have Dfs:D∉frs X.stack:=λhm=>by
  let(_,o,e,_):=I2.stack.mem hm;show L _ _ e rfl
 have G:∀{σ':St}{H':Hp}{s':Shared}{us:List Value}{n:Nat}{pl:List (Addr × Obj)},Inv (X.inc (own++cs.map (·.2)) scope cl fp s2 H2 C) pl σ' H' s'->s'.heap.get? D=some { cls:=.type "list",data:=.seq us.toArray n }->H' D=none ->
   Inv (X.inc (own++cs.map (·.2)) scope cl fp s2 H2 C) [(D,{ cls:=.type "list",data:=.seq us.toArray n })] σ' H' s':=λ{σ' H' s' us n pl} J' e n'=>J'.pins_of λp hp=>by
  rcases mem_singleton.mp hp with rfl
  show(e,n',l,Dfs,λv z=>by cases z)
 have B:∀{H':Hp}{o:Obj},(∀ b∈fp,H' b=none)->∀ b∈fp,FpOk (X.inc (own++cs.map (·.2)) scope cl fp s2 H2 C) [(D,o)] H' b:=λ{H' o} hn b d=>by
  show(hn b d,(H.exf b d).1,H.exfs b d, .inl d,(H.exf b d).2,λp hp=>?_);rcases mem_singleton.mp hp with rfl
  show Nat.ne_of_gt (O b d)
 have P:∀ s3:Shared,s3={ s2 with heap:=h4,toks:=s2.toks+([]:List (Str × Value)).length } ->
   codeAny (model X.prog X.w) X.A (.compLoop (.ListComp elt [⟨tg,iter,ifs,0⟩] scope pos) 0 (.ref it) (.ref D) (compEnvC scope cl C X.env)) (RR (.ref D) C) s3:=by
  rintro s3 rfl;show Jh6 (λn s'=>∃ i ys us M H',Inv (X.inc (own++cs.map (·.2)) scope cl fp s2 H2 C) [(D,{ cls:=.type "list",data:=.seq us.toArray M })] (List.replicate own.length none++JaM cs σ) H' s'/\tn i s'.heap/\(∀ b∈fp,H' b=none)/\Vals ys us/\W i n ys H') ?_ m0
   ⟨0,[],[],0,H2,G (us:=[]) (n:=0) I4 a3 Dfree,T.keep _ _ _ st2 λb d o e=>Z b o e,λb d=>(f2 b d).1, .nil,w0⟩
  intro n s5 z_;let(i,ys,us,M,H5,I5,a4,a7,vy,w5):=z_;obtain⟨hz,⟨stop,qn⟩ | ⟨go,a5⟩⟩:=turn i n ys H5 w5
  .show wpAny_mono (T.done (X.inc (own++cs.map (·.2)) scope cl fp s2 H2 C) rfl rfl rfl hc i _ s5 _ H5 (λ_ _=>False) I5 (B a7) a4 stop) (λr s6 z=>?_) λ_ _ z=>z;let(rfl,I6):=z;let(m6,a8,_):=id I6.loc;let(pD,Y,_,_,_):=I6.pin (D,{ cls:=.type "list",data:=.seq us.toArray M }) (by simp);have Cfree:H5 C=none:=I6.free;show hRR D C s6 H5 ys (λh7 b3=>?_) Y Cfree l ⟨m6,a8⟩ (by rw[<- h];show hC) qn;have k:∀ b,b≠C->h7.get? b=s6.heap.get? b:=λb d=>b3.2 b d;have U:=b2;have u7:Un (frs X.stack) fp H2 H5 s2.heap h7:=⟨λb o e n1 n2 n3=>(k b (U b o e)).trans (I6.base.keep b o e n1 n2 n3),λb o e n1 n2 n3=>by
     let(sl,z):=I6.base.slot b o e n1 n2 n3;show(sl,(k b (U b o e)).trans z),I6.base.free,λb o e n1=>by
     let(o',z):=I6.base.there b o e n1;show(o',(k b (U b o e)).trans z),I6.base.tups,I6.base.frzs,I6.base.tbls⟩
   have a6:HOk X.prog X.w H5 h7:=λa o e=>by
    show(I6.hok a o e).stay (λc v b1 q=>(k c ?_).trans q) (λ_ q=>q) λ_ _ q=>q;rintro rfl;rcases b1 with z | z
    .rw[<- z]at e;rw[Cfree]at e;cases e
    .rw[Cfree]at z;cases z
   have I7:Inv X pins σ H5 { s6 with heap:=h7 }:=I2.call' (s':={ s6 with heap:=h7 }) I6.os u7 a6 I6.bare λb d=>⟨(f2 b d).2.2.2.1,(f2 b d).2.1,(f2 b d).2.2.2.2.1,(f2 b d).2.2.2.2.2⟩;show I7.track (a:=D) (o:=.lst ys) Y (Heap.get?_none_of_le (by rw[h];show I2.sz)) (by rw[h];show Nat.ne_of_gt I2.lt) (λx c e z=>by
     let(v,o,ho,_):=I2.cell x c e;show L _ _ ho z) (λp hp z=>L _ _ (I2.pin p hp).1 z) ⟨hz,us,M,vy,(k D l).trans pD⟩
  .show wpAny_mono (T.item (X.inc (own++cs.map (·.2)) scope cl fp s2 H2 C) rfl rfl rfl hc i _ s5 _ H5 (λ_ _=>False) I5 (B a7) a4 go) (λr s6 z=>?_) λ_ _ z=>z;let(u,rfl,z):=z;show wpAny_mono z (λ_ s7 ζ=>?_) λ_ _ z=>z;let(x,H7,I7,r7,y7,F,a9):=ζ;have I7':=I7.pinned (B a9) (T.obj _ _ F);show wpAny_mono (hg fp s2 H2 C _ s7 _ H7 x u _ I7' r7 (a5 x H7 y7)) (λ_ s8 ⟨σ8,H8,I8,q8⟩=>?_) λ_ _ z=>z;show wpAny_mono (ht fp s2 H2 C _ s8 σ8 H8 _ I8 q8) (λbb S ⟨I,I8',a2⟩=>?_) λ_ _ z=>z;cases bb with
   | true=>
    show wpAny_mono (he fp s2 H2 C _ S σ8 I _ I8' a2) (λuy s9 ζ=>?_) λ_ _ z=>z;let(y,H9,I9,r9,m',a0,w9):=ζ;let(pD,Y,_,_,_):=I9.pin (D,{ cls:=.type "list",data:=.seq us.toArray M }) (by simp);show append_at (its:=us.toArray) (n:=M) pD (λb4 Q R=>?_) (by rw[size_toArray, <- vy.length];show hz);have f:∀ b∈fp, ∀ o,s7.heap.get? b=some o->s9.heap.get? b=some o/\H9 b=none:=λb d o e=>by
     have z:=I9.pin (b,o) (mem_append_right _ (mem_append_right _ (Jc6 d e)));show(z.1,z.2.1)
    have I9':Inv (X.inc (own++cs.map (·.2)) scope cl fp s2 H2 C) [] (List.replicate own.length none++JaM cs σ) H9 s9:=I2.incAgain I9 f2 hcl hcs;have I10:Inv (X.inc (own++cs.map (·.2)) scope cl fp s2 H2 C) [] (List.replicate own.length none++JaM cs σ) H9 { s9 with heap:=b4 }:=I9'.turned (it:=D) (t':=s9.toks) (λb o d e=>(Q.2 b d).trans e) Y l (.inr (Nat.le_of_eq h.symm)) (λx c e z=>by
      let(v,o,ho,_):=I2.cell x c (hcl x c e);show L _ _ ho z) λp hp=>by simp at hp
    rw[lstP]at R;show(m',a0,i+1,ys++[y],us++[uy],M+1,H9,G I10 R Y,T.keep _ _ _ F λb d o e=>?_,λb d=>?_,vy.append (.cons r9 .nil),w9)
    .show(Q.2 b (Nat.ne_of_lt (O b d))).trans (f b d o e).1
    .let(o,e,_):=T.obj _ _ F b d;show(f b d o e).2
   | false=>
    let(m',a0,w9):=a2;let(pD,Y,_,_,_):=I8'.pin (D,{ cls:=.type "list",data:=.seq us.toArray M }) (by simp);have f:∀ b∈fp, ∀ o,s7.heap.get? b=some o->S.heap.get? b=some o/\I b=none:=λb d o e=>by
     have z:=I8'.pin (b,o) (mem_append_right _ (mem_append_right _ (Jc6 d e)));show(z.1,z.2.1)
    have I9':Inv (X.inc (own++cs.map (·.2)) scope cl fp s2 H2 C) [] (List.replicate own.length none++JaM cs σ) I S:=I2.incAgain I8' f2 hcl hcs;show(m',a0,i+1,ys,us,M,I,G I9' pD Y,T.keep _ _ _ F λb d o e=>(f b d o e).1,λb d=>?_,vy,w9);let(o,e,_):=T.obj _ _ F b d;show(f b d o e).2
 show codeAny_compStart_list (P _ rfl) (T.self _ 0 _ _ _ (T.keep _ _ _ st2 λb d o e=>Z b o e) (P _ rfl))
def rInU(K:W.Frag):R2:=λx y H Q=>match x,y with
 | .str i, .str j=>Q (.bl (!(Builtin.Str.occurrences j i 0 j.length 1).isEmpty)) H
 | x,y=>rIn K false x y H Q
theorem Jm0:OpR X (compareOp .In) (rInU X.K):=λa s σ H x y v u Q I b c q=>by
 unfold rInU at q;split at q
 .show Jjb a s σ H _ _ v u Q I b c ⟨_,_,rfl,rfl,q⟩
 .show Jja a s σ H _ _ v u Q I b c q
theorem JmZ{K:W.Frag}(hK:X.K=K):OpR X (compareOp .In) (rInU K):=hK ▸ Jm0
theorem ix_UK{K:W.Frag}(hK:X.K=K):IxR X (rIxU K):=hK ▸ ix_U
theorem JkW{K:W.Frag}(hK:X.K=K)(hu:X.A.units+64<cLine):OpR X (compareOp .Eq) (rEqU K):=hK ▸ JcR hu
theorem Jm2{K:W.Frag}(hK:X.K=K)(hu:X.A.units+64<cLine):OpR X (compareOp .NotEq) (rNeU K):=hK ▸ Jbr hu
theorem y5fy{K:W.Frag}{i j:Str}:rInU K (.str i) (.str j) H Q=Q (.bl (!(Builtin.Str.occurrences j i 0 j.length 1).isEmpty)) H:=rfl
theorem all_range:∀ bs:List Bool,(List.range bs.length).all (λi=>bs.getD i false)=bs.all id:=λbs=>by
 rw[Bool.eq_iff_iff];simp only[List.all_eq_true,List.mem_range,id];constructor
 .intro h x b;let(i,a,rfl):=List.mem_iff_getElem.mp b;have:=h i a;simpa[List.getD_eq_getElem?_getD,a]using this
 .intro h i a;have:=h bs[i] (List.getElem_mem a);simpa[List.getD_eq_getElem?_getD,a]using this
def rAll(K:W.Frag):List V->Hp->VK->Prop:=λxs H Q=>∃(p:Addr)(bs:List Bool),xs=[.ref p]/\SqL K H p (bs.map V.bl)/\Q (.bl (bs.all id)) H
theorem Jiw(hc:X.calm=true):CallR X (.builtin "all") (rAll X.K):=λj s σ H N L Q I r q=>by
 let(p,c,rfl,D,q):=q;let(a,f,h,F):=I.list D;let(u,rfl,B):=vals1 r;cases(show u=Value.ref p from B);show call_all_walk (wpAny_pyIter_list h.isList ?_);have g:p<s.heap.objs.size:=by
  let(_,e,_):=h.isList;show Heap.lt_size e
 show(s.heap.objs.size,_,_,a.toArray.size,_,_,λi=>c.getD i false,rfl,Walks.list (by show X.A.handled=none;show I.ok.hd hc) s.heap.objs.size p (Nat.ne_of_lt g) a.toArray,⟨⟨_,Heap.get?_push_size _ rfl,rfl,rfl⟩,h.isList.push _⟩,?_,?_)
 .intro i v J Q' E' o y;have d:a[i]?=some v:=by simpa using o
  have m:i<c.length:=by
   let(G,_):=List.getElem?_eq_some_iff.mp d;have l:=f.length;rw[length_map]at l;ac_nf
  let(E,n,t):=f.get (i:=i) (x:=.bl c[i]) (by simp[m]);rw[d]at n;cases n;cases(show v=Value.bool c[i]from t);show wpAny_truthy_bool ?_;simpa[List.getD_eq_getElem?_getD,m]using y
 .intro M w k;have l:=f.length;rw[length_map]at l;have z:(List.range a.toArray.size).all (λi=>c.getD i false)=c.all id:=by rw[size_toArray, <- l];show all_range c
  rw[z];show(.bl _,H,I.kept (t':=w) λb C e=>k b C (by have:=Heap.lt_size e;simp;show Nat.ne_of_lt this) (Heap.get?_push_of_some _ e),rfl,q)
def rSlS:V->Option Int->Option Int->Hp->VK->Prop:=λx lo hi H Q=>∃ z,x=.str z/\z.length<=sizeLine/\Q (.str (Txt.slice z lo hi)) H
theorem Jnk:SlR X rSlS:=λb s σ H x v vl o f j n Q I g c m i h=>by
 let(z,rfl,d,q):=h;let(t,rfl):=g;show("str",_,F.slot_str_getitem.lookup,typeIs_str _ _ _,?_);have a:∀(e:Tok)(k:Nat),EP X b σ Q (.str (Txt.slice z f j) e) { s with toks:=k }:=λe k=>⟨.str _,H,I.tok k,⟨_,rfl⟩,q⟩;cases m <;> cases i
 .show wpAny_getItem_str_slice (l:=none) (u:=none) (st:=none) c rfl (post_val_or_str ⟨Nat.le_trans (Txt.slice_le z _ _) d,a⟩)
 .show wpAny_getItem_str_slice (l:=none) (u:=some (_,_)) (st:=none) c rfl (post_val_or_str ⟨Nat.le_trans (Txt.slice_le z _ _) d,a⟩)
 .show wpAny_getItem_str_slice (l:=some (_,_)) (u:=none) (st:=none) c rfl (post_val_or_str ⟨Nat.le_trans (Txt.slice_le z _ _) d,a⟩)
 .show wpAny_getItem_str_slice (l:=some (_,_)) (u:=some (_,_)) (st:=none) c rfl (post_val_or_str ⟨Nat.le_trans (Txt.slice_le z _ _) d,a⟩)
def rSlV(K:W.Frag):V->Option Int->Option Int->Hp->VK->Prop:=λx lo hi H Q=>rSlU K x lo hi H Q\/rSlS x lo hi H Q
theorem sl_V:SlR X (rSlV X.K):=SlR.or sl_U Jnk
theorem hcs0:∀ p∈([]:List (Nat × Str)),X.N[p.1]?=some p.2/\X.env.scope.names.lookup p.2=some .cell/\(relabel scope X.env).names.lookup p.2=some .cell:=λ_ h=>by simp at h
mutual
def szD:D->Prop
 | .int i=>Mth.Sz 4000 i
 | .str s=>s.length<=1000
 | .tup xs=>szL xs
 | .lst xs=>szL xs
 | _=>True
def szL:List D->Prop
 | []=>True
 | x::xs=>szD x/\szL xs
end
def lowB(c:Nat):Bool:=decide (97<=c/\c<=122)
def nameS(s:Str):Bool:=(decide (1<=s.length)&&decide (s.length<=8))&&s.cps.toList.all lowB
def nameB:D->Bool
 | .str s=>nameS s
 | _=>false
def Jnt:D->Bool
 | .int _=>true
 | _=>false
def fracB:D->Bool
 | .tup [.int a, .int b]=>decide (1<=b)&&decide (Mth.g a b=1)
 | _=>false
def JkJ:D->Bool
 | .non=>true
 | d=>fracB d
def JkR(d e:D):Bool:=nameB d&&nameB e&&!eqD d e
def lessD:D->D->Bool
 | .tup [.int a, .int b], .tup [.int c, .int d]=>decide (a*d<c*b)
 | _,_=>false
def Jll(l g:D):Bool:=JkJ l&&JkJ g&&!lessD g l
def tieB:D->Bool
 | .tup [n,s,e,l,g]=>nameB n&&JkR s e&&Jll l g
 | _=>false
theorem Jib:(Str.ofString "abcdefghijklmnopqrstuvwxyz").cps.toList=List.range' 97 26:=by decide
theorem Jh9(c:Nat):(!(Builtin.Str.occurrences (Str.ofString "abcdefghijklmnopqrstuvwxyz") ⟨#[c]⟩ 0 (Str.ofString "abcdefghijklmnopqrstuvwxyz").length 1).isEmpty)=lowB c:=by
 rw[StrLaws.found_one,Jib];unfold lowB
 congr 1
 rw[List.mem_range'];show propext ⟨λζ=>by let(i,a,e):=ζ;ac_nf,λh=>⟨c-97,by ac_nf,by ac_nf⟩⟩
structure KCal(P:Program)(w:World)(K:W.Frag)(mg:Str->Option Value)(base:Heap)(k:Nat)(x:Str)(C:Addr)(ps:List Str)(sp:Sp):Prop where
 ex:∃(f:Addr)(fd:FuncData),FnOk P w K mg base (CX1 P w) k f fd ps sp/\mg x=some (.ref C)/\Mk K C f/\Binds K fd ps []
structure MCal(P:Program)(w:World)(K:W.Frag)(mg:Str->Option Value)(base:Heap)(k:Nat)(m:Str)(Cs:Addr->Prop)(ps:List Str)(sp:Sp):Prop where
 ex:∃(f:Addr)(fd:FuncData),FnOk P w K mg base (CX1 P w) k f fd ps sp/\(∀ C,Cs C->Cls K C/\Meth K C m f)/\W.keepIn K (.ref f)=true/\Binds K fd ps []
def JjJ(Cs:Addr->Prop)(m:Str)(sp:Sp)(E:XK)(ta:TE)(t:TA):TE:=λσ H Q=>ta σ H λx H1=>∃ a C dx fs,x=.ref a/\H1 a=some (.ins C dx fs)/\Cs C/\fs.lookup m=none/\t σ H1 λvs H2=>sp (x::vs) H2 Q E
section
variable{k':Nat}{mn:Str}{Cs:Addr->Prop}{ps:List Str}{sp:Sp}{E:XK}{p apos:Pos}{e o:Expr}{es:List Expr}{ta:TE}{k:Nat}{t:TA}
theorem KCal.ev(G:KCal X.prog X.w X.K X.mg X.base k x C ps sp)(hr:Room k' X.A)(hk:k+1<=k')(hg:Gl X x)(hx:Jb4 (CX1 X.prog X.w) X E)(ha:PA X (e::es) t)
  (hdb:autoParam ((x == ("__debug__" : Str))=false) Au) (he:autoParam (starEach (e::es) X.env=(false,eval e X.env)::starEach es X.env) Au) (hpl:autoParam ((backTo pos (starEach es X.env)).any (·.1)=false) Au) :
  PE X (.Call (.Name x p) (e::es) [] pos) (tMake C sp [] E t):=by
 let(f,c,F,b,M,a):=G.ex;show Jl1 M F (hr.mono hk) hg b a .nil hx ha hdb he hpl
variable{pl:Sem Bool}
theorem MCal.m(G:MCal X.prog X.w X.K X.mg X.base k mn Cs ps sp)(hr:Room k' X.A)(hk:k<=k')(hx:Jb4 (CX1 X.prog X.w) X E)(ho:PE X o ta)(ha:PA X (e::es) t)
  (hst:autoParam (starEach (e::es) X.env=(false,eval e X.env)::starEach es X.env) Au) (hpl:autoParam ((backTo pos (starEach es X.env)).any (·.1)=false) Au)
  (ht:autoParam (eval (.Call (.Attribute o mn apos) (e::es) [] pos) X.env=(do
   let ov <- eval o X.env
   standAt apos.atName
   let(f,first) <- holding [ov] (getMethod ov mn pl)
   callWith pos f first (backTo pos (starEach (e::es) X.env)) (backToKw pos (keywordEach [] X.env)))) Au) :
  PE X (.Call (.Attribute o mn apos) (e::es) [] pos) (JjJ Cs mn sp E ta t):=by
 let(f,L,F,c,v,z):=G.ex;intro b s σ H Q I h;show W.methodCall_KW (pl:=pl) (thn (ho b s σ H _ I h) λu p ζ=>?_) ht;let(x,i,I1,j,a,C,M,B,n,y,d,l,q):=ζ;subst n;obtain rfl:u=Value.ref a:=j;show Je8 I1 y (c C d).1 (c C d).2 l ?_;show W.callWith_K (first:=[.ref a]) (h₀:=X.base) I.ok.mod.kin v (thn (ha pos b p σ i _ I1 q) λus D ζ=>?_) hst hpl;let(vs,J,I2,r,g):=ζ;show(I2.kIn,?_);show Jjr (us:=.ref a::us) (vs:=.ref a::vs) F (hr.mono hk) z .nil hx I2 (.cons rfl r) (by simpa using g)
theorem MCal.m0(G:MCal X.prog X.w X.K X.mg X.base k mn Cs ps sp)(hr:Room k' X.A)(hk:k<=k')(hx:Jb4 (CX1 X.prog X.w) X E)(ho:PE X o ta)
  (ht:autoParam (eval (.Call (.Attribute o mn apos) [] [] pos) X.env=(do
   let ov <- eval o X.env
   standAt apos.atName
   let(f,first) <- holding [ov] (getMethod ov mn pl)
   callWith pos f first (backTo pos (starEach [] X.env)) (backToKw pos (keywordEach [] X.env)))) Au) :
  PE X (.Call (.Attribute o mn apos) [] [] pos) (JjJ Cs mn sp E ta tNil):=by
 let(f,r,F,c,j,n):=G.ex;intro b s σ H Q I h;show W.methodCall_KW (pl:=pl) (thn (ho b s σ H _ I h) λu t ζ=>?_) ht;let(x,e,I1,g,a,C,v,p,i,m,d,l,q):=ζ;subst i;obtain rfl:u=Value.ref a:=g;show Je8 I1 m (c C d).1 (c C d).2 l ?_;show W.callWith_K0 (first:=[.ref a]) I1.kIn j (Jjr (us:=[.ref a]) (vs:=[.ref a]) F (hr.mono hk) n .nil hx I1 (.cons rfl .nil) (show sp ([.ref a]++[]) e Q E from q))
def rMulS:R2:=λx y H Q=>match x,y with
 | .str z, .int n=>0<n/\n<1000/\z.length<=1000/\∀ z':Str,z'.cps.toList=(List.replicate n.toNat z.cps.toList).flatten->Q (.str z') H
 | x,y=>rMulU x y H Q
theorem Jfk:∀(l:List (Array Nat))(acc:Array Nat),(l.foldl (· ++ ·) acc).toList=acc.toList++(l.map (·.toList)).flatten
 | [],acc=>by simp
 | x::l,acc=>by
  rw[List.foldl_cons,Jfk l];simp
theorem Jjc:OpR X (binaryOp .Mult) rMulS:=λa s σ H x y v u Q I b d q=>by
 unfold rMulS at q;split at q
 .rename_i z n;let(h,j,i,q):=q;let(t,rfl):=b;let(k,rfl):=d;have g:z.cps.size=z.length:=rfl;have f:z.length*n.toNat<=1000*1000:=Nat.mul_le_mul i ∅;show PySem.P.mul_str (by simp;ac_nf) (λ_ _=>?_) (λ_ _=>?_) ?_
  .have : (1000:Int)<=(2 ^ 63-1)/n:=by
    rw[Int.le_ediv_iff_mul_le h];ac_nf
   ac_nf
  .unfold Builtin.Str.tooLong;simp;have : (1000*1000:Nat)<=sizeLine:=by decide
   ac_nf
  .rw[if_neg ∅];split
   .rename_i c;show(.str z,H,I,⟨_,rfl⟩,q z ?_);rcases Bool.or_eq_true _ _ |>.mp c with c | c
    .obtain rfl:n=1:=by simpa using c
     simp
    .have e:z.cps.toList=[]:=by
      have : z.length=0:=by simpa using c
      show List.eq_nil_of_length_eq_zero (by rw[Array.length_toList];show this)
     rw[e];simp
   .show(?_, .str _,H,I.tok _,⟨_,rfl⟩,q _ ?_)
    .show(Array.size _)<=sizeLine;rw[<- Array.length_toList,Jfk];simp;have : (1000*1000:Nat)<=sizeLine:=by decide
     rw[Nat.mul_comm,g];ac_nf
    .rw[Jfk];simp
 .show JlT a s σ H _ _ v u Q I b d q
def rIsN:R2:=λx y H Q=>y=.non/\Q (.bl (decide (x=.non))) H
def rNotN:R2:=λx y H Q=>y=.non/\Q (.bl (!decide (x=.non))) H
theorem Jex:OpR X (compareOp .Is) rIsN:=Jm1
theorem JfG:OpR X (compareOp .IsNot) rNotN:=JlU
def Jnd(K:W.Frag):List V->Hp->VK->Prop:=λxs H Q=>∃ p ys,xs=[.ref p]/\(SqL K H p ys\/SqT K H p ys)/\∀ l,H l=none->Q (.ref l) (upd H l (.lst ys))
theorem Je1:CallR X (.type "list") (Jnd X.K):=Jgb
end
section
variable{K:W.Frag}{x:V}
theorem y62y:rIsN x .non H Q=Q (.bl (decide (x=.non))) H:=by simp[rIsN]
theorem y79y:rNotN x .non H Q=Q (.bl (!decide (x=.non))) H:=by simp[rNotN]
variable{sp:Sp}{E:XK}
theorem y68y{dvs:List V}{t:TA}:tMake C sp dvs E t σ H Q=t σ H λvs H1=>∀ x dx,H1 x=none->H1 dx=none->dx≠x->sp (.ref x::(vs++dvs)) (upd (upd H1 dx (.own x)) x (.ins C dx [])) (λv H2=>v=.non/\Q (.ref x) H2) E:=rfl
variable{ta:TE}
theorem y6ay{Cs:Addr->Prop}{mn:Str}{t:TA}:JjJ Cs mn sp E ta t σ H Q=ta σ H λx H1=>∃ a C dx fs,x=.ref a/\H1 a=some (.ins C dx fs)/\Cs C/\fs.lookup mn=none/\t σ H1 λvs H2=>sp (x::vs) H2 Q E:=rfl
theorem y4ey{f:Str}:tFld K ta f σ H Q=ta σ H λx H1=>∃ a C dx fs v,x=.ref a/\H1 a=some (.ins C dx fs)/\Cls K C/\JaY K C f/\fs.lookup f=some v/\Q v H1:=rfl
variable{tv:TE}{En:Ends}
theorem y88y{f:Str}:sFld K ta tv f En σ H=tv σ H λy H1=>ta σ H1 λx H2=>∃ a C dx fs,x=.ref a/\H2 a=some (.ins C dx fs)/\Cls K C/\JaY K C f/\fs.length<1000/\En.nx σ (upd H2 a (.ins C dx (putF f y fs))):=rfl
theorem y2dy{T:String}{r:V->List V->Hp->VK->Prop}{to:TE}{t:TA}:tBM K T r to t σ H Q=to σ H λx H1=>tyV K T x H1/\t σ H1 λvs H2=>r x vs H2 Q:=rfl
variable{R:St->Hp->Prop}
theorem y59y{g:TG}{gs:TGs}:gCons g gs (v::r) σ H R=g v σ H λσ' H'=>gs r σ' H' R:=by
 unfold gCons;show propext ⟨λ⟨a,b,e,h⟩=>?_,λh=>⟨v,r,rfl,h⟩⟩;cases e;show h
theorem y5by:gNil [] σ H R=R σ H:=by unfold gNil;simp
def nonD:D->Bool
 | .non=>true
 | _=>false
theorem putE{l:Addr}(e:upd H l o=H'):H' l=some o:=by rw[<- e,Jak]
end
section
variable{En:Ends}{ta tb tc:TE}{td:TE}{K:W.Frag}
end
def JbW(cells:List (Str × Addr)):List (Str × NameKind)->List (Str × Addr)->List (Str × Addr)
 | [],acc=>acc
 | (n,k)::r,acc=>JbW cells r (if k == .free then(n,(cells.lookup n).getD 0)::acc else acc)
theorem JgK{env:Env}:∀(names:List (Str × NameKind))(acc:List (Str × Addr)),(∀ p∈names,p.2=.free->∃ c,env.cells.lookup p.1=some c) ->
  (forIn names acc λ(p:Str × NameKind) cs=>(if p.2 == .free then do let c <- cellOf env p.1;pure (ForInStep.yield ((p.1,c)::cs))else pure (ForInStep.yield cs):Sem (ForInStep (List (Str × Addr)))))=(pure (JbW env.cells names acc):Sem (List (Str × Addr)))
 | [],acc,_=>by simp[JbW]
 | (n,k)::r,acc,h=>by
  rw[List.forIn_cons];by_cases c:(k == .free)=true
  .let(a,ha):=h (n,k) mem_cons_self (beq_iff_eq.mp c);have e:cellOf env n=pure a:=by unfold cellOf;rw[ha]
   simp only[c,if_true,e,pure_bind];have:=JgK (env:=env) r ((n,a)::acc) λp hp=>h p (mem_cons_of_mem _ hp);simp only[JbW,c,if_true,ha,Option.getD_some];show this
  .have c':(k == .free)=false:=by simpa using c
   simp only[c',Bool.false_eq_true,if_false,pure_bind];have:=JgK (env:=env) r acc λp hp=>h p (mem_cons_of_mem _ hp);simp only[JbW,c',Bool.false_eq_true,if_false];show this
theorem JiB{env:Env}(h:∀ p∈scope.names,p.2=.free->∃ c,env.cells.lookup p.1=some c):closureFor scope env=pure (JbW env.cells scope.names []):=by
 have:=JgK (env:=env) scope.names [] h;unfold closureFor;simp only[pure_bind];show Eq.trans ?_ (congrArg (λm:Sem (List (Str × Addr))=>m >>= pure) this |>.trans (by simp));first | rfl | (congr 1)
variable{cells:List (Str × Addr)}
theorem JdF:∀(names:List (Str × NameKind))(acc:List (Str × Addr)),(∀ x c,acc.lookup x=some c->cells.lookup x=some c)->(∀ p∈names,p.2=.free->∃ c,cells.lookup p.1=some c) ->
  ∀ x c,(JbW cells names acc).lookup x=some c->cells.lookup x=some c
 | [],acc,ha,_,x,c,h=>ha x c h
 | (n,k)::r,acc,ha,hf,x,c,h=>by
  simp only[JbW]at h;show JdF r _ ?_ (λp hp=>hf p (mem_cons_of_mem _ hp)) x c h;intro y d hy;by_cases f:(k == .free)=true
  .rw[if_pos f]at hy;let(a,e):=hf (n,k) mem_cons_self (beq_iff_eq.mp f);rw[List.lookup_cons]at hy;by_cases q:(y == n)=true
   .rw[q]at hy;have q':y=n:=beq_iff_eq.mp q;subst q';have e':cells.lookup y=some a:=e;rw[e']at hy ⊢;simpa using hy
   .have q':(y == n)=false:=by simpa using q
    rw[q']at hy;show ha y d hy
  .rw[if_neg f]at hy;show ha y d hy
theorem JdE:∀(names:List (Str × NameKind))(acc:List (Str × Addr))(y:Str),((∃ c,acc.lookup y=some c)\/(y,NameKind.free)∈names)->∃ c,(JbW cells names acc).lookup y=some c
 | [],acc,y,h=>by
  rcases h with h | h
  .show h
  .simp at h
 | (n,k)::r,acc,y,h=>by
  simp only[JbW];show JdE r _ y ?_;rcases h with⟨c,h⟩ | h
  .show .inl ?_;split
   .rw[List.lookup_cons];cases(y == n)
    .show(c,h)
    .show(_,rfl)
   .show(c,h)
  .rcases mem_cons.mp h with e | h
   .cases e;show .inl ?_;rw[if_pos ⋯,List.lookup_cons];simp
   .show .inr h
theorem JiP(hcell:∀ y∈scope.names,y.2≠.cell){y:Str}(hy:(relabel scope X.env).names.lookup y=some .cell\/(relabel scope X.env).names.lookup y=some .free):(y,NameKind.free)∈scope.names:=by
 have f:∀ k,(k=.cell\/k=.free)->(relabel scope X.env).names.lookup y=some k->(y,NameKind.free)∈scope.names:=λk g e=>by
  have m:=PySem.mem_of_lookup e;let((n,d),a,h):=mem_map.mp (show(y,k)∈scope.names.map _ from m);have b:(if(d == NameKind.free&&X.env.scope.kind == .function&&X.env.kindOf n == some .cell)=true then(n,NameKind.cell)else(n,d))=(y,k):=h;split at b
  .rename_i c;rw[Bool.and_eq_true,Bool.and_eq_true]at c;have:=beq_iff_eq.mp c.1.1;subst this;cases b;show a
  .cases b;rcases g with rfl | rfl
   .show absurd rfl (hcell _ a)
   .show a
 rcases hy with hy | hy
 .show f _ (.inl rfl) hy
 .show f _ (.inr rfl) hy
variable{wi:TI}
theorem Jcy{g:TG}(hc:X.calm=true)(hi:PI X tg iter wi)
  (hg:∀ fp s2 H2 C,PG (X.inc (own++cs.map (·.2)) scope (JbW X.env.cells scope.names []) fp s2 H2 C) tg g) (ht:∀ fp s2 H2 C,PTs (X.inc (own++cs.map (·.2)) scope (JbW X.env.cells scope.names []) fp s2 H2 C) ifs tt) (he:∀ fp s2 H2 C,PE (X.inc (own++cs.map (·.2)) scope (JbW X.env.cells scope.names []) fp s2 H2 C) elt te)
  (hfree:∀ p∈scope.names,p.2=.free->X.env.scope.names.lookup p.1=some .cell) (hcell:∀ y∈scope.names,y.2≠.cell) (hkind:scope.kind=.function) (hnames:∀ y∈scope.names,y.2=.local->scope.names.lookup y.1=some .local)
  (hcs:∀ p∈cs,X.N[p.1]?=some p.2/\X.env.scope.names.lookup p.2=some .cell/\(relabel scope X.env).names.lookup p.2=some .cell)
  (hs:autoParam (∀ x,foldedSetIterable iter X.env x=pure x) Au):PE X (.ListComp elt [⟨tg,iter,ifs,0⟩] scope pos) (JeO own.length cs wi g tt te):=by
 intro a s σ H Q I h;have d:∀ p∈scope.names,p.2=.free->∃ c,X.env.cells.lookup p.1=some c:=λp M t=>I.ok.has p.1 (.inl (hfree p M t));have e:=JdF (cells:=X.env.cells) scope.names [] (λ_ _ z=>by simp at z) d;rw[eval_ListComp];show wpAny_comprehension_free (use:=none) rfl hs (JiB d) hkind hnames (thn (hi a s σ H _ I h) λv P D=>thn D λF s2 K=>?_);let(Z,fp,O,J,H2,rfl,I2,T,j,G,W,(R,r),b):=K;show Je4 (QN:=λn f=>∀ p,f p=none->Q (.ref p) (upd f p (.lst n))) (RR:=λm C=>compPost (model X.prog X.w) X.A X.xe none (EP X a σ Q) m C) hc hg ht he hcell hkind e (λz E=>JdE scope.names [] z (.inr (JiP hcell E))) hcs I2 T j G r b ?_;intro D' C Y f n i u V U B S q;let(o,k):=B;show(o,k,λL l=>⟨.ref D',_,i L l,rfl,q D' u⟩)
theorem Jfb{e:Expr}{k:Nat}{g:TG}(h:PE X e (JeO k cs wi g tYes te)):PE X e (tComp k cs wi g te):=h
theorem JcQ{sc:Scope}(h:scope.names.all (λp=>p.2 != .free||(sc.names.lookup p.1 == some .cell))=true):∀ p∈scope.names,p.2=.free->sc.names.lookup p.1=some .cell:=λp b a=>by
 have z:=List.all_eq_true.mp h p b;rw[a]at z;simpa using z
theorem hcs1{i:Nat}(a:X.N[i]?=some x)(b:X.env.scope.names.lookup x=some .cell)(c:(relabel scope X.env).names.lookup x=some .cell) :
  ∀ p∈[(i,x)],X.N[p.1]?=some p.2/\X.env.scope.names.lookup p.2=some .cell/\(relabel scope X.env).names.lookup p.2=some .cell:=λp d=>by
 rcases mem_singleton.mp d with rfl
 show(a,b,c)
variable{j:Nat}{y:Str}
theorem hcs2{i:Nat}(a:X.N[i]?=some x)(b:X.env.scope.names.lookup x=some .cell)(c:(relabel scope X.env).names.lookup x=some .cell)
  (a':X.N[j]?=some y) (b':X.env.scope.names.lookup y=some .cell) (c':(relabel scope X.env).names.lookup y=some .cell) :
  ∀ p∈[(i,x),(j,y)],X.N[p.1]?=some p.2/\X.env.scope.names.lookup p.2=some .cell/\(relabel scope X.env).names.lookup p.2=some .cell:=λp d=>by
 rcases mem_cons.mp d with rfl | d
 .show(a,b,c)
 .rcases mem_singleton.mp d with rfl
  show(a',b',c')
theorem Jb5{spos py:Pos}{g:TG}(hN:X.N.Nodup)(hj:X.N[j]?=some y)(hy:Loc X.env.scope y)(hc:X.calm=true)(hi:PI X tg iter wi)
  (hg:∀ fp s2 H2 C,PG (X.inc (own++cs.map (·.2)) scope (JbW X.env.cells scope.names []) fp s2 H2 C) tg g) (ht:∀ fp s2 H2 C,PTs (X.inc (own++cs.map (·.2)) scope (JbW X.env.cells scope.names []) fp s2 H2 C) ifs tt) (he:∀ fp s2 H2 C,PE (X.inc (own++cs.map (·.2)) scope (JbW X.env.cells scope.names []) fp s2 H2 C) elt te)
  (hfree:∀ p∈scope.names,p.2=.free->X.env.scope.names.lookup p.1=some .cell) (hcell:∀ y∈scope.names,y.2≠.cell) (hkind:scope.kind=.function) (hnames:∀ y∈scope.names,y.2=.local->scope.names.lookup y.1=some .local)
  (hcs:∀ p∈cs,X.N[p.1]?=some p.2/\X.env.scope.names.lookup p.2=some .cell/\(relabel scope X.env).names.lookup p.2=some .cell)
  (hsw:autoParam (swapsWith (.ListComp elt [⟨tg,iter,ifs,0⟩] scope pos) (some (.Name y py)) spos.line X.env=pure true) Au)
  (hs:autoParam (∀ x,foldedSetIterable iter X.env x=pure x) Au) (hf:autoParam (X.fn y=true\/X.env.scope.names.lookup y=some .local) Au) :
  PS X (.Assign [.Name y py] (.ListComp elt [⟨tg,iter,ifs,0⟩] scope pos) spos) (tAsg (JeO own.length cs wi g tt te) (gName j)):=by
 intro d s σ H D I h;have k:∀ p∈scope.names,p.2=.free->∃ c,X.env.cells.lookup p.1=some c:=λp K P=>I.ok.has p.1 (.inl (hfree p K P));have m:=JdF (cells:=X.env.cells) scope.names [] (λ_ _ z=>by simp at z) k;rw[exec_Assign_Name_used _ _ _ _ hsw];show wpAny_bind (wpAny_standAt (wpAny_bind ?_));show wpAny _ X.A (do let _ <- comprehension (.ListComp elt [⟨tg,iter,ifs,0⟩] scope pos) scope X.env _ (newList []) false (eval iter X.env) (some (assign (.Name y py) X.env))) _ _ s;show wpAny_bind (wpAny_mono (wpAny_comprehension_free (use:=some (assign (.Name y py) X.env)) (Q:=λ_ L=>SP X d D .next L) rfl hs (JiB k) hkind hnames
  (thn (hi d s σ H _ I h) λv s1 V=>thn V λa0 s2 h2=>?_)) (λ_ L hq=>wpAny_pure (wpAny_pure hq)) λ_ _ e=>e)
 let(it,fp,tn,J,H2,rfl,I2,T,u,f2,W,(m0,O),i):=h2;show Je4 (QN:=λB l=>∀ p,l p=none->D.nx (σ.set j (some (.ref p))) (upd l p (.lst B))) hc hg ht he hcell hkind m (λz Y=>JdE scope.names [] z (.inr (JiP hcell Y))) hcs I2 T u f2 O i ?_;intro D' C G l B t S cN dc U f q;let(M,F):=U;have I8:Inv X d σ (upd l D' (.lst B)) G:=t G.heap (Heap.SameBut.refl _ _);show wpAny _ X.A (assign (.Name y py) X.env (.ref D')) _ _ G;show wpAny_assign_Name (Jgz (v:=.ref D') I8 hN hj hy rfl (λR I7 E=>?_) hf);let(a,Z,w):=E;have nC:C≠a:=by
  rcases w with rfl | w
  .show Nat.ne_of_gt (Nat.lt_of_lt_of_le I2.lt f)
  .let(v,o,n,_):=I2.cell y a w;show Nat.ne_of_gt (Nat.lt_of_lt_of_le (Heap.lt_size n) f)
 show(M,F.sameBut Z nC,λh8 r=>⟨_,_,?_,q D' S⟩);show I7.turned (it:=C) (t':=R.toks) (λb o hb e=>(r.2 b hb).trans e) (by rw[Jah (Ne.symm dc)];show cN) (Nat.ne_of_gt (Nat.lt_of_lt_of_le I2.lt f)) (.inr (Nat.le_trans I2.sz f)) (λx c e z=>by
  let(v,o,n,_):=I2.cell x c e;show absurd (Nat.lt_of_lt_of_le (Heap.lt_size n) f) (by rw[z];show Nat.lt_irrefl _)) (λp K z=>absurd (Nat.lt_of_lt_of_le (Heap.lt_size (I2.pin p K).1) f) (by rw[z];show Nat.lt_irrefl _))
theorem JkZ{st:Stmt}{k:Nat}{g:TG}{gn:TG}(h:PS X st (tAsg (JeO k cs wi g tYes te) gn)):PS X st (tAsg (tComp k cs wi g te) gn):=h
section
variable{h':Heap}{s:Shared}
theorem Inv.turnedL{t':Nat}{ch:List Addr}(I:Inv X pins σ H s)(k:∀ b o,b∉ch->s.heap.get? b=some o->h'.get? b=some o)(hf:∀ b∈ch,FpOk X pins H b):Inv X pins σ H { s with heap:=h',toks:=t' }:=by
 have d:∀ b u,H b=some u->b∉ch:=λb u e z=>by rw[(hf b z).1]at e;cases e
 show I.step (g':=s.gens) (d':=s.drawn) (ch:=ch) (λb t=>?_) (λb o _ _ a e _=>k b o a e) (λb o _ _ a e _=>⟨o.slots,k b o a e⟩) (λ_ _ _ _ n=>n)
  (λb o a e=>⟨o,k b o a e⟩) (λ_ _ e=>e) (λ_ _ _ e=>e) (λb x e=>⟨#[],by rw[e];simp⟩) (λm h=>?_) (λb u e=>?_) I.bare
 .let(_,p,_,j,i,w):=hf b t;show(j,p,i,w)
 .let(o,l,f,g,r):=h;show(o,l,f,k _ o (λz=>(hf _ z).2.1 rfl) g,r)
 .show(I.hok b u e).stay (λc v a q=>k c v ?_ q) (λ_ q=>q) λ_ _ q=>q;rcases a with z | z
  .rw[z];show d b u e
  .show d c _ z
end
theorem za(n a b:Nat)(h1:a<n)(h2:b<n):ZipApart (n+4) (n+2) (n+3) n (n+1) a b where
 TIz:=Nat.ne_of_lt (show n+2<n+4 by ac_nf)
 TOz:=Nat.ne_of_lt (show n+3<n+4 by ac_nf)
 i1z:=Nat.ne_of_lt (show n<n+4 by ac_nf)
 i2z:=Nat.ne_of_lt (show n+1<n+4 by ac_nf)
 TITO:=Nat.ne_of_lt (show n+2<n+3 by ac_nf)
 TIi1:=Nat.ne_of_gt (show n<n+2 by ac_nf)
 TIi2:=Nat.ne_of_gt (show n+1<n+2 by ac_nf)
 TOi1:=Nat.ne_of_gt (show n<n+3 by ac_nf)
 TOi2:=Nat.ne_of_gt (show n+1<n+3 by ac_nf)
 i12:=Nat.ne_of_lt (show n<n+1 by ac_nf)
 l1z:=Nat.ne_of_lt (show a<n+4 by ac_nf)
 l1TO:=Nat.ne_of_lt (show a<n+3 by ac_nf)
 l1i1:=Nat.ne_of_lt (show a<n by ac_nf)
 l1i2:=Nat.ne_of_lt (show a<n+1 by ac_nf)
 l2z:=Nat.ne_of_lt (show b<n+4 by ac_nf)
 l2TO:=Nat.ne_of_lt (show b<n+3 by ac_nf)
 l2i1:=Nat.ne_of_lt (show b<n by ac_nf)
 l2i2:=Nat.ne_of_lt (show b<n+1 by ac_nf)
def Itz(K:W.Frag)(a b:Addr):It :=
  ⟨λi H=>∃ xs ys x y,SqL K H a xs/\SqL K H b ys/\xs[i]?=some x/\ys[i]?=some y,
   λi H v H'=>∃ p x y,(∀ xs,SqL K H a xs->xs[i]?=some x)/\(∀ ys,SqL K H b ys->ys[i]?=some y)/\H p=none/\v=.ref p/\H'=upd H p (.tup [x,y]),
   λi H=>∃ xs ys,SqL K H a xs/\SqL K H b ys/\(xs.length<=i\/ys.length<=i)⟩
variable{elts:List Expr}{x1:Nat}{tp:Pos}
theorem JkC{w:World}{K:W.Frag}{z TI TO i1 i2 a b:Addr}(D:ZipApart z TI TO i1 i2 a b) :
  Turn P w K (.Tuple elts x1 tp) (Itz K a b) [z,TI,TO,i1,i2] z (λi h=>IsZip h z TI TO .none/\IsPair h TI (.ref i1) (.ref i2)/\(∃ u v,IsPair h TO u v)/\h.IsListIter i1 a i/\h.IsListIter i2 b i) where
 mem:=by simp
 obj:=λi h r c f=>by
  let(m,g,(u,v,j),B,C):=r;simp only[mem_cons,not_mem_nil,or_false]at f;rcases f with rfl | rfl | rfl | rfl | rfl
  .show(_,m,λv z=>by cases z)
  .show(_,g,λv z=>by cases z)
  .show(_,j,λv z=>by cases z)
  .let(o,e,c,d):=B;show(o,e,λv z=>by rw[d]at z;cases z)
  .let(o,e,c,d):=C;show(o,e,λv z=>by rw[d]at z;cases z)
 keep:=λi h h' r k=>by
  let(m,g,(u,v,j),B,C):=r;show(k z (by simp) _ m,k TI (by simp) _ g,⟨u,v,k TO (by simp) _ j⟩,B.at λo e=>k i1 (by simp) o e,C.at λo e=>k i2 (by simp) o e)
 item:=by
  intro X hP V hK f i F s σ H E I N r hg;subst hP V hK;let(m,g,(u,v,j),B,C):=r;let(xs,ys,x,y,M,L,hx,hy):=hg;let(U,rx,px,zx):=I.list M;let(Y,ry,T,zy):=I.list L;let(R,Z,a8):=rx.get hx;let(O,a0,S):=ry.get hy;show wpAny_pyNext_zip_item D m g j B C px.isList T.isList (x:=R) (y:=O) (by simpa using Z) (by simpa using a0) λh' a1 a2 a3 a4 a5 a6 J=>?_;show(_,rfl,?_);show wpAny_letOwnedTupleGo_zip (s:={ s with heap:=h' }) a1 λG a7 l=>?_;have t:∀{c o},s.heap.get? c=some o->c≠s.heap.objs.size:=λe=>Nat.ne_of_lt (Heap.lt_size e);have nz:s.heap.objs.size≠z:=λq=>t m q.symm;have I1:Inv X F σ H { s with heap:=G,toks:=s.toks }:=I.turnedL (ch:=[z,TI,TO,i1,i2]) (λc o f e=>by
   simp only[mem_cons,not_mem_nil,or_false,not_or]at f;show l.extBut _ _ f.1 (J c o f.1 f.2.2.1 f.2.2.2.1 f.2.2.2.2 e)) N
  have fr:H s.heap.objs.size=none:=I.hok.fresh (Nat.le_refl _);have hT:G.get? s.heap.objs.size=some { cls:=.type "tuple",data:=.seq #[R,O] }:=l.extBut _ _ nz a5;have I2:=I1.track (a:=s.heap.objs.size) (o:=.tup [x,y]) fr (Heap.get?_none_of_le I.sz) (Nat.ne_of_gt I.lt) (λn c e q=>by
   let(v,o,ho,_):=I.cell n c e;show t ho q) (λp hp q=>t (I.pin p hp).1 q) ⟨by show 2<=sizeLine;decide,[R,O], .cons a8 (.cons S .nil),⟨_,hT,rfl,_,rfl⟩⟩
  show(.ref s.heap.objs.size,_,I2,rfl,⟨_,x,y,λzs q=>by rw[I.list_inj q M];show hx,λzs q=>by rw[I.list_inj q L];show hy,fr,rfl,rfl⟩,?_,λc f=>?_)
  .show(a7,l.extBut _ _ D.TIz (J _ _ D.TIz D.TITO D.TIi1 D.TIi2 g),⟨_,_,l.extBut _ _ D.TOz a2⟩,a3.extBut l.extBut D.i1z,a4.extBut l.extBut D.i2z)
  .have ne:c≠s.heap.objs.size:=by
    simp only[mem_cons,not_mem_nil,or_false]at f;rcases f with rfl | rfl | rfl | rfl | rfl
    .show t m
    .show t g
    .show t j
    .let(o,e,_):=B;show t e
    .let(o,e,_):=C;show t e
   rw[Jah ne];show(N c f).1
 done:=by
  intro X hP V hK f i F s σ H E I N r hg;subst hP V hK;let(m,g,(u,v,j),B,C):=r;let(xs,ys,M,L,he):=hg;let(U,rx,px,zx):=I.list M;let(Y,ry,T,zy):=I.list L;have lx:=rx.length;have ly:=ry.length;show wpAny_pyNext_zip_end (I.ok.hd f) D m g j B C px.isList T.isList (by
   rcases he with he | he
   .show .inl (by simp;ac_nf)
   .show .inr (by simp;ac_nf)) λh' J=>⟨rfl,?_⟩
  show I.turnedL (t':=s.toks) (ch:=[z,TI,TO,i1,i2]) (λc o f e=>by
   simp only[mem_cons,not_mem_nil,or_false,not_or]at f;show J c o f.1 f.2.2.1 f.2.2.2.1 f.2.2.2.2 e) N
 self:=λA i s Q E r q=>wpAny_pyIter_zip r.1 q
def iZip(K:W.Frag)(ta:TA):TI:=λσ H R=>ta σ H λvs H1=>∃ a b,vs=[.ref a, .ref b]/\(∃ xs,SqL K H1 a xs)/\(∃ ys,SqL K H1 b ys)/\R (Itz K a b) H1
variable{ta:TA}
theorem Jm8{a b:Expr}{p:Pos}(hg:Gl X "zip")(hm:X.mg "zip"=none)(hv:bootBuiltins "zip"=some (.type "zip"))(ha:PA X [a,b] ta)
  (he:autoParam (starEach [a,b] X.env=(false,eval a X.env)::starEach [b] X.env) Au) (hpl:autoParam ((backTo pos (starEach [b] X.env)).any (·.1)=false) Au) :
  PI X (.Tuple elts x1 tp) (.Call (.Name "zip" p) [a,b] [] pos) (iZip X.K ta):=by
 intro f s σ H R I h;show wpAny_Call_Name_kw (Jej I hg hm hv ?_);show PyProof.Rows.callWith_type1 (thn (ha pos f s σ H _ I h) λT d ζ=>?_) he hpl;let(U,t,I1,B,A):=ζ;let(i,j,e,(W,D),(S,E),q):=A;subst e;let(u,v,rfl,C,y):=vals2 B;cases(show u=Value.ref i from C);cases(show v=Value.ref j from y);let(G,O,l,N):=I1.list D;let(J,P,m,Q):=I1.list E;have o:i<d.heap.objs.size:=by let(_,e,_):=l.isList;show Heap.lt_size e
 have r:j<d.heap.objs.size:=by let(_,e,_):=m.isList;show Heap.lt_size e
 show call_zip_2 l.isList m.isList λV k L x F z M w=>?_;have ZA:ZipApart (d.heap.objs.size+4) (d.heap.objs.size+2) (d.heap.objs.size+3) d.heap.objs.size (d.heap.objs.size+1) i j:=za _ i j o r;show wpAny_pyIter_zip k ?_;show(d.heap.objs.size+4,[d.heap.objs.size+4,d.heap.objs.size+2,d.heap.objs.size+3,d.heap.objs.size,d.heap.objs.size+1],_,_,t,rfl,I1.kept (t':=d.toks) w,JkC ZA,⟨k,L,⟨_,_,x⟩,F,z⟩,λc n=>?_,q);have g:d.heap.objs.size<=c:=by
  simp only[mem_cons,not_mem_nil,or_false]at n;rcases n with rfl | rfl | rfl | rfl | rfl
  .show Nat.le_add_right _ _
  .show Nat.le_add_right _ _
  .show Nat.le_add_right _ _
  .show Nat.le_refl _
  .show Nat.le_add_right _ _
 show I1.fpOk g (I1.hok.fresh g)
section
variable{ty tv tx:TE}{En:Ends}{td:TE}{K:W.Frag}
theorem y3ey:tDGet td ty σ H Q=td σ H λx H1=>ty σ H1 λy H2=>∃ a v,x=.ref a/\DGet H2 a y (some v)/\Q v H2:=rfl
theorem y47y:sDPut td ty tv En σ H=tv σ H λv H1=>td σ H1 λx H2=>ty σ H2 λy H3=>∃ a H4,x=.ref a/\DPut H3 a y v H4/\En.nx σ H4:=rfl
theorem y43y:Jk6 σ H Q=∀ p,H p=none->Q (.ref p) (upd H p (.dK [])):=rfl
end
theorem hu1{a b:Nat}(h:a+64<b):a+1<b:=by ac_nf
def rMul0:R2:=λx y H Q=>match x,y with
 | .str z, .int n=>0<=n/\n<1000/\z.length<=1000/\∀ z':Str,z'.cps.toList=(List.replicate n.toNat z.cps.toList).flatten->Q (.str z') H
 | x,y=>rMulS x y H Q
theorem JaE:OpR X (binaryOp .Mult) rMul0:=λa s σ H x y v u Q I b c q=>by
 unfold rMul0 at q;split at q
 .rename_i z n;let(h,e,f,q):=q;by_cases d:n=0
  .subst d;let(t,rfl):=b;let(g,rfl):=c;show PySem.P.mul_str_none ⋯ ⋯ ⟨.str _,H,I.tok _,⟨_,rfl⟩,q Str.empty rfl⟩
  .show Jjc a s σ H _ _ v u Q I b c ⟨by ac_nf,e,f,q⟩
 .show Jjc a s σ H _ _ v u Q I b c q
section
variable{ty:TE}{K:W.Frag}{td:TE}
theorem y6ey{i j:Int}:rMul0 (.int i) (.int j) H Q=(IntMulOk i j/\Q (.int (i*j)) H):=rfl
theorem y3fy:Jk4 td ty σ H Q=td σ H λx H1=>∃ a,x=.ref a/\IsD H1 a/\ty σ H1 λy H2=>∃ o,DGet H2 a y o/\Q (o.getD .non) H2:=rfl
theorem Jhz(h:j<=xs.length):cutV xs (some (j:Int)) none=xs.drop j:=by
 unfold cutV HT.sIx;dsimp only;rw[if_neg ∅];rw[take_of_length_le (by simp)]
 congr 1
 ac_nf
theorem Jmz(h:j<=xs.length):cutV xs none (some (j:Int))=xs.take j:=by
 unfold cutV HT.sIx;dsimp only;rw[if_neg ∅];simp only[List.drop_zero,Nat.sub_zero]
 congr 1
 ac_nf
end
variable{a:Addr}
theorem ForA.byL{K:W.Frag}{g:TG}{D:Ends}(hA:SqL K H a xs)(Pv:Nat->St->Hp->Prop)(h0:Pv 0 σ H)(hl:∀ i σ H',Pv i σ H'->SqL K H' a xs)
  (hs:∀ i x σ H,xs[i]?=some x->Pv i σ H->g x σ H λσ2 H2=>tb { D with nx:=Pv (i+1),ct:=Pv (i+1),bk:=D.nx } σ2 H2) (hd:∀ σ H,Pv xs.length σ H->D.nx σ H):ForA K a g tb D σ H:=by
 show .inl ⟨⟨xs,hA⟩,λi m σ H=>Pv i σ H/\i<=xs.length/\m=xs.length-i,⟨_,h0,Nat.zero_le _,rfl⟩,?_⟩;rintro i m σ H ⟨d,h,rfl⟩;have c:=hl i σ H d;by_cases b:i<xs.length
 .show .inr ⟨⟨xs,xs[i],c,List.getElem?_eq_getElem b⟩,Pv (i+1),λσ' H' p=>⟨_,Nat.sub_lt_sub_left b (Nat.lt_succ_self i),p,b,rfl⟩,?_⟩;rintro x H' ⟨rfl,f⟩;show hs i x σ _ (f xs c) d
 .have e:i=xs.length:=by ac_nf
  subst e;show .inl ⟨⟨xs,c,Nat.le_refl _⟩,hd σ H d⟩
def ForJ(J:It)(g:TG)(tb:TS)(D:Ends)(σ : St)(H:Hp):Prop:=∃ W:Nat->Nat->St->Hp->Prop,(∃ m,W 0 m σ H)/\∀ i m σ H,W i m σ H ->
 (J.stop i H/\D.nx σ H)\/(J.go i H/\∃ N:St->Hp->Prop,(∀ σ' H',N σ' H'->∃ m',m'<m/\W (i+1) m' σ' H')/\∀ x H',J.yld i H x H'->g x σ H' λσ2 H2=>tb { D with nx:=N,ct:=N,bk:=D.nx } σ2 H2)
theorem y56y{K:W.Frag}{g:TG}{D:Ends}:tFor (iZip K ta) g tb D σ H=ta σ H λvs H1=>∃ a b,vs=[.ref a, .ref b]/\(∃ xs,SqL K H1 a xs)/\(∃ ys,SqL K H1 b ys)/\ForJ (Itz K a b) g tb D σ H1:=rfl
theorem ForJ.zip{K:W.Frag}{b:Addr}{ys:List V}{g:TG}{D:Ends}(Pv:Nat->St->Hp->Prop)(h0:Pv 0 σ H)(hl:∀ i σ H',Pv i σ H'->SqL K H' a xs/\SqL K H' b ys)
  (hs:∀ i x y σ H p H',xs[i]?=some x->ys[i]?=some y->Pv i σ H->H p=none->Same H H'->H' p=some (.tup [x,y])->g (.ref p) σ H' λσ2 H2=>tb { D with nx:=Pv (i+1),ct:=Pv (i+1),bk:=D.nx } σ2 H2)
  (hd:∀ σ H,Pv (min xs.length ys.length) σ H->D.nx σ H):ForJ (Itz K a b) g tb D σ H:=by
 show(λi m σ H=>Pv i σ H/\i<=min xs.length ys.length/\m=min xs.length ys.length-i,⟨_,h0,Nat.zero_le _,rfl⟩,?_);rintro i m σ H ⟨f,q,rfl⟩;let(d,c):=hl i σ H f;by_cases j:i<min xs.length ys.length
 .have k:i<xs.length:=by ac_nf
  have n:i<ys.length:=by ac_nf
  show .inr ⟨⟨xs,ys,xs[i],ys[i],d,c,List.getElem?_eq_getElem k,List.getElem?_eq_getElem n⟩,Pv (i+1),λσ' H' p=>⟨_,Nat.sub_lt_sub_left j (Nat.lt_succ_self i),p,j,rfl⟩,?_⟩;intro v H' z_;let(p,x,y,l,o,h,rfl,rfl):=z_;show hs i x y σ H p _ (l xs d) (o ys c) f h (newS h rfl) (newE rfl)
 .have e:i=min xs.length ys.length:=by ac_nf
  subst e;show .inl ⟨⟨xs,ys,d,c,by ac_nf⟩,hd σ H f⟩
theorem JkL{K:W.Frag}{k:Nat}{g:TG}{H1:Hp}(Pv:Nat->List V->Hp->Prop)(h0:Pv 0 [] H1)(hl:∀ i ys H',i<=xs.length->Pv i ys H'->SqL K H' a xs/\ys.length<=sizeLine)
  (hs:∀ i x ys H2,xs[i]?=some x->Pv i ys H2->g x (List.replicate k none++JaM cs σ) H2 λσ4 H4=>tt σ4 H4 λb H5=>if b=true then te σ4 H5 λy H6=>Pv (i+1) (ys++[y]) H6 else Pv (i+1) ys H5) (hd:∀ ys H2,Pv xs.length ys H2->∀ p,H2 p=none->Q (.ref p) (upd H2 p (.lst ys))) :
  ∃ W:Nat->Nat->List V->Hp->Prop,(∃ m,W 0 m [] H1)/\∀ i m ys H2,W i m ys H2->ys.length<=sizeLine/\(((Itl K a).stop i H2/\∀ p,H2 p=none->Q (.ref p) (upd H2 p (.lst ys))) \/
   ((Itl K a).go i H2/\∀ x H3,(Itl K a).yld i H2 x H3->g x (List.replicate k none++JaM cs σ) H3 λσ4 H4=>tt σ4 H4 λb H5=>if b=true then te σ4 H5 λy H6=>∃ m',m'<m/\W (i+1) m' (ys++[y]) H6 else∃ m',m'<m/\W (i+1) m' ys H5)):=by
 show(λi m ys H2=>Pv i ys H2/\i<=xs.length/\m=xs.length-i,⟨_,h0,Nat.zero_le _,rfl⟩,?_);rintro i m ys H2 ⟨j,o,rfl⟩;let(h,n):=hl i ys H2 o j;show(n,?_);by_cases f:i<xs.length
 .show .inr ⟨⟨xs,xs[i],h,List.getElem?_eq_getElem f⟩,?_⟩;rintro x H3 ⟨rfl,l⟩;have w:∀(d:List V)(H5:Hp),Pv (i+1) d H5=∃ m',m'<xs.length-i/\Pv (i+1) d H5/\i+1<=xs.length/\m'=xs.length-(i+1):=λd H5=>
   propext ⟨λq=>⟨_,Nat.sub_lt_sub_left f (Nat.lt_succ_self i),q,f,rfl⟩,λζ=>by let(_,_,q,_):=ζ;show q⟩
  have r:(λ(y:V)(H6:Hp)=>Pv (i+1) (ys++[y]) H6)=λy H6=>∃ m',m'<xs.length-i/\Pv (i+1) (ys++[y]) H6/\i+1<=xs.length/\m'=xs.length-(i+1):=by
   funext y H6
   show w _ _
  have e:(λ(σ4:St)(H4:Hp)=>tt σ4 H4 λb H5=>if b=true then te σ4 H5 λy H6=>Pv (i+1) (ys++[y]) H6 else Pv (i+1) ys H5)=λσ4 H4=>tt σ4 H4 λb H5=>if b=true then te σ4 H5 λy H6=>∃ m',m'<xs.length-i/\Pv (i+1) (ys++[y]) H6/\i+1<=xs.length/\m'=xs.length-(i+1)else∃ m',m'<xs.length-i/\Pv (i+1) ys H5/\i+1<=xs.length/\m'=xs.length-(i+1):=by
   funext σ4 H4
   congr 1
   funext b H5
   by_cases c:b=true
   .rw[if_pos c,if_pos c, <- r]
   .rw[if_neg c,if_neg c];show w ys H5
  have:=hs i x ys _ (l xs h) j;rw[e]at this;show this
 .have e:i=xs.length:=by ac_nf
  subst e;show .inl ⟨⟨xs,h,Nat.le_refl _⟩,hd ys H2 j⟩
end L2
namespace Ch
open PySem
structure TD where
 nm:Str
 st:Str
 en:Str
 lo:Option (Int × Int)
 hi:Option (Int × Int)
structure SD where
 src:Str
 dst:Str
 c:Int × Int
 nm:Str
 fw:Bool
def fwd(t:TD):List SD:=match t.hi with
 | some h=>[⟨t.st,t.en,h,t.nm,true⟩]
 | none=>[]
def bwd(t:TD):List SD:=match t.lo with
 | some l=>[⟨t.en,t.st,(-l.1,l.2),t.nm,false⟩]
 | none=>[]
def steps(t:TD):List SD:=fwd t++bwd t
def all(ts:List TD):List SD:=ts.flatMap steps
abbrev Pr:=Str × Bool
def key(s:SD):Pr:=(s.nm,s.fw)
def lastA(acc:Option SD)(ss:List SD)(k:Pr):Option SD:=ss.foldl (λa s=>if key s=k then some s else a) acc
def last(ss:List SD)(k:Pr):Option SD:=lastA none ss k
def addF(a c:Int × Int):Int × Int:=(Mth.top (a.1*c.2+c.1*a.2) (a.2*c.2),Mth.bot (a.1*c.2+c.1*a.2) (a.2*c.2))
structure FOk(n:Nat)(a:Int × Int):Prop where
 s1:Mth.Sz n a.1
 s2:Mth.Sz n a.2
 b1:1<=a.2
 g1:Mth.g a.1 a.2=1
end Ch
namespace L2
open PySem PySem.Spec PyProof.Rows Ch
def isTF:HO->Bool
 | .tup _=>true
 | .frz _ _=>true
 | _=>false
def SameT(H H':Hp):Prop:=∀ b u,isTF u=true->H b=some u->H' b=some u
theorem SameT.refl(H:Hp):SameT H H:=λ_ _ _ h=>h
variable{H H1:Hp}
theorem SameT.trans{H2:Hp}(a:SameT H H1)(b:SameT H1 H2):SameT H H2:=λc o t h=>b c o t (a c o t h)
variable{H':Hp}
theorem Same.t(a:Same H H'):SameT H H':=λb u _ h=>a b u h
theorem SameT.put{l:Addr}{o o':HO}(e:upd H l o=H')(hl:H l=some o')(ht:isTF o'=false):SameT H H':=λb u t h=>by
 rw[<- e,Jah (ne_of h hl λq=>by rw[q,ht]at t;cases t)];show h
variable{xs:List V}
theorem SqT.sameT{K:W.Frag}{a:Addr}(e:SameT H H')(h:SqT K H a xs):SqT K H' a xs:=by
 rcases h with(h | ⟨o,h⟩) | h
 .show .inl (.inl (e _ _ rfl h))
 .show .inl (.inr ⟨o,e _ _ rfl h⟩)
 .show .inr h
variable{v:V}{b:Int}
theorem FrV.sameT{K:W.Frag}{a:Int}(S:SameT H H')(h:FrV K H v a b):FrV K H' v a b:=by
 let(p,e,q):=h;show(p,e,q.sameT S)
def frD(a:Int × Int):D:=.tup [.int a.1, .int a.2]
def bD:Option (Int × Int)->D
 | none=>.non
 | some a=>frD a
def tdD(t:TD):D:=.tup [.str t.nm, .str t.st, .str t.en,bD t.lo,bD t.hi]
def prD(c:Pr):D:=.tup [.str c.1, .bl c.2]
def BV(K:W.Frag)(H:Hp):Option (Int × Int)->V->Prop
 | none,v=>v=.non
 | some a,v=>FrV K H v a.1 a.2
variable{o:Option (Int × Int)}
theorem BV.rep{K:W.Frag}(h:BV K H o v):Rep K H (bD o) v:=by
 cases o with
 | none=>simp only[bD,Rep];show h
 | some a=>show FrV.rep h
theorem BV.sameT{K:W.Frag}(S:SameT H H')(h:BV K H o v):BV K H' o v:=by
 cases o with
 | none=>show h
 | some a=>show FrV.sameT S h
def TV(K:W.Frag)(H:Hp)(t:TD)(x:V):Prop:=∃ b vl vg,x=.ref b/\SqT K H b [.str t.nm, .str t.st, .str t.en,vl,vg]/\BV K H t.lo vl/\BV K H t.hi vg
def CV(H:Hp)(c:Pr)(x:V):Prop:=∃ b,x=.ref b/\H b=some (.tup [.str c.1, .bl c.2])
section
variable{K:W.Frag}{x:V}
theorem TV.sameT{t:TD}(S:SameT H H'):TV K H t x->TV K H' t x:=by rintro⟨b,vl,c,e,q,d,a⟩;show(b,vl,c,e,q.sameT S,d.sameT S,a.sameT S)
variable{c:Pr}
theorem CV.sameT(S:SameT H H'):CV H c x->CV H' c x:=λζ=>by let(b,e,q):=ζ;show(b,e,S _ _ rfl q)
theorem TV.rep{t:TD}:TV K H t x->Rep K H (tdD t) x:=by
 rintro⟨b,vl,d,e,q,c,a⟩;simp only[tdD,Rep,RepL];show(b,_,e,q,_,_,rfl,rfl,_,_,rfl,rfl,_,_,rfl,rfl,_,_,rfl,c.rep,_,_,rfl,a.rep,rfl)
theorem CV.rep:CV H c x->Rep K H (prD c) x:=by
 rintro⟨b,e,q⟩;simp only[prD,Rep,RepL];show(b,_,e,SqT.of q,_,_,rfl,rfl,_,_,rfl,rfl,rfl)
end
variable{α:Type}
def All2(P : α->V->Prop):List α->List V->Prop
 | [],xs=>xs=[]
 | a::as,xs=>∃ x r,xs=x::r/\P a x/\All2 P as r
section
variable{P P' : α->V->Prop}
theorem All2.mono:∀{as:List α}{xs:List V},(∀ a x,P a x->P' a x)->All2 P as xs->All2 P' as xs
 | [],_,_,h=>h
 | a::as,xs,f,h=>by
  let(x,r,e,h1,h2):=h;show(x,r,e,f _ _ h1,All2.mono f h2)
theorem All2.length:∀{as:List α}{xs:List V},All2 P as xs->xs.length=as.length
 | [],_,h=>by rw[show _=_ from h];rfl
 | a::as,xs,h=>by
  let(x,r,e,h1,h2):=h;rw[e,length_cons,length_cons,h2.length]
theorem All2.at_:∀{as:List α}{xs:List V}{i:Nat}{x:V},All2 P as xs->xs[i]?=some x->∃ a,as[i]?=some a/\P a x
 | [],_,_,_,h,hx=>by rw[show _=_ from h]at hx;simp at hx
 | a::as,xs,i,y,h,hx=>by
  let(x,r,e,h1,h2):=h;subst e;cases i with
  | zero=>simp at hx;subst hx;show(a,rfl,h1)
  | succ i=>simpa using All2.at_ h2 (by simpa using hx)
theorem All2.get:∀{as:List α}{xs:List V}{i:Nat}{a : α},All2 P as xs->as[i]?=some a->∃ x,xs[i]?=some x/\P a x
 | [],_,_,_,h,hx=>by simp at hx
 | a::as,xs,i,b,h,hx=>by
  let(x,r,e,h1,h2):=h;subst e;cases i with
  | zero=>simp at hx;subst hx;show(x,rfl,h1)
  | succ i=>simpa using All2.get h2 (by simpa using hx)
theorem All2.append:∀{as bs:List α}{xs ys:List V},All2 P as xs->All2 P bs ys->All2 P (as++bs) (xs++ys)
 | [],bs,xs,ys,h,g=>by rw[show xs=[]from h];show g
 | a::as,bs,xs,ys,h,g=>by
  let(x,r,e,h1,h2):=h;subst e;show(x,r++ys,rfl,h1,All2.append h2 g)
theorem All2.one{a : α}{x:V}(h:P a x):All2 P [a] [x]:=⟨x,[],rfl,h,rfl⟩
theorem All2.take:∀{as:List α}{xs:List V}(j:Nat),All2 P as xs->All2 P (as.take j) (xs.take j)
 | as,xs,0,_=>by simp only[take_zero];show rfl
 | [],xs,j+1,h=>by rw[show xs=[]from h];simp;show rfl
 | a::as,xs,j+1,h=>by
  let(x,r,e,h1,h2):=h;subst e;show(x,r.take j,by simp,h1,All2.take j h2)
theorem All2.drop:∀{as:List α}{xs:List V}(j:Nat),All2 P as xs->All2 P (as.drop j) (xs.drop j)
 | as,xs,0,h=>by simpa using h
 | [],xs,j+1,h=>by rw[show xs=[]from h];simp;show rfl
 | a::as,xs,j+1,h=>by
  let(x,r,e,h1,h2):=h;subst e;simpa using All2.drop j h2
theorem All2.repL{K:W.Frag}{f : α->D}(g:∀ a x,P a x->Rep K H (f a) x):∀{as:List α}{xs:List V},All2 P as xs->RepL K H (as.map f) xs
 | [],xs,h=>by simp only[map_nil,RepL];show h
 | a::as,xs,h=>by
  let(x,r,e,h1,h2):=h;simp only[map_cons,RepL];show(x,r,e,g _ _ h1,All2.repL g h2)
end
structure TOk(t:TD):Prop where
 n1:nameS t.nm=true
 n2:nameS t.st=true
 n3:nameS t.en=true
 ne:t.st≠t.en
 lo:∀ a,t.lo=some a->FOk 600 a
 hi:∀ a,t.hi=some a->FOk 600 a
 le:lessD (bD t.hi) (bD t.lo)=false
variable{z:Str}
theorem len8(h:nameS z=true):z.length<=8:=by
 unfold nameS at h;simp only[Bool.and_eq_true,decide_eq_true_eq]at h;show h.1.2
section
variable{kvs:List (List Key × V)}{ss:List SD}{K:W.Frag}
end
def CompJ(J:It)(k:Nat)(cs:List (Nat × Str))(g:TG)(te:TE)(σ : St)(Q:VK)(H1:Hp):Prop:=∃ W:Nat->Nat->List V->Hp->Prop,(∃ m,W 0 m [] H1)/\∀ i m ys H2,W i m ys H2->ys.length<=sizeLine /\
  ((J.stop i H2/\∀ p,H2 p=none->Q (.ref p) (upd H2 p (.lst ys))) \/
   (J.go i H2/\∀ x H3,J.yld i H2 x H3->g x (List.replicate k none++JaM cs σ) H3 λσ4 H4=>te σ4 H4 λy H5=>∃ m',m'<m/\W (i+1) m' (ys++[y]) H5))
def JcO(J:It)(k:Nat)(cs:List (Nat × Str))(g:TG)(tt:TT)(te:TE)(σ : St)(Q:VK)(H1:Hp):Prop:=∃ W:Nat->Nat->List V->Hp->Prop,(∃ m,W 0 m [] H1)/\∀ i m ys H2,W i m ys H2->ys.length<=sizeLine /\
  ((J.stop i H2/\∀ p,H2 p=none->Q (.ref p) (upd H2 p (.lst ys))) \/
   (J.go i H2/\∀ x H3,J.yld i H2 x H3->g x (List.replicate k none++JaM cs σ) H3 λσ4 H4=>tt σ4 H4 λb H5=>if b=true then te σ4 H5 λy H6=>∃ m',m'<m/\W (i+1) m' (ys++[y]) H6 else∃ m',m'<m/\W (i+1) m' ys H5))
section
variable{cs:List (Nat × Str)}{tt:TT}{te tl:TE}{σ:St}{Q:VK}{a:Addr}{K:W.Frag}{k:Nat}{g:TG}
theorem y35y:tComp k cs (iAny K tl) g te σ H Q=tl σ H λx H1=>∃ a,x=.ref a/\(((∃ xs,SqL K H1 a xs)/\CompJ (Itl K a) k cs g te σ Q H1)\/((∃ xs,SqT K H1 a xs)/\CompJ (Itt K a) k cs g te σ Q H1)):=rfl
theorem y37y:JeO k cs (iAny K tl) g tt te σ H Q=tl σ H λx H1=>∃ a,x=.ref a/\(((∃ xs,SqL K H1 a xs)/\JcO (Itl K a) k cs g tt te σ Q H1)\/((∃ xs,SqT K H1 a xs)/\JcO (Itt K a) k cs g tt te σ Q H1)):=rfl
theorem CompJ.list(Pv:Nat->List V->Hp->Prop)(h0:Pv 0 [] H1)(hl:∀ i ys H',i<=xs.length->Pv i ys H'->SqL K H' a xs/\ys.length<=sizeLine)
  (hs:∀ i x ys H2,xs[i]?=some x->Pv i ys H2->g x (List.replicate k none++JaM cs σ) H2 λσ4 H4=>te σ4 H4 λy H5=>Pv (i+1) (ys++[y]) H5) (hd:∀ ys H2,Pv xs.length ys H2->∀ p,H2 p=none->Q (.ref p) (upd H2 p (.lst ys))) :
  CompJ (Itl K a) k cs g te σ Q H1:=JkL (tt:=tYes) Pv h0 hl hs hd
theorem JcO.list(Pv:Nat->List V->Hp->Prop)(h0:Pv 0 [] H1)(hl:∀ i ys H',i<=xs.length->Pv i ys H'->SqL K H' a xs/\ys.length<=sizeLine)
  (hs:∀ i x ys H2,xs[i]?=some x->Pv i ys H2->g x (List.replicate k none++JaM cs σ) H2 λσ4 H4=>tt σ4 H4 λb H5=>if b=true then te σ4 H5 λy H6=>Pv (i+1) (ys++[y]) H6 else Pv (i+1) ys H5) (hd:∀ ys H2,Pv xs.length ys H2->∀ p,H2 p=none->Q (.ref p) (upd H2 p (.lst ys))) :
  JcO (Itl K a) k cs g tt te σ Q H1:=JkL Pv h0 hl hs hd
end
theorem Jhw(x y:Str):(x++y).cps.toList=x.cps.toList++y.cps.toList:=by
 show(x.cps++y.cps).toList=_;simp
theorem Jd5(z:Str):z.length=z.cps.toList.length:=by simp[Str.length]
section
variable{ss:List SD}{c:Pr}{cs:List Pr}{tot:Int × Int}{l:Str}{s:SD}{f:Str}
end
variable{n:Nat}
theorem Jdp{f : α->D}(h:∀ a,depD (f a)<=n):∀ as:List α,depL (as.map f)<=n
 | []=>by simp[depL]
 | a::as=>by
  rw[map_cons,depL];show Nat.max_le.mpr ⟨h a,Jdp h as⟩
section
variable{Q:VK}{K:W.Frag}
end
section
variable{prog:Program}{A:Around}{E:Value->Shared->Prop}{w:World}{s:Shared}
end
section
variable{prog:Program}{A:Around}{E:Value->Shared->Prop}{w:World}{s:Shared}
end
section
variable{prog:Program}{A:Around}{E:Value->Shared->Prop}{w:World}{s:Shared}
end
section
variable{M:Model}{A:Around}{E:Value->Shared->Prop}{s:Shared}
end
section
variable{prog:Program}{A:Around}{E:Value->Shared->Prop}{w:World}{s:Shared}
section
variable{I a:Addr}{es:Array (Int × Value)}{ep:Nat}{Q:Option Value->Shared->Prop}{i:Nat}{t:SetTable}
end
end
section
variable{prog:Program}{A:Around}{E:Value->Shared->Prop}{w:World}{s:Shared}
end
section
variable{prog:Program}{A:Around}{E:Value->Shared->Prop}{w:World}{s:Shared}{S r:Addr}{R:Result->Shared->Prop}
theorem Jlx(h:wpAny (model prog w) A.in1 (Builtin.List.listExtendWith (.ref S) (.ref r) (.ref S)) (λfin s'=>match fin with | .done f=>R (.ok f) s' | .again c'=>c'.quiet=true/\codeAny (model prog w) A c' R s') (λe s'=>R (.error e) s') s) :
  codeAny (model prog w) A (.builtin "list.__iadd__" ⟨[.ref S, .ref r],[]⟩) R s:=by
 show codeAny_builtin (PySem.F.entry_list_iadd) ?_;rw[Around.under_plainId (PySem.F.plain_list_iadd) _];show h
theorem Jiq{ss:List Str}{Q:Value->Shared->Prop}(h64:ss.length<64)
  (hx:∀(R:Result->Shared->Prop),(∀ s' (vs:List Value) c' ss',(∀ b o,s.heap.get? b=some o->s'.heap.get? b=some o)->s'.gens=s.gens->s'.os=s.os->s.toks<=s'.toks ->
    s'.heap.get? s.heap.objs.size=some { cls:=.type "list",dict:=none,data:=.seq vs.toArray c',slots:=#[] }->StrsAre vs ss'->ss'.Perm ss->R (.ok (.ret (.ref s.heap.objs.size))) s') ->
   codeAny (model prog w) A.in1 (.builtin "list.__iadd__" ⟨[.ref s.heap.objs.size, .ref r],[]⟩) R { s with heap:=s.heap.push { cls:=.type "list",data:=.seq ([]:List Value).toArray } })
  (q:∀ s' l (out:Array Value) ss' e,(∀ b o,s.heap.get? b=some o->s'.heap.get? b=some o)->s'.gens=s.gens->s'.os=s.os->s.toks<=s'.toks->s.heap.objs.size<=l->s'.heap.get? l=some (seqObj "list" out e)->StrsAre out.toList ss'->ss'.Perm ss->sortedS ss'=true->Q (.ref l) s') :
  wpAny (model prog w) A (call (.builtin "sorted") [.ref r]) Q E s:=by
 show Calls.call_function_entry kind_sorted plain_sorted entry_sorted (args_sorted1 _) ?_;unfold Builtin.«sorted»;show wpAny_bind (m:=checkCount "sorted" 1 1 _) (wpAny_pure ?_);show wpAny_bind ?_;unfold collect;show wpAny_bind (wpAny_runValue (codeAny_builtin (PySem.F.entry_proto_collect) ?_));rw[Around.under_plainId (PySem.F.plain_proto_collect) _];show wpAny _ A.in1.in1 (newList [] >>= λl=>again (.builtin "list.__iadd__" ⟨[l, .ref r],[]⟩)) _ _ s;show wpAny_bind (wpAny_newObj_type ?_);show wpAny_pure ⟨plainId_quiet (PySem.F.plain_list_iadd) _,hx _ λs' vs c' v k x p B h a j=>?_⟩;show wpAny_bind (m:=load s.heap.objs.size) (wpAny_load h (wpAny_pure ?_));have vl:vs.length<64:=by rw[a.length,j.length_eq];show h64
 have t:(64:Nat)<=sizeLine:=by decide
 dsimp only;show wpAny_bind (wpAny_newList ?_ (by show vs.length<=sizeLine;ac_nf));have f:(s'.heap.push (seqObj "list" vs.toArray 0)).get? s'.heap.objs.size=some (seqObj "list" vs.toArray 0):=Heap.get?_push_size _ rfl;show wpAny_bind (wpAny_holding (wpAny_call_entry slot_list_sort ⟨_,f,rfl⟩ entry_list_sort (list_sort_treeK strKind_oneLt f a.keysOf (λH G rest e=>keyKind_strs (by rw[<- e];show a)) vl λC d c=>⟨_,rfl,?_⟩) (args_list_sort _)));let(g,z,n,u):=sorted_out_str a d c;let(D,y):=sortedHeap_at (out:=(arrOf C).map (·.2)) f;show wpAny_pure ⟨_,rfl,q _ s'.heap.objs.size _ g D (λb o e=>?_) x p B ?_ y z (n.trans j) u⟩
 .have i:=Heap.lt_size (k b o e);rw[sortedHeap_old (Nat.ne_of_lt i) (by rw[size_push'];show Nat.lt_succ_of_lt i)];show Heap.get?_push_of_some _ (k b o e)
 .show Nat.le_of_lt (Heap.lt_size h)
theorem JjE:∀(vs:List Value),(∀ v∈vs, ∃ x t,v=.str x t)->StrsAre vs (vs.map strOf)
 | [],_=>.nil
 | v::vs,h=>by
  let(x,t,rfl):=h v (by simp);show .cons x t (JjE vs λu hu=>h u (by simp[hu]))
theorem Jhl{K:Type}[DecidableEq K]{knd:PySem.KeyKind prog w K}{d:Addr}{kvs:List (K × Value)}{ep:Nat}{ss:List Str}{Q:Value->Shared->Prop}(hh:A.handled=none)(lo:(d == sysModules)=false)(hd:s.heap.DictAt knd d kvs ep)(h64:kvs.length<64)
  (hl:ss.length=kvs.length) (hk:∀ i k x v,kvs[i]?=some (k,x)->knd.is k v=true->∃ t,v=.str (ss.getD i ⟨#[]⟩) t)
  (q:∀ s' l (out:Array Value) ss' e,(∀ b o,s.heap.get? b=some o->s'.heap.get? b=some o)->s'.gens=s.gens->s'.os=s.os->s.toks<=s'.toks->s.heap.objs.size<=l->s'.heap.get? l=some (seqObj "list" out e)->StrsAre out.toList ss'->ss'.Perm ss->sortedS ss'=true->Q (.ref l) s') :
  wpAny (model prog w) A (call (.builtin "sorted") [.ref d]) Q E s:=by
 have J:(64:Nat)<=sizeLine:=by decide
 have G:=hd.lt_size;have M:A.in1.handled=none:=by simp[hh]
 show Jiq (ss:=ss) ∅ (λR k=>?_) q;obtain⟨y,j⟩:∃ y:Result->Shared->Prop, ∀ r s',y r s'↔∃ g z a p,r=.ok (.ret (.ref s.heap.objs.size))/\s'={ s with heap:=g,toks:=z }/\(∀ b o,b≠s.heap.objs.size->(s.heap.push { cls:=.type "list",data:=.seq ([]:List Value).toArray }).get? b=some o->g.get? b=some o)/\g.get? s.heap.objs.size=some { cls:=.type "list",dict:=none,data:=.seq a p,slots:=#[] }/\ItemsOf (λi v=>∃ k x,kvs[i]?=some (k,x)/\knd.is k v=true) a kvs.length:=⟨_,λ_ _=>Iff.rfl⟩;have m:=codeAny_toks_of (n:=s.toks) (s:={ s with heap:=s.heap.push { cls:=.type "list",data:=.seq ([]:List Value).toArray } }) (Nat.le_refl _) (Jlx (A:=A.in1) (R:=y)
  (W.kdl_extend (R:=y) (s:={ s with heap:=s.heap.push { cls:=.type "list",data:=.seq ([]:List Value).toArray } }) (W.kdl_dict (knd:=knd) (kvs:=kvs) (ep:=ep) lo) M (hd.push _) s.heap.objs.size (Nat.ne_of_gt G) (Nat.ne_of_gt G) (.ref s.heap.objs.size) 0 (Heap.get?_push_size _ rfl) (λg z a p C hl f=>(j _ _).mpr ⟨g,z,a,p,rfl,rfl,C,hl,f⟩) ∅))
 show codeAny_mono m ?_;rintro r s' ⟨S,I⟩;let(g,z,a,p,rfl,rfl,C,h,f):=(j _ _).mp I;have P:StrsAre a.toList ss:=by
  have u:∀ v∈a.toList, ∃ x t,v=.str x t:=λv L=>by
   let(i,H):=List.getElem?_of_mem L;rw[Array.getElem?_toList]at H;let(F,x,B,D):=f.2 i v H;let(t,e):=hk i F x v B D;show(_,t,e)
  have:=JjE _ u;have e:a.toList.map strOf=ss:=by
   show List.ext_getElem? λi=>?_;rw[List.getElem?_map,Array.getElem?_toList];have T:a.size=kvs.length:=f.1;by_cases c:i<kvs.length
   .have B:a[i]?=some a[i]:=Array.getElem?_eq_getElem ∅;let(F,x,D,N):=f.2 i _ B;let(t,O):=hk i F x _ D N;rw[B,Option.map_some,O,List.getElem?_eq_getElem ∅];simp[strOf,List.getD_eq_getElem?_getD,List.getElem?_eq_getElem (show i<ss.length by ac_nf)]
   .rw[Array.getElem?_eq_none ∅,List.getElem?_eq_none ∅];rfl
  rw[e]at this;show this
 show k _ a.toList p ss (λb o e=>C b o (Nat.ne_of_lt (Heap.lt_size e)) (Heap.get?_push_of_some _ e)) rfl rfl S (by rw[Array.toArray_toList];show h) P (.refl _)
end
theorem JlH:typeLookup (.type "list") "keys"=pure none:=by rw[typeLookup_type,builtinLookup_eq_fast];kernel_rfl
section
variable{prog:Program}{A:Around}{E:Value->Shared->Prop}{a:Addr}{its:Array Value}{w:World}{s:Shared}
theorem JlB{Q:Option Value->Shared->Prop}(hh:A.handled=none)(hx:s.heap.get? a=some { cls:=.type "list",dict:=none,data:=.seq its n,slots:=#[] })
   (q:∀ h' t',(∀ b o,s.heap.get? b=some o->h'.get? b=some o)->Q none { s with heap:=h',toks:=t' }) :
    wpAny (model prog w) A (getAttr? (.ref a) "keys") Q E s:=by
  let(j,g,d,t,i):=s;have h:∀ c,(⟨j,g,d,c,i⟩:Shared).TypeIs (.ref a) "list":=λ_=>⟨_,hx,rfl⟩;have m:=sub_AttributeError;have k:=PySem.F.slot_list_getattribute.lookup;have u:=PySem.F.slot_list_getattribute.bind (.ref a);have r:=am_list_getattr_none;unfold getAttr?;unfold getAttrBy?;unfold getAttrBy;repeat (any_goals (first | assumption | show h _ | ((with_reducible show wpAny _ _ (call (Value.builtin "list.__getattribute__") _ _) _ _ _);show call_meets PySem.F.slot_list_getattribute (h _) am_entry_list_getattribute (PySem.F.args_list_getattribute_2 _ _) (meets_getattribute_miss_list a its n #[] "keys" _ JlH (by decide +kernel) ⋯) ⟨hx,hh,λh' c e f=>?_⟩) | wp_step))
  let(t',l,p):=f.there;show wpAny _ _ (getattributeRaised _ _ _ _ _ _ _) _ _ _;unfold getattributeRaised;repeat (any_goals (first | assumption | wp_step))
  show q h' c f.keeps
end
theorem Jgc:entryFor table "dict.update.loop"=some Builtin.«dict.update.loop»:=entryFor_of_tree (by kernel_rfl)
theorem Jdx:plainId "dict.update.loop"=true:=by decide +kernel
def dkv(key:Nat->Str)(val:Nat->Value)(i:Nat):List (Key × Value):=(List.range i).foldl (λl j=>PySem.stored l (Sum.inr (key j)) (val j)) []
theorem Jfm(key:Nat->Str)(val:Nat->Value)(i:Nat):dkv key val (i+1)=PySem.stored (dkv key val i) (Sum.inr (key i)) (val i):=by
 unfold dkv;rw[List.range_succ,List.foldl_append];rfl
theorem JgO(key:Nat->Str)(val:Nat->Value):∀ i,(dkv key val i).length<=i
 | 0=>Nat.le_refl _
 | i+1=>by
  have:=JgO key val i;rw[Jfm];unfold PySem.stored;split <;> simp <;> ac_nf
section
variable{prog:Program}{A:Around}{E:Value->Shared->Prop}{w:World}{s:Shared}
def JdU(h:Heap)(a:Addr)(k v:Value):Prop:=∃ o c,h.get? a=some o/\o.cls=.type "tuple"/\o.data=.seq #[k,v] c
variable{h:Heap}
theorem JdU.at_{h':Heap}{a:Addr}{k v:Value}(x:JdU h a k v)(m:∀ o,h.get? a=some o->h'.get? a=some o):JdU h' a k v:=by
 let(o,c,e,r):=x;show(o,c,m o e,r)
theorem JlK{t:Tok}:(Jaw prog w).is (Sum.inr z) (.str z t)=true:=by
 show keyIs (Sum.inr z) (.str z t)=true;simp[keyIs,Value.isStrOf]
theorem JiJ{R:Result->Shared->Prop}{I:Addr}{fp wr:List Addr}{G:Array GenState->Array GenState->Prop}{P:Nat->Value->Prop}{St:Nat->Shared->Prop}
  (W:WalksS prog w A.in1 I fp wr G n P St) (d:Addr) (hdf:d∉fp) (adr:Nat->Addr) (key:Nat->Str) (val:Nat->Value) (hP:∀ i v,P i v->v=.ref (adr i)) (nd:∀ i,i<n->adr i≠d) (nw:∀ i,i<n->adr i∉wr) (hz:n<=sizeLine) :
  ∀(k i:Nat)(s:Shared),n-i=k->i<=n->St i s->s.heap.DictOf (Jaw prog w) d (dkv key val i)->(∀ j,j<n->∃ tk,JdU s.heap (adr j) (.str (key j) tk) (val j)) ->
   (∀ s',Moved (d::wr) G s s'->s'.heap.DictOf (Jaw prog w) d (dkv key val n)->R (.ok (.ret .none)) s') ->
   codeAny (model prog w) A (.builtin "dict.update.loop" ⟨[.ref d, .ref I, .int (i:Int) 0, .none],[]⟩) R s:=by
 have N:d∉wr:=λh=>hdf (W.sub _ h);have L:∀ b∈wr,b∈d::wr:=λb h=>mem_cons_of_mem _ h;intro k;induction k with
 | zero=>
  intro i s V Y F p l q;have : i=n:=by ac_nf
  subst this;show codeAny_builtin Jgc ?_;rw[Around.under_plainId Jdx _];show wpAny_bind (m:=pyNext (.ref I)) (W.done s _ _ F λs' f=>?_);show wpAny_bind (m:=Builtin.Dict.addKeywords d []) (wpAny_pure (wpAny_pure ?_));show q s' (f.mono L) ?_;let(o,E,t,x,rest):=p;show(o,E,t,f.heap d o N x,rest)
 | succ k ih=>
  intro i s V Y F p l q;have c:i<n:=by ac_nf
  show codeAny_builtin Jgc ?_;rw[Around.under_plainId Jdx _];show wpAny_bind (m:=pyNext (.ref I)) (W.item i s _ _ c F λv s' S r f=>?_);rw[hP i v S];have B:s'.heap.DictOf (Jaw prog w) d (dkv key val i):=by
   let(o,E,t,x,rest):=p;show(o,E,t,f.heap d o N x,rest)
  have a:∀ j,j<n->∃ tk,JdU s'.heap (adr j) (.str (key j) tk) (val j):=λj g=>by
   let(tk,e):=l j g;show(tk,e.at_ λo z=>f.heap _ o (nw j g) z)
  let(tk,ot,ct,M,H,y):=a i c;have dl:=JgO key val i;show wpAny_bind (wpAny_holding ?_);show wpAny_bind (wpAny_tryCatch ?_);unfold Builtin.Dict.pairItems;show wpAny_bind (wpAny_typeOf (T:="tuple") ⟨_,M,H⟩ ?_);rw[if_pos ⋯];unfold seqItems?;show wpAny_bind (wpAny_bind (wpAny_load M ?_));rw[y];show wpAny_pure (wpAny_pure ?_);show wpAny _ _ (holding [Value.str (key i) tk,val i] (dictSet d (.str (key i) tk) (val i))) _ _ _;show wpAny_holding (wpAny_dictSet_pairs (knd:=Jaw prog w) (k:=Sum.inr (key i)) JlK B (λO X D=>?_) ∅);have u:O.DictOf (Jaw prog w) d (dkv key val (i+1)):=by
   rw[Jfm];show X
  show wpAny_pure ⟨plainId_quiet Jdx _,ih (i+1) { s' with heap:=O,toks:=s'.toks+1 } ∅ c (W.frame _ s' _ _ r (Nat.le_succ _) λb K o e=>?_) u (λj g=>?_) λQ Z C=>?_⟩
  .rw[D.2 b (λh:b=d=>hdf (h ▸ K))];show e
  .let(J,U):=a j g;show(J,U.at_ λo z=>(D.2 _ (nd j g)).trans z)
  .show q Q (Moved.trans W.gtrans ((f.mono L).then_heap (Nat.le_succ _) λb o K e=>?_) Z) C;rw[D.2 b (λh:b=d=>K (by rw[h];show mem_cons_self))];show e
variable{l:Addr}
theorem Jed{items:Array Value}{c0:Nat}{Q:Value->Shared->Prop}(hh:A.handled=none)(hl:s.heap.get? l=some { cls:=.type "list",dict:=none,data:=.seq items c0,slots:=#[] })(adr:Nat->Addr)(key:Nat->Str)(val:Nat->Value)
  (hP:∀(i:Nat)(v:Value),items[i]?=some v->v=.ref (adr i)) (tup:∀ j,j<items.size->∃ tk,JdU s.heap (adr j) (.str (key j) tk) (val j)) (hz:items.size<=sizeLine)
  (q:∀ h' tk,(∀ b o,s.heap.get? b=some o->h'.get? b=some o)->h'.DictOf (Jaw prog w) s.heap.objs.size (dkv key val items.size)->Q (.ref s.heap.objs.size) { s with heap:=h',toks:=tk }) :
  wpAny (model prog w) A (call (.type "dict") [.ref l]) Q E s:=by
 show callType_codes (Q₁:=λf G=>f=.ref s.heap.objs.size/\G={ s with heap:=s.heap.push { cls:=.type "dict",data:=.dict #[] } }) (PySem.F.kt_called_dict) (PySem.F.kt_typeCall_dict_1 _) (PySem.F.entry_dict_init) (kt_code_dict_new _ ⟨rfl,rfl⟩) ?_;rintro f G ⟨rfl,rfl⟩;have k:(s.heap.push { cls:=.type "dict",data:=.dict #[] }).DictOf (Jaw prog w) s.heap.objs.size []:=Heap.DictOf.new s.heap;show(k.typeIs,PySem.F.args_dict_init_2 _ _,?_);generalize g:({ cls:=.type "dict",data:=.dict #[] }:Obj)=o0 at k ⊢;have r:(s.heap.push o0).get? l=some { cls:=.type "list",dict:=none,data:=.seq items c0,slots:=#[] }:=Heap.get?_push_of_some _ hl;have K:=Heap.lt_size hl;have V:(s.heap.push o0).objs.size=s.heap.objs.size+1:=Heap.size_push ..;unfold Builtin.«dict.__init__»;show wpAny_bind ?_;unfold Builtin.Dict.selfAndRest;show wpAny_bind (wpAny_notOrdered_dict k.typeIs (wpAny_pure ?_));show wpAny _ _ (Builtin.Dict.updateFrom "dict.__init__" s.heap.objs.size (.ref l) [] Value.none) _ _ _;unfold Builtin.Dict.updateFrom;show wpAny_bind (wpAny_typeOf (T:="list") ⟨_,r,rfl⟩ ?_);rw[if_pos ⋯];have S:A.in1.in1.handled=none:=by simp[hh]
 show wpAny_bind (JlB S r λd P h=>?_);show wpAny_ite_split (λ_=>?_) (λz=>absurd rfl z);show wpAny_bind (wpAny_rule ?_);have B:=h _ _ r;have x:d.DictOf (Jaw prog w) s.heap.objs.size []:=by
  let(o,H,y,g,rest):=k;show(o,H,y,h _ _ g,rest)
 have dlt:s.heap.objs.size<d.objs.size:=by
  let(o,H,y,g,rest):=x;show Heap.lt_size g
 have D:d.IsList l items:=⟨_,B,rfl,c0,rfl⟩;show wpAny_bind (wpAny_pyIter_list (s:=⟨d,s.gens,s.drawn,P,s.os⟩) D ?_);have I:∀ j,j<items.size->adr j<s.heap.objs.size:=λj a=>by
  let(tk,o,c,e,_):=tup j a;show Heap.lt_size e
 have t:l<d.objs.size:=Heap.lt_size B;have p:A.in1.in1.handled=none:=by simp[hh]
 show wpAny_pure ⟨plainId_quiet Jdx _,?_⟩;show JiJ ((Walks.list p d.objs.size l (Nat.ne_of_lt t) items).toS) s.heap.objs.size (by simp only[mem_cons,not_mem_nil,or_false,not_or];show(Nat.ne_of_lt dlt,Nat.ne_of_gt K)) adr key val hP (λj a=>Nat.ne_of_lt (I j a)) (λj a=>by simp only[mem_cons,not_mem_nil,or_false];show Nat.ne_of_lt (Nat.lt_trans (I j a) dlt)) hz items.size 0 _ ∅ (Nat.zero_le _) ⟨⟨_,Heap.get?_push_size _ rfl,rfl,rfl⟩,D.push _⟩ (x.push _) (λj a=>?_) λR m M=>?_
 .let(tk,e):=tup j a;show(tk,e.at_ λo z=>Heap.get?_push_of_some _ (h _ _ (Heap.get?_push_of_some _ z)))
 .let(h',O,N,u,n):=R;have L:O=s.gens:=m.gens;have U:N=s.drawn:=m.drawn;have J:n=s.os:=m.os;subst L;subst U;subst J;show(rfl,q h' u (λb o e=>?_) M);have C:=Heap.lt_size e;show m.heap b o ?_ (Heap.get?_push_of_some _ (h _ _ (Heap.get?_push_of_some _ e)));simp only[mem_cons,not_mem_nil,or_false,not_or];show(Nat.ne_of_lt C,Nat.ne_of_lt (Nat.lt_trans C dlt))
end
section
variable{X:Cx}{pins:List (Addr × Obj)}{σ:List (Option V)}{s':Shared}{s:Shared}
theorem Inv.like(I:Inv X pins σ H { s with heap:=s'.heap,toks:=s'.toks })(eg:s'.gens=s.gens)(eo:s'.os=s.os):Inv X pins σ H s' :=
 ⟨I.ok,by rw[eo];show I.os,by rw[eg];show I.bare,I.base,I.loc,I.cell,I.free,I.freeC,I.pin,I.hok,I.len⟩
theorem JgF:∀{vs:List Value}{ss:List Str},StrsAre vs ss->Vals (ss.map V.str) vs
 | _,_, .nil=>.nil
 | _,_, .cons z t r=>.cons ⟨t,rfl⟩ (JgF r)
def Jlf(out ss:List Str):Prop:=out.Perm ss/\sortedS out=true
def Jnf(xs:List V)(H:Hp)(Q:VK):Prop:=∃ d kvs ss,xs=[.ref d]/\H d=some (.dK kvs)/\kvs.map (·.1)=ss.map Sum.inr/\ss.length<64/\∀ l out,H l=none->Jlf out ss->Q (.ref l) (upd H l (.lst (out.map V.str)))
theorem Je2(hc:X.calm=true):CallR X (.builtin "sorted") Jnf:=by
 intro C s σ H xs us Q I r h;let(d,c,ss,rfl,e,m,Z,q):=h;let(u,rfl,R):=vals1 r;cases R;let(U,L,A,g,G):=dk_of I.hok e;let(ep,D):=G.dictAt;have sl:(64:Nat)<=sizeLine:=by decide
 have P:ss.length=c.length:=by simpa using(congrArg List.length m).symm
 have Y:A.length=c.length:=g.length.symm;have f:A.map (·.1)=c.map (·.1):=by
  clear G D m P Y U q e;induction g with
  | nil=>rfl
  | cons h1 _ ih=>
   rw[map_cons,map_cons,ih,h1.1]
 show Jhl (ss:=ss) (I.ok.hd hc) L D ∅ ∅ (λi k x v W N=>?_) λJ l j a S k T M et F O E B p=>?_
 .have K:(A.map (·.1))[i]?=some k:=by rw[List.getElem?_map,W];rfl
  rw[f,m,List.getElem?_map]at K;let(z,n,rfl):=Option.map_eq_some_iff.mp K;rcases JaP (show keyIs (Sum.inr z) v=true from N)with⟨b,hb,_⟩ | ⟨y,t,hy,rfl⟩
  .cases hb
  .cases hy;show(t,by rw[List.getD_eq_getElem?_getD,n];rfl)
 .have lo:j.toList.length<=sizeLine:=by
   rw[E.length,B.length_eq];ac_nf
  show(.ref l,_,Inv.like (s:=s) (I.laid (t':=J.toks) (o:=.lst (a.map V.str)) k F (show ObjOk X.prog X.w _ J.heap l (.lst (a.map V.str))from⟨by rw[length_map,B.length_eq];ac_nf,j.toList,S,JgF E,by rw[Array.toArray_toList];show O⟩)) T M,rfl,q l a (I.hok.fresh F) ⟨B,p⟩)
def JdW(ps:List (Str × V)):List (Key × V):=ps.foldl (λl p=>putK l (Sum.inr p.1) p.2) []
def Jnb(xs:List V)(H:Hp)(Q:VK):Prop:=∃(l:Addr)(as:List Addr)(ps:List (Str × V)),xs=[.ref l]/\H l=some (.lst (as.map V.ref))/\as.length=ps.length/\(∀(i:Nat)(a:Addr)(p:Str × V),as[i]?=some a->ps[i]?=some p->H a=some (.tup [.str p.1,p.2]))/\∀ d,H d=none->Q (.ref d) (upd H d (.dK (JdW ps)))
theorem Jh4(hc:X.calm=true):CallR X (.type "dict") Jnb:=by
 intro M s σ H xs us Q I r h;let(l,b,d,rfl,e,hl,hp,q):=h;let(u,rfl,Y):=vals1 r;cases Y;let(hz,D,n,S,F,el):=I.lstM e;have K:b.length<=sizeLine:=by simpa using hz
 have W:D.length=b.length:=by simpa using F.symm
 have pr:∀ j,j<b.length->∃ u a p f,b[j]?=some a/\d[j]?=some p/\RelV p.2 u/\JdU s.heap a (.str p.1 f) u:=λj A=>by
  have C:=List.getElem?_eq_getElem A;have w:=List.getElem?_eq_getElem (l:=d) (i:=j) ∅;let(_,ts,B,o,U,E,nn,T):=I.hok _ _ (hp j _ _ C w);cases B with
  | cons r1 B=>
   cases B with
   | cons r2 B=>
    cases B;let(f,rfl):=r1;show(_,_,_,f,C,w,r2,o,nn,U,E,T)
 let(y,t):=Classical.skolem.mp (show∀ j:Nat, ∃ u:Value,j<b.length->∃ a p f,b[j]?=some a/\d[j]?=some p/\RelV p.2 u/\JdU s.heap a (.str p.1 f) u fromλj=>by
  by_cases c:j<b.length
  .let(u,h):=pr j c;show(u,λ_=>h)
  .show(.none,λz=>absurd z c))
 have m:∀ j a,b[j]?=some a->b.getD j 0=a:=λj a h=>by rw[List.getD_eq_getElem?_getD,h];rfl
 have g:∀ j (p:Str × V),d[j]?=some p->(d.getD j (⟨#[]⟩, .non)).1=p.1:=λj p h=>by rw[List.getD_eq_getElem?_getD,h];rfl
 have J:D.toArray.size=b.length:=by rw[size_toArray];show W
 show Jed (I.ok.hd hc) el (λj=>b.getD j 0) (λj=>(d.getD j (⟨#[]⟩, .non)).1) y (λj v G=>?_) (λj A=>?_) ∅ λh' f k R=>?_
 .rw[List.getElem?_toArray]at G;have A:j<b.length:=by have:=(List.getElem?_eq_some_iff.mp G).1;ac_nf
  let(u,O,ru):=S.get (i:=j) (x:=.ref b[j]) (by rw[List.getElem?_map,List.getElem?_eq_getElem A];rfl);rw[G]at O;cases O;rw[m j _ (List.getElem?_eq_getElem A)];show ru
 .let(a,p,f,C,w,N,P):=t j ∅;show(f,?_);rw[m j a C,g j p w];show P
 .have L:∀ i,i<=b.length->KV (JdW (d.take i)) (dkv (λj=>(d.getD j (⟨#[]⟩, .non)).1) y i):=λi=>by
   induction i with
   | zero=>intro _;show .nil
   | succ i ih=>
    intro hi;let(a,p,f,C,w,N,P):=t i ∅;rw[Jfm,take_succ,w];unfold JdW;rw[List.foldl_append];rw[g i p w];show(ih ∅).put _ N
  have r:=L b.length (Nat.le_refl _);rw[take_of_length_le ∅]at r;have Z:(JdW d).length<=sizeLine:=by
   rw[r.length];show Nat.le_trans (JgO _ _ _) K
  rw[J]at R;show(.ref s.heap.objs.size,_,I.laid (a:=s.heap.objs.size) (o:=.dK (JdW d)) (t':=f) k (Nat.le_refl _) (JhC Z (beq_eq_false_iff_ne.mpr (Ne.symm (Nat.ne_of_lt I.big))) r R),rfl,q _ (I.hok.fresh (Nat.le_refl _)))
end
def negF(a:Int × Int):Int × Int:=(-a.1,a.2)
def lessF(a c:Int × Int):Bool:=decide (a.1*c.2<c.1*a.2)
structure FB(A B:Nat)(a:Int × Int):Prop where
 s1:Mth.Sz A a.1
 s2:Mth.Sz B a.2
 b1:1<=a.2
 g1:Mth.g a.1 a.2=1
variable{A B:Nat}{a:Int × Int}
theorem FB.ok(h:FB A B a)(h1:A<=n)(h2:B<=n):FOk n a:=⟨h.s1.mono h1,h.s2.mono h2,h.b1,h.g1⟩
theorem FB.neg(h:FB A B a):FB A B (negF a):=⟨by
 have:=h.s1;unfold Mth.Sz at this ⊢;unfold negF;rw[Int.natAbs_neg];show this,h.s2,h.b1,by
 have:=h.g1;unfold Mth.g negF at *;simpa using this⟩
variable{C:Nat}{c:Int × Int}
theorem FB.add{D m:Nat}(h:FB A B a)(k:FB C D c)(h1:A+D<=n)(h2:C+B<=n)(h3:B+D<=m):FB (n+1) m (addF a c):=by
 have b:a.2*c.2≠0:=Int.mul_ne_zero (by have:=h.b1;ac_nf) (by have:=k.b1;ac_nf);have d:=(h.s1.mul k.s2).mono h1;have e:=(k.s1.mul h.s2).mono h2;show(Mth.Sz.top b (d.add e),(Mth.Sz.bot b (h.s2.mul k.s2)).mono h3,Mth.JcS b,Mth.g_low b)
theorem FB.low{t:Int}(hb:1<=b)(h1:Mth.Sz A t)(h2:Mth.Sz B b):FB A B (Mth.top t b,Mth.bot t b):=by
 have a:b≠0:=by ac_nf
 show(Mth.Sz.top a h1,Mth.Sz.bot a h2,Mth.JcS a,Mth.g_low a)
variable{X:Cx}{e:Expr}{ta:TE}{pos:Pos}
theorem JlZ{K:W.Frag}{f:Str}(hK:X.K=K)(he:PE X e ta)(hb:attributeBase e f X.env (eval e X.env)=eval e X.env):PE X (.Attribute e f pos) (tFld K ta f):=by
 subst hK;show Jar he hb
structure FW(A B:Nat)(a:Int × Int):Prop where
 s1:Mth.Sz A a.1
 s2:Mth.Sz B a.2
 b1:1<=a.2
theorem FB.w(h:FB A B a):FW A B a:=⟨h.s1,h.s2,h.b1⟩
theorem FW.mono{D:Nat}(h:FW A B a)(h1:A<=C)(h2:B<=D):FW C D a:=⟨h.s1.mono h1,h.s2.mono h2,h.b1⟩
theorem FW.add{D m:Nat}(h:FW A B a)(k:FW C D c)(h1:A+D<=n)(h2:C+B<=n)(h3:B+D<=m):FB (n+1) m (addF a c):=by
 have b:a.2*c.2≠0:=Int.mul_ne_zero (by have:=h.b1;ac_nf) (by have:=k.b1;ac_nf);have d:=(h.s1.mul k.s2).mono h1;have e:=(k.s1.mul h.s2).mono h2;show(Mth.Sz.top b (d.add e),(Mth.Sz.bot b (h.s2.mul k.s2)).mono h3,Mth.JcS b,Mth.g_low b)
section
variable{o:Expr}{es:List Expr}{to:TE}{name:Str}{apos cpos:Pos}{T id:String}{r:V->List V->Hp->VK->Prop}{K:W.Frag}{t:TA}
end
variable{kvs:List (Key × V)}
theorem JjV{vs:List (Key × Value)}(r:KV kvs vs):Vals (kvs.map (·.2)) (vs.map (·.2)):=by
 unfold KV at r;induction r with
 | nil=>show .nil
 | cons h _ ih=>show .cons h.2 ih
section
variable{prog:Program}{A:Around}{E:Value->Shared->Prop}{w:World}{s:Shared}
end
section
variable{k':Nat}{x mn:Str}{C:Addr}{Cs:Addr->Prop}{ps:List Str}{sp:Sp}{p apos:Pos}{o:Expr}{es:List Expr}{k:Nat}{t:TA}
abbrev TX:=St->Hp->VK->XK->Prop
end
section
variable{σ:St}{Q:VK}{E:XK}{ty:TE}{ts:TA}{tc:TT}{u:TX}{C:Addr}{sp:Sp}{Cs:Addr->Prop}{td:TE}{t:TX}{m:Str}
theorem y41y:tDIn ty td σ H Q=ty σ H λy H1=>td σ H1 λx H2=>∃ a o,x=.ref a/\DGet H2 a y o/\Q (.bl o.isSome) H2:=rfl
theorem y45y:JjH ty td σ H Q=ty σ H λy H1=>td σ H1 λx H2=>∃ a o,x=.ref a/\DGet H2 a y o/\Q (.bl (!o.isSome)) H2:=rfl
end
section
variable{κ:Type}[DecidableEq κ]{f : α->κ}{k : κ}{u y : α}
end
section
variable{P : α->V->Prop}
end
section
variable{P P':TD->V->Prop}{ts:List TD}{t:TD}
end
theorem sub_len[DecidableEq α]:∀(l m:List α),l.Nodup->l ⊆ m->l.length<=m.length
 | [],m,_,_=>by simp
 | a::l,m,hn,hs=>by
  rw[nodup_cons]at hn;have ha:a∈m:=hs (by simp);have:=sub_len l (m.erase a) hn.2 λx hx=>(List.mem_erase_of_ne (show x≠a fromλe=>hn.1 (e ▸ hx))).mpr (hs (by simp[hx]));rw[List.length_erase_of_mem ha]at this;have:=List.length_pos_of_mem ha;rw[length_cons];ac_nf
abbrev BMV:List Value:=[.type "ValueError", .type "Exception", .type "BaseException", .type "object"]
structure ExcI(K:W.Frag)(C S f:Addr):Prop where
 up:W.excIn K S BMV "ValueError.__new__"=true
 at_:∃ nm q N bs sn sub ab col dd k0 k1 k2 k3 k5,K.lookup C=some (excClassObj nm q C N bs (.ref S::BMV) true sn sub ab col dd k0 k1 k2 k3 k5 "ValueError.__new__")
 init:W.findIn K (.ref C) "__init__"=some (some (.ref f))
 fn:W.isFn K (.ref f)=true
 kp:W.keepIn K (.ref C)=true
def ExcN(e C:Addr)(od:Option Addr):HO:=.ext λh=>∃ t:Addr,h.get? e=some { cls:=.ref C,dict:=od,data:=.fields #[.ref t, .none, .none, .none, .bool false, .none] }
section
variable{prog:Program}{A:Around}{E:Value->Shared->Prop}{h:Heap}{d:Drawn}{os:OsState}{w:World}{g:Array GenState}{t:Nat}{nm q:Str}{C N:Addr}{bm bmB:List Value}{hdct ab:Bool}{sn:List Str}{col:Option Bool}{dd:Option Addr}{k0 k1 k2 k3 k5:Option Value}{B newId initId:String}{bs:List Value}{sub:List Value}{K:W.Frag}
theorem Jir(F:ExcBaseFacts B newId initId bmB)(T:OwnTail h bmB bm){rest:List Value}{fI:Addr}{Q:Fin->Shared->Prop}(X:K.In h)
  (hC:h.get? C=some (excClassObj nm q C N bs bm hdct sn sub ab col dd k0 k1 k2 k3 k5 newId)) (hi:W.findIn K (.ref C) "__init__"=some (some (.ref fI)))
  (hfI:W.isFn K (.ref fI)=true)
  (hq:∀ h' e,Heap.MadeExcOf h h' e (.ref C) rest->h.objs.size<=e ->
   wpAny (model prog w) A (call (.ref fI) (.ref e::rest)) (λr s'=>r=.none/\Q (.done (.ret (.ref e))) s') E ⟨h',g,d,t,os⟩) (hrest:rest.length<=sizeLine:=by size_fits) :
  wpAny (model prog w) A (Builtin.«type.__call__» ⟨.ref C::rest,[]⟩) Q E ⟨h,g,d,t,os⟩:=by
 repeat (first | with_reducible show wpAny_loadPart_at hC ?_ | with_reducible show wpAny_madeBy_exc hC ?_ | wp_step)
 show codeAny_call_builtin_code (Code.quiet_builtin _ F.quiet) (wpAny_check_new_subT F T hC ?_);show codeAny_exc_new_subT F T hC ?_ hrest;show wpAny _ _ _ _ _ _;have c:∀ b o,h.get? b=some o->((h.push { cls:=.type "tuple",data:=.seq rest.toArray }).push { cls:=.ref C,data:=.fields #[.ref h.objs.size, .none, .none, .none, .bool false, .none] }).get? b=some o:=λb o e=>Heap.get?_push_of_some _ (Heap.get?_push_of_some _ e);have hC₁:=c _ _ hC;have X₁:=X.keeps c;have a:((h.push { cls:=.type "tuple",data:=.seq rest.toArray }).push
   { cls:=.ref C,data:=.fields #[.ref h.objs.size, .none, .none, .none, .bool false, .none] }).get? (h.objs.size+1)=some
   { cls:=.ref C,data:=.fields #[.ref h.objs.size, .none, .none, .none, .bool false, .none] }:=by heap_get
 have f:(Value.ref C::bm).contains (.ref C)=true:=by simp
 unfold isInstance;repeat (first | with_reducible show wpAny_loadPart_at a ?_ | (with_reducible show wpAny_isSubtype_exc hC₁ ?_;rw[f]) | wp_step)
 show wpAny _ _ (typeLookup (.ref C) _) _ _ _;show(W.looks_findIn X₁ hi).at ?_;show wpAny_holding (wpAny_bind ((W.bind_fn X₁ _ (beq_iff_eq.mp hfI)).at ?_));show wpAny_bind (wpAny_mono (hq _ (h.objs.size+1) ⟨c,Heap.get?_none_of_le (Nat.le_succ _),h.objs.size,a,Heap.get?_none_of_le (Nat.le_refl _),?_⟩ (Nat.le_succ _)) (λr s' i=>?_) λ_ _ x=>x)
 .show Heap.get?_push_of_some _ (Heap.get?_push_at rfl rfl)
 .let(rfl,j):=i
  wp_walk
  show j
theorem Jix(F:ExcBaseFacts B newId initId bmB)(T:OwnTail h bmB bm){rest:List Value}{fI:Addr}{Q:Value->Shared->Prop}(X:K.In h)
  (hC:h.get? C=some (excClassObj nm q C N bs bm hdct sn sub ab col dd k0 k1 k2 k3 k5 newId)) (hi:W.findIn K (.ref C) "__init__"=some (some (.ref fI)))
  (hfI:W.isFn K (.ref fI)=true)
  (hq:∀ h' e,Heap.MadeExcOf h h' e (.ref C) rest->h.objs.size<=e ->
   wpAny (model prog w) (A.under (.builtin "type.__call__" ⟨.ref C::rest,[]⟩)) (call (.ref fI) (.ref e::rest)) (λr s'=>r=.none/\Q (.ref e) s') E ⟨h',g,d,t,os⟩) (hrest:rest.length<=sizeLine:=by size_fits) :
  wpAny (model prog w) A (call (.ref C) rest) Q E ⟨h,g,d,t,os⟩:=by
 have c:=tc_lookup;have i:=tc_bind (.ref C);have f:(⟨h,g,d,t,os⟩:Shared).TypeIs (.ref C) "type":=⟨_,hC,rfl⟩;show wpAny_call (codeAny_of_tree ?_);show wpAny _ _ (callAny (.ref C) _) _ _ _;repeat (any_goals (first | assumption | with_reducible show wpAny_loadPart_at hC ?_ | wp_step))
 show(rfl,?_);show codeAny_call_builtin_at (Code.quiet_builtin _ (by decide +kernel)) entry_typeCall (wpAny_check_type_call_sub hC (Jir (hrest:=hrest) F T X hC hi hfI λh' e a b=>?_));show hq h' e a b
end
section
variable{C S:Addr}{fd:FuncData}{ps:List Str}{sp:Sp}{E:XK}{x:Str}{p apos:Pos}{o:Expr}{es:List Expr}{k:Nat}{f:Addr}{m:Str}{t:TA}{P:Program}{h:Heap}{od:Option Addr}
theorem JgQ{w:World}{e:Addr}(z:∃ t:Addr,h.get? e=some { cls:=.ref C,dict:=od,data:=.fields #[.ref t, .none, .none, .none, .bool false, .none] }):ObjOk P w H h e (ExcN e C od) :=
 ⟨z,let⟨_,e⟩:=z;⟨_,e⟩,λ_ _ ⟨t,e⟩ k=>⟨t,k _ e⟩⟩
theorem ExcI.cls{K:W.Frag}(M:ExcI K C S f)(Xi:K.In h):∃ nm q N bs sn sub ab col dd k0 k1 k2 k3 k5,h.get? C=some (excClassObj nm q C N bs (.ref S::BMV) true sn sub ab col dd k0 k1 k2 k3 k5 "ValueError.__new__")/\OwnTail h BMV (.ref S::BMV):=by
 let(nm,q,N,bs,sn,sub,ab,col,dd,k0,k1,k2,k3,k5,z):=M.at_;let(_,_,_,_,_,_,_,_,_,_,_,_,_,_,_,_,_,b,c,a,_):=JiN Xi M.up;show(nm,q,N,bs,sn,sub,ab,col,dd,k0,k1,k2,k3,k5,Xi _ _ z, .own b c a .base)
variable{pins:List (Addr × Obj)}{σ:St}
theorem Jjs{s:Shared}{Q:VK}{us:List Value}{vs:List V}(M:ExcI X.K C S f)(F:FnOk X.prog X.w X.K X.mg X.base (CX1 X.prog X.w) k f fd ps sp)(hr:Room (k+1) X.A)(hb:Binds X.K fd ps [])
  (hx:Jb4 (CX1 X.prog X.w) X E) (I:Inv X pins σ H s) (r:Vals vs us) (hz:vs.length<=sizeLine)
  (h:∀ x,H x=none->sp (.ref x::vs) (upd H x (ExcN x C none)) (λv H2=>v=.non/\Q (.ref x) H2) E) :
  wpAny (model X.prog X.w) X.A (call (.ref C) us) (EP X pins σ Q) X.xe s:=by
 let(nm,q,N,bs,U,L,ab,O,dd,k0,k1,k2,Y,W,B,T):=M.cls I.kIn;let(Z,g,d,i,m):=s;show Jix PySem.F.excBase_ValueError T I.kIn B M.init M.fn (λo b j t=>?_) (by rw[<- r.length];show hz);have n:=h b (I.hok.isnone j.new);let(z,P,_,_):=j.there;have I2:Inv X pins σ (upd H b (ExcN b C none)) ⟨o,g,d,i,m⟩:=I.laid (t':=i) j.keeps t (JgQ ⟨z,P⟩);have l:Vals (V.ref b::vs) (Value.ref b::us):=.cons rfl r;have D:(Value.ref b::us++[]).length=ps.length:=by
  have e:=l.length;rw[F.len _ _ _ _ n]at e;simpa using e.symm
 have c:=hb ⟨o,g,d,i,m⟩ (Value.ref b::us) I2.kIn D;rw[append_nil]at c;show wpAny_call (codeAny_mono (F.run _ X.stack _ _ ⟨Value.ref b::us,[]⟩ (Value.ref b::us) _ _ E (hr.make C us []) (I2.env0.make C us []) c l n) λr J a=>?_);cases r with
 | error e=>show hx pins σ _ _ e J I2 a
 | ok fl=>
  cases fl with
  | ret u=>
   let(v,G,I3,y,R,p):=I2.after a;subst R;show(y,⟨V.ref b,G,I3,rfl,p⟩)
  | next=>show False.elim a
  | brk=>show False.elim a
  | cont=>show False.elim a
def JjI(C:Addr)(sp:Sp)(E:XK)(t:TA):TE:=λσ H Q=>t σ H λvs H1=>vs.length<=sizeLine/\∀ x,H1 x=none->sp (.ref x::vs) (upd H1 x (ExcN x C none)) (λv H2=>v=.non/\Q (.ref x) H2) E
theorem Jko(M:ExcI X.K C S f)(F:FnOk X.prog X.w X.K X.mg X.base (CX1 X.prog X.w) k f fd ps sp)(hr:Room (k+1) X.A)(hg:Gl X x)(hm:X.mg x=some (.ref C))(hb:Binds X.K fd ps [])(hx:Jb4 (CX1 X.prog X.w) X E)
  (ha:PA X (e::es) t) (hdb:autoParam ((x == ("__debug__" : Str))=false) Au) (he:autoParam (starEach (e::es) X.env=(false,eval e X.env)::starEach es X.env) Au) (hpl:autoParam ((backTo pos (starEach es X.env)).any (·.1)=false) Au) :
  PE X (.Call (.Name x p) (e::es) [] pos) (JjI C sp E t):=by
 intro a s σ H Q I h;show wpAny_Call_Name_kw (Jcv I hg hm ?_ hdb);show W.callWith_K (h₀:=X.base) I.ok.mod.kin M.kp (thn (ha pos a s σ H _ I h) λc g ζ=>?_) he hpl;let(d,b,I1,r,q):=ζ;show(I1.kIn,?_);show Jjs M F hr hb hx I1 r q.1 q.2
end
section
variable{P:Program}{mg:Str->Option Value}{base:Heap}{N:List Str}{qual:Str}{scope:Scope}{cdv:Value}{A:Around}{outer:List Env}{s0:Shared}{H0:Hp}{E:XK}{w:World}{K:W.Frag}{f:Addr}
def JjL(K:W.Frag)(H0:Hp)(E:XK)(te:TE):TS:=λ_ σ H=>te σ H λv H1=>∃ e C S f od,v=.ref e/\H1 e=some (ExcN e C od)/\ExcI K C S f/\H0 e=none/\E (.ref C) od (unt H1 e)
variable{te:TE}
theorem Jjn{x:Expr}(hx:PE (cxOf (CX1 P w) P w K mg base N qual scope f cdv A outer s0 H0 E) x te) :
  PS (cxOf (CX1 P w) P w K mg base N qual scope f cdv A outer s0 H0 E) (.Raise (some x) none pos) (JjL K H0 E te):=by
 intro a s σ H D I h;have n:(A.deeper (envOfC qual scope s0.heap.objs.size f cdv)).handled=none:=I.ok.hd rfl;rw[arm_exec_Raise];show wpAny_bind (wpAny_standAt ?_);show wpAny _ _ (raiseStmt _ (some (do let v <- eval x _;standAt pos;pure v)) none) _ _ _;unfold raiseStmt;show wpAny_bind (wpAny_bind (thn (hx a s σ H _ I h) λu r ζ=>?_));let(v,Q,I1,p,e,C,S,W,od,F,i,M,m,q):=ζ;show wpAny_bind (wpAny_standAt (wpAny_pure ?_));subst F;obtain rfl:u=Value.ref e:=p;let(nm,qn,U,bs,G,y,Y,B,dd,k0,O,Z,L,J,j,T):=M.cls I1.kIn;let(t,k):=(I1.hok e _ i).1;let(hp,g,d,V,R):=r;have c:(Value.ref C::(.ref S::BMV)).contains (.type "BaseException")=true:=by rw[List.contains_cons,T.hasType (X:="BaseException") (b:=true) ⋯,Bool.or_true]
 repeat (first | with_reducible show wpAny_loadPart_at k ?_ | with_reducible show wpAny_loadPart_at j ?_ | (with_reducible show wpAny_isSubtype_exc j ?_;rw[c]) | wp_step)
 show wpAny_raiseNew_none n ?_;show JmP I1 i k rfl rfl rfl ?_ q;cases z:s0.heap.get? e with
 | none=>rfl
 | some o=>
  have l:=I1.base.free e o z m (by intro z;cases z);rw[i]at l;cases l
end
structure SlkI(K:W.Frag)(S:Addr):Prop where
 ga:W.specialIn K (.ref S) "__getattribute__"=some (some (.builtin "type.__getattribute__"))
 rd:W.readsIn K S (.type "type")=true
 fi:W.findCls K (.ref S) (.type "type") "__init__"=some (.val (.builtin "ValueError.__init__"))
section
variable{C S:Addr}{x:Str}{p apos:Pos}{es:List Expr}{f:Addr}{t:TA}{prog:Program}{A:Around}{E:Value->Shared->Prop}{h:Heap}{d:Drawn}{os:OsState}{a0:Addr}
theorem Jmo{w:World}{K:W.Frag}{g:Array GenState}{t:Nat}{Q:Value->Shared->Prop}{ex:Addr}{od:Option Addr}{rest:List Value}
  (M:ExcI K C S f) (Xi:K.In h) (he:h.get? ex=some { cls:=.ref C,dict:=od,data:=.fields #[.ref a0, .none, .none, .none, .bool false, .none] }) (hr:rest.length<=sizeLine)
  (hq:∀ h' t',(∃ a1:Addr,h'.get? ex=some { cls:=.ref C,dict:=od,data:=.fields #[.ref a1, .none, .none, .none, .bool false, .none] })->(∀ b u,b≠ex->h.get? b=some u->h'.get? b=some u)->Q .none ⟨h',g,d,t',os⟩) :
  wpAny (model prog w) A (call (.builtin "ValueError.__init__") (.ref ex::rest)) Q E ⟨h,g,d,t,os⟩:=by
 have F:=PySem.F.excBase_ValueError;let(s,q,N,x,l,i,p,k,v,y,o,r,n,m,c,T):=M.cls Xi;show wpAny_call (codeAny_call_builtin F.init.plain F.initEntry (wpAny_check_init_subT F T c he rfl ?_));have a:=Heap.get?_push_of_some (h:=h) { cls:=.type "tuple",data:=.seq rest.toArray } he
 wp_walk
 show hq _ _ ⟨h.objs.size,?_⟩ λb u e j=>?_
 .rw[Heap.get?_update_self _ a rfl];rfl
 .rw[Heap.get?_update_other _ _ (Ne.symm e)];show Heap.get?_push_of_some _ j
def Jk3(K:W.Frag)(t:TA):TE:=λσ H Q=>t σ H λvs H2=>∃ e rest C S f od,vs=.ref e::rest/\rest.length<=sizeLine/\H2 e=some (ExcN e C od)/\ExcI K C S f/\Q .non (upd H2 e (ExcN e C od))
theorem Jkk{pl:Sem Bool}(G:SlkI X.K S)(hg:Gl X x)(hm:X.mg x=some (.ref S))(ha:PA X (e::es) t)(hdb:autoParam ((x == ("__debug__" : Str))=false) Au)
  (hst:autoParam (starEach (e::es) X.env=(false,eval e X.env)::starEach es X.env) Au) (hpl:autoParam ((backTo pos (starEach es X.env)).any (·.1)=false) Au)
  (ht:autoParam (eval (.Call (.Attribute (.Name x p) "__init__" apos) (e::es) [] pos) X.env=(do
   let ov <- eval (.Name x p) X.env
   standAt apos.atName
   let(f,first) <- holding [ov] (getMethod ov "__init__" pl)
   callWith pos f first (backTo pos (starEach (e::es) X.env)) (backToKw pos (keywordEach [] X.env)))) Au) :
  PE X (.Call (.Attribute (.Name x p) "__init__" apos) (e::es) [] pos) (Jk3 X.K t):=by
 intro a s σ H Q I h;show W.methodCall_KW (pl:=pl) (Jcv I hg hm ?_ hdb) ht;show W.method_cls I.kIn G.ga (W.cls_value I.kIn G.rd G.fi (by decide +kernel) ?_);show PyProof.Rows.callWith_builtin1 (thn (ha pos a _ σ H _ (I.tok _) h) λA j ζ=>?_) hst hpl;let(B,n,I2,r,b,rest,C,y,f,w,m,l,c,M,i):=ζ;subst m;cases r with
 | @cons _ u _ us' ru rr=>
 obtain rfl:u=Value.ref b:=ru;let(v,hg):=(I2.hok b _ c).1;let(E,g,d,q,o):=j;show Jmo M I2.kIn hg (by rw[<- rr.length];show l) λD t' z k=>?_;show(V.non,_,I2.write (t':=t') (e:=b) (by rw[c];show trivial) (.inl rfl) k (let⟨_,z⟩:=z;⟨_,z⟩) (JgQ z),rfl,i)
end
section
open PySem.W PySem.Builtin PySem.Builtin.ObjectAttr
variable{prog:Program}{A:Around}{E:Value->Shared->Prop}{h:Heap}{d:Drawn}{os:OsState}{x C S a0:Addr}{name:Str}{v:Value}{w:World}{K:W.Frag}{g:Array GenState}{t:Nat}{f:Addr}{ox:Obj}{Q:Unit->Shared->Prop}
theorem JkG{M:Model}{nameV:Value}(Mx:ExcI K C S f)(X:K.In h)(hx:h.get? x=some ox)(hc:ox.cls=.ref C)(hq:Q () ⟨h,g,d,t,os⟩) :
  wpAny M A (checkBuiltinCall "object.__setattr__" ⟨[.ref x,nameV,v],[]⟩) Q E ⟨h,g,d,t,os⟩:=by
 have c:=PySem.F.store_ValueError;let(r,q,N,w,k,i,o,j,s,y,n,p,m,l,e,T):=Mx.cls X;have a:(Value.ref C::.ref S::BMV).contains (.type "object")=true:=by rw[List.contains_cons,T.hasType (X:="object") (b:=true) ⋯,Bool.or_true]
 have u:=c.args (.ref x) nameV v;simp only[checkBuiltinCall,c.kind,c.split];show wpAny_bind ?_
 .unfold isInstance;repeat (first | (with_reducible show wpAny_loadPart_at hx ?_;rw[hc]) | (with_reducible show wpAny_isSubtype_exc e ?_;rw[a]) | wp_step)
  show hq
theorem JkH(M:ExcI K C S f)(X:K.In h)(sa:findIn K (.ref C) "__setattr__"=some (some (.builtin "object.__setattr__")))(na:findIn K (.ref C) name=some none)
  (hx:h.get? x=some { cls:=.ref C,dict:=none,data:=.fields #[.ref a0, .none, .none, .none, .bool false, .none] })
  (hq:∀ h' t' dx,h.objs.size<=dx->h'.get? x=some { cls:=.ref C,dict:=some dx,data:=.fields #[.ref a0, .none, .none, .none, .bool false, .none] }->h'.Ns1 dx (λy=>if y=name then some v else none) ->
   (∀ b u,b≠x->h.get? b=some u->h'.get? b=some u)->Q () ⟨h',g,d,t',os⟩):wpAny (model prog w) A (setAttr (.ref x) name v) Q E ⟨h,g,d,t,os⟩:=by
 have m:=PySem.F.store_ValueError;let(nm,q,N,bs,sn,U,ab,V,dd,Z,k1,k2,k3,k5,L,T):=M.cls X;have f3:=m.slot.bind (.ref x);have L1:=looks_findIn (M:=model prog w) X sa;have L2:=looks_findIn (M:=model prog w) X na;unfold setAttr callSpecial? specialOf;repeat (any_goals (first | assumption | (with_reducible show wpAny_loadPart_at hx ?_) | lk | wp_step))
 show wpAny_run (codeAny_call_builtin m.slot.plain m.entry (JkG M X hx rfl ?_));have I:Looks (model prog w) h (typeOf (.ref x)) (.ref C):=(Looks.ld hx).andThen .now;show wpAny _ _ (Builtin.«object.__setattr__» ⟨[.ref x, .str name t,v],[]⟩) _ _ _;rw[osa_eq,refuse_eq];show wpAny_bind (wpAny_bind (I.at (wpAny_bind (wpAny_mroOf_exc L ?_))));rw[refuseLoop_ref,refuseLoop_ref,m.passes];show wpAny_pure (wpAny_bind (I.at (wpAny_bind (L2.at (wpAny_bind (wpAny_pure (a:=none) ?_))))));show wpAny _ _ (storeInOwnDict (.ref x) (.ref C) (.str name t) name v false) _ _ _;obtain⟨o,j⟩:∃ o:Obj,o={ cls:=.ref C,dict:=none,data:=.fields #[.ref a0, .none, .none, .none, .bool false, .none] }:=⟨_,rfl⟩;have W:o.cls=.ref C:=by rw[j]
 have H:o.dict=none:=by rw[j]
 have G:∀ c,o.data≠.cls c:=λc=>by rw[j];intro z;cases z
 rw[<- j]at hx;repeat (first | (with_reducible show wpAny_loadPart_at hx ?_;rw[W]) | with_reducible show wpAny_loadPart_at L ?_ | wp_step)
 rw[H,if_neg (by simp[typeHasDict])];split
 .rename_i i;cases i
 split
 .rename_i c i;show absurd i (G c)
 .have hx₁ : (h.push { cls:=.type "dict",data:=.dict #[] }).get? x=some o:=Heap.get?_push_of_some _ hx;have l:x≠h.objs.size:=Nat.ne_of_lt (Heap.lt_size hx);show wpAny_bind (wpAny_alloc' ?_);show wpAny_bind (wpAny_update' hx₁ ?_);show wpAny_pure ?_;have B:((h.push { cls:=.type "dict",data:=.dict #[] }).update x λo=>{ cls:=o.cls,dict:=some h.objs.size,data:=o.data,slots:=o.slots }).get? h.objs.size
    = some { cls:=.type "dict",data:=.dict #[] } :=
   (Heap.get?_update_ne _ _ _ _ l.symm).trans (Heap.get?_push_at rfl rfl)
  have n:((h.push { cls:=.type "dict",data:=.dict #[] }).update x λo=>{ cls:=o.cls,dict:=some h.objs.size,data:=o.data,slots:=o.slots }).Ns h.objs.size (λ_=>none) :=
   ⟨_, #[],_,B,rfl,λe R=>absurd R (by simp),λ_=>rfl⟩
  show wpAny _ _ (storeInDict h.objs.size (.str name t) name v) _ _ _;unfold storeInDict newKeyGuard;show wpAny_bind (wpAny_pure (wpAny_bind (wpAny_nsSet1 (Heap.Ns1.of_empty n) λh' k J=>?_)));let(oD,P,Y,D,s,r):=k.count (Within.cons name v Within.nil);show wpAny_bind (wpAny_lookBehind D (by rw[s];show pastItsLine_dict (Nat.le_trans r (by rw[length_cons,length_nil,sizeLine_eq];ac_nf))) ?_)
  wp_walk
  show hq h' _ h.objs.size (Nat.le_refl _) ?_ k λb ob p O=>?_
  .show(J.2 x l).trans ((Heap.get?_update_self _ hx₁ ?_).trans (by rw[j]));rw[j];rfl
  .show(J.2 b (Nat.ne_of_lt (Heap.lt_size O))).trans ((Heap.get?_update_ne _ _ _ _ p).trans (Heap.get?_push_of_some _ O))
structure ExcL(K:W.Frag)(D:Addr)(name:Str):Prop where
 hd:W.hasDictIn K D=true
 ga:W.findIn K (.ref D) "__getattribute__"=some (some (.builtin "BaseException.__getattribute__"))
 gh:W.findIn K (.ref D) "__getattr__"=some none
 na:W.findIn K (.ref D) name=some none
 mb:W.mroIn K D (.type "BaseException")=some true
variable{od:Obj}
theorem Jmp{s:Shared}{expr:Bool}{Q:Value->Shared->Prop}(X:K.In s.heap)(c:ExcL K C name)(J:W.InstAt s.heap x ox C (some od))(hl:lookIn name od=some (some v))(hv:handedIn v=true)(q:Q v { s with toks:=s.toks+1 }) :
  wpAny (model prog w) A (getAttr (.ref x) name expr) Q E s:=by
 let(r,k,n,g,p):=s;have d:=J.type (M:=model prog w);have h:=looks_findIn (M:=model prog w) X c.ga;have i:=looks_findIn (M:=model prog w) X c.gh;have l:=looks_find (M:=model prog w) X J (findObj_own c.hd c.na rfl hl);have o:=looks_mroIn (M:=model prog w) X c.mb;have b:bindSpecial (.builtin "BaseException.__getattribute__") (.ref x)=pure (.builtin "BaseException.__getattribute__",[.ref x]):=by kernel_rfl
 have a:(expr&&onTheHeap (Value.builtin "BaseException.__getattribute__"))=false:=by cases expr <;> rfl
 unfold getAttr getAttrBy;show wpAny_bind (wpAny_mkText (wpAny_holding (wpAny_bind (d.at (wpAny_bind (h.at ?_))))));have j:(onTheHeap (Value.ref C)&&Value.builtin "BaseException.__getattribute__" == Value.builtin "object.__getattribute__")=false:=Bool.and_eq_false_iff.mpr (.inr (by decide +kernel));show wpAny _ _ (if(onTheHeap (Value.ref C)&&Value.builtin "BaseException.__getattribute__" == Value.builtin "object.__getattribute__")=true then _ else getAttrByItsOwn _ _ _ _ _ _) _ _ _;rw[if_neg (by rw[j];decide)];unfold getAttrByItsOwn hookBefore;show wpAny_bind ?_;rw[if_pos (show onTheHeap (Value.ref C)=true from rfl)];show i.at ?_;show wpAny_bind (wpAny_attempt (wpAny_holding ?_));unfold callGetattribute boundAndCalled;rw[a,if_neg ⋯,b];show wpAny_bind (wpAny_pure ?_);show wpAny_call (codeAny_call_builtin (by decide +kernel) PySem.F.entry_bexc_ga ?_);have f:builtinKind "BaseException.__getattribute__"=some .slot:=by decide +kernel
 have e:splitId "BaseException.__getattribute__"=some ("BaseException","__getattribute__"):=by decide +kernel
 have m:=PySem.F.args_bexc_ga (.ref x) (.str name g)
 (simp only[checkBuiltinCall,f,e];show wpAny_bind ?_)
 unfold isInstance;repeat (first | lk | wp_step)
 show wpAny _ _ (handedOut v) _ _ _;show W.handed_on hv q
end
section
variable{o value:Expr}{pos':Pos}{tv:TE}{f:Str}
structure ExcA(K:W.Frag)(C:Addr)(f:Str):Prop where
 sa:W.findIn K (.ref C) "__setattr__"=some (some (.builtin "object.__setattr__"))
 na:W.findIn K (.ref C) f=some none
def sFldX(K:W.Frag)(ta tv:TE)(f:Str):TS:=λD σ H=>tv σ H λy H1=>ta σ H1 λx H2=>∃ e C S g,x=.ref e/\H2 e=some (ExcN e C none)/\ExcI K C S g/\ExcA K C f /\
 ∀ dx,H2 dx=none->dx≠e->D.nx σ (upd (upd H2 e (ExcN e C (some dx))) dx (.xd [(f,y)]))
theorem Jl6(ha:PE X o ta)(hv:PE X value tv)(hs:swapsWith value (some (.Attribute o f pos')) pos.line X.env=pure false):PS X (.Assign [.Attribute o f pos'] value pos) (sFldX X.K ta tv f):=by
 intro l s σ H D I h;show plainObj_wpAny_Assign_Attribute (thn (hv l s σ H _ I h) λu W ζ=>?_) hs;let(y,Q,I1,V,q):=ζ;show thn (ha l W σ Q _ I1 q) λov O ζ=>?_;let(x,R,I2,T,e,C,S,g,U,i,M,c,L):=ζ;subst U;obtain rfl:ov=Value.ref e:=T;let(Y,Z):=(I2.hok e _ i).1;let(hp,gg,d,tk,os):=O;show JkH M I2.kIn c.sa c.na Z λh' t' w A z P k=>?_;have m:R w=none:=I2.hok.fresh A;have ne:w≠e:=λq=>by rw[q,i]at m;cases m
 have nd:hp.get? w=none:=Heap.get?_none_of_le A;show(σ,_,I2.un (t':=t') ⟨λb j z n N _=>?_,λb j z n N _=>?_,λb j z n _=>?_,λb j z _=>?_,λb xs z=>?_,λb j v z=>?_,λb p z=>⟨#[],?_⟩⟩ λa j t=>?_,L w m ne)
 .show k b j (λy=>by rw[y,i]at n;cases n) z
 .show(_,k b j (λy=>by rw[y,i]at n;cases n) z)
 .rw[Jah (λy=>by rw[y,nd]at z;cases z),Jah (λy=>by rw[y,i]at n;cases n)];show n
 .by_cases y:b=e
  .show(_,by rw[y];assumption)
  .show(j,k b j y z)
 .rw[Jah (Jai z m),Jah (λy=>by rw[y,i]at z;cases z)];show z
 .rw[Jah (Jai z m),Jah (λy=>by rw[y,i]at z;cases z)];show z
 .rw[Jah (Jai z m),Jah (λy=>by rw[y,i]at z;cases z),z];simp
 .by_cases G:a=w
  .subst G;rw[Jak]at t;cases t;show(_,P,λB=>?_);show RelO (List.lookup B [(f,y)]) (if B=f then some u else none);by_cases q:B=f
   .subst q;simp[List.lookup,RelO];show V
   .have : (B == f)=false:=by simpa using q
    simp[List.lookup,this,q,RelO]
  .rw[Jah G]at t;by_cases F:a=e
   .subst F;rw[Jak]at t;cases t;show JgQ ⟨Y,z⟩
   .rw[Jah F]at t;show(I2.hok a j t).stay (λb v E J=>k b v ?_ J) (λb r=>?_) (λb xs r=>?_)
    .rcases E with rfl | E
     .show F
     .showλy=>by rw[y,i]at E;cases E
    .rw[Jah (Jai r m),Jah (λy=>by rw[y,i]at r;cases r)];show r
    .rw[Jah (Jai r m),Jah (λy=>by rw[y,i]at r;cases r)];show r
def tFldX(K:W.Frag)(ta:TE)(f:Str):TE:=λσ H Q=>ta σ H λx H1=>∃ e C dx fs v,x=.ref e/\H1 e=some (ExcO e C (some dx))/\ExcL K C f/\H1 dx=some (.xd fs)/\fs.lookup f=some v/\Q v H1
theorem Jl0(he:PE X e ta)(hb:attributeBase e f X.env (eval e X.env)=eval e X.env):PE X (.Attribute e f pos) (tFldX X.K ta f):=by
 intro a s σ H Q I h;show Jiv hb (thn (he a s σ H _ I h) λu J ζ=>?_);let(x,m,I1,t,d,C,y,G,v,p,B,c,D,l,q):=ζ;subst p;obtain rfl:u=Value.ref d:=t;let(F,M,w,E,i,k):=(I1.hok d _ B).1;let(j,n,r):=I1.hok y _ D;let(L,b,z):=Jen n;let(u,A,g):=RelO.some_of (v:=v) (o:=j f) (by rw[<- l];show r f);show Jmp I1.kIn c ⟨w,E,by unfold W.notCls;rw[i],by rw[k];show b⟩ (by rw[z,A]) (Jgf g) ?_;show(v,m,I1.tok _,g,q)
end
structure XCal(P:Program)(w:World)(K:W.Frag)(mg:Str->Option Value)(base:Heap)(k:Nat)(x:Str)(C S:Addr)(ps:List Str)(sp:Sp):Prop where
 ex:∃(f:Addr)(fd:FuncData),FnOk P w K mg base (CX1 P w) k f fd ps sp/\mg x=some (.ref C)/\ExcI K C S f/\Binds K fd ps []
section
variable{k':Nat}{x mn:Str}{C S:Addr}{Cs:Addr->Prop}{ps:List Str}{sp:Sp}{E:XK}{p apos:Pos}{o:Expr}{es:List Expr}{k:Nat}{f:Str}{t:TA}{K:W.Frag}
theorem XCal.ev(G:XCal X.prog X.w X.K X.mg X.base k x C S ps sp)(hr:Room k' X.A)(hk:k+1<=k')(hg:Gl X x)(hx:Jb4 (CX1 X.prog X.w) X E)(ha:PA X (e::es) t)
  (hdb:autoParam ((x == ("__debug__" : Str))=false) Au) (he:autoParam (starEach (e::es) X.env=(false,eval e X.env)::starEach es X.env) Au) (hpl:autoParam ((backTo pos (starEach es X.env)).any (·.1)=false) Au) :
  PE X (.Call (.Name x p) (e::es) [] pos) (JjI C sp E t):=by
 let(f,c,F,b,M,a):=G.ex;show Jko M F (hr.mono hk) hg b a hx ha hdb he hpl
theorem Jkm(hK:X.K=K)(he:PE X e ta)(hb:attributeBase e f X.env (eval e X.env)=eval e X.env):PE X (.Attribute e f pos) (tFldX K ta f):=by
 subst hK;show Jl0 he hb
end
section
variable{H0:Hp}{Q:VK}{E:XK}{σ:St}{En:Ends}{C:Addr}{sp:Sp}{tv te:TE}{mn:Str}{Cs:Addr->Prop}{K:W.Frag}{t:TA}{f:Str}
theorem y83y:JjL K H0 E te En σ H=te σ H λv H1=>∃ e C S f od,v=.ref e/\H1 e=some (ExcN e C od)/\ExcI K C S f/\H0 e=none/\E (.ref C) od (unt H1 e):=rfl
theorem y69y:JjI C sp E t σ H Q=t σ H λvs H1=>vs.length<=sizeLine/\∀ x,H1 x=none->sp (.ref x::vs) (upd H1 x (ExcN x C none)) (λv H2=>v=.non/\Q (.ref x) H2) E:=rfl
theorem y2cy:Jk3 K t σ H Q=t σ H λvs H2=>∃ e rest C S f od,vs=.ref e::rest/\rest.length<=sizeLine/\H2 e=some (ExcN e C od)/\ExcI K C S f/\Q .non (upd H2 e (ExcN e C od)):=rfl
theorem y89y:sFldX K ta tv f En σ H=tv σ H λy H1=>ta σ H1 λx H2=>∃ e C S g,x=.ref e/\H2 e=some (ExcN e C none)/\ExcI K C S g/\ExcA K C f/\∀ dx,H2 dx=none->dx≠e->En.nx σ (upd (upd H2 e (ExcN e C (some dx))) dx (.xd [(f,y)])):=rfl
theorem y4fy:tFldX K ta f σ H Q=ta σ H λx H1=>∃ e C dx fs v,x=.ref e/\H1 e=some (ExcO e C (some dx))/\ExcL K C f/\H1 dx=some (.xd fs)/\fs.lookup f=some v/\Q v H1:=rfl
end
section
variable{pins:List (Addr × Obj)}{σ:St}{a:Addr}{u r:Value}{y:V}{A:Around}{E:Value->Shared->Prop}{s:Shared}{k:Key}{v:Option V}{o:Option Value}
theorem Jkw{w:Value}(h:RelO v o)(e:o=some w):∃ x,v=some x/\RelV x w:=by
 subst e;cases v with
 | none=>show absurd h (by simp[RelO])
 | some x=>show(x,rfl,h)
theorem Jkv(h:RelO v o)(e:o=none):v=none:=by
 subst e;cases v with
 | none=>rfl
 | some x=>show absurd h (by simp[RelO])
theorem Jj5{Q:Value->Shared->Prop}(I:Inv X pins σ H s)(e:H a=some (.dK kvs))(ry:RelV (kV k) u)(rd:RelV y r)(hl:kvs.length<sizeLine)
  (h1:∀ v w' s',valV kvs k=some v->Inv X pins σ H s'->RelV v w'->Q w' s') (h2:∀ s',valV kvs k=none->Inv X pins σ (upd H a (.dK (putK kvs k y))) s'->Q r s') :
  wpAny (model X.prog X.w) A (call (.builtin "dict.setdefault") [.ref a,u,r]) Q E s:=by
 let(z,f,n,b,d):=dk_of I.hok e;show call_meetsIn PySem.F.slot_dict_setdefault d.typeIs PySem.F.entry_dict_setdefault (PySem.F.args_dict_setdefault_3 _ _ _) (PySem.kt_meets_setdefault (Jaw X.prog X.w) a (kV_is ry) f r) ⟨n,d,by rw[<- b.length];show z,λw o=>?_,λj p c t=>?_⟩
 .let(x,m,i):=Jkw (b.val k) o;show h1 x w _ m (I.tok _) i
 .have l:=Jkv (b.val k) j;show h2 _ l ?_;have h:∃ q,p.get? a=some q:=let⟨q,_,_,hq,_⟩:=c;⟨q,hq⟩;have g:(putK kvs k y).length<=sizeLine:=by have:=Jbg kvs k y;ac_nf
  show Jfl I (by rw[e];show True.intro) t h (JhC g f (b.put k rd) c)
end
def tDSet(td ty tx:TE):TE:=λσ H Q=>td σ H λx H1=>∃ a,x=.ref a/\IsD H1 a/\ty σ H1 λy H2=>tx σ H2 λz H3=>∃ kvs k,H3 a=some (.dK kvs)/\y=kV k/\kvs.length<sizeLine /\
 (∀ v,valV kvs k=some v->Q v H3)/\(valV kvs k=none->Q z (upd H3 a (.dK (putK kvs k z))))
section
variable{o:Expr}{apos cpos:Pos}{ty tx:TE}{f:Expr}{td:TE}
theorem Jjf(ho:PE X o td)(he:PE X e ty)(hf:PE X f tx)(m:M2 X o "setdefault" apos e f cpos):PE X (.Call (.Attribute o "setdefault" apos) [e,f] [] cpos) (tDSet td ty tx):=by
 intro b s σ H Q I h;show wpAny_Call_method m.base m.few m.line PySem.F.plainAttrs_dict PySem.F.slot_dict_setdefault PySem.F.type_dict_setdefault (thn (ho b s σ H _ I h) λu E ζ=>?_);let(x,p,I1,w,a,A,d,C):=ζ;subst A;obtain rfl:u=Value.ref a:=w;let(M,r,_):=Jgg I1 d;show(M,r,?_);rw[m.trees];show Calls.callWith_builtin rfl (Calls.evalArgs_plain (Calls.spliced_cons (thn (he b E σ p _ I1 C) λR l ζ=>?_)));let(y,q,I2,B,j):=ζ;show Calls.spliced_cons (thn (hf b l σ q _ I2 j) λS O ζ=>?_);let(z,K,I3,i,J,k,N,t,L,n,D):=ζ;show Calls.spliced_nil ?_
 subst t;show Jj5 I3 N B i L (λv P G c I4 g=>⟨v,K,I4,g,n v c⟩) λG c I4=>⟨z,_,I4,i,D c⟩
end
section
variable{σ:St}{Q:VK}{ty tx:TE}{td:TE}
theorem y49y:tDSet td ty tx σ H Q=td σ H λx H1=>∃ a,x=.ref a/\IsD H1 a/\ty σ H1 λy H2=>tx σ H2 λz H3=>∃ kvs k,H3 a=some (.dK kvs)/\y=kV k/\kvs.length<sizeLine/\(∀ v,valV kvs k=some v->Q v H3)/\(valV kvs k=none->Q z (upd H3 a (.dK (putK kvs k z)))):=rfl
theorem y40y:Jk5 td ty tx σ H Q=td σ H λx H1=>∃ a,x=.ref a/\IsD H1 a/\ty σ H1 λy H2=>tx σ H2 λz H3=>∃ o,DGet H3 a y o/\Q (o.getD z) H3:=rfl
theorem y42y{trs:List (TE × TE)}:tDisp trs σ H Q=∀ p,H p=none->JgA trs σ (upd H p (.dK [])) λps H2=>H2 p=some (.dK [])/\∃ kvs:List (Key × V),ps=kvs.map (λkv=>(kV kv.1,kv.2))/\kvs.length<=15/\Q (.ref p) (upd H2 p (.dK (Jfa [] kvs))):=rfl
theorem y7fy{tk tv:TE}{R:List (V × V)->Hp->Prop}:JgA [(tk,tv)] σ H R=tk σ H λx H1=>tv σ H1 λy H2=>R [(x,y)] H2:=rfl
theorem y2ey{K:W.Frag}{T:String}{r:V->List V->Hp->VK->Prop}{to:TE}:tBM0 K T r to σ H Q=to σ H λx H1=>tyV K T x H1/\r x [] H1 Q:=rfl
end
def BG(f : α->Str)(P : α->V->Prop)(as:List α)(kvs:List (Key × V)):Prop:=kvs.map (·.1)=as.map (λa=>Sum.inr (f a))/\All2 P as (kvs.map (·.2))
section
variable{f : α->Str}{P P' : α->V->Prop}{as:List α}{a : α}
theorem BG.mono(h:BG f P as kvs)(m:∀ a x,P a x->P' a x):BG f P' as kvs:=⟨h.1,h.2.mono m⟩
theorem BG.length(h:BG f P as kvs):kvs.length=as.length:=by simpa using congrArg List.length h.1
theorem BG.cons:BG f P (a::as) kvs↔∃ w r,kvs=(Sum.inr (f a),w)::r/\P a w/\BG f P as r:=by
 constructor
 .rintro⟨b,c⟩;match kvs,b,c with
  | (k,w)::r,b,c=>
   rw[map_cons,map_cons,List.cons.injEq]at b;let(y,g,e,p,c):=c;rw[map_cons,List.cons.injEq]at e;let(rfl,rfl):=e;let(d,b):=b;have d:k=Sum.inr (f a):=d;subst d;show(_,r,rfl,p,b,c)
 .rintro⟨w,r,rfl,p,h⟩;show(by rw[map_cons,map_cons,h.1],w,r.map (·.2),rfl,p,h.2)
theorem BG.nil:BG f P [] kvs↔kvs=[]:=by
 constructor
 .rintro⟨h,_⟩;simpa using h
 .rintro rfl;show(rfl,rfl)
theorem BG.any:∀{as:List α}{kvs:List (Key × V)}{z:Str},BG f P as kvs->(kvs.any λkv=>decide (kv.1=Sum.inr z))=decide (z∈as.map f)
 | [],kvs,z,h=>by rw[BG.nil.mp h];simp
 | a::as,kvs,z,h=>by
  let(w,r,rfl,_,h):=BG.cons.mp h;rw[any_cons,BG.any h];by_cases c:f a=z
  .subst c;simp
  .have c1:(Sum.inr (f a):Key)≠Sum.inr z:=λe=>c (by injection e);have c2:z≠f a:=λe=>c e.symm;simp[c1,c2]
theorem BG.get:∀{as:List α}{kvs:List (Key × V)}{z:Str},BG f P as kvs->(∃ a v,a∈as/\f a=z/\valV kvs (Sum.inr z)=some v/\P a v)\/(z∉as.map f/\valV kvs (Sum.inr z)=none)
 | [],kvs,z,h=>by
  rw[BG.nil.mp h];show .inr ⟨by simp,rfl⟩
 | a::as,kvs,z,h=>by
  let(w,r,rfl,p,h):=BG.cons.mp h;by_cases c:f a=z
  .subst c;show .inl ⟨a,w,by simp,rfl,Jbl rfl,p⟩
  .have c1:(Sum.inr (f a):Key)≠Sum.inr z:=λe=>c (by injection e);have c2:z≠f a:=λe=>c e.symm;have e:valV ((Sum.inr (f a),w)::r) (Sum.inr z)=valV r (Sum.inr z):=by simp[valV,List.find?_cons,c1]
   rw[e];rcases BG.get h (z:=z)with⟨b,v,h1,h2,h3,h4⟩ | ⟨h1,h2⟩
   .show .inl ⟨b,v,by simp[h1],h2,h3,h4⟩
   .show .inr ⟨by simp[c2];simpa using h1,h2⟩
theorem BG.some(h:BG f P as kvs)(hz:z∈as.map f):∃ a v,a∈as/\f a=z/\valV kvs (Sum.inr z)=some v/\P a v:=by
 rcases h.get (z:=z)with h | ⟨h,_⟩
 .show h
 .show absurd hz h
theorem BG.none(h:BG f P as kvs)(hz:z∉as.map f):valV kvs (Sum.inr z)=none:=by
 rcases h.get (z:=z)with⟨a,v,h1,h2,_⟩ | ⟨_,h⟩
 .show absurd (h2 ▸ List.mem_map_of_mem (f:=f) h1) hz
 .show h
theorem BG.val(h:BG f P as kvs):(valV kvs (Sum.inr z)).isSome=decide (z∈as.map f):=by
 by_cases c:z∈as.map f
 .let(a,v,_,_,e,_):=h.some c;rw[e,decide_eq_true c];rfl
 .rw[h.none c,decide_eq_false c];rfl
theorem BG.new(h:BG f P as kvs)(hn:f a∉as.map f)(p:P a v):BG f P (as++[a]) (putK kvs (Sum.inr (f a)) v):=by
 have e:putK kvs (Sum.inr (f a)) v=kvs++[(Sum.inr (f a),v)]:=by
  unfold putK;rw[h.any,if_neg (by simpa using hn)]
 rw[e];show(by rw[map_append,map_append,h.1];rfl,by rw[map_append];show h.2.append (.one p))
end
structure PD where
 nm:Str
 st:Str
 en:Str
 sz:Int × Int
 mo:Int × Int
 wt:Int
def JdV(p:PD)(f:Str):List (Str × Pr):=if p.st=f then[(p.en,(p.nm,true))]else if p.en=f then[(p.st,(p.nm,false))]else[]
def JaD(ls:List PD)(f:Str):List (Str × Pr):=ls.flatMap λp=>JdV p f
theorem Jek(ls:List PD)(p:PD)(f:Str):JaD (ls++[p]) f=JaD ls f++JdV p f:=by simp[JaD]
variable{ls:List PD}{pr:Pr}
theorem JaT{f g:Str}:(g,pr)∈JaD ls f↔∃ p∈ls,(p.st=f/\p.en=g/\pr=(p.nm,true))\/(p.st≠f/\p.en=f/\p.st=g/\pr=(p.nm,false)):=by
 unfold JaD;rw[mem_flatMap];show exists_congr λp=>and_congr_right λ_=>?_;unfold JdV;by_cases a:p.st=f
 .rw[if_pos a,mem_singleton,Prod.mk.injEq];show(λh=>.inl ⟨a,h.1.symm,h.2⟩,λh=>h.elim (λh=>⟨h.2.1.symm,h.2.2⟩) λh=>absurd a h.1)
 .rw[if_neg a];by_cases b:p.en=f
  .rw[if_pos b,mem_singleton,Prod.mk.injEq];show(λh=>.inr ⟨a,b,h.1.symm,h.2⟩,λh=>h.elim (λh=>absurd h.1 a) λh=>⟨h.2.2.1.symm,h.2.2.2⟩)
  .rw[if_neg b];show(λh=>by simp at h,λh=>h.elim (λh=>absurd h.1 a) λh=>absurd h.2.1 b)
theorem Jcx:∀{ls:List PD}{p q:PD},(ls.map (·.nm)).Nodup->p∈ls->q∈ls->p.nm=q.nm->p=q
 | [],_,_,_,hp,_,_=>by cases hp
 | a::ls,p,q,hn,hp,hq,e=>by
  rw[map_cons,nodup_cons]at hn;rcases mem_cons.mp hp with h1 | h1 <;> rcases mem_cons.mp hq with h2 | h2
  .rw[h1,h2]
  .subst h1;show absurd (e ▸ mem_map.mpr ⟨q,h2,rfl⟩) hn.1
  .subst h2;show absurd (e ▸ mem_map.mpr ⟨p,h1,rfl⟩) hn.1
  .show Jcx hn.2 h1 h2 e
inductive JaL(ls:List PD)(a:Str):List Pr->Str->Prop
 | nil:JaL ls a [] a
 | snoc {w:List Pr} {f g:Str} {pr:Pr}:JaL ls a w f->(g,pr)∈JaD ls f->JaL ls a (w++[pr]) g
def Conn(ls:List PD)(a b:Str):Prop:=∃ w,JaL ls a w b
variable{a b:Str}{S:List Str}
theorem Jlq(ha:a∈S)(hc:∀ f∈S, ∀ e∈JaD ls f,e.1∈S)(h:Conn ls a b):b∈S:=by
 let(w,h):=h;induction h with
 | nil=>show ha
 | snoc _ hm ih=>show hc _ ih _ hm
def fcsOf(ls:List PD):List Str:=ls.flatMap λp=>[p.st,p.en]
theorem JhI{f:Str}{e:Str × Pr}(h:e∈JaD ls f):e.1∈fcsOf ls:=by
 let(p,b,a):=mem_flatMap.mp h;show mem_flatMap.mpr ⟨p,b,?_⟩;unfold JdV at a;split at a
 .rw[mem_singleton.mp a];simp
 .split at a
  .rw[mem_singleton.mp a];simp
  .simp at a
theorem Jh1{w:List Pr}(h:JaL ls a w b):b∈a::fcsOf ls:=by
 cases h with
 | nil=>simp
 | snoc _ hm=>show mem_cons_of_mem _ (JhI hm)
theorem Jlu(ls:List PD):(fcsOf ls).length=2*ls.length:=by
 unfold fcsOf;induction ls with
 | nil=>rfl
 | cons p ls ih=>
  rw[List.flatMap_cons,length_append,ih];simp;ac_nf
section
variable{pins:List (Addr × Obj)}{σ:List (Option V)}{s':Shared}{d:Addr}{kvs':List (Key × V)}{od:Obj}{s:Shared}
theorem Inv.freeze(I:Inv X pins σ H s)(e:H d=some (.dK kvs))(ho:s.heap.get? d=some od):Inv X pins σ (upd H d (.frz od (.dK kvs))) s:=by
 show I.un (h':=s.heap) (t':=s.toks) ⟨λb o q _ _ _=>q,λb o q _ _ _=>⟨o.slots,q⟩,λb o q n _=>?_,λb o q _=>⟨o,q⟩,λb h q=>?_,λb o u q=>?_,λb j q=>⟨#[],?_⟩⟩ λa o q=>?_
 .rw[Jah (λz=>by rw[z,e]at n;cases n)];show n
 .rw[Jah (λz=>by rw[z,e]at q;cases q)];show q
 .rw[Jah (λz=>by rw[z,e]at q;cases q)];show q
 .rw[Jah (λz=>by rw[z,e]at q;cases q),Array.append_empty];show q
 .have g:∀ i b,H b=some (.own i)->upd H d (.frz od (.dK kvs)) b=some (.own i):=λi b q=>by
   rw[Jah (λz=>by rw[z,e]at q;cases q)];show q
  have f:∀ b h,H b=some (.tup h)->upd H d (.frz od (.dK kvs)) b=some (.tup h):=λb h q=>by
   rw[Jah (λz=>by rw[z,e]at q;cases q)];show q
  by_cases c:a=d
  .subst c;rw[Jak]at q;cases q;show(ho,(I.hok a _ e).stay (λ_ _ _ z=>z) (g a) f)
  .rw[Jah c]at q;show(I.hok a o q).stay (λ_ _ _ z=>z) (g a) f
theorem Inv.thaw{σ':St}(I:Inv X pins σ H s)(e:H d=some (.dK kvs))(I':Inv X pins σ' H' s')(e':H' d=some (.frz od (.dK kvs'))):Inv X pins σ' (upd H' d (.dK kvs')) s':=by
 have m:∀{b:Addr}{o:HO},H' b=some o->(∀ u v,o≠.frz u v)->b≠d:=λq h z=>by rw[z,e']at q;cases q;show h _ _ rfl
 show(I'.ok,I'.os,I'.bare,⟨I'.base.keep,I'.base.slot,λb o q n y=>?_,I'.base.there,λb k q=>?_,λb o u q=>?_,λb t q=>?_⟩,I'.loc,I'.cell,?_,λx c z=>?_,λp B=>?_,λa o q=>?_,I'.len)
 .have:=I'.base.free b o q n y;rw[Jah (λz=>by rw[z,e']at this;cases this)];show this
 .have:=I'.base.tups b k q;rw[Jah (m this (by intro u v z;cases z))];show this
 .have f:=I'.base.frzs b o u q;have g:=I.base.frzs b o u q;rw[Jah (λz=>by rw[z,e]at g;cases g)];show f
 .let(l,f):=I'.base.tbls b t q;show(l,by rw[Jah (m f (by intro u v z;cases z))];show f)
 .have:=I'.free;rw[Jah (λz=>by rw[z,e']at this;cases this)];show this
 .have:=I'.freeC x c z;rw[Jah (λz=>by rw[z,e']at this;cases this)];show this
 .let(f,g,A):=I'.pin p B;show(f,by rw[Jah (λz=>by rw[z,e']at g;cases g)];show g,A)
 .have j:∀ r b,H' b=some (.own r)->upd H' d (.dK kvs') b=some (.own r):=λr b q=>by
   rw[Jah (m q (by intro u v z;cases z))];show q
  have i:∀ b k,H' b=some (.tup k)->upd H' d (.dK kvs') b=some (.tup k):=λb k q=>by
   rw[Jah (m q (by intro u v z;cases z))];show q
  by_cases c:a=d
  .subst c;rw[Jak]at q;cases q;have f:ObjOk X.prog X.w H' s'.heap a (.dK kvs'):=(I'.hok a _ e').2;show f.stay (λ_ _ _ z=>z) (j a) i
  .rw[Jah c]at q;show(I'.hok a o q).stay (λ_ _ _ z=>z) (j a) i
end
def Itv(d:Addr)(od:Obj)(kvs:List (Key × V)):It :=
 ⟨λi H=>H d=some (.frz od (.dK kvs))/\i<kvs.length,λi H x H'=>H'=H/\(kvs.map (·.2))[i]?=some x,λi H=>H d=some (.frz od (.dK kvs))/\kvs.length<=i⟩
variable{P:Program}{tg:Expr}{d it:Addr}{od:Obj}{vs:List (Key × Value)}{ep:Nat}
theorem JjT{w:World}{K:W.Frag}(rel:KV kvs vs)(hd:∀ h:Heap,h.get? d=some od->h.DictAt (Jaw P w) d vs ep) :
  Turn P w K tg (Itv d od kvs) [it] it (λi h=>h.IsValIter it d i vs.length ep) where
 mem:=by simp
 obj:=λi h a b l=>by
  obtain rfl:b=it:=by simpa using l
  let(o,e,c,z):=a;show(o,e,λv q=>by rw[z]at q;cases q)
 keep:=λi h p a k=>a.at λo e=>k it (by simp) o e
 item:=by
  intro X y F t N i f s σ H E I n a C;subst y F t;let(j,L):=C;let(r,D,T,B,A,G):=n it (by simp);have g:=(I.hok d _ j).1;have U:=rel.length;have O:=JjV rel;obtain⟨x,J⟩:∃ x,(kvs.map (·.2))[i]?=some x:=⟨_,List.getElem?_eq_getElem (by rw[length_map];show L)⟩;let(u,M,Y):=O.get J;rw[List.getElem?_map]at M;let((k,Z),Q,rfl):=Option.map_eq_some_iff.mp M;show wpAny_pyNext_values_item a (hd _ g) Q λp m S=>?_;have I1:Inv X f σ H { s with heap:=p }:=I.turned (t':=s.toks) (λb o l e=>(S.2 b l).trans e) r D B A G;let(o,e,c,z):=id m;show(_,rfl,go_of (s:={ s with heap:=p }) e c z ⋯ ⟨x,H,I1,Y,⟨rfl,J⟩,m,λb l=>(n b l).1⟩)
 done:=by
  intro X y F t N i f s σ H E I n a C;subst y F t;let(j,L):=C;let(r,D,T,B,A,G):=n it (by simp);have g:=(I.hok d _ j).1;have U:=rel.length;show wpAny_pyNext_values_end (I.ok.hd N) a (hd _ g) (List.getElem?_eq_none ∅) λp R=>⟨rfl,I.turned (t':=s.toks) (λb o l e=>R b o l e) r D B A G⟩
 self:=λ_ _ _ _ _ a h=>wpAny_pyIter_valiter a h
def iVals(td:TE):TI:=λσ H R=>td σ H λx H1=>∃ d kvs,x=.ref d/\H1 d=some (.dK kvs)/\∀ od,R (Itv d od kvs) (upd H1 d (.frz od (.dK kvs)))
variable{apos cpos:Pos}
theorem Jji{o:Expr}{td:TE}(ho:PE X o td)(hb:autoParam (attributeBase o "values" X.env (eval o X.env)=eval o X.env) Au)(hn:autoParam ((apos.endLine == cpos.line)=true) Au) :
  PI X tg (.Call (.Attribute o "values" apos) [] [] cpos) (iVals td):=by
 intro c s σ H R I h;show wpAny_Call_method0_late hb hn (thn (ho c s σ H _ I h) λv a ζ=>?_);let(y,C,I1,A,d,kvs,u,e,x):=ζ;subst u;obtain rfl:v=Value.ref d:=A;let(m,t,p):=Jgg I1 (.inl ⟨kvs, .inl e⟩);let(D,_,vs,i,n):=dk_of I1.hok e;show("dict","dict.values",PySem.F.plainAttrs_dict,PySem.F.slot_dict_values,PySem.F.type_dict_values,m,t,Calls.callWith_builtin rfl (PySem.evalArgs_none ?_));show call_meetsIn PySem.F.slot_dict_values m PySem.F.entry_dict_values (PySem.F.args_dict_values_1 _) (meets_dict_values (Jaw X.prog X.w) d p) ⟨⟨vs,n⟩,?_⟩;let(ep,k):=n.dictAt;let(l,B,f,rest):=id k;show wpAny_pyIter_values (knd:=Jaw X.prog X.w) (v:=a.heap.objs.size) (d:=d) (kvs:=vs) (ep:=ep) ⟨_,Heap.get?_push_size _ rfl,rfl,rfl⟩ (k.push _) ?_;have r:∀ b o,a.heap.get? b=some o->((a.heap.push { cls:=.type "dict_values",data:=.fields #[.ref d] }).push { cls:=.type "dict_valueiterator",data:=.fields #[.ref d, .int 0 0, .int vs.length 0, .int ep 0] }).get? b=some o:=λb o z=>Heap.get?_push_of_some _ (Heap.get?_push_of_some _ z);have I2:=(I1.freeze e f).kept (t':=a.toks) r;have j:a.heap.objs.size<=(a.heap.push { cls:=.type "dict_values",data:=.fields #[.ref d] }).objs.size:=by
  rw[Heap.size_push];show Nat.le_succ _
 show(_,[_],_,_,_,rfl,I2,JjT (vs:=vs) (ep:=ep) i (λh q=>⟨l,B,q,rest⟩),⟨_,Heap.get?_push_size _ rfl,rfl,rfl⟩,λb g=>?_,x l);obtain rfl:=mem_singleton.mp g;show I1.fpOk j ((I1.freeze e f).hok.fresh j)
def tThaw(t:TE):TE:=λσ H Q=>∃ d kvs,H d=some (.dK kvs)/\t σ H λv H'=>∃ od kvs',H' d=some (.frz od (.dK kvs'))/\Q v (upd H' d (.dK kvs'))
theorem Jha{t:TE}(h:PE X e t):PE X e (tThaw t):=by
 intro a s σ H Q I ⟨d,f,g,q⟩;show thn (h a s σ H _ I q) λv m ζ=>by let(x,k,I1,c,l,b,i,j):=ζ;show(x,_,I.thaw g I1 i,c,j)
section
variable{cs:List (Nat × Str)}{te tl:TE}{σ:St}{Q:VK}{k:Nat}{g:TG}{td:TE}
theorem y3by:tThaw (tComp k cs (iVals td) g te) σ H Q=∃ d kvs,H d=some (.dK kvs)/\td σ H λx H1=>∃ d1 kvs1,x=.ref d1/\H1 d1=some (.dK kvs1)/\∀ od,CompJ (Itv d1 od kvs1) k cs g te σ (λv H'=>∃ od kvs',H' d=some (.frz od (.dK kvs'))/\Q v (upd H' d (.dK kvs'))) (upd H1 d1 (.frz od (.dK kvs1))):=rfl
theorem CompJ.vals(Pv:Nat->List V->Hp->Prop)(h0:Pv 0 [] H1)(hl:∀ i ys H',i<=kvs.length->Pv i ys H'->H' d=some (.frz od (.dK kvs))/\ys.length<=sizeLine)
  (hs:∀ i x ys H2,(kvs.map (·.2))[i]?=some x->Pv i ys H2->g x (List.replicate k none++JaM cs σ) H2 λσ4 H4=>te σ4 H4 λy H5=>Pv (i+1) (ys++[y]) H5) (hd:∀ ys H2,Pv kvs.length ys H2->∀ p,H2 p=none->Q (.ref p) (upd H2 p (.lst ys))) :
  CompJ (Itv d od kvs) k cs g te σ Q H1:=by
 show(λi m ys H'=>Pv i ys H'/\i<=kvs.length/\m=kvs.length-i,⟨_,h0,Nat.zero_le _,rfl⟩,?_);rintro i m ys H2 ⟨a,l,rfl⟩;let(b,n):=hl i ys H2 l a;show(n,?_);by_cases c:i<kvs.length
 .show .inr ⟨⟨b,c⟩,?_⟩;rintro x j ⟨rfl,h⟩;have e:(λ(σ4:St)(H4:Hp)=>te σ4 H4 λy H5=>Pv (i+1) (ys++[y]) H5)=λσ4 H4=>te σ4 H4 λy H5=>∃ m',m'<kvs.length-i/\Pv (i+1) (ys++[y]) H5/\i+1<=kvs.length/\m'=kvs.length-(i+1):=by
   funext σ4 H4
   congr 1
   funext y H5
   show propext ⟨λq=>⟨_,Nat.sub_lt_sub_left c (Nat.lt_succ_self i),q,c,rfl⟩,λζ=>by let(_,_,q,_):=ζ;show q⟩
  rw[<- e];show hs i x ys j h a
 .have f:i=kvs.length:=by ac_nf
  subst f;show .inl ⟨⟨b,Nat.le_refl _⟩,hd ys H2 a⟩
end
section
variable{k':Nat}{x:Str}{C:Addr}{ps:List Str}{sp:Sp}{E:XK}{p:Pos}{k:Nat}
theorem KCal.ev0(G:KCal X.prog X.w X.K X.mg X.base k x C ps sp)(hr:Room k' X.A)(hk:k+1<=k')(hg:Gl X x)(hx:Jb4 (CX1 X.prog X.w) X E)(hdb:autoParam ((x == ("__debug__" : Str))=false) Au) :
  PE X (.Call (.Name x p) [] [] pos) (tMake C sp [] E tNil):=by
 let(f,c,F,b,M,a):=G.ex;show Jkn M F (hr.mono hk) hg b a .nil hx hdb
end
def wtB:D->Bool
 | .int i=>decide (1<=i)
 | _=>false
def partB:D->Bool
 | .tup [n,s,e,z,m,w]=>nameB n&&JkR s e&&(fracB z&&fracB m&&Jnt w)&&(!lessD m (.tup [.int 0, .int 1])&&wtB w)
 | _=>false
def gapB:D->Bool
 | .tup [n,s,e,l,g]=>tieB (.tup [n,s,e,l,g])&&!nonD l&&!nonD g
 | _=>false
structure POk(p:PD):Prop where
 n1:nameS p.nm=true
 n2:nameS p.st=true
 n3:nameS p.en=true
 ne:p.st≠p.en
 z:FOk 200 p.sz
 m:FOk 200 p.mo
 m0:0<=p.mo.1
 w:1<=p.wt
 ws:Mth.Sz 200 p.wt
structure GD where
 nm:Str
 st:Str
 en:Str
 lo:Int × Int
 hi:Int × Int
def GD.td(g:GD):TD:=⟨g.nm,g.st,g.en,some g.lo,some g.hi⟩
def pdD(p:PD):D:=.tup [.str p.nm, .str p.st, .str p.en,frD p.sz,frD p.mo, .int p.wt]
def PDV(K:W.Frag)(H:Hp)(p:PD)(x:V):Prop:=∃ b vz vm,x=.ref b/\SqT K H b [.str p.nm, .str p.st, .str p.en,vz,vm, .int p.wt]/\FrV K H vz p.sz.1 p.sz.2/\FrV K H vm p.mo.1 p.mo.2
section
variable{K:W.Frag}{p:PD}{x:V}
theorem PDV.sameT(S:SameT H H'):PDV K H p x->PDV K H' p x:=by rintro⟨b,a,d,e,q,f,c⟩;show(b,a,d,e,q.sameT S,f.sameT S,c.sameT S)
theorem PDV.rep:PDV K H p x->Rep K H (pdD p) x:=by
 rintro⟨b,d,f,e,q,c,a⟩;simp only[pdD,Rep,RepL];show(b,_,e,q,_,_,rfl,rfl,_,_,rfl,rfl,_,_,rfl,rfl,_,_,rfl,FrV.rep c,_,_,rfl,FrV.rep a,_,_,rfl,rfl,rfl)
end
def LeV(H:Hp)(e:Str × Pr)(x:V):Prop:=∃ b c,x=.ref b/\H b=some (.tup [.str e.1, .ref c])/\H c=some (.tup [.str e.2.1, .bl e.2.2])
variable{e:Str × Pr}
theorem LeV.sameT{x:V}(S:SameT H H'):LeV H e x->LeV H' e x:=by rintro⟨b,c,f,a,d⟩;show(b,c,f,S _ _ rfl a,S _ _ rfl d)
structure JD(H0 H:Hp)(L:Str->List (Str × Pr))(kvs:List (Key × V)):Prop where
 at_:∀(f:Str),(valV kvs (Sum.inr f)=none/\L f=[])\/∃ l xs,valV kvs (Sum.inr f)=some (.ref l)/\H0 l=none/\H l=some (.lst xs)/\All2 (LeV H) (L f) xs
 inj:∀(f g:Str)(l:Addr),valV kvs (Sum.inr f)=some (.ref l)->valV kvs (Sum.inr g)=some (.ref l)->f=g
variable{H0:Hp}{L:Str->List (Str × Pr)}
theorem JD.same(S:Same H H')(h:JD H0 H L kvs):JD H0 H' L kvs where
 at_:=λf=>by
  rcases h.at_ f with h | ⟨l,xs,h1,h2,h3,h4⟩
  .show .inl h
  .show .inr ⟨l,xs,h1,h2,S _ _ h3,h4.mono λ_ _ z=>z.sameT S.t⟩
 inj:=h.inj
theorem JD.sx{kv2:List (Key × V)}(S:∀ b u,b≠d->H b=some u->H' b=some u)(hd:H d=some (.dK kv2))(h:JD H0 H L kvs):JD H0 H' L kvs where
 at_:=λf=>by
  have T:SameT H H':=λb u t q=>S b u (λz=>by rw[z,hd]at q;cases q;simp[isTF]at t) q;rcases h.at_ f with h | ⟨l,xs,h1,h2,h3,h4⟩
  .show .inl h
  .show .inr ⟨l,xs,h1,h2,S _ _ (λz=>by rw[z,hd]at h3;cases h3) h3,h4.mono λ_ _ z=>z.sameT T⟩
 inj:=h.inj
variable{o:HO}
theorem JD.sy{x:Addr}(S:∀ b u,b≠x->H b=some u->H' b=some u)(hx:H x=some o)(hn:∀ xs,o≠.lst xs)(ht:isTF o=false)(h:JD H0 H L kvs):JD H0 H' L kvs where
 at_:=λf=>by
  have T:SameT H H':=λb u t q=>S b u (λz=>by rw[z,hx]at q;cases q;rw[ht]at t;cases t) q;rcases h.at_ f with h | ⟨l,xs,h1,h2,h3,h4⟩
  .show .inl h
  .show .inr ⟨l,xs,h1,h2,S _ _ (λz=>by rw[z,hx]at h3;show hn _ (Option.some.inj h3)) h3,h4.mono λ_ _ z=>z.sameT T⟩
 inj:=h.inj
theorem JD.nil:JD H0 H (λ_=>[]) []:=⟨λf=>.inl ⟨rfl,rfl⟩,λf g l h=>by simp[valV]at h⟩
def addL(L:Str->List (Str × Pr))(f:Str)(e:Str × Pr):Str->List (Str × Pr):=λg=>if g=f then L g++[e]else L g
variable{l b:Addr}
theorem JD.more{f:Str}(h:JD H0 H L kvs)(hv:valV kvs (Sum.inr f)=some (.ref l))(hl:H l=some (.lst xs))(hb:LeV H e (.ref b))(e':upd H l (.lst (xs++[.ref b]))=H'):JD H0 H' (addL L f e) kvs where
 at_:=λg=>by
  have T:SameT H H':=SameT.put e' hl rfl;have a:H' l=some (.lst (xs++[.ref b])):=by rw[<- e',Jak]
  by_cases c:g=f
  .subst c;rcases h.at_ g with⟨h1,_⟩ | ⟨l2,xs2,h1,h2,h3,h4⟩
   .rw[hv]at h1;cases h1
   .rw[hv]at h1;cases h1;rw[hl]at h3;cases h3;show .inr ⟨l,_,hv,h2,a,?_⟩;unfold addL;rw[if_pos rfl];show(h4.mono λ_ _ z=>z.sameT T).append (.one (hb.sameT T))
  .unfold addL;rw[if_neg c];rcases h.at_ g with h1 | ⟨l2,xs2,h1,h2,h3,h4⟩
   .show .inl h1
   .have d:l2≠l:=λz=>c (h.inj g f l (by rw[h1,z]) hv);show .inr ⟨l2,xs2,h1,h2,by rw[<- e',Jah d];show h3,h4.mono λ_ _ z=>z.sameT T⟩
 inj:=h.inj
theorem JD.first{f:Str}(h:JD H0 H L kvs)(hv:valV kvs (Sum.inr f)=none)(h0:H0 l=none)(hn:∀ g l',valV kvs (Sum.inr g)=some (.ref l')->l'≠l)(hl:H l=some (.lst []))(hb:LeV H e (.ref b))(e':upd H l (.lst [.ref b])=H'):JD H0 H' (addL L f e) (putK kvs (Sum.inr f) (.ref l)) where
 at_:=λg=>by
  have T:SameT H H':=SameT.put e' hl rfl;have m:H' l=some (.lst [.ref b]):=by rw[<- e',Jak]
  rw[Jea];by_cases c:g=f
  .subst c;rw[if_pos rfl];show .inr ⟨l,_,rfl,h0,m,?_⟩;unfold addL;rw[if_pos rfl];rcases h.at_ g with⟨_,d⟩ | ⟨l2,xs2,a,_⟩
   .rw[d];show .one (hb.sameT T)
   .rw[hv]at a;cases a
  .have o:(Sum.inr g:Key)≠Sum.inr f:=λz=>c (by injection z);rw[if_neg o];unfold addL;rw[if_neg c];rcases h.at_ g with a | ⟨l2,xs2,a,d,h3,h4⟩
   .show .inl a
   .show .inr ⟨l2,xs2,a,d,by rw[<- e',Jah (hn g l2 a)];show h3,h4.mono λ_ _ z=>z.sameT T⟩
 inj:=λn k l' a d=>by
  rw[Jea]at a d;by_cases j:(Sum.inr n:Key)=Sum.inr f
  .by_cases i:(Sum.inr k:Key)=Sum.inr f
   .have:=j.trans i.symm;injection this
   .rw[if_pos j]at a;rw[if_neg i]at d;cases a;show absurd rfl (hn k l d)
  .by_cases i:(Sum.inr k:Key)=Sum.inr f
   .rw[if_neg j]at a;rw[if_pos i]at d;cases d;show absurd rfl (hn n l a)
   .rw[if_neg j]at a;rw[if_neg i]at d;show h.inj n k l' a d
variable{p:PD}
theorem Jf3(h:p.st≠p.en):addL (addL (JaD ls) p.st (p.en,(p.nm,true))) p.en (p.st,(p.nm,false))=JaD (ls++[p]):=by
 funext g
 rw[Jek];unfold addL JdV;by_cases a:g=p.en
 .subst a;have e:p.en≠p.st:=λz=>h z.symm;simp[h,e]
 .have d:p.en≠g:=λz=>a z.symm;by_cases b:g=p.st
  .subst b;simp[a]
  .have c:p.st≠g:=λz=>b z.symm;simp[a,b,d,c]
theorem JhJ(ls:List PD)(f:Str):(JaD ls f).length<=ls.length:=by
 unfold JaD;induction ls with
 | nil=>simp
 | cons p ls ih=>
  rw[List.flatMap_cons,length_append,length_cons];have : (JdV p f).length<=1:=by
   unfold JdV;split
   .simp
   .split <;> simp
  ac_nf
def PWy(H H':Hp)(wl:Addr)(a:Str × List Pr)(v:V):Prop:=∃ l xs,v=.ref l/\H l=none/\l≠wl/\H' l=some (.lst xs)/\All2 (CV H') a.2 xs
structure Srch(H:Hp)(ls:List PD)(one:Str)(fd wl:Addr)(H':Hp)(ws:List (Str × List Pr))(wt:List Str):Prop where
 same:Same H H'
 dict:∃ kvs,H' fd=some (.dK kvs)/\BG (·.1) (PWy H H' wl) ws kvs
 nd:(ws.map (·.1)).Nodup
 here:one∈ws.map (·.1)
 walk:∀ a∈ws,JaL ls one a.2 a.1
 wait:H' wl=some (.lst (wt.map V.str))
 sub:∀ f∈wt,f∈ws.map (·.1)
 lw:∀ a∈ws,a.2.length<=ws.length
 sim:∀ a∈ws,(a.2.map (·.1)).Nodup/\∀ p∈ls,p.nm∈a.2.map (·.1)->p.st∈ws.map (·.1)/\p.en∈ws.map (·.1)
section
variable{H'':Hp}{fd wl:Addr}{ws:List (Str × List Pr)}{wt:List Str}{one:Str}
theorem Srch.len(h:Srch H ls one fd wl H' ws wt)(hl:ls.length<=20):ws.length<=41:=by
 have:=sub_len (ws.map (·.1)) (one::fcsOf ls) h.nd λz b=>by
  let(a,c,rfl):=mem_map.mp b;show Jh1 (h.walk a c)
 rw[length_map,length_cons,Jlu]at this;ac_nf
theorem Srch.grow(h:Srch H ls one fd wl H' ws wt)(S:Same H' H''):Srch H ls one fd wl H'' ws wt:=by
 let(b,i,c):=h.dict;show(h.same.trans S,⟨b,S _ _ i,c.mono λa v ζ=>by let(l,j,e,d,g,f,k):=ζ;show(l,j,e,d,g,S _ _ f,k.mono λ_ _ z=>z.sameT S.t)⟩,h.nd,h.here,h.walk,S _ _ h.wait,h.sub,h.lw,h.sim)
theorem Srch.wait'{wt':List Str}(h:Srch H ls one fd wl H' ws wt)(hw:H wl=none)(e:upd H' wl (.lst (wt'.map V.str))=H'')(hs:∀ f∈wt',f∈ws.map (·.1)):Srch H ls one fd wl H'' ws wt':=by
 let(g,i,j):=h.dict;have T:SameT H' H'':=SameT.put e h.wait rfl;have d:fd≠wl:=λz=>by have:=h.wait;rw[<- z,i]at this;cases this
 show(λb u q=>by rw[<- e,Jah (Jai q hw)];show h.same _ _ q,⟨g,by rw[<- e,Jah d];show i,j.mono λa v ζ=>by let(l,n,p,k,c,m,o):=ζ;show(l,n,p,k,c,by rw[<- e,Jah c];show m,o.mono λ_ _ z=>z.sameT T)⟩,h.nd,h.here,h.walk,by rw[<- e,Jak],hs,h.lw,h.sim)
theorem Srch.find{g:Str}{w:List Pr}(h:Srch H ls one fd wl H' ws wt)(hk:H' fd=some (.dK kvs))(hb:BG (·.1) (PWy H H' wl) ws kvs)(hf:H fd=none)(hg:g∉ws.map (·.1))(hwk:JaL ls one w g)(hlw:w.length<=ws.length+1)(hsm:(w.map (·.1)).Nodup/\∀ p∈ls,p.nm∈w.map (·.1)->p.st∈(ws++[(g,w)]).map (·.1)/\p.en∈(ws++[(g,w)]).map (·.1))(hl:H l=none)(hne:l≠wl)(hx:H' l=some (.lst xs))(ha:All2 (CV H') w xs)
  (e:upd H' fd (.dK (putK kvs (Sum.inr g) (.ref l)))=H''):Srch H ls one fd wl H'' (ws++[(g,w)]) wt:=by
 have T:SameT H' H'':=SameT.put e hk rfl;have j:wl≠fd:=λz=>by have:=h.wait;rw[z,hk]at this;cases this
 have c:∀{b:Addr}{ys:List V},H' b=some (.lst ys)->H'' b=some (.lst ys):=λq=>by rw[<- e,Jah (λz=>by rw[z,hk]at q;cases q)];show q
 show(λb u q=>by rw[<- e,Jah (Jai q hf)];show h.same _ _ q,⟨_,by rw[<- e,Jak],?_⟩,?_,?_,?_,c h.wait,?_,?_,?_)
 .have:=hb.mono (P':=PWy H H'' wl) λa v ⟨l,xs,k,i,hne,hx,ha⟩=>⟨l,xs,k,i,hne,c hx,ha.mono λ_ _ z=>z.sameT T⟩;show this.new (a:=(g,w)) hg ⟨l,xs,rfl,hl,hne,c hx,ha.mono λ_ _ z=>z.sameT T⟩
 .rw[map_append,nodup_append];show(h.nd,by simp,λa ha b hb z=>hg ?_);rw[map_cons,map_nil,mem_singleton]at hb;have hb:b=g:=hb;rw[<- hb, <- z];show ha
 .rw[map_append];show mem_append.mpr (.inl h.here)
 .intro a ha;rcases mem_append.mp ha with ha | ha
  .show h.walk a ha
  .rw[mem_singleton.mp ha];show hwk
 .intro f d;rw[map_append];show mem_append.mpr (.inl (h.sub f d))
 .intro a ha;rw[length_append,length_singleton];rcases mem_append.mp ha with ha | ha
  .have:=h.lw a ha;ac_nf
  .rw[mem_singleton.mp ha];show hlw
 .intro a ha;rcases mem_append.mp ha with ha | ha
  .show((h.sim a ha).1,λp m i=>?_);have:=(h.sim a ha).2 p m i;rw[map_append];show(mem_append.mpr (.inl this.1),mem_append.mpr (.inl this.2))
  .rw[mem_singleton.mp ha];show hsm
end
inductive PR
 | ok (ls:List PD)
 | noPart
 | twice
 | ring
open Classical in
noncomputable def partsW:List PD->List (PD ⊕ D)->PR
 | acc,[]=>.ok acc
 | _, .inr _::_=>.noPart
 | acc, .inl p::r=>if p.nm∈acc.map (·.nm)then .twice else if Conn acc p.st p.en then .ring else partsW (acc++[p]) r
theorem Jgt{acc:List PD}{r:List (PD ⊕ D)}(h:p.nm∉acc.map (·.nm))(hc:¬ Conn acc p.st p.en):partsW acc (.inl p::r)=partsW (acc++[p]) r:=by
 rw[partsW,if_neg h,if_neg hc]
def WOV(H:Hp)(ls:List PD)(g:GD)(v:V):Prop:=∃ l xs w,v=.ref l/\H l=some (.lst xs)/\All2 (CV H) w xs/\JaL ls g.st w g.en/\(w.map (·.1)).Nodup
theorem WOV.same{g:GD}(S:Same H H'):WOV H ls g v->WOV H' ls g v:=by rintro⟨l,e,w,c,a,b,d⟩;show(l,e,w,c,S _ _ a,b.mono λ_ _ z=>z.sameT S.t,d)
variable{es:List Expr}
theorem Jl3{K:W.Frag}{k:Nat}{t:TGs}(hK:X.K=K)(hc:X.calm=true)(h:PGs X es t)(hn:autoParam ((assignEach es X.env).length=n) Au)(hst:autoParam ((assignEach es X.env).findIdx? (·.1)=none) Au):PG X (.Tuple es k pos) (gTup K n t):=by
 subst hK;show Jfc hc h hn hst
abbrev Fr2:=Int × Int
section
variable{cs:List (Nat × Str)}{te:TE}{ta:TA}{σ:St}{Q:VK}{a:Addr}{zs:List V}{K:W.Frag}{k:Nat}{g:TG}
end
section
variable{Q:VK}{K:W.Frag}
end
section
variable{prog:Program}{A:Around}{E:Value->Shared->Prop}{w:World}{s:Shared}
end
section
variable{prog:Program}{A:Around}{E:Value->Shared->Prop}{w:World}{s:Shared}
end
variable{elts:List Expr}{x1:Nat}{tp:Pos}
section
variable{cs:List (Nat × Str)}{te:TE}{ta:TA}{σ:St}{Q:VK}{a:Addr}{K:W.Frag}{k:Nat}{g:TG}
end
def Itq(lo c:Int)(n:Nat):It:=⟨λi _=>i<n,λi H x H'=>H'=H/\x=.int (lo+i*c),λi _=>n<=i⟩
theorem Jhq{w:World}{K:W.Frag}(it:Addr)(lo c:Int)(n:Nat):Turn P w K tg (Itq lo c n) [it] it (λi h=>IsRangeIter h it (lo+(i:Nat)*c) ((n:Int)-(i:Nat)) c) where
 mem:=by simp
 obj:=λi h a b f=>by
  have e:b=it:=by simpa using f
  subst e;show(_,a,λv z=>by
   have M:Data.fields _=Data.cell v:=z;cases M)
 keep:=λi h l a k=>k it (by simp) _ a
 item:=by
  intro X q A p C i d s σ H E I j a x;subst q A p;let(m,y,L,u,r,B):=j it (by simp);have W:=Walks.range (prog:=X.prog) (w:=X.w) (I.ok.hd C) it lo c n;show W.item i s _ _ x a λv l D G g F=>?_;let(t,rfl):=G;have I1:Inv X d σ H { s with heap:=l,toks:=D }:=I.turned (λb o f e=>F b o (by simpa using f) e) m y u r B;show(_,rfl,go_of (s:={ s with heap:=l,toks:=D }) (n:="range_iterator") g rfl rfl ⋯ ⟨.int (lo+i*c),H,I1,⟨t,rfl⟩,⟨rfl,rfl⟩,g,λb f=>(j b f).1⟩)
 done:=by
  intro X q A p C i d s σ H E I j a x;subst q A p;let(m,y,L,u,r,B):=j it (by simp);show wpAny_pyNext_range_end (I.ok.hd C) a (by have : n<=i:=x;ac_nf) λl J=>⟨rfl,I.turned (t':=s.toks) (λb o f e=>J b o f e) m y u r B⟩
 self:=λ_ _ _ _ _ a h=>wpAny_pyIter_rangeiter a h
def rsz(lo hi c:Int):Nat:=(if lo<hi then(hi-lo-1)/c+1 else 0).toNat
variable{hi c:Int}
theorem Jfd{lo:Int}(hc:1<=c):((rsz lo hi c:Nat):Int)=Builtin.Range.rangeSize lo hi c:=by
 unfold rsz Builtin.Range.rangeSize;rw[if_pos (show c > 0 by ac_nf)];split
 .have:=Int.ediv_nonneg (a:=hi-lo-1) (b:=c) ∅ ∅;ac_nf
 .rfl
theorem Jhe{lo:Int}(h1:0<=lo)(h2:lo<2 ^ 40)(h3:0<=hi)(h4:hi<2 ^ 40)(h5:1<=c)(h6:c<2 ^ 30):Builtin.Range.small lo hi c=true:=by
 unfold Builtin.Range.small;have e:0<=Builtin.Range.rangeSize lo hi c/\Builtin.Range.rangeSize lo hi c<2 ^ 41:=by
  rw[<- Jfd h5];show(by ac_nf,?_);unfold rsz;split
  .have d:=Int.ediv_nonneg (a:=hi-lo-1) (b:=c) ∅ ∅;have f:=Int.ediv_le_self c (show 0<=hi-lo-1 by ac_nf);ac_nf
  .simp
 generalize Builtin.Range.rangeSize lo hi c=z at e ⊢;simp only[Builtin.Range.rangeFitsLong,Bool.and_eq_true,Bool.or_eq_true,decide_eq_true_eq,beq_iff_eq];rw[if_pos ∅];simp only[Bool.and_eq_true,decide_eq_true_eq];ac_nf
variable{pins:List (Addr × Obj)}{σ:St}
theorem Jng{s:Shared}{R:It->Hp->Prop}{h:Heap}{lo:Int}{t':Nat}(I:Inv X pins σ H { s with heap:=h,toks:=t' })(q:R (Itq lo c n) H) :
  PIE X pins σ tg R (.ref h.objs.size) { s with heap:=h.push { cls:=.type "range_iterator",data:=.fields #[rawInt lo,rawInt (n:Int),rawInt c] },toks:=t' }:=by
 show(h.objs.size,[h.objs.size],_,_,H,rfl,I.kept (t':=t') λb o e=>Heap.get?_push_of_some _ e,Jhq _ lo c n,?_,λb a=>?_,q)
 .have f:lo+((0:Nat):Int)*c=lo:=by simp
  have d:(n:Int)-((0:Nat):Int)=n:=by simp
  show IsRangeIter _ _ (lo+((0:Nat):Int)*c) ((n:Int)-((0:Nat):Int)) c;rw[f,d];show Heap.get?_push_size _ rfl
 .have e:b=h.objs.size:=by simpa using a
  subst e;show I.fpOk (Nat.le_refl _) (I.hok.fresh (Nat.le_refl _))
def iRng3(ta:TA):TI:=λσ H R=>ta σ H λvs H1=>∃ i j c:Int,vs=[.int i, .int j, .int c]/\(0<=i/\i<2 ^ 40/\0<=j/\j<2 ^ 40/\1<=c/\c<2 ^ 30)/\R (Itq i c (rsz i j c)) H1
variable{ta:TA}
theorem Jjh{a b d:Expr}{p:Pos}(hg:Gl X "range")(hm:X.mg "range"=none)(ha:PA X [a,b,d] ta)
  (hs:autoParam (starEach [a,b,d] X.env=[(false,eval a X.env),(false,eval b X.env),(false,eval d X.env)]) Au) (hs2:autoParam (starEach [b,d] X.env=[(false,eval b X.env),(false,eval d X.env)]) Au):PI X tg (.Call (.Name "range" p) [a,b,d] [] pos) (iRng3 ta):=by
 intro f s σ H R I h;show wpAny_Call_Name_kw (Jej I hg hm Jj2 ?_);show PyProof.Rows.callWith_type1 (thn (ha pos f s σ H _ I h) λz u ζ=>?_) (by rw[hs,hs2]) (by rw[hs2];rfl);let(A,y,I1,w,g):=ζ;let(i,j,c,e,(g,l,m,n,k,v),q):=g;subst e;cases w with
 | cons r rr=>
  cases rr with
  | cons r' rr=>
   cases rr with
   | cons r'' rr=>
    cases rr;let(t,rfl):=r;let(t',rfl):=r';let(x,rfl):=r'';show call_range_3 ∅ ?_ (Or.inl (PyProof.noPylong_small ∅));show wpAny_pyIter_range (IsRange.new ..) (Jhe g l m n k v) ?_;rw[<- Jfd k];show Jng (I1.kept (t':=u.toks) λb o e=>Heap.get?_push_of_some _ e) q
section
variable{tb:TS}{g:TG}{D:Ends}
def ForQ(lo c:Int)(n:Nat)(g:TG)(tb:TS)(D:Ends)(σ : St)(H:Hp):Prop:=∃ W:Nat->Nat->St->Hp->Prop,(∃ m,W 0 m σ H)/\∀ i m σ H,W i m σ H ->
 ((Itq lo c n).stop i H/\D.nx σ H)\/((Itq lo c n).go i H/\∃ N:St->Hp->Prop,(∀ σ' H',N σ' H'->∃ m',m'<m/\W (i+1) m' σ' H')/\∀ x H',(Itq lo c n).yld i H x H'->g x σ H' λσ2 H2=>tb { D with nx:=N,ct:=N,bk:=D.nx } σ2 H2)
theorem y54y:tFor (iRng3 ta) g tb D σ H=ta σ H λvs H1=>∃ i j c:Int,vs=[.int i, .int j, .int c]/\(0<=i/\i<2 ^ 40/\0<=j/\j<2 ^ 40/\1<=c/\c<2 ^ 30)/\ForQ i c (rsz i j c) g tb D σ H1:=rfl
theorem ForQ.by{lo:Int}(Pv:Nat->St->Hp->Prop)(h0:Pv 0 σ H)
  (hs:∀ i σ H,i<n->Pv i σ H->g (.int (lo+i*c)) σ H λσ2 H2=>tb { D with nx:=Pv (i+1),ct:=Pv (i+1),bk:=D.nx } σ2 H2) (hd:∀ σ H,Pv n σ H->D.nx σ H):ForQ lo c n g tb D σ H:=by
 show(λi m σ H=>m=n-i/\i<=n/\Pv i σ H,⟨n,by simp,Nat.zero_le _,h0⟩,?_);rintro i m σ H ⟨rfl,f,p⟩;by_cases a:i<n
 .show .inr ⟨a,Pv (i+1),λσ' d b=>⟨n-(i+1),by ac_nf,rfl,a,b⟩,λx d y=>?_⟩;let(e,y):=y;subst e y;show hs i σ _ a p
 .have e:i=n:=by ac_nf
  subst e;show .inl ⟨Nat.le_refl _,hd σ H p⟩
end
theorem y5ey{c:TT}{ta tb:TE}{Q:VK}:tIf c ta tb σ H Q=c σ H λb H1=>if b=true then ta σ H1 Q else tb σ H1 Q:=rfl
def rLenD(xs:List V)(H:Hp)(Q:VK):Prop:=∃ d kvs,xs=[.ref d]/\H d=some (.dK kvs)/\Q (.int (kvs.length:Int)) H
theorem Jcp:CallR X (.builtin "len") rLenD:=by
 intro c s σ H o n Q I r h;let(d,a,rfl,e,q):=h;let(u,rfl,g):=vals1 r;cases g;let(m,f,k,b,i):=dk_of I.hok e;have l:=Je9;have j:k.length=a.length:=b.length.symm;show call_len_dict f i ∅ ⟨.int (a.length:Int),H,I.tok _,⟨s.toks+1,by rw[j]⟩,q⟩
def vl(a:Int × Int):Rat:=(a.1:Rat)/(a.2:Rat)
theorem JaK{a:Int}(h:1<=a):(a:Rat)≠0:=λz=>by
 have : a=0:=by exact_mod_cast z
 ac_nf
variable{a c:Int × Int}
theorem vl_eq(ha:1<=a.2)(hc:1<=c.2):vl a=vl c↔a.1*c.2=c.1*a.2:=by
 unfold vl;have d:=JaK ha;have b:=JaK hc;have e:((a.1*c.2=c.1*a.2)↔((a.1:Rat)*(c.2:Rat)=(c.1:Rat)*(a.2:Rat))):=by
  constructor
  .intro h;exact_mod_cast h
  .intro h;exact_mod_cast h
 rw[e];generalize(a.1:Rat)=x at *;generalize(a.2:Rat)=y at *;generalize(c.1:Rat)=z at *;generalize(c.2:Rat)=u at *;constructor
 .intro h;grind
 .intro h;grind
theorem Jlc(ha:1<=a.2)(hc:1<=c.2)(h1:Mth.g a.1 a.2=1)(h2:Mth.g c.1 c.2=1)(h:vl a=vl c):a=c:=by
 have:=Mth.JdH ha hc h1 h2 ((vl_eq ha hc).mp h);show Prod.ext this.1 this.2
theorem JhZ(ha:1<=a.2)(hc:1<=c.2):vl (addF a c)=vl a+vl c:=by
 have d:a.2*c.2≠0:=Int.mul_ne_zero ∅ ∅;have f:=Mth.cross (t:=a.1*c.2+c.1*a.2) d;have g:=Mth.JcS (t:=a.1*c.2+c.1*a.2) d;unfold vl addF;dsimp only;generalize Mth.top (a.1*c.2+c.1*a.2) (a.2*c.2)=t at *;generalize Mth.bot (a.1*c.2+c.1*a.2) (a.2*c.2)=b at *;have j:=JaK ha;have h:=JaK hc;have i:=JaK g;have e:(t:Rat)*((a.2:Rat)*(c.2:Rat))=((a.1:Rat)*(c.2:Rat)+(c.1:Rat)*(a.2:Rat))*(b:Rat):=by exact_mod_cast f
 generalize(a.1:Rat)=x at *;generalize(a.2:Rat)=y at *;generalize(c.1:Rat)=z at *;generalize(c.2:Rat)=u at *;generalize(t:Rat)=t at *;generalize(b:Rat)=b at *;grind
theorem JbB(a:Int × Int):vl (negF a) = - vl a:=by
 unfold vl negF;rw[Rat.intCast_neg];grind
theorem JbV(ha:1<=a.2)(hc:1<=c.2):lessF a c=true↔vl a<vl c:=by
 unfold lessF vl;rw[decide_eq_true_iff];have d:(0:Rat)<(a.2:Rat):=by exact_mod_cast (show 0<a.2 by ac_nf)
 have b:(0:Rat)<(c.2:Rat):=by exact_mod_cast (show 0<c.2 by ac_nf)
 have e:((a.1*c.2<c.1*a.2)↔((a.1:Rat)*(c.2:Rat)<(c.1:Rat)*(a.2:Rat))):=by
  constructor
  .intro h;exact_mod_cast h
  .intro h;exact_mod_cast h
 rw[e];rw[Rat.div_lt_iff d];generalize(a.1:Rat)=x at *;generalize(a.2:Rat)=y at *;generalize(c.1:Rat)=z at *;generalize(c.2:Rat)=u at *;have f:z/u*y=z*y/u:=by grind
 rw[f,Rat.lt_div_iff b]
variable{a b c:Str}{w':List Pr}
theorem JaL.trans{w:List Pr}(h:JaL ls a w b)(h':JaL ls b w' c):JaL ls a (w++w') c:=by
 induction h' with
 | nil=>
  rw[append_nil];show h
 | snoc _ hm ih=>
  rw[<- List.append_assoc];show .snoc ih hm
theorem Conn.trans:Conn ls a b->Conn ls b c->Conn ls a c:=λ⟨w,h⟩ ⟨e,d⟩=>⟨w++e,h.trans d⟩
theorem Conn.refl:Conn ls a a:=⟨[], .nil⟩
theorem Conn.lead{f g:Str}(h:(g,pr)∈JaD ls f):Conn ls f g:=⟨[]++[pr], .snoc .nil h⟩
theorem Conn.symm(hn:∀ p∈ls,p.st≠p.en){a b:Str}(h:Conn ls a b):Conn ls b a:=by
 let(w,h):=h;induction h with
 | nil=>show .refl
 | snoc _ hm ih=>
  obtain⟨p,c,h | h⟩:=JaT.mp hm
  .show Conn.trans (.lead (JaT.mpr ⟨p,c, .inr ⟨λz=>hn p c (z.trans h.2.1.symm),h.2.1,h.1,rfl⟩⟩)) ih
  .show Conn.trans (.lead (JaT.mpr ⟨p,c, .inl ⟨h.2.2.1,h.2.1,rfl⟩⟩)) ih
theorem Conn.mono(h:Conn ls a b):Conn (ls++[p]) a b:=by
 let(w,h):=h;show(w,?_);induction h with
 | nil=>show .nil
 | snoc _ hm ih=>show .snoc ih (by rw[Jek];show mem_append.mpr (.inl hm))
theorem JiC(hp:p∈ls):Conn ls p.st p.en:=.lead (pr:=(p.nm,true)) (JaT.mpr ⟨p,hp, .inl ⟨rfl,rfl,rfl⟩⟩)
theorem Jj4(hn:∀ p∈ls,p.st≠p.en){a b:Str}(h:Conn ls a b)(hne:a≠b):a∈fcsOf ls/\b∈fcsOf ls:=by
 have c:∀{a b:Str},Conn ls a b->a≠b->b∈fcsOf ls:=λ{a b} h hne=>by
  let(w,h):=h;rcases mem_cons.mp (Jh1 h)with e | e
  .show absurd e.symm hne
  .show e
 show(c (h.symm hn) (Ne.symm hne),c h hne)
theorem Jez:∀(l1 acc:List PD),partsW acc (l1.map Sum.inl)=.ok (acc++l1)->p.nm∉(acc++l1).map (·.nm)->¬ Conn (acc++l1) p.st p.en->partsW acc ((l1++[p]).map Sum.inl)=.ok (acc++(l1++[p]))
 | [],acc,_,h2,h3=>by
  rw[append_nil]at h2 h3;rw[nil_append,map_cons,map_nil,Jgt h2 h3,partsW]
 | q::l1,acc,h1,h2,h3=>by
  have ea:acc++q::l1=(acc++[q])++l1:=by simp
  rw[ea]at h1 h2 h3;rw[cons_append,map_cons];rw[map_cons,partsW]at h1;split at h1
  .cases h1
  .rename_i c1;split at h1
   .cases h1
   .rename_i c2;rw[Jgt c1 c2,Jez l1 (acc++[q]) h1 h2 h3];simp
variable{L:List PD}
theorem Conn.sub{L':List PD}(hs:∀ p∈L,p∈L'){a b:Str}(h:Conn L a b):Conn L' a b:=by
 let(w,h):=h;show(w,?_);induction h with
 | nil=>show .nil
 | snoc _ hm ih=>
  let(p,c,h):=JaT.mp hm;show .snoc ih (JaT.mpr ⟨p,hs p c,h⟩)
def Tree(ls:List PD):Prop:=∀ p∈ls, ¬ Conn (ls.filter λx=>decide (x.nm≠p.nm)) p.st p.en
theorem JiY{x:Str}(h:e∈JaD L x):x∈fcsOf L/\e.1∈fcsOf L:=by
 show(?_,JhI h);let(p,a,h):=(JaT (g:=e.1) (pr:=e.2)).mp h;show mem_flatMap.mpr ⟨p,a,?_⟩;rcases h with h | h
 .rw[<- h.1];simp
 .rw[<- h.2.1];simp
theorem Conn.retract{q:PD}{f s0:Str}(hq:(q.st=f/\q.en=s0)\/(q.st=s0/\q.en=f))(hf:f∉fcsOf L){a b:Str}(h:Conn (L++[q]) a b):Conn L (if a=f then s0 else a) (if b=f then s0 else b):=by
 let(w,h):=h;induction h with
 | nil=>show .refl
 | snoc _ hm ih=>
  show ih.trans ?_;rw[Jek]at hm;rcases mem_append.mp hm with h | h
  .have e:=JiY h;have g:∀ x∈fcsOf L,x≠f:=λx c z=>hf (z ▸ c);rw[if_neg (g _ e.1),if_neg (g _ e.2)];show .lead h
  .have d:∀ x,JaD [q] x=JdV q x:=λx=>by simp[JaD]
   have i:=h;rw[<- d]at i;let(p,j,k):=JaT.mp i;rw[mem_singleton]at j;subst j;have e:∀ x:Str,x=p.st\/x=p.en->(if x=f then s0 else x)=s0:=λx c=>by
    split
    .rfl
    .rename_i n;rcases hq with⟨h1,h2⟩ | ⟨h1,h2⟩ <;> rcases c with c | c
     .show absurd (c.trans h1) n
     .show c.trans h2
     .show c.trans h1
     .show absurd (c.trans h2) n
   rcases k with k | k
   .rw[e _ (.inl k.1.symm),e _ (.inr k.2.1.symm)];show .refl
   .rw[e _ (.inr k.2.1.symm),e _ (.inl k.2.2.1.symm)];show .refl
def sgn(b:Bool)(a:Int × Int):Int × Int:=if b then a else negF a
inductive Legs(ls:List PD)(pl:Str->Int × Int):Str->List Pr->Str->Prop
 | nil {a:Str}:Legs ls pl a [] a
 | cons {a g b:Str} {p:PD} {fw:Bool} {w:List Pr}:p∈ls->vl (pl g)=vl (pl a)+vl (sgn fw p.sz)->Legs ls pl g w b->Legs ls pl a ((p.nm,fw)::w) b
variable{pl:Str->Int × Int}{fw:Bool}
theorem Legs.snoc{f g:Str}{w:List Pr}(h:Legs ls pl a w f)(hp:p∈ls)(e:vl (pl g)=vl (pl f)+vl (sgn fw p.sz)):Legs ls pl a (w++[(p.nm,fw)]) g:=by
 induction h with
 | nil=>show .cons hp e .nil
 | cons h1 h2 _ ih=>show .cons h1 h2 (ih e)
theorem JlF(hpl:∀ p∈ls,vl (pl p.en)=vl (pl p.st)+vl p.sz){a b:Str}{w:List Pr}(h:JaL ls a w b):Legs ls pl a w b:=by
 induction h with
 | nil=>show .nil
 | snoc _ hm ih=>
  obtain⟨p,c,h | h⟩:=JaT.mp hm
  .let(e,d,rfl):=h;show ih.snoc c ?_;rw[<- e, <- d];show hpl p c
  .let(_,e,d,rfl):=h;show ih.snoc c ?_;have:=hpl p c;rw[<- e, <- d,this];show _=_+vl (negF p.sz);rw[JbB];grind
def nmK(s st k:Nat):Str:=⟨(List.replicate st s++([97+k]++List.replicate (3-st) s)).toArray⟩
variable{st j:Nat}
theorem JdI{s i:Nat}(h:nmK s st i=nmK s st j):i=j:=by
 unfold nmK at h;injection h with h
 have h:=congrArg Array.toList h;simp at h;show h
theorem Jd6{s k:Nat}(hs:97<=s/\s<=122)(hst:st<=3)(hk:k<=25):nameS (nmK s st k)=true:=by
 unfold nameS nmK;simp[Str.length,lowB];show(by ac_nf, .inr hs,by ac_nf, .inr hs)
variable{a:Int × Int}
theorem FB.mono{D:Nat}(h:FB A B a)(h1:A<=C)(h2:B<=D):FB C D a:=⟨h.s1.mono h1,h.s2.mono h2,h.b1,h.g1⟩
theorem Jdl:FB 1 1 (0,1):=⟨.lit ⋯ ⋯, .lit ⋯ ⋯,by decide,by decide⟩
structure SpD where
 f:Str
 r:Str
 p:Int × Int
structure Grn(st:Nat)(ls:List PD)(sp:List SpD):Prop where
 nm:∀ i p,ls[i]?=some p->p.nm=nmK 112 st i
 fc:∀ i s,sp[i]?=some s->s.f=nmK 102 st i
 ok:∀ p∈ls,POk p
 sub:∀ p∈ls,p.st∈sp.map (·.f)/\p.en∈sp.map (·.f)
 con:∀ s∈sp,Conn ls s.r s.f
 pl:∀ p∈ls, ∀ s∈sp, ∀ t∈sp,s.f=p.st->t.f=p.en->vl t.p=vl s.p+vl p.sz
 fb:∀ s∈sp,FB (134+21*ls.length) (20*ls.length+1) s.p
 good:partsW [] (ls.map Sum.inl)=.ok ls
 tr:Tree ls
variable{sp:List SpD}
theorem Grn.new(h:Grn st ls sp){n:Nat}(hn:sp.length<=n):nmK 102 st n∉sp.map (·.f):=λz=>by
 let(s,c,e):=mem_map.mp z;let(i,a):=List.getElem?_of_mem c;have d:=(List.getElem?_eq_some_iff.mp a).1;have b:s.f=nmK 102 st n:=e;rw[h.fc i s a]at b;have:=JdI b;ac_nf
theorem Grn.nil:Grn st [] []:=⟨by simp,by simp,by simp,by simp,by simp,by simp,by simp,by rw[map_nil,partsW],λp a=>by cases a⟩
theorem Grn.inj(h:Grn st ls sp){s t:SpD}(hs:s∈sp)(ht:t∈sp)(e:s.f=t.f):s=t:=by
 let(i,b):=List.getElem?_of_mem hs;let(j,a):=List.getElem?_of_mem ht;rw[h.fc i s b,h.fc j t a]at e;have:=JdI e;subst this;rw[b]at a;show Option.some.inj a
theorem Jbf{l:List α}{a x : α}{i:Nat}(h:(l++[a])[i]?=some x):l[i]?=some x\/(i=l.length/\x=a):=by
 by_cases c:i<l.length
 .rw[List.getElem?_append_left c]at h;show .inl h
 .have b:=(List.getElem?_eq_some_iff.mp h).1;rw[length_append,length_singleton]at b;have e:i=l.length:=by ac_nf
  subst e;rw[List.getElem?_append_right (Nat.le_refl _),Nat.sub_self]at h;cases h;show .inr ⟨rfl,rfl⟩
theorem Grn.face(h:Grn st ls sp):Grn st ls (sp++[⟨nmK 102 st sp.length,nmK 102 st sp.length,(0,1)⟩]) where
 nm:=h.nm
 fc:=λi s f=>by
  rcases Jbf f with f | ⟨rfl,rfl⟩
  .show h.fc i s f
  .rfl
 ok:=h.ok
 sub:=λp b=>by
  rw[map_append];show(mem_append.mpr (.inl (h.sub p b).1),mem_append.mpr (.inl (h.sub p b).2))
 con:=λs a=>by
  rcases mem_append.mp a with a | a
  .show h.con s a
  .rw[mem_singleton.mp a];show .refl
 pl:=λp b s a t c e d=>by
  have g:=h.new (Nat.le_refl sp.length);rcases mem_append.mp a with a | a
  .rcases mem_append.mp c with c | c
   .show h.pl p b s a t c e d
   .rw[mem_singleton.mp c]at d;dsimp only at d;show absurd (d ▸ (h.sub p b).2) g
  .rw[mem_singleton.mp a]at e;dsimp only at e;show absurd (e ▸ (h.sub p b).1) g
 fb:=λs a=>by
  rcases mem_append.mp a with a | a
  .show h.fb s a
  .rw[mem_singleton.mp a];show Jdl.mono ∅ ∅
 good:=h.good
 tr:=h.tr
theorem Grn.part(h:Grn st ls sp)(hst:st<=3){s0:SpD}(h0:s0∈sp){p:PD}{d:Bool}(hnm:p.nm=nmK 112 st ls.length)
  (h1:p.st=if d then s0.f else nmK 102 st sp.length) (h2:p.en=if d then nmK 102 st sp.length else s0.f) (hz:FB 133 20 p.sz) (hok:POk p):Grn st (ls++[p]) (sp++[⟨nmK 102 st sp.length,s0.r,addF s0.p (sgn d p.sz)⟩]):=by
 have u:=h.new (Nat.le_refl sp.length);have F:s0.f∈sp.map (·.f):=mem_map.mpr ⟨s0,h0,rfl⟩;have A:nmK 102 st sp.length≠s0.f:=λz=>u (z ▸ F);have L:∀ q∈ls,q.st≠q.en:=λq a=>(h.ok q a).ne;have H:nmK 102 st sp.length∉fcsOf ls:=λz=>by
  let(q,a,B):=mem_flatMap.mp z;simp at B;rcases B with e | e
  .show u (e ▸ (h.sub q a).1)
  .show u (e ▸ (h.sub q a).2)
 have M:¬ Conn ls p.st p.en:=λz=>by
  have:=Jj4 L z hok.ne;cases d with
  | true=>
   rw[if_pos rfl]at h1 h2;show H (h2 ▸ this.2)
  | false=>
   rw[if_neg ⋯]at h1 h2;show H (h1 ▸ this.1)
 have R:p.nm∉ls.map (·.nm):=λz=>by
  let(q,a,e):=mem_map.mp z;let(i,o):=List.getElem?_of_mem a;have T:=(List.getElem?_eq_some_iff.mp o).1;have k:q.nm=p.nm:=e;rw[h.nm i q o,hnm]at k;have:=JdI k;ac_nf
 have w:=h.fb s0 h0;have v:FB 133 20 (sgn d p.sz):=by
  cases d with
  | true=>show hz
  | false=>show hz.neg
 have G:FB (134+21*(ls.length+1)) (20*(ls.length+1)+1) (addF s0.p (sgn d p.sz)):=by
  have:=FB.add (n:=154+21*ls.length) (m:=20*(ls.length+1)+1) w v ∅ ∅ ∅;have e:134+21*(ls.length+1)=154+21*ls.length+1:=by ac_nf
  rw[e];show this
 have I:vl (addF s0.p (sgn d p.sz))=vl s0.p+vl (sgn d p.sz):=JhZ w.b1 v.b1;show(λi q o=>?_,λi s o=>?_,λq a=>?_,λq a=>?_,λs b=>?_,λq a s b t j l k=>?_,λs b=>?_,?_,λq a z=>?_)
 .rcases Jbf o with o | ⟨rfl,rfl⟩
  .show h.nm i q o
  .show hnm
 .rcases Jbf o with o | ⟨rfl,rfl⟩
  .show h.fc i s o
  .rfl
 .rcases mem_append.mp a with a | a
  .show h.ok q a
  .rw[mem_singleton.mp a];show hok
 .rw[map_append];rcases mem_append.mp a with a | a
  .show(mem_append.mpr (.inl (h.sub q a).1),mem_append.mpr (.inl (h.sub q a).2))
  .rw[mem_singleton.mp a,h1,h2];have K:nmK 102 st sp.length∈[(⟨nmK 102 st sp.length,s0.r,addF s0.p (sgn d p.sz)⟩:SpD)].map (·.f):=by simp
   cases d with
   | true=>show(mem_append.mpr (.inl F),mem_append.mpr (.inr K))
   | false=>show(mem_append.mpr (.inr K),mem_append.mpr (.inl F))
 .rcases mem_append.mp b with b | b
  .show(h.con s b).mono
  .rw[mem_singleton.mp b];have S:p∈ls++[p]:=by simp
   have C:∀ q∈ls++[p],q.st≠q.en:=λq a=>by
    rcases mem_append.mp a with a | a
    .show L q a
    .rw[mem_singleton.mp a];show hok.ne
   have c:=JiC S;cases d with
   | true=>
    rw[if_pos rfl]at h1 h2;rw[h1,h2]at c;show((h.con s0 h0).mono).trans c
   | false=>
    rw[if_neg ⋯]at h1 h2;rw[h1,h2]at c;show((h.con s0 h0).mono).trans (c.symm C)
 .rcases mem_append.mp a with a | a
  .rcases mem_append.mp b with b | b
   .rcases mem_append.mp j with j | j
    .show h.pl q a s b t j l k
    .rw[mem_singleton.mp j]at k;dsimp only at k;show absurd (k ▸ (h.sub q a).2) u
   .rw[mem_singleton.mp b]at l;dsimp only at l;show absurd (l ▸ (h.sub q a).1) u
  .have a:=mem_singleton.mp a;subst a;cases d with
   | true=>
    rw[if_pos rfl]at h1 h2;rw[h1]at l;rw[h2]at k;have D:s=s0:=by
     rcases mem_append.mp b with b | b
     .show h.inj b h0 l
     .rw[mem_singleton.mp b]at l;dsimp only at l;show absurd l A
    have E:t.p=addF s0.p (sgn true q.sz):=by
     rcases mem_append.mp j with j | j
     .show absurd (k ▸ mem_map.mpr ⟨t,j,rfl⟩) u
     .rw[mem_singleton.mp j]
    rw[D,E,I];rfl
   | false=>
    rw[if_neg ⋯]at h1 h2;rw[h1]at l;rw[h2]at k;have E:t=s0:=by
     rcases mem_append.mp j with j | j
     .show h.inj j h0 k
     .rw[mem_singleton.mp j]at k;dsimp only at k;show absurd k A
    have D:s.p=addF s0.p (sgn false q.sz):=by
     rcases mem_append.mp b with b | b
     .show absurd (l ▸ mem_map.mpr ⟨s,b,rfl⟩) u
     .rw[mem_singleton.mp b]
    have Q:vl (sgn false q.sz) = - vl q.sz:=JbB q.sz;rw[E,D,I,Q];grind
 .rw[length_append,length_singleton];rcases mem_append.mp b with b | b
  .have:=h.fb s b;show this.mono ∅ ∅
  .rw[mem_singleton.mp b];show G
 .have:=Jez (p:=p) ls [] (by rw[nil_append];show h.good) (by rw[nil_append];show R) (by rw[nil_append];show M);rw[nil_append]at this;show this
 .rw[filter_append]at z;rcases mem_append.mp a with a | a
  .have O:∀ x∈ls.filter (λx=>decide (x.nm≠q.nm)),x∈ls:=λx g=>(mem_filter.mp g).1;have N:nmK 102 st sp.length∉fcsOf (ls.filter λx=>decide (x.nm≠q.nm)):=λy=>H (by
    let(x,g,B):=mem_flatMap.mp y;show mem_flatMap.mpr ⟨x,O x g,B⟩)
   have P:Conn (ls.filter (λx=>decide (x.nm≠q.nm))++[p]) q.st q.en:=z.sub λx g=>by
    rcases mem_append.mp g with g | g
    .show mem_append.mpr (.inl g)
    .show mem_append.mpr (.inr (mem_filter.mp g).1)
   have:=P.retract (s0:=s0.f) (f:=nmK 102 st sp.length) (by
    cases d with
    | true=>show .inr ⟨h1,h2⟩
    | false=>show .inl ⟨h1,h2⟩) N
   have J:∀ x∈sp.map (·.f),x≠nmK 102 st sp.length:=λx g y=>u (y ▸ g);rw[if_neg (J _ (h.sub q a).1),if_neg (J _ (h.sub q a).2)]at this;show h.tr q a this
  .rw[mem_singleton.mp a]at z;show M (z.sub λx g=>by
    rcases mem_append.mp g with g | g
    .show(mem_filter.mp g).1
    .have:=(mem_filter.mp g);have e:=mem_singleton.mp this.1;rw[e]at this;simp at this)
def Two(sp:List SpD):Prop:=∀ s∈sp, ∃ t∈sp,t.f≠s.f/\t.r=s.r
theorem JkD(h:Grn st ls sp){s0:SpD}(h0:s0∈sp)(ht:∀ s∈sp,s.r=s0.r\/∃ t∈sp,t.f≠s.f/\t.r=s.r){z:Int × Int}:Two (sp++[⟨nmK 102 st sp.length,s0.r,z⟩]):=by
 have b:=h.new (Nat.le_refl sp.length);intro s a;rcases mem_append.mp a with a | a
 .rcases ht s a with e | ⟨t,ht,e1,e2⟩
  .show(⟨nmK 102 st sp.length,s0.r,z⟩,by simp,λq=>b (mem_map.mpr ⟨s,a,q.symm⟩),e.symm)
  .show(t,mem_append.mpr (.inl ht),e1,e2)
 .rw[mem_singleton.mp a];show(s0,mem_append.mpr (.inl h0),λq=>b (mem_map.mpr ⟨s0,h0,q⟩),rfl)
theorem Grn.joined(h:Grn st ls sp){s t:SpD}(hs:s∈sp)(ht:t∈sp)(e:s.r=t.r):Conn ls s.f t.f:=by
 have a:∀ q∈ls,q.st≠q.en:=λq b=>(h.ok q b).ne;show((h.con s hs).symm a).trans (e ▸ h.con t ht)
def spOf(sp:List SpD)(f:Str):Int × Int:=((sp.find? λs=>decide (s.f=f)).map (·.p)).getD (0,1)
theorem Grn.pl_at(h:Grn st ls sp){s:SpD}(hs:s∈sp):spOf sp s.f=s.p:=by
 unfold spOf;cases e:sp.find? λt=>decide (t.f=s.f)with
 | none=>
  have:=List.find?_eq_none.mp e s hs;simp at this
 | some t=>
  have b:=List.mem_of_find?_eq_some e;have a:=List.find?_some e;have c:t.f=s.f:=by simpa using a
  rw[h.inj b hs c];rfl
theorem Grn.pls(h:Grn st ls sp):∀ p∈ls,vl (spOf sp p.en)=vl (spOf sp p.st)+vl p.sz:=λp c=>by
 let(s,e,a):=mem_map.mp (h.sub p c).1;let(t,d,b):=mem_map.mp (h.sub p c).2;have a:s.f=p.st:=a;have b:t.f=p.en:=b;rw[<- a, <- b,h.pl_at e,h.pl_at d];show h.pl p c s e t d a b
theorem Grn.plb(h:Grn st ls sp)(hl:ls.length<=8)(f:Str):FB 302 161 (spOf sp f):=by
 unfold spOf;cases e:sp.find? λt=>decide (t.f=f)with
 | none=>show Jdl.mono ∅ ∅
 | some t=>
  have:=h.fb t (List.mem_of_find?_eq_some e);show this.mono ∅ ∅
theorem JgH{t b:Int}(hb:1<=b):vl (Mth.top t b,Mth.bot t b)=(t:Rat)/(b:Rat):=by
 have a:b≠0:=by ac_nf
 have c:=Mth.cross (t:=t) a;have d:=Mth.JcS (t:=t) a;unfold vl;dsimp only;generalize Mth.top t b=x at *;generalize Mth.bot t b=y at *;have g:=JaK hb;have f:=JaK d;have e:(x:Rat)*(b:Rat)=(t:Rat)*(y:Rat):=by exact_mod_cast c
 generalize(x:Rat)=x at *;generalize(y:Rat)=y at *;generalize(t:Rat)=t at *;generalize(b:Rat)=b at *;grind
theorem FOk.fb(h:FOk n a):FB n n a:=⟨h.s1,h.s2,h.b1,h.g1⟩
def mid(pl:Str->Int × Int)(g:GD):Int × Int:=addF (pl g.en) (negF (pl g.st))
def roomF(pl:Str->Int × Int)(g:GD):Int × Int:=if lessF (addF g.hi (negF (mid pl g))) (addF (mid pl g) (negF g.lo))then addF g.hi (negF (mid pl g))else addF (mid pl g) (negF g.lo)
section
variable{A' B' C' D':Nat}{x y z b:Int × Int}{D:Nat}{w m:Int × Int}
theorem FB.inj(h:FB A B x)(k:FB C D y)(e:vl x=vl y):x=y:=Jlc h.b1 k.b1 h.g1 k.g1 e
theorem FB.add'(h:FB A B x)(k:FB C D y):FB (A+D+(C+B)+1) (B+D) (addF x y):=FB.add h k ∅ ∅ (Nat.le_refl _)
theorem FB.vadd(h:FB A B x)(k:FB C D y):vl (addF x y)=vl x+vl y:=JhZ h.b1 k.b1
theorem JlE(hx:FB A B x)(hy:FB A B y)(hz:FB C D z)(hw:FB A B w)(e:vl y=vl x+vl z):addF (addF x (negF w)) z=addF y (negF w):=by
 show FB.inj ((hx.add' hw.neg).add' hz) (hy.add' hw.neg) ?_;rw[FB.vadd (hx.add' hw.neg) hz,hx.vadd hw.neg,hy.vadd hw.neg,e,JbB];grind
theorem Jka(hx:FB A B x):addF x (negF x)=(0,1):=by
 show FB.inj (hx.add' hx.neg) Jdl ?_;rw[hx.vadd hx.neg,JbB];have : vl (0,1)=0:=by
  unfold vl;grind
 rw[this];grind
theorem Jlj(hm:FB A B m)(ha:FB C D a):addF (addF m a) (negF m)=a:=by
 show FB.inj ((hm.add' ha).add' hm.neg) ha ?_;rw[FB.vadd (hm.add' ha) hm.neg,hm.vadd ha,JbB];grind
theorem Jlk(hm:FB A B m)(hb:FB C D b):addF m (negF (addF m (negF b)))=b:=by
 have a:=hm.add' hb.neg;show FB.inj (hm.add' a.neg) hb ?_;rw[hm.vadd a.neg,JbB,hm.vadd hb.neg,JbB];grind
theorem hi_lo(hm:FB A B m)(ha:FB C D a)(hb:FB C' D' b)(h:0<=vl a+vl b):lessF (addF m a) (addF m (negF b))=false:=by
 have f:=hm.add' ha;have d:=hm.add' hb.neg;have c:=JbV f.b1 d.b1;rw[hm.vadd ha,hm.vadd hb.neg,JbB]at c;cases e:lessF (addF m a) (addF m (negF b))with
 | false=>rfl
 | true=>
  have:=c.mp e;grind
theorem JmR{g:GD}(h:∀ f,FB 302 161 (pl f)):FB 464 322 (mid pl g):=FB.add (h _) (h _).neg ⋯ ⋯ ⋯
end
section
variable{f : α->Str}{l:List α}{s:Nat}
theorem Jgn(h:∀ i a,l[i]?=some a->f a=nmK s st i):(l.map f).Nodup:=by
 rw[List.Nodup,List.pairwise_iff_getElem];intro i j c b d e;rw[length_map]at c b;rw[List.getElem_map,List.getElem_map,h i _ (List.getElem?_eq_getElem c),h j _ (List.getElem?_eq_getElem b)]at e;have:=JdI e;ac_nf
end
theorem Grn.fname(h:Grn st ls sp)(hst:st<=3)(hl:sp.length<=16){s:SpD}(hs:s∈sp):nameS s.f=true:=by
 let(i,a):=List.getElem?_of_mem hs;have:=(List.getElem?_eq_some_iff.mp a).1;rw[h.fc i s a];show Jd6 ⋯ hst ∅
section
variable{x:V}{K:W.Frag}
end
theorem Jch{b:Addr}(S:Same H0 H)(h:H b=none):H0 b=none:=by
 cases e:H0 b with
 | none=>rfl
 | some o=>rw[S _ _ e]at h;cases h
theorem JmG{c:TT}{t u:TS}{D:Ends}(J:St->Hp->Prop)(hJ:∀ σ' H',J σ' H'->D.nx σ' H')(h:∀ N:St->Hp->Prop,(∀ σ' H',J σ' H'->N σ' H')->tIfS c t u { D with nx:=N } σ H):tIfS c t u D σ H:=h D.nx hJ
theorem JjP{t b:Int}(ht:0<=t)(hb:1<=b):0<=Mth.top t b:=by
 have d:=Mth.JeP (t:=t) (b:=b) ∅;have c:=Mth.g_pos (a:=t) (b:=b) ∅;have e:Mth.by_ t b=Mth.g t b:=by unfold Mth.by_;rw[if_neg ∅]
 rw[e]at d;rcases Int.lt_or_le (Mth.top t b) 0 with z | z
 .have:=Int.mul_neg_of_neg_of_pos z c;ac_nf
 .show z
inductive Path(ls:List PD):Str->List Pr->Str->Prop
 | nil {a:Str}:Path ls a [] a
 | cons {a g b:Str} {p:PD} {fw:Bool} {w:List Pr}:p∈ls->(a=if fw then p.st else p.en)->(g=if fw then p.en else p.st)->Path ls g w b->Path ls a ((p.nm,fw)::w) b
variable{a:Str}
theorem Path.snoc{f g:Str}{w:List Pr}(h:Path ls a w f)(hp:p∈ls)(e1:f=if fw then p.st else p.en)(e2:g=if fw then p.en else p.st):Path ls a (w++[(p.nm,fw)]) g:=by
 induction h with
 | nil=>show .cons hp e1 e2 .nil
 | cons h1 h2 h3 _ ih=>show .cons h1 h2 h3 (ih e1)
theorem JfH{w:List Pr}(h:JaL ls a w b):Path ls a w b:=by
 induction h with
 | nil=>show .nil
 | snoc _ hm ih=>
  obtain⟨p,e,h | h⟩:=JaT.mp hm
  .let(d,c,rfl):=h;show ih.snoc e d.symm c.symm
  .let(_,d,c,rfl):=h;show ih.snoc e d.symm c.symm
theorem Jc8{w:List Pr}(h:Path ls a w b):∀ n∈w.map (·.1),n∈ls.map (·.nm):=by
 induction h with
 | nil=>simp
 | cons h1 _ _ _ ih=>
  intro n c;rw[map_cons]at c;rcases mem_cons.mp c with e | e
  .rw[e];show mem_map.mpr ⟨_,h1,rfl⟩
  .show ih n e
open PySem.Spec PyProof.Rows
variable{ks:List PD}
theorem JgX(h:(ks.map (·.nm)).Nodup){i:Nat}{p:PD}(hp:ks[i]?=some p):p.nm∉(ks.take i).map (·.nm):=λz=>by
 let(q,f,e):=mem_map.mp z;have e:q.nm=p.nm:=e;have c:=(List.getElem?_eq_some_iff.mp hp).1;let(j,a):=List.getElem?_of_mem f;have d:=(List.getElem?_eq_some_iff.mp a).1;rw[length_take]at d;rw[List.getElem?_take_of_lt ∅]at a;have b:=(List.getElem?_eq_some_iff.mp a).1;rw[List.Nodup,List.pairwise_iff_getElem]at h;show h j i (by rw[length_map];show b) (by rw[length_map];show c) ∅ ?_;rw[List.getElem_map,List.getElem_map];rw[List.getElem?_eq_getElem b]at a;rw[List.getElem?_eq_getElem c]at hp;rw[Option.some.inj a,Option.some.inj hp];show e
variable{tb:TS}
theorem ForR.byN{lo:Int}{g:TG}{D:Ends}(Pv:Nat->St->Hp->Prop)(h0:Pv 0 σ H)
  (hs:∀ i σ H,i<n->Pv i σ H->∀ N:St->Hp->Prop,(∀ σ' H',Pv (i+1) σ' H'->N σ' H')->g (.int (lo+i)) σ H λσ2 H2=>tb { D with nx:=N,ct:=N,bk:=D.nx } σ2 H2) (hd:∀ σ H,Pv n σ H->D.nx σ H):ForR lo n g tb D σ H :=
 ForR.by Pv h0 (λi σ H a b=>hs i σ H a b _ λ_ _ h=>h) hd
theorem ForA.byLN{K:W.Frag}{a:Addr}{g:TG}{D:Ends}(hA:SqL K H a xs)(Pv:Nat->St->Hp->Prop)(h0:Pv 0 σ H)(hl:∀ i σ H',Pv i σ H'->SqL K H' a xs)
  (hs:∀ i x σ H,xs[i]?=some x->Pv i σ H->∀ N:St->Hp->Prop,(∀ σ' H',Pv (i+1) σ' H'->N σ' H')->g x σ H λσ2 H2=>tb { D with nx:=N,ct:=N,bk:=D.nx } σ2 H2) (hd:∀ σ H,Pv xs.length σ H->D.nx σ H):ForA K a g tb D σ H :=
 ForA.byL hA Pv h0 hl (λi x σ H b c=>hs i x σ H b c _ λ_ _ h=>h) hd
def sm(f:Str->Rat):List Str->Rat
 | []=>0
 | n::r=>f n+sm f r
theorem JjC{f:Str->Rat}{a b:List Str}(h:a.Perm b):sm f a=sm f b:=by
 induction h with
 | nil=>rfl
 | cons _ _ ih=>simp only[sm,ih]
 | swap x y l=>
  simp only[sm];grind
 | trans _ _ ih1 ih2=>show ih1.trans ih2
theorem JjD{f:Str->Rat}(n:Str):∀ a:List Str,sm f (a++[n])=sm f a+f n
 | []=>by simp only[nil_append,sm];grind
 | m::a=>by
  rw[cons_append];simp only[sm,JjD n a];grind
def svl(ks:List PD)(ss:List (Int × Int))(n:Str):Rat:=(((ks.zip ss).find? λx=>decide (x.1.nm=n)).map λx=>vl x.2).getD 0
theorem Jno{ss:List (Int × Int)}{x:PD × (Int × Int)}(hn:(ks.map (·.nm)).Nodup)(hx:x∈ks.zip ss):svl ks ss x.1.nm=vl x.2:=by
 unfold svl;cases e:(ks.zip ss).find? λy=>decide (y.1.nm=x.1.nm)with
 | none=>
  have:=List.find?_eq_none.mp e x hx;simp at this
 | some y=>
  have m:=List.mem_of_find?_eq_some e;have l:=List.find?_some e;have f:y.1.nm=x.1.nm:=by simpa using l
  let(i,b):=List.getElem?_of_mem hx;let(j,a):=List.getElem?_of_mem m;rw[List.getElem?_zip_eq_some]at b a;have k:=(List.getElem?_eq_some_iff.mp b.1).1;have d:=(List.getElem?_eq_some_iff.mp a.1).1;rw[List.Nodup,List.pairwise_iff_getElem]at hn;have h:(ks.map (·.nm))[i]'(by rw[length_map];show k)=x.1.nm:=by
   rw[List.getElem_map];have:=b.1;rw[List.getElem?_eq_getElem k]at this;rw[Option.some.inj this]
  have g:(ks.map (·.nm))[j]'(by rw[length_map];show d)=y.1.nm:=by
   rw[List.getElem_map];have:=a.1;rw[List.getElem?_eq_getElem d]at this;rw[Option.some.inj this]
  have : i=j:=by
   rcases Nat.lt_trichotomy i j with c | c | c
   .show absurd (h.trans (f.symm.trans g.symm)) (hn i j _ _ c)
   .show c
   .show absurd (g.trans (f.trans h.symm)) (hn j i _ _ c)
  subst this;have:=b.2.symm.trans a.2;show vl y.2=vl x.2;rw[Option.some.inj this]
def ShP(ks:List PD)(es:List (GD × List Str))(ss:List (Int × Int))(pl:Str->Int × Int):Prop:=(∀(i:Nat)(p:PD)(s:Int × Int),ks[i]?=some p->ss[i]?=some s->0<=vl s/\vl s<=vl p.mo)/\∀ e∈es,sm (svl ks ss) e.2<=vl (roomF pl e.1)
def prodI:List Int->Int
 | []=>1
 | f::r=>f*prodI r
theorem Jcr(f:Int):∀ fs:List Int,prodI (fs++[f])=prodI fs*f
 | []=>by simp[prodI]
 | g::fs=>by rw[cons_append];simp only[prodI,Jcr f fs];rw[Int.mul_assoc]
structure Scl(b:Int)(fs:List Int):Prop where
 b1:1<=b
 f1:∀ f∈fs,1<=f
 pr:prodI fs=b
theorem JeA:∀{fs:List Int},(∀ f∈fs,1<=f)->1<=prodI fs
 | [],_=>by simp[prodI]
 | f::fs,h=>by
  have h1:=h f (by simp);have h2:=JeA (fs:=fs) λg hg=>h g (by simp[hg]);have:=Int.mul_pos (show 0<f by ac_nf) (show 0<prodI fs by ac_nf);simp only[prodI];ac_nf
theorem Jgu:∀(as bs:List Int),prodI (as++bs)=prodI as*prodI bs
 | [],bs=>by simp[prodI]
 | a::as,bs=>by rw[cons_append];simp only[prodI,Jgu as bs];rw[Int.mul_assoc]
variable{a b:Int}
theorem Jjl(ha:1<=a)(hb:1<=b):a<=a*b/\b<=a*b:=by
 have d:=Int.mul_le_mul_of_nonneg_left hb (show 0<=a by ac_nf);have c:=Int.mul_le_mul_of_nonneg_right ha (show 0<=b by ac_nf);constructor <;> ac_nf
theorem Scl.take{fs:List Int}(h:Scl b fs)(i:Nat):1<=prodI (fs.take i)/\prodI (fs.take i)<=b:=by
 have d:=JeA (fs:=fs.take i) λf a=>h.f1 f (List.mem_of_mem_take a);have c:=JeA (fs:=fs.drop i) λf a=>h.f1 f (List.mem_of_mem_drop a);have e:=Jgu (fs.take i) (fs.drop i);rw[List.take_append_drop,h.pr]at e;have:=Jjl d c;ac_nf
theorem Scl.mem{f:Int}{fs:List Int}(h:Scl b fs)(hf:f∈fs):f<=b:=by
 let(i,a):=List.getElem?_of_mem hf;have c:=(List.getElem?_eq_some_iff.mp a).1;have t:=h.take (i+1);rw[take_succ,a]at t;have e:=Jcr f (fs.take i);have:=Jjl (h.take i).1 (h.f1 f hf);simp only[Option.toList_some]at t;ac_nf
theorem sz_le(h:Mth.Sz n b)(h0:0<=a)(h1:a<=b):Mth.Sz n a:=Nat.lt_of_le_of_lt (by ac_nf:a.natAbs<=b.natAbs) h
theorem Scl.nil:Scl 1 []:=⟨by decide,by simp,rfl⟩
theorem Scl.snoc{f:Int}{fs:List Int}(h:Scl b fs)(hf:1<=f):Scl (b*f) (fs++[f]):=⟨by
 have:=Int.mul_pos (show 0<b by have:=h.b1;ac_nf) (show 0<f by ac_nf);ac_nf,λg a=>by
 rcases mem_append.mp a with a | a
 .show h.f1 g a
 .rw[mem_singleton.mp a];show hf,by rw[Jcr,h.pr]⟩
structure LInv(n:Int × Int)(q:Int)(t:Int × Int):Prop where
 b1:1<=t.2
 g1:Mth.g t.1 t.2=1
 dv:t.2∣n.2
 cr:t.1*n.2=n.1*q*t.2
 ab:t.1.natAbs<=n.1.natAbs*q.natAbs
variable{n:Int × Int}
theorem LInv.nil(h:1<=n.2)(g:Mth.g n.1 n.2=1):LInv n 1 n:=⟨h,g,Int.dvd_refl _,by rw[Int.mul_one],by simp⟩
variable{q:Int}
theorem LInv.step{t:Int × Int}{f:Int}(h:LInv n q t)(hf:1<=f):LInv n (q*f) (t.1*f.fdiv (Mth.g t.2 f),t.2.fdiv (Mth.g t.2 f)):=by
 have v:0<Mth.g t.2 f:=Mth.g_pos ∅;have j:=Mth.JcP t.2 f;have e:=Mth.JbY t.2 f;have k:=Mth.JaO j ∅;have p:=Mth.JaO e ∅;have l:=Mth.Jc4 (b:=t.2) (d:=f) rfl ∅;have m:=Mth.Jcg j ∅ h.b1;have u:=Mth.Jef e ∅;have i:t.2.fdiv (Mth.g t.2 f)∣t.2:=⟨_,k.symm⟩;have o:Int.gcd t.1 (t.2.fdiv (Mth.g t.2 f))=1:=Mth.JaX (Mth.Jck (Mth.JaX (Mth.Jcu h.g1)) i);have a:=h.cr;have c:=h.ab;generalize t.2.fdiv (Mth.g t.2 f)=r at *;generalize f.fdiv (Mth.g t.2 f)=f' at *;generalize Mth.g t.2 f=s at *;show(m,Mth.Jd3 (Mth.JaX (Mth.Jce (Mth.JaX o) l)),Int.dvd_trans i h.dv,?_,?_)
 .show t.1*f'*n.2=n.1*(q*f)*r;have : t.1*f'*n.2=(t.1*n.2)*f':=by rw[Int.mul_assoc,Int.mul_comm f', <- Int.mul_assoc]
  rw[this,a, <- k, <- p];simp only[Int.mul_assoc,Int.mul_comm,Int.mul_left_comm]
 .show(t.1*f').natAbs<=n.1.natAbs*(q*f).natAbs;rw[Int.natAbs_mul,Int.natAbs_mul, <- Nat.mul_assoc];show Nat.mul_le_mul c u
theorem LInv.all(h:1<=n.2)(hd:b.fmod n.2=0):LInv n b (n.1*b.fdiv n.2,1):=by
 have a:n.2∣b:=by
  rw[Int.fmod_eq_emod_of_nonneg _ ∅]at hd;show Int.dvd_of_emod_eq_zero hd
 have e:=Mth.JaO a ∅;have c:=Mth.Jef a h;show(Int.le_refl _,by unfold Mth.g;simp,Int.one_dvd _,?_,?_)
 .show n.1*b.fdiv n.2*n.2=n.1*b*1;rw[Int.mul_assoc,e,Int.mul_one]
 .show(n.1*b.fdiv n.2).natAbs<=_;rw[Int.natAbs_mul];show Nat.mul_le_mul_left _ c
theorem LInv.vl{t:Int × Int}(h:LInv n q t)(hn:1<=n.2):vl t=vl n*(q:Rat):=by
 have g:=JaK hn;have f:=JaK h.b1;have e:(t.1:Rat)*(n.2:Rat)=(n.1:Rat)*(q:Rat)*(t.2:Rat):=by exact_mod_cast h.cr
 unfold L2.vl;generalize(t.1:Rat)=a at *;generalize(t.2:Rat)=b at *;generalize(n.1:Rat)=c at *;generalize(n.2:Rat)=d at *;generalize(q:Rat)=q at *;grind
theorem LInv.fb{t:Int × Int}(h:LInv n q t)(hn:FB A B n)(hq:Mth.Sz C q):FB (A+C) B t:=by
 show(?_,?_,h.b1,h.g1)
 .show Nat.lt_of_le_of_lt h.ab ?_;have:=hn.s1.mul hq;unfold Mth.Sz at this;rw[Int.natAbs_mul]at this;show this
 .show Nat.lt_of_le_of_lt ?_ hn.s2;have:=Int.natAbs_dvd_natAbs.mpr h.dv;show Nat.le_of_dvd (by have:=hn.b1;ac_nf) this
def smF:List (Int × Int)->Rat
 | []=>0
 | a::r=>vl a+smF r
theorem JfW(n:Int × Int):∀ a,smF (a++[n])=smF a+vl n
 | []=>by simp only[nil_append,smF];grind
 | m::a=>by
  rw[cons_append];simp only[smF,JfW n a];grind
theorem scaled{x y q:Rat}(h:0<q):x*q<=y*q↔x<=y:=by
 constructor
 .intro a;show Rat.not_lt.mp λz=>?_;have:=Rat.mul_lt_mul_of_pos_right z h;show Rat.not_lt.mpr a this
 .intro a;show Rat.mul_le_mul_of_nonneg_right a (Rat.le_of_lt h)
def notStar:Expr->Bool
 | .Starred _ _=>false
 | _=>true
variable{e:Expr}
theorem Jae{env:Env}(h:notStar e=true):starEach (e::es) env=(false,eval e env)::starEach es env:=by
 cases e <;> first | rfl | (simp[notStar]at h)
variable{te:TE}
theorem Jaa{t:TA}(ha:PE X e te)(hr:PA X es t)(hs:autoParam (notStar e=true) Au):PA X (e::es) (tCons te t):=JlW ha hr (Jae hs)
section
variable{x:V}{a c:Addr}{K:W.Frag}
def Same2(a c:Addr)(H H':Hp):Prop:=∀ b u,b≠a->b≠c->H b=some u->H' b=some u
theorem Same.two(S:Same H H'):Same2 a c H H':=λb u _ _ h=>S b u h
def FLV(K:W.Frag)(H:Hp)(s:Int × Int)(x:V):Prop:=FrV K H x s.1 s.2
theorem FLV.sameT{s:Int × Int}(T:SameT H H')(h:FLV K H s x):FLV K H' s x:=FrV.sameT T h
def LFV(K:W.Frag)(H:Hp)(b:Int)(e:PD × (Int × Int))(x:V):Prop:=∃ t,LInv e.2 b t/\FrV K H x t.1 t.2
theorem LFV.sameT{e:PD × (Int × Int)}(T:SameT H H'):LFV K H b e x->LFV K H' b e x:=λζ=>by let(t,c,a):=ζ;show(t,c,a.sameT T)
end
theorem Jle:∀{ls:List PD}{ss:List (Int × Int)},ss.length=ls.length->(ls.zip ss).map (·.1.nm)=ls.map (·.nm)
 | [],ss,_=>by simp
 | p::ls,[],h=>by simp at h
 | p::ls,s::ss,h=>by
  rw[List.zip_cons_cons,map_cons,map_cons,Jle (by simpa using h)]
theorem Jg9:∀{ls:List PD}{p q:PD},(ls.map (·.nm)).Nodup->p∈ls->q∈ls->p.nm=q.nm->p=q
 | [],_,_,_,hp,_,_=>by cases hp
 | a::ls,p,q,hn,hp,hq,e=>by
  rw[map_cons,nodup_cons]at hn;rcases mem_cons.mp hp with h1 | h1 <;> rcases mem_cons.mp hq with h2 | h2
  .rw[h1,h2]
  .subst h1;show absurd (e ▸ mem_map.mpr ⟨q,h2,rfl⟩) hn.1
  .subst h2;show absurd (e ▸ mem_map.mpr ⟨p,h1,rfl⟩) hn.1
  .show Jg9 hn.2 h1 h2 e
structure ISC(ls:List PD)(es:List (GD × List Str))(pl:Str->Int × Int):Prop where
 l7:ls.length<=8
 l6:es.length<=6
 nd:(ls.map (·.nm)).Nodup
 gn:∀ e∈es, ∀ u∈es.map (·.1),u.nm=e.1.nm->u=e.1
 pok:∀ p∈ls,POk p
 pb:∀ p∈ls,FB 145 13 p.sz/\FB 100 6 p.mo
 tok:∀ e∈es,TOk e.1.td
 gb:∀ e∈es,(1<=e.1.lo.2/\Mth.Sz 70 e.1.lo.2)/\1<=e.1.hi.2/\Mth.Sz 70 e.1.hi.2
 rb:∀ e∈es,FB 200 12 (roomF pl e.1)
 plb:∀ f,FB 302 161 (pl f)
 pls:∀ p∈ls,vl (pl p.en)=vl (pl p.st)+vl p.sz
 way:∀ e∈es, ∀ w:List Pr,JaL ls e.1.st w e.1.en->(w.map (·.1)).Nodup->e.2.Perm (w.map (·.1))
theorem JhY:∀{xs:List V}{us:List Value},xs.length=us.length->(∀(i:Nat) x u,xs[i]?=some x->us[i]?=some u->RelV x u)->Vals xs us
 | [],[],_,_=>.nil
 | [],_::_,h,_=>by simp at h
 | _::_,[],h,_=>by simp at h
 | x::xs,u::us,h,k=>.cons (k 0 x u rfl rfl) (JhY (by simpa using h) λi x u h1 h2=>k (i+1) x u (by simpa using h1) (by simpa using h2))
def Jnc(xs:List V)(H:Hp)(Q:VK):Prop:=∃(d:Addr)(kvs:List (Key × V))(ss:List Str),xs=[.ref d]/\H d=some (.dK kvs)/\kvs.map (·.1)=ss.map Sum.inr/\∀ l,H l=none->Q (.ref l) (upd H l (.lst (ss.map V.str)))
theorem Jh5(hc:X.calm=true):CallR X (.type "list") Jnc:=by
 intro C s σ H xs Z Q I r h;let(d,kvs,j,rfl,e,p,q):=h;let(u,rfl,M):=vals1 r;cases M;let(P,J,m,g,G):=dk_of I.hok e;let(ep,D):=G.dictAt;have L:j.length=kvs.length:=by simpa using(congrArg List.length p).symm
 have R:m.length=kvs.length:=g.length.symm;have f:m.map (·.1)=kvs.map (·.1):=by
  clear G D p L R P q e;induction g with
  | nil=>rfl
  | cons A _ ih=>
   rw[map_cons,map_cons,ih,A.1]
 show W.kdl_call (W.kdl_dict (knd:=Jaw X.prog X.w) (d:=d) (kvs:=m) (ep:=ep) J) (I.ok.hd hc) D ∅ λY O a U k N c=>?_;have n:Vals (j.map V.str) a.toList:=JhY (by have A:=c.1;have T:a.toList.length=a.size:=Array.length_toList;rw[length_map,T,A];ac_nf) λi x v F n=>by
  rw[List.getElem?_map]at F;let(z,B,rfl):=Option.map_eq_some_iff.mp F;let(E,x1,S,K):=c.2 i v (by rw[<- Array.getElem?_toList];show n);have l:(m.map (·.1))[i]?=some E:=by rw[List.getElem?_map,S];rfl
  rw[f,p,List.getElem?_map,B]at l;have l:Sum.inr z=E:=Option.some.inj l;subst l;rcases JaP (show keyIs (Sum.inr z) v=true from K)with⟨b,hb,_⟩ | ⟨y,t,hy,rfl⟩
  .cases hb
  .cases hy;show(t,rfl)
 show(.ref _,_,I.laid (t':=O) (o:=.lst (j.map V.str)) k (Nat.le_refl _) (show ObjOk X.prog X.w _ Y _ (.lst (j.map V.str))from⟨by rw[length_map];ac_nf,a.toList,U,n,by rw[Array.toArray_toList];show N⟩),rfl,q _ (I.hok.fresh (Nat.le_refl _)))
theorem Jhs:∀{bs:List Bool}{us:List Value},Vals (bs.map V.bl) us->us=bs.map Value.bool
 | [],us,h=>by cases h;rfl
 | b::bs,us,h=>by
  cases h with
  | cons h1 h2=>
   have h1:_=Value.bool b:=h1;subst h1;rw[Jhs h2];rfl
def isBl(b:Bool):Value->Bool
 | .bool c=>c == b
 | _=>false
def Jna:V->List V->Hp->VK->Prop:=λx vs H Q=>∃(l:Addr)(bs:List Bool)(b:Bool),x=.ref l/\vs=[.bl b]/\H l=some (.lst (bs.map V.bl))/\Q (.int ((bs.count b:Nat):Int)) H
theorem Jkc:MtM X "list.count" Jna:=by
 intro d s σ H x A v z Q I g i h;let(l,a,b,rfl,rfl,j,q):=h;cases g;let(u,rfl,m):=i.one;cases(show u=Value.bool b from m);let(t,o,n,r,w,e):=I.lstM j;have f:=Jhs r;subst f;show call_meets PySem.F.slot_list_count ⟨_,e,rfl⟩ PySem.F.entry_list_count (PySem.F.args_list_count_2 _ _) (SeqAt.list_countAt l (a.map Value.bool).toArray n none #[] (.bool b) (isBl b)) ⟨e,λy k=>?_,?_⟩
 .let(c,_,rfl):=mem_map.mp (by simpa using k:y∈a.map Value.bool);show SeqAt.EqAt.bool_bool c b
 .have p:(a.map Value.bool).toArray.toList.countP (isBl b)=a.count b:=by
   show(a.map Value.bool).countP (isBl b)=a.countP (· == b);rw[List.countP_map];rfl
  rw[p];show(.int _,H,I.tok _,⟨_,rfl⟩,q)
def Jmb:V->List V->Hp->VK->Prop:=λx vs H Q=>∃(l:Addr)(bs:List Bool)(b:Bool)(j:Nat),x=.ref l/\vs=[.bl b]/\H l=some (.lst (bs.map V.bl))/\bs[j]?=some b/\(∀ m,m<j->bs[m]?≠some b)/\Q (.int (j:Int)) H
theorem Ji2:MtM X "list.index" Jmb:=by
 intro t s σ H x P v O Q I B C h;let(l,a,b,j,rfl,rfl,D,w,i,q):=h;cases B;let(u,rfl,K):=C.one;cases(show u=Value.bool b from K);let(G,L,n,r,N,e):=I.lstM D;have A:=Jhs r;subst A;have z:j<a.length:=(List.getElem?_eq_some_iff.mp w).1;have M:(sizeLine:Int)<2 ^ 63-1:=by decide
 have E:a.length<=sizeLine:=by simpa using G
 have d:∀ m (g:m<(a.map Value.bool).toArray.size), ∃ c,a[m]?=some c/\(a.map Value.bool).toArray[m]=.bool c:=λm g=>by
  have p:m<a.length:=by simpa using g
  show(a[m],List.getElem?_eq_getElem p,by simp)
 show call_meets PySem.F.slot_list_index ⟨_,e,rfl⟩ PySem.F.entry_list_index (PySem.F.args_list_index_2 _ _) (SeqAt.list_indexAt l (a.map Value.bool).toArray n none #[] (.bool b) (isBl b) j (by simpa using z) ∅ ?_ λm g k=>?_) ⟨e,λy J=>?_,?_⟩
 .let(c,f,o):=d j (by simpa using z);rw[w]at f;cases f;rw[o];simp[isBl]
 .let(c,f,o):=d m g;rw[o];have:=i m k;rw[f]at this;simp only[isBl,beq_eq_false_iff_ne];showλh=>this (by rw[h])
 .let(c,_,rfl):=mem_map.mp (by simpa using J:y∈a.map Value.bool);show SeqAt.EqAt.bool_bool c b
 .show(.int (j:Int),H,I.tok _,⟨_,rfl⟩,q)
def JjM(K:W.Frag)(D:Addr)(i k:Nat)(t:TX)(ts:TS):TS:=λDn σ H=>t σ H (λv H1=>Dn.nx (σ.set k (some v)) H1) λcls od H1=>∃ C,cls=.ref C/\Jcj K C D /\
 ∀ ea,H1 ea=none->ts { nx:=λσ' H'=>Dn.nx (σ'.set i none) H',rt:=Dn.rt,bk:=λσ' H'=>Dn.bk (σ'.set i none) H',ct:=λσ' H'=>Dn.ct (σ'.set i none) H' } (σ.set i (some (.ref ea))) (upd H1 ea (ExcO ea C od))
variable{x n:Str}{ts:TS}
theorem Jjo{hpos np npos:Pos}{m:Str}{ce:Expr}{b0:Stmt}{suite:List Stmt}{D:Addr}{t:TX}{i k:Nat}(hN:X.N.Nodup)(hi:X.N[i]?=some n)(hl:X.env.scope.names.lookup n=some .local)(hk:X.N[k]?=some m)(hmL:Loc X.env.scope m)(hcall:PEx X ce t)(hg:Gl X x)(hm:X.mg x=some (.ref D))(hsu:∀ e,PSs (X.inx e) (b0::suite) ts)
  (hex:autoParam (X.ex=[]) Au) (hst:autoParam (X.stack=X.env::X.outer) Au) (hfl:autoParam (X.env.frame=some X.env.locals) Au) (hdb:autoParam ((x == ("__debug__" : Str))=false) Au)
  (hs:autoParam (swapsWith ce (some (.Name m npos)) apos.line X.env=pure false) Au) (hf:autoParam (X.fn m=true\/X.env.scope.names.lookup m=some .local) Au) :
  PS X (.Try [.Assign [.Name m npos] ce apos] [.ExceptHandler (some (.Name x np)) (some n) (b0::suite) hpos] [] [] pos) (JjM X.K D i k t ts):=by
 intro a s σ H Dn I h;show wpAny_Try_except (wpAny_execs_cons (wpAny_Assign_Name (wpAny_mono (hcall a s σ H _ _ I h) (λv g ⟨y,c,I1,b,f⟩=>?_) (λl g d=>?_)) hs))
 .show Jd9 I1 hN hk hmL b (λj I2=>wpAny_execs_nil (wpAny_execs_nil ⟨_,c,I2,f⟩)) hf
 .show JkK hN hi hl hg hm hsu hex hst hfl hdb I d
variable{En:Ends}
theorem y92y{K:W.Frag}{D:Addr}{i k:Nat}{t:TX}:JjM K D i k t ts En σ H=t σ H (λv H1=>En.nx (σ.set k (some v)) H1) λcls od H1=>∃ C,cls=.ref C/\Jcj K C D /\
 ∀ ea,H1 ea=none->ts { nx:=λσ' H'=>En.nx (σ'.set i none) H',rt:=En.rt,bk:=λσ' H'=>En.bk (σ'.set i none) H',ct:=λσ' H'=>En.ct (σ'.set i none) H' } (σ.set i (some (.ref ea))) (upd H1 ea (ExcO ea C od)):=rfl
section
variable{prog:Program}{A:Around}{E:Value->Shared->Prop}{w:World}{s:Shared}
end
section
variable{M:Str->Option Str}{a b:Str}{f g:Str}
end
theorem JiX(kvs:List (Key × V))(k:Key)(v:V):(putK kvs k v).map (·.1)=if(valV kvs k).isSome=true then kvs.map (·.1)else kvs.map (·.1)++[k]:=by
 unfold putK;rw[JcN];split
 .rw[map_map];show List.map_congr_left λa _=>?_;show(if a.1=k then(a.1,v)else a).1=a.1;split <;> rfl
 .rw[map_append];rfl
theorem JiW{k:Key}:(valV kvs k).isSome=true↔k∈kvs.map (·.1):=by
 rw[<- JcN,List.any_eq_true];constructor
 .rintro⟨a,c,b⟩;show mem_map.mpr ⟨a,c,by simpa using b⟩
 .intro h;let(a,c,b):=mem_map.mp h;show(a,c,by simpa using b)
section
variable{K:W.Frag}
def cut(p:Addr)(H:Hp):Hp:=λb=>if b=p then none else H b
variable{p:Addr}
theorem JbX{b:Addr}(h:b≠p):cut p H b=H b:=if_neg h
theorem Jdo:Same (cut p H) H:=λb u h=>by
 unfold cut at h;split at h
 .cases h
 .show h
theorem Same.cut(S:Same H H'):Same (cut p H) (cut p H'):=λb u h=>by
 have e:b≠p:=λz=>by rw[z]at h;unfold L2.cut at h;rw[if_pos rfl]at h;cases h
 rw[JbX e]at h ⊢;show S _ _ h
theorem JgM:cut p (upd H p o)=cut p H:=by
 funext b
 by_cases c:b=p
 .rw[c];unfold cut;rw[if_pos rfl,if_pos rfl]
 .rw[JbX c,JbX c,Jah c]
variable{ys:List V}
theorem SqT.cut{a:Addr}(hp:H p=some (.lst ys))(h:SqT K H a xs):SqT K (cut p H) a xs:=by
 rcases h with(h | ⟨o,h⟩) | h
 .show .inl (.inl (by rw[JbX (λz=>by rw[z,hp]at h;cases h)];show h))
 .show .inl (.inr ⟨o,by rw[JbX (λz=>by rw[z,hp]at h;cases h)];show h⟩)
 .show .inr h
theorem FrV.cut(hp:H p=some (.lst ys))(h:FrV K H v a b):FrV K (cut p H) v a b:=by
 let(q,e,h):=h;show(q,e,h.cut hp)
end
variable{a b:Str->Rat}
theorem sm_le:∀{l:List Str},(∀ q∈l,a q<=b q)->sm a l<=sm b l
 | [],_=>Rat.le_refl
 | n::l,h=>by
  have h1:=h n (by simp);have h2:=sm_le (l:=l) λq hq=>h q (by simp[hq]);simp only[sm];grind
theorem sm_lt:∀{l:List Str}{n:Str},(∀ q∈l,a q<=b q)->n∈l->a n<b n->sm a l<sm b l
 | [],_,_,hn,_=>by cases hn
 | m::l,n,h,hn,lt=>by
  have h1:=h m (by simp);have h2:=sm_le (l:=l) λq hq=>h q (by simp[hq]);simp only[sm];rcases mem_cons.mp hn with e | hn
  .subst e;grind
  .have:=sm_lt (λq hq=>h q (by simp[hq])) hn lt;grind
theorem JbL:∀{l:List Str},(∀ q∈l,a q=b q)->sm a l=sm b l
 | [],_=>rfl
 | n::l,h=>by simp only[sm,h n (by simp),JbL (l:=l) λq hq=>h q (by simp[hq])]
theorem Jdg:∀{l:List Str},(∀ q∈l,a q=0)->sm a l=0
 | [],_=>rfl
 | n::l,h=>by
  simp only[sm,h n (by simp),Jdg (l:=l) λq hq=>h q (by simp[hq])];grind
theorem sm_nn:∀{l:List Str},(∀ q∈l,0<=a q)->0<=sm a l
 | [],_=>Rat.le_refl
 | n::l,h=>by
  have h1:=h n (by simp);have h2:=sm_nn (l:=l) λq hq=>h q (by simp[hq]);simp only[sm];grind
theorem JeH(c:Rat):∀(l:List Str),sm (λn=>a n+c*b n) l=sm a l+c*sm b l
 | []=>by simp only[sm];grind
 | n::l=>by simp only[sm,JeH c l];grind
theorem Jnm{l:List Str}(h:∀ q∈l,0<=a q)(hn:n∈l)(lt:0<a n):0<sm a l:=by
 have:=sm_lt (a:=λ_=>0) (b:=a) h hn lt;rw[Jdg (a:=λ_=>0) λ_ _=>rfl]at this;show this
theorem Ji1(f : α->Rat):∀{l:List α},l≠[]->∃ a∈l, ∀ b∈l,f a<=f b
 | [],h=>absurd rfl h
 | [a],_=>⟨a,by simp,λb hb=>by rw[mem_singleton.mp hb];show Rat.le_refl⟩
 | a::b::l,_=>by
  let(m,hm,h):=Ji1 f (l:=b::l) (by simp);by_cases c:f a<=f m
  .show(a,by simp,λx hx=>?_);rcases mem_cons.mp hx with rfl | hx
   .show Rat.le_refl
   .show Rat.le_trans c (h x hx)
  .show(m,mem_cons_of_mem _ hm,λx hx=>?_);rcases mem_cons.mp hx with rfl | hx
   .show Rat.le_of_lt (Rat.not_le.mp c)
   .show h x hx
structure Gp where
 R:Rat
 way:List Str
structure Fair(N:List Str)(w M:Str->Rat)(gs:List Gp)(lv:Str->Rat):Prop where
 lo:∀ n∈N,0<=lv n
 hi:∀ n∈N,lv n<=M n
 fit:∀ g∈gs,sm (λn=>lv n*w n) g.way<=g.R
 stop:∀ n∈N,lv n=M n\/∃ g∈gs,n∈g.way/\sm (λn=>lv n*w n) g.way=g.R/\∀ q∈g.way,lv q<=lv n
section
variable{N:List Str}{M f':Str->Rat}{gs:List Gp}{w:Str->Rat}{f:Str->Rat}
theorem Fair.less(hw:∀ n∈N,0<w n)(hs:∀ g∈gs, ∀ n∈g.way,n∈N)(h:Fair N w M gs f)(hi:∀ n∈N,f' n<=M n)(fit:∀ g∈gs,sm (λn=>f' n*w n) g.way<=g.R){n:Str}(hn:n∈N)(lt:f n<f' n):∃ q∈N,f' q<f q/\f q<=f n:=by
 rcases h.stop n hn with e | ⟨g,hg,hm,hR,hmax⟩
 .have:=hi n hn;grind
 .have j:=fit g hg;by_cases c:∃ q∈g.way,f' q<f q
  .let(q,d,i):=c;show(q,hs g hg q d,i,hmax q d)
  .have all:∀ q∈g.way,f q*w q<=f' q*w q:=λq d=>by
    have:=Rat.not_lt.mp λz=>c ⟨q,d,z⟩;show Rat.mul_le_mul_of_nonneg_right this (Rat.le_of_lt (hw q (hs g hg q d)))
   have:=sm_lt (a:=λn=>f n*w n) (b:=λn=>f' n*w n) all hm (Rat.mul_lt_mul_of_pos_right lt (hw n hn));grind
theorem Fair.uniq(hw:∀ n∈N,0<w n)(hs:∀ g∈gs, ∀ n∈g.way,n∈N)(h:Fair N w M gs f)(k:Fair N w M gs f'):∀ n∈N,f n=f' n:=by
 intro j i;show Classical.byContradiction λo=>?_;let(n,r,a):=Ji1 (λn=>if f n<=f' n then f n else f' n) (l:=N.filter λn=>decide (f n≠f' n)) (by
  intro z;have : j∈N.filter λn=>decide (f n≠f' n):=mem_filter.mpr ⟨i,by simpa using o⟩;rw[z]at this;cases this)
 have b:=mem_filter.mp r;have p:f n≠f' n:=by simpa using b.2
 by_cases c:f n<=f' n
 .have d:f n<f' n:=by grind
  let(q,e,s,m):=h.less hw hs k.hi k.fit b.1 d;have:=a q (mem_filter.mpr ⟨e,by simp;grind⟩);rw[if_pos c,if_neg (by grind)]at this;grind
 .have d:f' n<f n:=by grind
  let(q,e,s,m):=k.less hw hs h.hi h.fit b.1 d;have:=a q (mem_filter.mpr ⟨e,by simp;grind⟩);rw[if_neg c,if_pos (by grind)]at this;grind
end
def lvv(lvs:List (Str × (Int × Int)))(n:Str):Rat:=((lvs.find? λx=>decide (x.1=n)).map λx=>vl x.2).getD 0
def used(lvs:List (Str × (Int × Int)))(w:Str->Rat)(n:Str):Rat:=lvv lvs n*w n
def left(lvs:List (Str × (Int × Int)))(w:Str->Rat)(n:Str):Rat:=if n∈lvs.map (·.1)then 0 else w n
section
variable{lvs:List (Str × (Int × Int))}{L:Int × Int}{ns:List Str}{m:Str}{w:Str->Rat}
theorem Jcw(h:n∉lvs.map (·.1)):lvv lvs n=0:=by
 unfold lvv;rw[List.find?_eq_none.mpr λx a=>by
  have : x.1≠n:=λz=>h (mem_map.mpr ⟨x,a,z⟩);simpa using this]
 rfl
theorem Jep(hn:(lvs.map (·.1)).Nodup){x:Str × (Int × Int)}(hx:x∈lvs):lvv lvs x.1=vl x.2:=by
 induction lvs with
 | nil=>cases hx
 | cons y r ih=>
  rw[map_cons,nodup_cons]at hn;unfold lvv;rw[List.find?_cons];rcases mem_cons.mp hx with e | hx
  .subst e;simp
  .have : y.1≠x.1:=λz=>hn.1 (z ▸ mem_map.mpr ⟨x,hx,rfl⟩);rw[decide_eq_false this];show ih hn.2 hx
theorem Jfr(h:n∈lvs.map (·.1)):lvv (lvs++ns.map λm=>(m,L)) n=lvv lvs n:=by
 unfold lvv;rw[List.find?_append];cases e:lvs.find? λx=>decide (x.1=n)with
 | none=>
  let(x,b,a):=mem_map.mp h;have:=List.find?_eq_none.mp e x b;simp[a]at this
 | some y=>rfl
theorem JgU(h:n∉lvs.map (·.1))(hn:n∈ns):lvv (lvs++ns.map λm=>(m,L)) n=vl L:=by
 have a:lvs.find? (λx=>decide (x.1=n))=none:=List.find?_eq_none.mpr λx b=>by
  have : x.1≠n:=λz=>h (mem_map.mpr ⟨x,b,z⟩);simpa using this
 unfold lvv;rw[List.find?_append,a,Option.none_or];cases e:(ns.map λm=>(m,L)).find? λx=>decide (x.1=n)with
 | none=>
  have:=List.find?_eq_none.mp e (n,L) (mem_map.mpr ⟨n,hn,rfl⟩);simp at this
 | some y=>
  have:=List.mem_of_find?_eq_some e;let(m,_,rfl):=mem_map.mp this;rfl
theorem Jbn:(lvs++ns.map λm=>(m,L)).map (·.1)=lvs.map (·.1)++ns:=by
 rw[map_append,map_map]
 congr 1
 show(List.map_congr_left λ_ _=>rfl).trans (List.map_id _)
def dlt(w:Str->Rat)(ns:List Str)(n:Str):Rat:=if n∈ns then w n else 0
theorem Jf1(hd:∀ n∈ns,n∉lvs.map (·.1))(n:Str):used (lvs++ns.map λm=>(m,L)) w n=used lvs w n+vl L*dlt w ns n:=by
 unfold used dlt;by_cases c:n∈lvs.map (·.1)
 .rw[Jfr c,if_neg λz=>hd n z c];grind
 .by_cases d:n∈ns
  .rw[JgU c d,Jcw c,if_pos d];grind
  .have : n∉(lvs++ns.map λm=>(m,L)).map (·.1):=by
    rw[Jbn];simp only[mem_append];showλz=>z.elim c d
   rw[Jcw this,Jcw c,if_neg d];grind
theorem Jfq(hd:∀ n∈ns,n∉lvs.map (·.1))(n:Str):left (lvs++ns.map λm=>(m,L)) w n=left lvs w n+(-1)*dlt w ns n:=by
 unfold left dlt;rw[Jbn];simp only[mem_append];by_cases c:n∈lvs.map (·.1)
 .rw[if_pos (.inl c),if_pos c,if_neg λz=>hd n z c];grind
 .by_cases d:n∈ns
  .rw[if_pos (.inr d),if_neg c,if_pos d];grind
  .rw[if_neg (λz=>z.elim c d),if_neg c,if_neg d];grind
end
structure RInv(N:List Str)(w M:Str->Rat)(gs:List Gp)(lvs:List (Str × (Int × Int)))(c:Rat):Prop where
 nd:(lvs.map (·.1)).Nodup
 sub:∀ n∈lvs.map (·.1),n∈N
 c0:0<=c
 a:∀ x∈lvs,0<=vl x.2/\vl x.2<=c/\vl x.2<=M x.1
 b:∀ n∈N,n∉lvs.map (·.1)->c<=M n
 cc:∀ g∈gs,c*sm (left lvs w) g.way<=g.R-sm (used lvs w) g.way
 d:∀ x∈lvs,vl x.2=M x.1\/∃ g∈gs,x.1∈g.way/\(∀ q∈g.way,q∈lvs.map (·.1))/\g.R-sm (used lvs w) g.way=0/\∀ q∈g.way,lvv lvs q<=vl x.2
section
variable{N ns:List Str}{M:Str->Rat}{gs:List Gp}{lvs:List (Str × (Int × Int))}{c:Rat}{L:Int × Int}{w:Str->Rat}
theorem Jel(hw:∀ n∈N,0<w n){l:List Str}(hs:∀ n∈l,n∈N):∀ q∈l,0<=left lvs w q:=λq a=>by
 unfold left;split
 .show Rat.le_refl
 .show Rat.le_of_lt (hw q (hs q a))
theorem RInv.start(hM:∀ n∈N,0<=M n)(hR:∀ g∈gs,0<=g.R):RInv N w M gs [] 0 where
 nd:=.nil
 sub:=λn c=>by cases c
 c0:=Rat.le_refl
 a:=λx f=>by cases f
 b:=λn c _=>hM n c
 cc:=λg h=>by
  have e:sm (used [] w) g.way=0:=Jdg λq _=>by
   unfold used;rw[Jcw (by simp)];grind
  have:=hR g h;rw[e];grind
 d:=λx f=>by cases f
theorem RInv.round(h:RInv N w M gs lvs c)(hw:∀ n∈N,0<w n)(hs:∀ g∈gs, ∀ n∈g.way,n∈N)
  (hnd:ns.Nodup) (hL1:∀ n∈N,n∉lvs.map (·.1)->vl L<=M n) (hL2:∀ g∈gs,0<sm (left lvs w) g.way->vl L*sm (left lvs w) g.way<=g.R-sm (used lvs w) g.way)
  (hns:∀ n,n∈ns↔n∈N/\n∉lvs.map (·.1)/\(M n=vl L\/∃ g∈gs,n∈g.way/\0<sm (left lvs w) g.way/\vl L*sm (left lvs w) g.way=g.R-sm (used lvs w) g.way)) (hc:c<=vl L) :
  RInv N w M gs (lvs++ns.map λn=>(n,L)) (vl L):=by
 have o:∀ n∈ns,n∉lvs.map (·.1):=λn f=>((hns n).mp f).2.1;have C:∀ n∈ns,n∈N:=λn f=>((hns n).mp f).1;have v:∀ l:List Str,sm (used (lvs++ns.map λn=>(n,L)) w) l=sm (used lvs w) l+vl L*sm (dlt w ns) l:=λl=>by
  rw[<- JeH];show JbL λq _=>Jf1 o q
 have F:∀ l:List Str,sm (left (lvs++ns.map λn=>(n,L)) w) l=sm (left lvs w) l+(-1)*sm (dlt w ns) l:=λl=>by
  rw[<- JeH];show JbL λq _=>Jfq o q
 have t:=λ(g:Gp)(i:g∈gs)=>sm_nn (Jel (lvs:=lvs) hw (hs g i));have r:∀ g∈gs, ¬ 0<sm (left lvs w) g.way->sm (left lvs w) g.way=0/\∀ q∈g.way,q∈lvs.map (·.1):=λg i z=>by
  have H:sm (left lvs w) g.way=0:=by have:=t g i;grind
  show(H,λq b=>Classical.byContradiction λy=>z ?_);show Jnm (Jel hw (hs g i)) b ?_;unfold left;rw[if_neg y];show hw q (hs g i q b)
 have key:∀ g∈gs,vl L*sm (left lvs w) g.way<=g.R-sm (used lvs w) g.way:=λg i=>by
  by_cases p:0<sm (left lvs w) g.way
  .show hL2 g i p
  .have:=h.cc g i;rw[(r g i p).1]at this ⊢;grind
 show(?_,?_,?_,?_,?_,?_,?_)
 .rw[Jbn];show nodup_append.mpr ⟨h.nd,hnd,λx j y G z=>o y G (z ▸ j)⟩
 .intro n f;rw[Jbn]at f;rcases mem_append.mp f with f | f
  .show h.sub n f
  .show C n f
 .show Rat.le_trans h.c0 hc
 .intro x j;rcases mem_append.mp j with j | j
  .have:=h.a x j;show(this.1,Rat.le_trans this.2.1 hc,this.2.2)
  .let(n,f,rfl):=mem_map.mp j;show(Rat.le_trans h.c0 hc,Rat.le_refl,hL1 n (C n f) (o n f))
 .intro n f k;rw[Jbn]at k;show hL1 n f λz=>k (mem_append.mpr (.inl z))
 .intro g i;rw[v,F];have:=key g i;grind
 .intro x j;rcases mem_append.mp j with j | j
  .rcases h.d x j with e | ⟨g,i,u,s,B,h4⟩
   .show .inl e
   .show .inr ⟨g,i,u,λq b=>?_,?_,λq b=>?_⟩
    .rw[Jbn];show mem_append.mpr (.inl (s q b))
    .rw[v,Jdg (a:=dlt w ns) λq b=>if_neg λz=>o q z (s q b)];grind
    .rw[Jfr (s q b)];show h4 q b
  .let(n,f,rfl):=mem_map.mp j;obtain⟨D,E,e | ⟨g,i,u,s,B⟩⟩:=(hns n).mp f
   .show .inl e.symm
   .have m:∀ q∈g.way,q∉lvs.map (·.1)->q∈ns:=λq b A=>(hns q).mpr ⟨hs g i q b,A, .inr ⟨g,i,b,s,B⟩⟩;show .inr ⟨g,i,u,λq b=>?_,?_,λq b=>?_⟩
    .rw[Jbn];by_cases y:q∈lvs.map (·.1)
     .show mem_append.mpr (.inl y)
     .show mem_append.mpr (.inr (m q b y))
    .have e:sm (dlt w ns) g.way=sm (left lvs w) g.way:=JbL λq b=>by
      unfold dlt left;by_cases y:q∈lvs.map (·.1)
      .rw[if_neg λz=>o q z y,if_pos y]
      .rw[if_pos (m q b y),if_neg y]
     rw[v,e];grind
    .by_cases y:q∈lvs.map (·.1)
     .rw[Jfr y];let(x,j,rfl):=mem_map.mp y;rw[Jep h.nd j];show Rat.le_trans (h.a x j).2.1 hc
     .rw[JgU y (m q b y)];show Rat.le_refl
theorem RInv.le(h:RInv N w M gs lvs c)(hL:(∃ n∈N,n∉lvs.map (·.1)/\M n=vl L)\/∃ g∈gs,0<sm (left lvs w) g.way/\vl L*sm (left lvs w) g.way=g.R-sm (used lvs w) g.way):c<=vl L:=by
 rcases hL with⟨n,hn,hS,e⟩ | ⟨g,hg,p,e⟩
 .rw[<- e];show h.b n hn hS
 .have:=h.cc g hg;rw[<- e]at this;show(scaled p).mp this
theorem RInv.fair(h:RInv N w M gs lvs c)(hw:∀ n∈N,0<w n)(hs:∀ g∈gs, ∀ n∈g.way,n∈N)(hall:∀ n∈N,n∈lvs.map (·.1)):Fair N w M gs (lvv lvs):=by
 have f:∀ n∈N, ∃ x∈lvs,x.1=n/\lvv lvs n=vl x.2:=λn i=>by
  let(x,b,e):=mem_map.mp (hall n i);have e:x.1=n:=e;show(x,b,e,by rw[<- e];show Jep h.nd b)
 show(λn i=>?_,λn i=>?_,λg j=>?_,λn i=>?_)
 .let(x,b,_,e):=f n i;rw[e];show(h.a x b).1
 .let(x,b,k,e):=f n i;rw[e, <- k];show(h.a x b).2.2
 .have:=h.cc g j;rw[Jdg (a:=left lvs w) λq l=>if_pos (hall q (hs g j q l))]at this;show sm (used lvs w) g.way<=_;grind
 .let(x,b,k,e):=f n i;rcases h.d x b with q | ⟨g,j,h1,_,h3,h4⟩
  .show .inl (by rw[e,q,k])
  .show .inr ⟨g,j,k ▸ h1,?_,λq l=>?_⟩
   .show sm (used lvs w) g.way=_;grind
   .rw[e];show h4 q l
end
def Dv(D:Int)(r:Rat):Prop:=∃ k:Int,r*(D:Rat)=(k:Rat)
section
variable{E:Int}{r:Rat}{D:Int}{s:Rat}
theorem Dv.int(k:Int):Dv D (k:Rat):=⟨k*D,by push_cast;rfl⟩
theorem Dv.add(h:Dv D r)(k:Dv D s):Dv D (r+s):=by
 let(a,c):=h;let(b,d):=k;show(a+b,by push_cast;grind)
theorem Dv.sub(h:Dv D r)(k:Dv D s):Dv D (r-s):=by
 let(a,c):=h;let(b,d):=k;show(a-b,by push_cast;grind)
theorem Dv.mul(h:Dv D r)(k:Int):Dv D (r*(k:Rat)):=by
 let(a,b):=h;show(a*k,by push_cast;grind)
theorem Dv.more(h:Dv D r)(k:Int):Dv (D*k) r:=by
 let(a,b):=h;show(a*k,by push_cast;grind)
theorem Dv.over{k:Int}(hk:1<=k)(h:Dv D (r*(k:Rat))):Dv (D*k) r:=by
 let(a,b):=h;show(a,by push_cast;grind)
theorem Dv.den{t:Int × Int}(h:Dv D (vl t))(ht:1<=t.2)(hg:Mth.g t.1 t.2=1):t.2∣D:=by
 let(a,f):=h;have c:=JaK ht;have e:(t.1:Rat)*D=a*t.2:=by
  unfold vl at f;have : (t.1:Rat)=(t.1:Rat)/t.2*t.2:=by rw[Rat.div_mul_cancel c]
  rw[this];grind
 have e:t.1*D=a*t.2:=by exact_mod_cast e
 show Mth.JdG (a:=t.1) (b:=t.2) (d:=D) (Mth.Jcu hg) ⟨a,?_⟩;rw[e,Int.mul_comm]
theorem Dv.fb{t:Int × Int}{m n:Nat}{Q:Int}(h:Dv D (vl t))(ht:1<=t.2)(hg:Mth.g t.1 t.2=1)(hD:1<=D)(sD:Mth.Sz n D)(h0:0<=vl t)(h1:vl t<=(Q:Rat))(sQ:Mth.Sz m Q):FB (m+n) n t:=by
 have i:=h.den ht hg;have j:t.2<=D:=Int.le_of_dvd ∅ i;have c:Mth.Sz n t.2:=Nat.lt_of_le_of_lt (by ac_nf:t.2.natAbs<=D.natAbs) sD;have f:=JaK ht;have a:(0:Rat)<(t.2:Rat):=by exact_mod_cast (show 0<t.2 by ac_nf)
 have e:(t.1:Rat)=vl t*t.2:=by unfold vl;rw[Rat.div_mul_cancel f]
 have b:(0:Rat)<=(t.1:Rat):=by rw[e];show Rat.mul_nonneg h0 (Rat.le_of_lt a)
 have d:(t.1:Rat)<=(Q:Rat)*t.2:=by rw[e];show Rat.mul_le_mul_of_nonneg_right h1 (Rat.le_of_lt a)
 have b:0<=t.1:=by exact_mod_cast b
 have d:t.1<=Q*t.2:=by exact_mod_cast d
 show(Nat.lt_of_le_of_lt (?_:t.1.natAbs<=(Q*t.2).natAbs) (sQ.mul c),c,ht,hg);ac_nf
end
theorem JlC(rel:KV kvs vs):vs.map (·.1)=kvs.map (·.1):=by
 unfold KV at rel;induction rel with
 | nil=>rfl
 | cons h1 _ ih=>rw[map_cons,map_cons,ih,h1.1]
theorem JlA{w:World}{v:Value}(h:(Jaw P w).is (Sum.inr z) v=true):∃ t,v=.str z t:=by
 rcases JaP (show keyIs (Sum.inr z) v=true from h)with⟨b,hb,_⟩ | ⟨y,t,hy,rfl⟩
 .cases hb
 .cases hy;show(t,rfl)
def Itk(d:Addr)(od:Obj)(kvs:List (Key × V))(ss:List Str):It :=
 ⟨λi H=>H d=some (.frz od (.dK kvs))/\i<ss.length,λi H x H'=>H'=H/\(ss.map V.str)[i]?=some x,λi H=>H d=some (.frz od (.dK kvs))/\ss.length<=i⟩
variable{ss:List Str}
theorem JjR{w:World}{K:W.Frag}(rel:KV kvs vs)(hk:kvs.map (·.1)=ss.map Sum.inr)(hd:∀ h:Heap,h.get? d=some od->h.DictAt (Jaw P w) d vs ep) :
  Turn P w K tg (Itk d od kvs ss) [it] it (λi h=>h.IsKeyIter it d i vs.length ep) where
 mem:=by simp
 obj:=λi h a b l=>by
  obtain rfl:b=it:=by simpa using l
  let(o,e,c,z):=a;show(o,e,λv q=>by rw[z]at q;cases q)
 keep:=λi h y a k=>a.at λo e=>k it (by simp) o e
 item:=by
  intro X C M B O i f s σ H E I u a G;subst C M B;let(j,J):=G;let(A,L,T,F,D,N):=u it (by simp);have g:=(I.hok d _ j).1;have U:=rel.length;have Q:kvs.length=ss.length:=by simpa using congrArg List.length hk
  obtain⟨⟨k,Y⟩,r⟩:∃ p,vs[i]?=some p:=⟨_,List.getElem?_eq_getElem (show i<vs.length by ac_nf)⟩;have x:(vs.map (·.1))[i]?=some k:=by rw[List.getElem?_map,r];rfl
  rw[JlC rel,hk,List.getElem?_map,List.getElem?_eq_getElem J]at x;have x:Sum.inr ss[i]=k:=Option.some.inj x;subst x;show wpAny_pyNext_dict_item a (hd _ g) r λkey y n m S=>?_;let(t,rfl):=JlA n;have I1:Inv X f σ H { s with heap:=y }:=I.turned (t':=s.toks) (λb o l e=>(S.2 b l).trans e) A L F D N;let(o,e,c,z):=id m;show(_,rfl,go_of (s:={ s with heap:=y }) e c z ⋯ ⟨.str ss[i],H,I1,⟨t,rfl⟩,⟨rfl,by rw[List.getElem?_map,List.getElem?_eq_getElem J];rfl⟩,m,λb l=>(u b l).1⟩)
 done:=by
  intro X C M B O i f s σ H E I u a G;subst C M B;let(j,J):=G;let(A,L,T,F,D,N):=u it (by simp);have g:=(I.hok d _ j).1;have U:=rel.length;have Q:kvs.length=ss.length:=by simpa using congrArg List.length hk
  show wpAny_pyNext_dict_end (I.ok.hd O) a (hd _ g) (List.getElem?_eq_none ∅) λy R=>⟨rfl,I.turned (t':=s.toks) (λb o l e=>R b o l e) A L F D N⟩
 self:=λ_ _ _ _ _ a h=>wpAny_pyIter_keyiter a h
def iKeys(td:TE):TI:=λσ H R=>td σ H λx H1=>∃(d:Addr)(kvs:List (Key × V))(ss:List Str),x=.ref d/\H1 d=some (.dK kvs)/\kvs.map (·.1)=ss.map Sum.inr/\∀ od,R (Itk d od kvs ss) (upd H1 d (.frz od (.dK kvs)))
variable{o:Expr}
theorem Jjg{td:TE}(ho:PE X o td):PI X tg o (iKeys td):=by
 intro a s σ H R I h;show thn (ho a s σ H _ I h) λv g ζ=>?_;let(y,A,I1,t,d,kvs,B,p,e,n,r):=ζ;subst p;obtain rfl:v=Value.ref d:=t;let(C,l,vs,i,x):=dk_of I1.hok e;let(ep,j):=x.dictAt;let(k,u,c,rest):=id j;show wpAny_pyIter_dict (knd:=Jaw X.prog X.w) (d:=d) (kvs:=vs) (ep:=ep) l j ?_;have m:∀ b o,g.heap.get? b=some o->(g.heap.push { cls:=.type "dict_keyiterator",data:=.fields #[.ref d, .int 0 0, .int vs.length 0, .int ep 0] }).get? b=some o:=λb o z=>Heap.get?_push_of_some _ z;have I2:=(I1.freeze e c).kept (t':=g.toks) m;show(_,[_],_,_,_,rfl,I2,JjR (vs:=vs) (ep:=ep) i n (λh q=>⟨k,u,q,rest⟩),⟨_,Heap.get?_push_size _ rfl,rfl,rfl⟩,λb f=>?_,r k);obtain rfl:=mem_singleton.mp f;show I1.fpOk (Nat.le_refl _) ((I1.freeze e c).hok.fresh (Nat.le_refl _))
def Jk8(ts:TS):TS:=λD σ H=>∃ d kvs,H d=some (.dK kvs)/\ts { nx:=λσ' H'=>∃ od kvs',H' d=some (.frz od (.dK kvs'))/\D.nx σ' (upd H' d (.dK kvs')),rt:=λ_ _=>False } σ H
variable{st:Stmt}
theorem Jl7(h:PS X st ts):PS X st (Jk8 ts):=by
 intro b s σ H D I ⟨d,g,i,q⟩;show wpAny_mono (h b s σ H _ I q) (λf l z=>?_) λ_ _ z=>z;cases f with
 | next=>
  let(σ',c,I1,k,e,j,a):=z;show(σ',_,I.thaw i I1 j,a)
 | brk=>let(σ',c,I1,a):=z;show a.elim
 | cont=>let(σ',c,I1,a):=z;show a.elim
 | ret v=>let(y,σ',c,I1,r,a):=z;show a.elim
theorem ps_no:PS X st (λ_ _ _=>False):=λ_ _ _ _ _ _ h=>h.elim
def tSumV(td:TE):TE:=λσ H Q=>td σ H λx H1=>∃(d:Addr)(kvs:List (Key × V))(ns:List Int),x=.ref d/\H1 d=some (.dK kvs)/\kvs.map (·.2)=ns.map V.int/\Q (.int ns.sum) H1
theorem Jjk(ns:List Int):∀ k,k<=ns.length->preSum (λi=>ns.getD i 0) k=(ns.take k).sum
 | 0,_=>by simp[preSum]
 | k+1,h=>by
  rw[take_sum_succ ns k ∅, <- Jjk ns k ∅];rfl
theorem Jl2{td:TE}{p1:Pos}(hc:X.calm=true)(hx:x="sum")(hg:Gl X x)(hm:X.mg x=none)(hv:bootBuiltins x=some (.builtin "sum"))(ho:PE X o td)
  (hb:autoParam (attributeBase o "values" X.env (eval o X.env)=eval o X.env) Au) (hn:autoParam ((apos.endLine == cpos.line)=true) Au) :
  PE X (.Call (.Name x p1) [.Call (.Attribute o "values" apos) [] [] cpos] [] pos) (tSumV td):=by
 intro c s σ H Q I h;have U:x≠"__name__":=by rw[hx];decide
 have P:(x == ("__debug__" : Str))=false:=by rw[hx];decide
 show wpAny_Call_Name_kw (Jej I hg hm hv ?_ U P);show PyProof.Rows.callWith_builtin1 ?_ rfl rfl;show wpAny _ _ (spliced ((false,eval (.Call (.Attribute o "values" apos) [] [] cpos) X.env)::backTo pos (starEach [] X.env))) _ _ s;show Calls.spliced_cons ?_;show wpAny_Call_method0_late hb hn (thn (ho c s σ H _ I h) λv n ζ=>?_);let(y,J,I1,R,d,kvs,a,L,e,l,N):=ζ;subst L;obtain rfl:v=Value.ref d:=R;let(t,K,D):=Jgg I1 (.inl ⟨kvs, .inl e⟩);let(hz,_,m,g,C):=dk_of I1.hok e;show("dict","dict.values",PySem.F.plainAttrs_dict,PySem.F.slot_dict_values,PySem.F.type_dict_values,t,K,Calls.callWith_builtin rfl (PySem.evalArgs_none ?_));show call_meetsIn PySem.F.slot_dict_values t PySem.F.entry_dict_values (PySem.F.args_dict_values_1 _) (meets_dict_values (Jaw X.prog X.w) d D) ⟨⟨m,C⟩,?_⟩;show Calls.spliced_nil ?_;let(ep,p):=C.dictAt;have G:X.A.in1.handled=none:=by have:=I.ok.hd hc;simp[this]
 have B:d<n.heap.objs.size:=p.lt_size;have q:(n.heap.push { cls:=.type "dict_values",data:=.fields #[.ref d] }).objs.size=n.heap.objs.size+1:=Heap.size_push ..;show call_sum_walkG (wpAny_pyIter_values (knd:=Jaw X.prog X.w) (v:=n.heap.objs.size) (d:=d) (kvs:=m) (ep:=ep) ⟨_,Heap.get?_push_size _ rfl,rfl,rfl⟩ (p.push _) ?_);have lv:=g.length;have Z:a.length=kvs.length:=by simpa using(congrArg List.length l).symm
 show(_,_,_,_,_,_,λi=>a.getD i 0,rfl,Walks.dictValues (knd:=Jaw X.prog X.w) G _ d (by rw[q];show Nat.ne_of_lt (Nat.lt_succ_of_lt B)) m ep,⟨⟨_,Heap.get?_push_size _ rfl,rfl,rfl⟩,(p.push _).push _⟩,λb f=>?_,λi u T=>?_,λh' O t' k=>?_)
 .simp only[mem_cons,not_mem_nil,or_false]at f;show b<(Heap.push _ _).objs.size;rw[Heap.size_push];rcases f with rfl | rfl
  .show Nat.lt_succ_self _
  .rw[q];show Nat.lt_succ_of_lt (Nat.lt_succ_of_lt B)
 .let(V,r):=T;have E:=JjV g;have M:(m.map (·.2))[i]?=some u:=by rw[List.getElem?_map,r];rfl
  have W:i<kvs.length:=by
   have:=(List.getElem?_eq_some_iff.mp r).1;ac_nf
  let(Y,j,S):=E.get (i:=i) (x:=.int (a.getD i 0)) (by rw[l,List.getElem?_map,List.getElem?_eq_getElem (show i<a.length by ac_nf)];simp[List.getD_eq_getElem?_getD,List.getElem?_eq_getElem (show i<a.length by ac_nf)]);rw[M]at j;cases j;show S
 .rw[show m.length=a.length by ac_nf,Jjk a _ (Nat.le_refl _),take_of_length_le (Nat.le_refl _)];show(.int _,J,I1.kept (t':=O) (λb o z=>k b o (by simp only[mem_cons,not_mem_nil,or_false];have:=Heap.lt_size z;rw[q];show Nat.ne_of_lt (Nat.lt_succ_of_lt this)) (Heap.get?_push_of_some _ (Heap.get?_push_of_some _ z))),⟨_,rfl⟩,N)
section
variable{cs:List (Nat × Str)}{tl:TE}{tt:TT}{Q:VK}{k:Nat}{g:TG}{td:TE}
theorem y8dy:tSumV td σ H Q=td σ H λx H1=>∃(d:Addr)(kvs:List (Key × V))(ns:List Int),x=.ref d/\H1 d=some (.dK kvs)/\kvs.map (·.2)=ns.map V.int/\Q (.int ns.sum) H1:=rfl
theorem y38y:JeO k cs (iKeys td) g tt te σ H Q=td σ H λx H1=>∃(d1:Addr)(kvs1:List (Key × V))(ss:List Str),x=.ref d1/\H1 d1=some (.dK kvs1)/\kvs1.map (·.1)=ss.map Sum.inr/\∀ od,JcO (Itk d1 od kvs1 ss) k cs g tt te σ Q (upd H1 d1 (.frz od (.dK kvs1))):=rfl
theorem y39y:tThaw (JeO k cs (iKeys td) g tt te) σ H Q=∃ d kvs,H d=some (.dK kvs)/\td σ H λx H1=>∃(d1:Addr)(kvs1:List (Key × V))(ss:List Str),x=.ref d1/\H1 d1=some (.dK kvs1)/\kvs1.map (·.1)=ss.map Sum.inr/\∀ od,JcO (Itk d1 od kvs1 ss) k cs g tt te σ (λv H'=>∃ od kvs',H' d=some (.frz od (.dK kvs'))/\Q v (upd H' d (.dK kvs'))) (upd H1 d1 (.frz od (.dK kvs1))):=rfl
theorem JcO.keys(Pv:Nat->List V->Hp->Prop)(h0:Pv 0 [] H1)(hl:∀ i ys H',i<=ss.length->Pv i ys H'->H' d=some (.frz od (.dK kvs))/\ys.length<=sizeLine)
  (hs:∀ i z ys H2,ss[i]?=some z->Pv i ys H2->g (.str z) (List.replicate k none++JaM cs σ) H2 λσ4 H4=>tt σ4 H4 λb H5=>if b=true then te σ4 H5 λy H6=>Pv (i+1) (ys++[y]) H6 else Pv (i+1) ys H5) (hd:∀ ys H2,Pv ss.length ys H2->∀ p,H2 p=none->Q (.ref p) (upd H2 p (.lst ys))) :
  JcO (Itk d od kvs ss) k cs g tt te σ Q H1:=by
 show(λi m ys H'=>Pv i ys H'/\i<=ss.length/\m=ss.length-i,⟨_,h0,Nat.zero_le _,rfl⟩,?_);rintro i m ys H2 ⟨h,r,rfl⟩;let(l,t):=hl i ys H2 r h;show(t,?_);by_cases c:i<ss.length
 .show .inr ⟨⟨l,c⟩,?_⟩;rintro x u ⟨rfl,j⟩;rw[List.getElem?_map]at j;let(z,o,rfl):=Option.map_eq_some_iff.mp j;have w:∀(f:List V)(H5:Hp),Pv (i+1) f H5=∃ m',m'<ss.length-i/\Pv (i+1) f H5/\i+1<=ss.length/\m'=ss.length-(i+1):=λf H5=>
   propext ⟨λq=>⟨_,Nat.sub_lt_sub_left c (Nat.lt_succ_self i),q,c,rfl⟩,λζ=>by let(_,_,q,_):=ζ;show q⟩
  have s:(λ(y:V)(H6:Hp)=>Pv (i+1) (ys++[y]) H6)=λy H6=>∃ m',m'<ss.length-i/\Pv (i+1) (ys++[y]) H6/\i+1<=ss.length/\m'=ss.length-(i+1):=by
   funext y H6
   show w _ _
  have e:(λ(σ4:St)(H4:Hp)=>tt σ4 H4 λb H5=>if b=true then te σ4 H5 λy H6=>Pv (i+1) (ys++[y]) H6 else Pv (i+1) ys H5)=λσ4 H4=>tt σ4 H4 λb H5=>if b=true then te σ4 H5 λy H6=>∃ m',m'<ss.length-i/\Pv (i+1) (ys++[y]) H6/\i+1<=ss.length/\m'=ss.length-(i+1)else∃ m',m'<ss.length-i/\Pv (i+1) ys H5/\i+1<=ss.length/\m'=ss.length-(i+1):=by
   funext σ4 H4
   congr 1
   funext b H5
   by_cases a:b=true
   .rw[if_pos a,if_pos a, <- s]
   .rw[if_neg a,if_neg a];show w ys H5
  have:=hs i z ys _ o h;rw[e]at this;show this
 .have n:i=ss.length:=by ac_nf
  subst n;show .inl ⟨⟨l,Nat.le_refl _⟩,hd ys H2 h⟩
theorem y90y:Jk8 ts En σ H=∃ d kvs,H d=some (.dK kvs)/\ts { nx:=λσ' H'=>∃ od kvs',H' d=some (.frz od (.dK kvs'))/\En.nx σ' (upd H' d (.dK kvs')),rt:=λ_ _=>False } σ H:=rfl
theorem DGet.f{a:Addr}{k:Key}(e:H a=some (.frz od (.dK kvs))):DGet H a (kV k) (valV kvs k):=.inl ⟨kvs,k, .inr ⟨od,e⟩,rfl,rfl⟩
end
def mulF(a c:Int × Int):Int × Int:=(Mth.top (a.1*c.1) (a.2*c.2),Mth.bot (a.1*c.1) (a.2*c.2))
def divF(a c:Int × Int):Int × Int:=(Mth.top (a.1*c.2) (a.2*c.1),Mth.bot (a.1*c.2) (a.2*c.1))
def subF(a c:Int × Int):Int × Int:=(Mth.top (a.1*c.2-c.1*a.2) (a.2*c.2),Mth.bot (a.1*c.2-c.1*a.2) (a.2*c.2))
structure Lo(a:Int × Int):Prop where
 b1:1<=a.2
 g1:Mth.g a.1 a.2=1
variable{a:Int × Int}
theorem FB.lo(h:FB A B a):Lo a:=⟨h.b1,h.g1⟩
variable{c:Int × Int}
theorem Lo.inj(h:Lo a)(k:Lo c)(e:vl a=vl c):a=c:=Jlc h.b1 k.b1 h.g1 k.g1 e
theorem JiZ{t b:Int}(hb:1<=b):Lo (Mth.top t b,Mth.bot t b):=⟨Mth.JcS ∅,Mth.g_low ∅⟩
theorem Jcq{x y:Int}(hx:1<=x)(hy:1<=y):1<=x*y:=by
 have:=Int.mul_pos (show 0<x by ac_nf) (show 0<y by ac_nf);ac_nf
theorem Jld(ha:1<=a.2)(hc:1<=c.2):vl (mulF a c)=vl a*vl c:=by
 unfold mulF;rw[JgH (Jcq ha hc)];have d:=JaK ha;have b:=JaK hc;unfold vl;push_cast;generalize(a.1:Rat)=x at *;generalize(a.2:Rat)=y at *;generalize(c.1:Rat)=z at *;generalize(c.2:Rat)=t at *;grind
theorem Jlb(ha:1<=a.2)(hc:1<=c.1)(hd:1<=c.2):vl (divF a c)=vl a/vl c:=by
 unfold divF;rw[JgH (Jcq ha hc)];have d:=JaK ha;have b:=JaK hc;have e:=JaK hd;unfold vl;push_cast;generalize(a.1:Rat)=x at *;generalize(a.2:Rat)=y at *;generalize(c.1:Rat)=z at *;generalize(c.2:Rat)=t at *;grind
theorem Jns(ha:1<=a.2)(hc:1<=c.2):vl (subF a c)=vl a-vl c:=by
 unfold subF;rw[JgH (Jcq ha hc)];have d:=JaK ha;have b:=JaK hc;unfold vl;push_cast;generalize(a.1:Rat)=x at *;generalize(a.2:Rat)=y at *;generalize(c.1:Rat)=z at *;generalize(c.2:Rat)=t at *;grind
theorem Jfs(ha:1<=a.2)(hc:1<=c.2):Lo (mulF a c):=JiZ (Jcq ha hc)
theorem Jls(ha:1<=a.2)(hc:1<=c.1):Lo (divF a c):=JiZ (Jcq ha hc)
theorem Jmk(ha:1<=a.2)(hc:1<=c.2):Lo (subF a c):=JiZ (Jcq ha hc)
theorem JgG(k:Int):vl (k,1)=(k:Rat):=by
 unfold vl;have : ((1:Int):Rat)=1:=rfl;grind
theorem Jht:vl (0,1)=0:=JgG 0
structure LidD where
 nm:Str
 rest:Int × Int
 ws:List (Str × Int)
 load:Int
 last:Int × Int
def wtOf(ws:List (Str × Int))(n:Str):Option Int:=(ws.find? λx=>decide (x.1=n)).map (·.2)
def LidD.settle(e:LidD)(n:Str)(L:Int × Int):LidD:=match wtOf e.ws n with
 | none=>e
 | some k=>{ e with rest:=subF e.rest (mulF L (k,1)),load:=e.load-k,last:=L }
variable{ws:List (Str × Int)}
theorem Jhu:wtOf ws n=none↔n∉ws.map (·.1):=by
 unfold wtOf;rw[Option.map_eq_none_iff,List.find?_eq_none];constructor
 .intro h z;let(x,a,e):=mem_map.mp z;have:=h x a;simp[e]at this
 .intro h x a;have : x.1≠n:=λz=>h (mem_map.mpr ⟨x,a,z⟩);simpa using this
theorem Jj0{k:Int}(h:wtOf ws n=some k):(n,k)∈ws:=by
 unfold wtOf at h;let(x,b,e):=Option.map_eq_some_iff.mp h;have d:=List.mem_of_find?_eq_some b;have c:=List.find?_some b;have a:x.1=n:=by simpa using c
 let(y,z):=x;have e:z=k:=e;have a:y=n:=a;subst e;subst a;show d
structure LidOk(w:Str->Rat)(g:Gp)(lvs:List (Str × (Int × Int)))(e:LidD):Prop where
 pm:(e.ws.map (·.1)).Perm g.way
 nd:(e.ws.map (·.1)).Nodup
 wt:∀ x∈e.ws,w x.1=(x.2:Rat)/\1<=x.2
 rest:vl e.rest=g.R-sm (used lvs w) g.way
 load:(e.load:Rat)=sm (left lvs w) g.way
 low:Lo e.rest
 llow:Lo e.last
 l1:∀ n∈g.way,n∈lvs.map (·.1)->lvv lvs n<=vl e.last
 l2:(∃ n∈g.way,n∈lvs.map (·.1))->∃ n∈g.way,n∈lvs.map (·.1)/\lvv lvs n=vl e.last
theorem Jk1{w:Str->Rat}{m:Str}:∀{l:List Str},l.Nodup->sm (dlt w [m]) l=if m∈l then w m else 0
 | [],_=>by simp[sm]
 | n::l,h=>by
  rw[nodup_cons]at h;simp only[sm,Jk1 h.2];unfold dlt;by_cases c:n=m
  .subst c;rw[if_neg h.1];simp;grind
  .have c':m≠n:=λz=>c z.symm;simp only[mem_singleton,mem_cons,c,c',false_or,if_false];grind
section
variable{lvs:List (Str × (Int × Int))}{e:LidD}{L:Int × Int}{w:Str->Rat}{g:Gp}{m:Str}
theorem LidOk.settle(h:LidOk w g lvs e)(hnd:(lvs.map (·.1)).Nodup)(hm:m∉lvs.map (·.1))(hL:Lo L)(hle:∀ x∈lvs,vl x.2<=vl L):LidOk w g (lvs++[(m,L)]) (e.settle m L):=by
 have u:∀ n∈[m],n∉lvs.map (·.1):=λn d=>by rw[mem_singleton.mp d];show hm
 have t:g.way.Nodup:=h.pm.nodup_iff.mp h.nd;have l:sm (used (lvs++[(m,L)]) w) g.way=sm (used lvs w) g.way+vl L*sm (dlt w [m]) g.way:=by
  rw[<- JeH];show JbL λq _=>Jf1 (ns:=[m]) u q
 have o:sm (left (lvs++[(m,L)]) w) g.way=sm (left lvs w) g.way+(-1)*sm (dlt w [m]) g.way:=by
  rw[<- JeH];show JbL λq _=>Jfq (ns:=[m]) u q
 have f:(lvs++[(m,L)]).map (·.1)=lvs.map (·.1)++[m]:=Jbn (ns:=[m]);have j:∀ n∈lvs.map (·.1),lvv (lvs++[(m,L)]) n=lvv lvs n:=λn d=>Jfr (ns:=[m]) d;have p:lvv (lvs++[(m,L)]) m=vl L:=JgU (ns:=[m]) hm (by simp);rw[Jk1 t]at l o;unfold LidD.settle;cases hw:wtOf e.ws m with
 | none=>
  have r:m∉g.way:=λz=>(Jhu.mp hw) (h.pm.mem_iff.mpr z);rw[if_neg r]at l o;show(h.pm,h.nd,h.wt,?_,?_,h.low,h.llow,λn d b=>?_,λ⟨n,d,b⟩=>?_)
  .rw[l,h.rest];grind
  .rw[o,h.load];grind
  .rw[f]at b;rcases mem_append.mp b with b | b
   .rw[j n b];show h.l1 n d b
   .rw[mem_singleton.mp b]at d;show absurd d r
  .rw[f]at b;rcases mem_append.mp b with b | b
   .let(q,D,B,E):=h.l2 ⟨n,d,b⟩;show(q,D,by rw[f];show mem_append.mpr (.inl B),by rw[j q B];show E)
   .rw[mem_singleton.mp b]at d;show absurd d r
 | some k=>
  have i:=Jj0 hw;have v:m∈g.way:=h.pm.mem_iff.mp (mem_map.mpr ⟨_,i,rfl⟩);have C:=h.wt _ i;have s:w m=(k:Rat):=C.1;rw[if_pos v,s]at l o;have A:=Jfs (a:=L) (c:=(k,1)) hL.b1 (Int.le_refl 1);show(h.pm,h.nd,h.wt,?_,?_,Jmk h.low.b1 A.b1,hL,λn d b=>?_,λ_=>⟨m,v,by rw[f];simp,p⟩)
  .show vl (subF e.rest (mulF L (k,1)))=_;rw[Jns h.low.b1 A.b1,Jld hL.b1 (Int.le_refl 1),JgG,l,h.rest];grind
  .show((e.load-k:Int):Rat)=_;rw[o, <- h.load];push_cast;grind
  .rw[f]at b;rcases mem_append.mp b with b | b
   .rw[j n b];let(x,y,rfl):=mem_map.mp b;rw[Jep hnd y];show hle x y
   .rw[mem_singleton.mp b,p];show Rat.le_refl
end
structure SInv(N:List Str)(w:Str->Rat)(gs:List Gp)(lvs:List (Str × (Int × Int)))(L:Int × Int):Prop where
 nd:(lvs.map (·.1)).Nodup
 sub:∀ n∈lvs.map (·.1),n∈N
 a:∀ x∈lvs,0<=vl x.2/\vl x.2<=vl L
 L0:0<=vl L
 cc:∀ g∈gs,vl L*sm (left lvs w) g.way<=g.R-sm (used lvs w) g.way
section
variable{N:List Str}{gs:List Gp}{lvs:List (Str × (Int × Int))}{L:Int × Int}{w:Str->Rat}{m:Str}
theorem SInv.step(h:SInv N w gs lvs L)(hg:∀ g∈gs,g.way.Nodup)(hm:m∈N)(hn:m∉lvs.map (·.1)):SInv N w gs (lvs++[(m,L)]) L:=by
 have f:∀ n∈[m],n∉lvs.map (·.1):=λn b=>by rw[mem_singleton.mp b];show hn
 have d:(lvs++[(m,L)]).map (·.1)=lvs.map (·.1)++[m]:=Jbn (ns:=[m]);show(?_,λn b=>?_,λx c=>?_,h.L0,λg e=>?_)
 .rw[d];show nodup_append.mpr ⟨h.nd,by simp,λx c y j z=>hn (by rw[mem_singleton.mp j]at z;rw[<- z];show c)⟩
 .rw[d]at b;rcases mem_append.mp b with q | q
  .show h.sub n q
  .rw[mem_singleton.mp q];show hm
 .rcases mem_append.mp c with c | c
  .show h.a x c
  .rw[mem_singleton.mp c];show(h.L0,Rat.le_refl)
 .have k:sm (used (lvs++[(m,L)]) w) g.way=sm (used lvs w) g.way+vl L*sm (dlt w [m]) g.way:=by
   rw[<- JeH];show JbL λq _=>Jf1 (ns:=[m]) f q
  have i:sm (left (lvs++[(m,L)]) w) g.way=sm (left lvs w) g.way+(-1)*sm (dlt w [m]) g.way:=by
   rw[<- JeH];show JbL λq _=>Jfq (ns:=[m]) f q
  have:=h.cc g e;rw[k,i];grind
theorem SInv.range(h:SInv N w gs lvs L)(hw:∀ n∈N,0<w n)(hs:∀ g∈gs, ∀ n∈g.way,n∈N){g:Gp}(hg:g∈gs):0<=g.R-sm (used lvs w) g.way/\g.R-sm (used lvs w) g.way<=g.R:=by
 have i:=h.cc g hg;have d:=sm_nn (Jel (lvs:=lvs) hw (hs g hg));have f:=Rat.mul_nonneg h.L0 d;have j:0<=sm (used lvs w) g.way:=sm_nn λq e=>by
  unfold used;show Rat.mul_nonneg ?_ (Rat.le_of_lt (hw q (hs g hg q e)));by_cases c:q∈lvs.map (·.1)
  .let(x,b,rfl):=mem_map.mp c;rw[Jep h.nd b];show(h.a x b).1
  .rw[Jcw c];show Rat.le_refl
 grind
end
theorem Dv.sm{D:Int}{a:Str->Rat}:∀{l:List Str},(∀ q∈l,Dv D (a q))->Dv D (L2.sm a l)
 | [],_=>Dv.int 0
 | n::l,h=>(h n (by simp)).add (Dv.sm (l:=l) λq hq=>h q (by simp[hq]))
variable{lvs:List (Str × (Int × Int))}
theorem JiL{D:Int}{b:Rat}{w:Str->Rat}{g:Gp}(hR:Dv D (g.R/b))(hw:∀ n∈g.way, ∃ k:Int,w n=(k:Rat))(hl:∀ x∈lvs,Dv D (vl x.2/b))(hnd:(lvs.map (·.1)).Nodup):Dv D ((g.R-sm (used lvs w) g.way)/b):=by
 have e:(g.R-sm (used lvs w) g.way)/b=g.R/b-sm (λn=>lvv lvs n/b*w n) g.way:=by
  have : sm (used lvs w) g.way/b=sm (λn=>lvv lvs n/b*w n) g.way:=by
   generalize g.way=l;induction l with
   | nil=>simp only[sm];grind
   | cons n l ih=>
    simp only[sm, <- ih];unfold used;grind
  rw[<- this];grind
 rw[e];show hR.sub (Dv.sm λq f=>?_);let(k,d):=hw q f;rw[d];show Dv.mul ?_ k;by_cases c:q∈lvs.map (·.1)
 .let(x,a,rfl):=mem_map.mp c;rw[Jep hnd a];show hl x a
 .rw[Jcw c];have : (0:Rat)/b=((0:Int):Rat):=by
   show(0:Rat)/b=0;grind
  rw[this];show Dv.int 0
variable{b:Int}
theorem Dv.up{D:Int}{r:Rat}(hb:1<=b)(h:Dv D (r/(b:Rat))):Dv D r:=by
 have:=h.mul b
 rwa [Rat.div_mul_cancel (JaK hb)]at this
def wsK(ws:List (Str × Int)):List (Key × V):=ws.map λp=>(Sum.inr p.1, .int p.2)
theorem Jhr(n:Str):∀ ws:List (Str × Int),valV (wsK ws) (Sum.inr n)=(wtOf ws n).map V.int
 | []=>rfl
 | x::ws=>by
  have ih:=Jhr n ws;unfold wsK wtOf at ih ⊢;rw[map_cons,List.find?_cons];by_cases c:x.1=n
  .rw[Jbl (by rw[c]),decide_eq_true c];rfl
  .rw[Jbq (λz=>c (by injection z)),decide_eq_false c];show ih
theorem JkE(ws:List (Str × Int)):(wsK ws).map (·.1)=(ws.map (·.1)).map Sum.inr:=by
 unfold wsK;rw[map_map,map_map];rfl
theorem JkF(ws:List (Str × Int)):(wsK ws).map (·.2)=(ws.map (·.2)).map V.int:=by
 unfold wsK;rw[map_map,map_map];rfl
theorem JhN:∀(ps acc:List (Str × V)),((acc++ps).map (·.1)).Nodup->ps.foldl (λl p=>putK l (Sum.inr p.1) p.2) (acc.map λp=>((Sum.inr p.1:Key),p.2))=(acc++ps).map λp=>((Sum.inr p.1:Key),p.2)
 | [],acc,_=>by simp
 | p::ps,acc,h=>by
  have ea:acc++p::ps=(acc++[p])++ps:=by simp
  rw[List.foldl_cons];have nn:valV (acc.map λp=>((Sum.inr p.1:Key),p.2)) (Sum.inr p.1)=none:=by
   cases e:valV (acc.map λp=>((Sum.inr p.1:Key),p.2)) (Sum.inr p.1)with
   | none=>rfl
   | some v=>
    have:=JiW.mp (show(valV (acc.map λp=>((Sum.inr p.1:Key),p.2)) (Sum.inr p.1)).isSome=true by rw[e];rfl);rw[map_map]at this;let(q,hq,eq):=mem_map.mp this;have eq:(Sum.inr q.1:Key)=Sum.inr p.1:=eq;have eq:q.1=p.1:=by injection eq
    rw[map_append,map_cons,nodup_append]at h;show absurd rfl (h.2.2 p.1 (mem_map.mpr ⟨q,hq,eq⟩) p.1 (by simp))
  rw[Jkt p.2 nn];have : (acc.map λp=>((Sum.inr p.1:Key),p.2))++[(Sum.inr p.1,p.2)]=(acc++[p]).map λp=>((Sum.inr p.1:Key),p.2):=by simp
  rw[this,JhN ps (acc++[p]) (by rw[<- ea];show h),ea]
theorem Jje{ps:List (Str × V)}(h:(ps.map (·.1)).Nodup):JdW ps=ps.map λp=>((Sum.inr p.1:Key),p.2):=by
 unfold JdW;show(JhN ps [] (by simpa using h)).trans (by rw[nil_append])
structure LoInv(n:Int × Int)(q:Int)(t:Int × Int):Prop where
 lo:Lo t
 cr:t.1*(n.2*q)=n.1*t.2
 le1:t.1.natAbs<=n.1.natAbs
 le2:t.2.natAbs<=n.2.natAbs*q.natAbs
variable{n:Int × Int}
theorem LoInv.nil(h:Lo n):LoInv n 1 n:=⟨h,by rw[Int.mul_one],Nat.le_refl _,by simp⟩
theorem LoInv.step{t:Int × Int}{f:Int}(h:LoInv n q t)(hf:1<=f):LoInv n (q*f) (t.1.fdiv (Mth.g t.1 f),t.2*f.fdiv (Mth.g t.1 f)):=by
 have w:0<Mth.g t.1 f:=Mth.g_pos ∅;have j:=Mth.JcP t.1 f;have c:=Mth.JbY t.1 f;have k:=Mth.JaO j ∅;have v:=Mth.JaO c ∅;have l:=Mth.Jc4 (b:=t.1) (d:=f) rfl ∅;have m:=Mth.Jcg c ∅ hf;have a:=Mth.Jef j ∅;have i:=Mth.Jef c ∅;have p:t.1.fdiv (Mth.g t.1 f)∣t.1:=⟨_,k.symm⟩;have u:Int.gcd (t.1.fdiv (Mth.g t.1 f)) t.2=1:=Mth.Jck (Mth.Jcu h.lo.g1) p;have e:=h.cr;have o:=h.lo.b1;generalize t.1.fdiv (Mth.g t.1 f)=r at *;generalize f.fdiv (Mth.g t.1 f)=f' at *;generalize Mth.g t.1 f=s at *;show(⟨Jcq o m,Mth.Jd3 (Mth.Jce u l)⟩,?_,?_,?_)
 .show r*(n.2*(q*f))=n.1*(t.2*f');have : r*(n.2*(q*f))=(t.1*(n.2*q))*f':=by
   rw[<- k, <- v];simp only[Int.mul_assoc,Int.mul_comm,Int.mul_left_comm]
  rw[this,e,Int.mul_assoc]
 .show Nat.le_trans a h.le1
 .show(t.2*f').natAbs<=n.2.natAbs*(q*f).natAbs;rw[Int.natAbs_mul,Int.natAbs_mul, <- Nat.mul_assoc];show Nat.mul_le_mul h.le2 i
theorem LoInv.vl{t:Int × Int}(h:LoInv n q t)(hn:1<=n.2)(hq:1<=q):vl t=vl n/(q:Rat):=by
 have i:=JaK hn;have f:=JaK h.lo.b1;have g:=JaK hq;have e:(t.1:Rat)*((n.2:Rat)*(q:Rat))=(n.1:Rat)*(t.2:Rat):=by exact_mod_cast h.cr
 unfold L2.vl;generalize(t.1:Rat)=a at *;generalize(t.2:Rat)=b at *;generalize(n.1:Rat)=c at *;generalize(n.2:Rat)=d at *;generalize(q:Rat)=q at *;grind
def stF(ms:List (Str × (Int × Int)))(lds:List LidD)(S:List Str):List ((Int × Int) × List Str) :=
 (ms.filter λm=>decide (m.1∉S)).map (λm=>(m.2,[m.1]))++(lds.filter λe=>decide (0<e.load)).map λe=>(divF e.rest (e.load,1),(e.ws.map (·.1)).filter λn=>decide (n∉S))
def StV(K:W.Frag)(H:Hp)(s:(Int × Int) × List Str)(x:V):Prop:=∃ t v l,x=.ref t/\SqT K H t [v, .ref l]/\FrV K H v s.1.1 s.1.2/\H l=some (.lst (s.2.map V.str))
variable{x:V}
theorem StV.same{K:W.Frag}{s:(Int × Int) × List Str}(S:Same H H'):StV K H s x->StV K H' s x:=by rintro⟨t,v,l,c,a,b,d⟩;show(t,v,l,c,a.same S,b.same S,S _ _ d)
def NFV(K:W.Frag)(H:Hp)(a:Str × (Int × Int))(x:V):Prop:=FrV K H x a.2.1 a.2.2
theorem NFV.sameT{K:W.Frag}{a:Str × (Int × Int)}(S:SameT H H')(h:NFV K H a x):NFV K H' a x:=FrV.sameT S h
def thw(d:Addr)(kv:List (Key × V))(H:Hp):Hp:=upd H d (.dK kv)
section
variable{a:Addr}{kv kw:List (Key × V)}{k:Key}
theorem JjN(h:H d=some (.dK kv)):thw d kv (upd H d (.frz od (.dK kv)))=H:=by
 funext b
 unfold thw;by_cases c:b=d
 .subst c;rw[Jak,h]
 .rw[Jah c,Jah c]
theorem Jf0(S:Same H H'):Same (thw d kv H) (thw d kv H'):=λb u h=>by
 unfold thw at h ⊢;by_cases c:b=d
 .subst c;rw[Jak]at h ⊢;show h
 .rw[Jah c]at h ⊢;show S _ _ h
theorem JjO(hd:H d=some (.frz od (.dK kv)))(ha:thw d kv H a=some (.dK kw)):DGet H a (kV k) (valV kw k):=by
 unfold thw at ha;by_cases c:a=d
 .subst c;rw[Jak]at ha;cases ha;show DGet.f hd
 .rw[Jah c]at ha;show DGet.k ha
theorem JfZ(hd:H d=some (.frz od (.dK kv)))(ha:H a=none):thw d kv H a=none:=by
 unfold thw;rw[Jah (λz=>by rw[z,hd]at ha;cases ha)];show ha
end
theorem StV.cut{K:W.Frag}{s:(Int × Int) × List Str}{p:Addr}(h:StV K (cut p H) s x):StV K H s x:=h.same Jdo
structure SHC(ls:List PD)(es:List (GD × List Str))(pl:Str->Int × Int):Prop where
 l12:ls.length<=12
 l7:es.length<=7
 l14:ls.length+es.length<=14
 nd:(ls.map (·.nm)).Nodup
 gn:∀ e∈es, ∀ u∈es.map (·.1),u.nm=e.1.nm->u=e.1
 pok:∀ p∈ls,POk p
 pb:∀ p∈ls,(1<=p.sz.2/\Mth.Sz 70 p.sz.2)/\FB 200 12 p.mo
 wt:∀ p∈ls,Mth.Sz 21 p.wt
 tok:∀ e∈es,TOk e.1.td
 gb:∀ e∈es,(1<=e.1.lo.2/\Mth.Sz 70 e.1.lo.2)/\1<=e.1.hi.2/\Mth.Sz 70 e.1.hi.2
 rb:∀ e∈es,FB 200 12 (roomF pl e.1)
 plb:∀ f,FB 302 161 (pl f)
 pls:∀ p∈ls,vl (pl p.en)=vl (pl p.st)+vl p.sz
 way:∀ e∈es, ∀ w:List Pr,JaL ls e.1.st w e.1.en->(w.map (·.1)).Nodup->e.2.Perm (w.map (·.1))
structure LSt(b:Int)(ls:List PD)(pl:Str->Int × Int)(e:GD × List Str)(l:LidD):Prop where
 nm:l.nm=e.1.nm
 rest:vl l.rest=vl (roomF pl e.1)*(b:Rat)
 fb:FB 2200 12 l.rest
 pm:(l.ws.map (·.1)).Perm e.2
 nd:(l.ws.map (·.1)).Nodup
 wt:∀ x∈l.ws, ∃ p∈ls,p.nm=x.1/\p.wt=x.2
 load:l.load=(l.ws.map (·.2)).sum
 last:l.last=(0,1)
structure MSt(b:Int)(p:PD)(m:Str × (Int × Int)):Prop where
 nm:m.1=p.nm
 vl:L2.vl m.2=L2.vl p.mo*(b:Rat)/(p.wt:Rat)
 fb:FB 2200 33 m.2
variable{kv:List (Key × V)}
theorem JhV{a:Addr}{u:HO}(hd:H d=some (.frz od (.dK kv)))(ha:H a=some u)(hu:∀ o w,u≠.frz o w):thw d kv H a=some u:=by
 unfold thw;rw[Jah (λz=>by rw[z,hd]at ha;cases ha;show hu _ _ rfl)];show ha
variable{β:Type}
theorem JhF:∀{ls:List (Str × β)}{p q:Str × β},(ls.map (·.1)).Nodup->p∈ls->q∈ls->p.1=q.1->p=q
 | [],_,_,_,hp,_,_=>by cases hp
 | a::ls,p,q,hn,hp,hq,e=>by
  rw[map_cons,nodup_cons]at hn;rcases mem_cons.mp hp with h1 | h1 <;> rcases mem_cons.mp hq with h2 | h2
  .rw[h1,h2]
  .subst h1;show absurd (e ▸ mem_map.mpr ⟨q,h2,rfl⟩) hn.1
  .subst h2;show absurd (e ▸ mem_map.mpr ⟨p,h1,rfl⟩) hn.1
  .show JhF hn.2 h1 h2 e
theorem BG.keysS{P:(Str × (Int × Int))->V->Prop}{as:List (Str × (Int × Int))}(h:BG (·.1) P as kvs):kvs.map (·.1)=(as.map (·.1)).map Sum.inr:=by
 rw[h.1,map_map];rfl
structure RC(b Q:Int)(N:List Str)(w M:Str->Rat)(gs:List Gp)(ms:List (Str × (Int × Int))):Prop where
 b1:1<=b
 nm:ms.map (·.1)=N
 nd:N.Nodup
 l12:N.length<=12
 wt:∀ n∈N, ∃ k:Int,w n=(k:Rat)/\1<=k/\Mth.Sz 21 k
 ml:∀ m∈ms,vl m.2=M m.1/\FB 2200 33 m.2/\0<=M m.1
 gw:∀ g∈gs,(∀ n∈g.way,n∈N)/\g.way.Nodup/\0<=g.R/\g.R<=(Q:Rat)
 mq:∀ n∈N,M n<=(Q:Rat)
 sQ:Mth.Sz 2200 Q
def LOks(w:Str->Rat)(lvs:List (Str × (Int × Int)))(gs:List Gp)(lds:List LidD):Prop:=lds.length=gs.length/\∀(i:Nat) g e,gs[i]?=some g->lds[i]?=some e->LidOk w g lvs e
structure RB(b:Int)(N:List Str)(w M:Str->Rat)(gs:List Gp)(k:Nat)(lvs:List (Str × (Int × Int)))(D:Int):Prop where
 D1:1<=D
 sD:Mth.Sz (230+25*k) D
 dl:∀ x∈lvs,Dv D (vl x.2/(b:Rat))
 dr:∀ g∈gs,Dv D (g.R/(b:Rat))
 dm:∀ n∈N,Dv D (M n/(b:Rat)*w n)
structure RSt(b:Int)(N:List Str)(w M:Str->Rat)(gs:List Gp)(lvs:List (Str × (Int × Int)))(lds:List LidD):Prop where
 inv:∃ L,RInv N w M gs lvs (vl L)
 ok:LOks w lvs gs lds
 bt:∃ D,RB b N w M gs lvs.length lvs D
 lo:∀ x∈lvs,Lo x.2
structure RMd(b:Int)(N:List Str)(w M:Str->Rat)(gs:List Gp)(L:Int × Int)(D:Int)(k:Nat)(lvs:List (Str × (Int × Int)))(lds:List LidD):Prop where
 inv:SInv N w gs lvs L
 ok:LOks w lvs gs lds
 bt:RB b N w M gs k lvs D
 k12:k<=12
 dL:Dv D (vl L/(b:Rat))
 fL:FB 3000 1000 L
section
variable{Q:Int}{N ns:List Str}{M:Str->Rat}{gs:List Gp}{ms:List (Str × (Int × Int))}{lds:List LidD}{L:Int × Int}{w:Str->Rat}{D:Int}{k:Nat}
theorem LOks.fwd(h:LOks w lvs gs lds){g:Gp}(hg:g∈gs):∃ e∈lds,LidOk w g lvs e:=by
 let(i,b):=List.getElem?_of_mem hg;have c:=(List.getElem?_eq_some_iff.mp b).1;have a:i<lds.length:=by rw[h.1];show c
 show(lds[i],List.getElem_mem a,h.2 i g _ b (List.getElem?_eq_getElem a))
theorem LOks.bwd(h:LOks w lvs gs lds){e:LidD}(he:e∈lds):∃ g∈gs,LidOk w g lvs e:=by
 let(i,b):=List.getElem?_of_mem he;have c:=(List.getElem?_eq_some_iff.mp b).1;have a:i<gs.length:=by rw[<- h.1];show c
 show(gs[i],List.getElem_mem a,h.2 i _ e (List.getElem?_eq_getElem a) b)
theorem RC.wpos(hc:RC b Q N w M gs ms):∀ n∈N,0<w n:=λn c=>by
 let(k,a,d,_):=hc.wt n c;rw[a];exact_mod_cast (show 0<k by ac_nf)
theorem RInv.s(h:RInv N w M gs lvs (vl L)):SInv N w gs lvs L:=⟨h.nd,h.sub,λx b=>⟨(h.a x b).1,(h.a x b).2.1⟩,h.c0,h.cc⟩
theorem Jhf(hc:RC b Q N w M gs ms)(hi:SInv N w gs lvs L)(hb:RB b N w M gs k lvs D)(k12:k<=13){g:Gp}(hg:g∈gs){e:LidD}(he:LidOk w g lvs e):FB 2800 600 e.rest:=by
 have a:=hi.range hc.wpos (λg hg=>(hc.gw g hg).1) hg;have c:=hc.gw g hg;have d:=(JiL (hb.dr g hg) (λn h=>by let(k,f,_):=hc.wt n (c.1 n h);show(k,f)) hb.dl hi.nd).up hc.b1;rw[<- he.rest]at d a;show d.fb (m:=2200) (n:=600) he.low.b1 he.low.g1 hb.D1 (hb.sD.mono ∅) a.1 (Rat.le_trans a.2 c.2.2.2) hc.sQ
theorem Jk2{a:Str->Rat}{B:Int}(hB:0<=B):∀{l:List Str}{n:Nat},(∀ q∈l,a q<=(B:Rat))->l.length<=n->sm a l<=((B*n:Int):Rat)
 | [],n,_,_=>by
  have : 0<=B*(n:Int):=Int.mul_nonneg hB ∅;simp only[sm];exact_mod_cast this
 | q::l,0,_,h=>by simp at h
 | q::l,n+1,h,hl=>by
  have h1:=h q (by simp);have h2:=Jk2 hB (l:=l) (n:=n) (λr hr=>h r (by simp[hr])) (by simpa using hl);have e:((B*((n+1:Nat):Int):Int):Rat)=(B:Rat)+((B*(n:Int):Int):Rat):=by
   have : B*((n+1:Nat):Int)=B+B*(n:Int):=by push_cast;rw[Int.mul_add,Int.mul_one,Int.add_comm]
   rw[this];push_cast;rfl
  simp only[sm];rw[e];grind
theorem JjZ(hc:RC b Q N w M gs ms){g:Gp}(hg:g∈gs):g.way.length<=12:=Nat.le_trans (sub_len _ _ (hc.gw g hg).2.1 (hc.gw g hg).1) hc.l12
theorem JgT(hc:RC b Q N w M gs ms){g:Gp}(hg:g∈gs){e:LidD}(he:LidOk w g lvs e):0<=e.load/\Mth.Sz 25 e.load:=by
 have d:=hc.gw g hg;have a:=sm_nn (Jel (lvs:=lvs) hc.wpos d.1);obtain⟨B,l⟩:∃ B:Int,B=2097152:=⟨_,rfl⟩;have B0:0<=B:=by ac_nf
 have c:sm (left lvs w) g.way<=((B*(12:Nat):Int):Rat):=Jk2 B0 (λq h=>by
  let(k,f,i,j):=hc.wt q (d.1 q h);have : k<=B:=by unfold Mth.Sz at j;ac_nf
  have : (k:Rat)<=(B:Rat):=by exact_mod_cast this
  unfold left;split
  .exact_mod_cast B0
  .rw[f];show this) (JjZ hc hg)
 rw[<- he.load]at a c;have a:0<=e.load:=by exact_mod_cast a
 have c:e.load<=B*(12:Nat):=Rat.intCast_le_intCast.mp c;show(a,?_);unfold Mth.Sz;ac_nf
theorem Jc1{s:(Int × Int) × List Str}:s∈stF ms lds S↔(∃ m∈ms,m.1∉S/\s=(m.2,[m.1]))\/∃ e∈lds,0<e.load/\s=(divF e.rest (e.load,1),(e.ws.map (·.1)).filter λn=>decide (n∉S)):=by
 unfold stF;rw[mem_append,mem_map,mem_map];constructor
 .rintro(⟨m,b,rfl⟩ | ⟨e,a,rfl⟩)
  .have:=mem_filter.mp b;show .inl ⟨m,this.1,by simpa using this.2,rfl⟩
  .have:=mem_filter.mp a;show .inr ⟨e,this.1,by simpa using this.2,rfl⟩
 .rintro(⟨m,b,h,rfl⟩ | ⟨e,a,h,rfl⟩)
  .show .inl ⟨m,mem_filter.mpr ⟨b,by simpa using h⟩,rfl⟩
  .show .inr ⟨e,mem_filter.mpr ⟨a,by simpa using h⟩,rfl⟩
theorem RSt.len(hc:RC b Q N w M gs ms)(h:RSt b N w M gs lvs lds):lvs.length<=N.length:=by
 let(L,a):=h.inv;have:=sub_len _ _ a.nd a.sub;simpa using this
theorem RSt.all(hc:RC b Q N w M gs ms)(h:RSt b N w M gs lvs lds)(hl:N.length<=lvs.length):∀ n∈N,n∈lvs.map (·.1):=by
 let(L,c):=h.inv;intro n d;show Classical.byContradiction λz=>?_;have:=sub_len (n::lvs.map (·.1)) N (nodup_cons.mpr ⟨z,c.nd⟩) (λq a=>by
  rcases mem_cons.mp a with e | a
  .rw[e];show d
  .show c.sub q a)
 simp at this;ac_nf
theorem RSt.lids(hc:RC b Q N w M gs ms)(h:RSt b N w M gs lvs lds):∀ e∈lds,FB 3000 1000 e.rest/\Mth.Sz 64 e.load/\e.ws.length<=12:=by
 intro e d;let(L,j):=h.inv;let(D,i):=h.bt;let(g,a,c):=h.ok.bwd d;have f:=Jhf hc j.s i (by have:=h.len hc;have:=hc.l12;ac_nf) a c;show(⟨f.s1.mono ⋯,f.s2.mono ⋯,f.b1,f.g1⟩,(JgT hc a c).2.mono ⋯,?_);have:=c.pm.length_eq;rw[length_map]at this;rw[this];show JjZ hc a
theorem RSt.some(hc:RC b Q N w M gs ms)(h:RSt b N w M gs lvs lds)(hl:lvs.length<N.length):stF ms lds (lvs.map (·.1))≠[]:=by
 intro z;have : ∀ n∈N,n∈lvs.map (·.1):=λn a=>by
  rw[<- hc.nm]at a;let(m,d,rfl):=mem_map.mp a;show Classical.byContradiction λy=>?_;have : ((m.2,[m.1]):(Int × Int) × List Str)∈stF ms lds (lvs.map (·.1)):=Jc1.mpr (.inl ⟨m,d,y,rfl⟩);rw[z]at this;cases this
 have:=sub_len N (lvs.map (·.1)) hc.nd (λq c=>this q c);simp at this;ac_nf
theorem RSt.stops(hc:RC b Q N w M gs ms)(h:RSt b N w M gs lvs lds):∀ s∈stF ms lds (lvs.map (·.1)),FB 3000 1000 s.1/\∀ n∈s.2,n∈N/\n∉lvs.map (·.1):=by
 intro s k;rcases Jc1.mp k with⟨m,hm,hS,rfl⟩ | ⟨e,he,hl,rfl⟩
 .have f:=(hc.ml m hm).2.1;show(⟨f.s1.mono ⋯,f.s2.mono ⋯,f.b1,f.g1⟩,λn a=>?_);rw[mem_singleton.mp a];show(hc.nm ▸ mem_map.mpr ⟨m,hm,rfl⟩,hS)
 .let(L,j):=h.inv;let(D,i):=h.bt;let(g,c,d):=h.ok.bwd he;have f:=Jhf hc j.s i (by have:=h.len hc;have:=hc.l12;ac_nf) c d;have z:=JgT hc c d;show(?_,λn a=>?_)
  .show FB.low (Jcq f.b1 ∅) ?_ ?_
   .show Mth.Sz 3000 (e.rest.1*1);rw[Int.mul_one];show f.s1.mono ⋯
   .show(f.s2.mul z.2).mono ⋯
  .have:=mem_filter.mp a;show((hc.gw g c).1 n (d.pm.mem_iff.mp this.1),by simpa using this.2)
theorem RSt.first(hc:RC b Q N w M gs ms)(h:RSt b N w M gs lvs lds)(hlt:lvs.length<N.length)(hL:L∈(stF ms lds (lvs.map (·.1))).map (·.1))(hmin:∀ s∈stF ms lds (lvs.map (·.1)),vl L<=vl s.1)(hnd:ns.Nodup)(hns:∀ n,n∈ns↔∃ s∈stF ms lds (lvs.map (·.1)),s.1=L/\n∈s.2) :
  ns≠[]/\(∀ n∈ns,n∈N/\n∉lvs.map (·.1))/\RInv N w M gs (lvs++ns.map λn=>(n,L)) (vl L)/\∃ D,RMd b N w M gs L D (lvs.length+1) lvs lds:=by
 let(L0,u):=h.inv;let(D,B):=h.bt;have T:=h.stops hc;let(s0,J,A):=mem_map.mp hL;have W:FB 3000 1000 L:=A ▸ (T s0 J).1;have Z:=hc.wpos;have K:=λ(g:Gp)(c:g∈gs)=>(hc.gw g c).1;have V:∀ n∈N,n∉lvs.map (·.1)->vl L<=M n:=λn f o=>by
  rw[<- hc.nm]at f;let(m,i,rfl):=mem_map.mp f;have:=hmin _ (Jc1.mpr (.inl ⟨m,i,o,rfl⟩));rw[<- (hc.ml m i).1];show this
 have P:∀ e g,g∈gs->LidOk w g lvs e->0<e.load->vl (divF e.rest (e.load,1))*sm (left lvs w) g.way=g.R-sm (used lvs w) g.way:=λe g c d j=>by
  rw[Jlb d.low.b1 (by show 1<=e.load;ac_nf) (Int.le_refl 1),JgG, <- d.load, <- d.rest];show Rat.div_mul_cancel (JaK ∅)
 have I:∀ g∈gs,0<sm (left lvs w) g.way->vl L*sm (left lvs w) g.way<=g.R-sm (used lvs w) g.way:=λg c l=>by
  let(e,E,d):=h.ok.fwd c;have j:0<e.load:=by rw[<- d.load]at l;exact_mod_cast l
  have:=hmin _ (Jc1.mpr (.inr ⟨e,E,j,rfl⟩));rw[<- P e g c d j];show Rat.mul_le_mul_of_nonneg_right this (Rat.le_of_lt l)
 have key:∀ n,n∈ns↔n∈N/\n∉lvs.map (·.1)/\(M n=vl L\/∃ g∈gs,n∈g.way/\0<sm (left lvs w) g.way/\vl L*sm (left lvs w) g.way=g.R-sm (used lvs w) g.way):=λn=>by
  rw[hns n];constructor
  .rintro⟨s,F,e1,S⟩;have H:=(T s F).2 n S;show(H.1,H.2,?_);rcases Jc1.mp F with⟨m,i,o,rfl⟩ | ⟨e,E,j,rfl⟩
   .left
    rw[mem_singleton.mp S, <- e1];show(hc.ml m i).1.symm
   .right
    let(g,c,d):=h.ok.bwd E;show(g,c,d.pm.mem_iff.mp (mem_filter.mp S).1,?_,?_)
    .rw[<- d.load];exact_mod_cast j
    .rw[<- e1];show P e g c d j
  .rintro⟨f,o,e | ⟨g,c,hw,l,e⟩⟩
   .rw[<- hc.nm]at f;let(m,i,rfl):=mem_map.mp f;show(_,Jc1.mpr (.inl ⟨m,i,o,rfl⟩),(hc.ml m i).2.1.lo.inj W.lo ((hc.ml m i).1.trans e),by simp)
   .let(r,E,d):=h.ok.fwd c;have j:0<r.load:=by rw[<- d.load]at l;exact_mod_cast l
    have i:((divF r.rest (r.load,1),(r.ws.map (·.1)).filter λn=>decide (n∉lvs.map (·.1))):(Int × Int) × List Str)∈stF ms lds (lvs.map (·.1)):=Jc1.mpr (.inr ⟨r,E,j,rfl⟩);show(_,i,(T _ i).1.lo.inj W.lo ?_,mem_filter.mpr ⟨d.pm.mem_iff.mpr hw,by simpa using o⟩);have:=P r g c d j;rw[<- e]at this;have p':sm (left lvs w) g.way≠0:=λz=>by rw[z]at l;show absurd l ⋯
    show vl (divF r.rest (r.load,1))=vl L;grind
 have t:(∃ n∈N,n∉lvs.map (·.1)/\M n=vl L)\/∃ g∈gs,0<sm (left lvs w) g.way/\vl L*sm (left lvs w) g.way=g.R-sm (used lvs w) g.way/\∃ e:LidD,LidOk w g lvs e/\0<e.load/\L=divF e.rest (e.load,1):=by
  rcases Jc1.mp J with⟨m,i,o,rfl⟩ | ⟨e,E,j,rfl⟩
  .show .inl ⟨m.1,hc.nm ▸ mem_map.mpr ⟨m,i,rfl⟩,o,by rw[<- A];show(hc.ml m i).1.symm⟩
  .let(g,c,d):=h.ok.bwd E;show .inr ⟨g,c,?_,by rw[<- A];show P e g c d j,e,d,j,A.symm⟩;rw[<- d.load];exact_mod_cast j
 have C:vl L0<=vl L:=u.le (t.imp id λζ=>by let(g,c,U,X,_):=ζ;show(g,c,U,X));have ne:ns≠[]:=λz=>by
  rcases t with⟨n,f,o,e⟩ | ⟨g,c,l,e,_⟩
  .have:=(key n).mpr ⟨f,o, .inl e⟩;rw[z]at this;cases this
  .have : ∃ n∈g.way,n∉lvs.map (·.1):=Classical.byContradiction λy=>by
    rw[Jdg (a:=left lvs w) λq hq=>if_pos (Classical.byContradiction λv=>y ⟨q,hq,v⟩)]at l;show absurd l ⋯
   let(n,f,o):=this;have:=(key n).mpr ⟨K g c n f,o, .inr ⟨g,c,f,l,e⟩⟩;rw[z]at this;cases this
 show(ne,λn f=>⟨((key n).mp f).1,((key n).mp f).2.1⟩,u.round Z K hnd V I key C,?_);have si:SInv N w gs lvs L:=by
  show(u.nd,u.sub,λx O=>⟨(u.a x O).1,Rat.le_trans (u.a x O).2.1 C⟩,Rat.le_trans u.c0 C,λg c=>?_);by_cases p:0<sm (left lvs w) g.way
  .show I g c p
  .have e0:sm (left lvs w) g.way=0:=by have:=sm_nn (Jel (lvs:=lvs) Z (K g c));grind
   have:=u.cc g c;rw[e0]at this ⊢;grind
 obtain⟨k,Y,ks,G⟩:∃ k:Int,1<=k/\Mth.Sz 25 k/\Dv D (vl L/(b:Rat)*(k:Rat)):=by
  rcases t with⟨n,f,o,e⟩ | ⟨g,c,l,e,r,d,j,eL⟩
  .let(k,G,U,X):=hc.wt n f;show(k,U,X.mono ⋯,?_);have:=B.dm n f;rw[e,G]at this;show this
  .show(r.load,by ac_nf,(JgT hc c d).2,?_);have h3:=JiL (B.dr g c) (λn f=>by let(k,G,_):=hc.wt n (K g c n f);show(k,G)) B.dl u.nd;rw[<- e, <- d.load]at h3;have : vl L/(b:Rat)*(r.load:Rat)=vl L*(r.load:Rat)/(b:Rat):=by grind
   rw[this];show h3
 show(D*k,si,h.ok,⟨Jcq B.D1 Y,?_,λx O=>(B.dl x O).more k,λg c=>(B.dr g c).more k,λn f=>(B.dm n f).more k⟩,by have:=hc.l12;ac_nf,G.over Y,W);have:=B.sD.mul ks;rw[show 230+25*(lvs.length+1)=230+25*lvs.length+25 by ac_nf];show this
theorem RMd.rest(hc:RC b Q N w M gs ms)(h:RMd b N w M gs L D k lvs lds):∀ e∈lds,FB 3000 1000 e.rest/\∀ x∈e.ws,Mth.Sz 64 x.2:=by
 intro e l;let(g,d,c):=h.ok.bwd l;have f:=Jhf hc h.inv h.bt (by have:=h.k12;ac_nf) d c;show(⟨f.s1.mono ⋯,f.s2.mono ⋯,f.b1,f.g1⟩,λx i=>?_);have a:x.1∈N:=(hc.gw g d).1 _ (c.pm.mem_iff.mp (mem_map.mpr ⟨x,i,rfl⟩));let(k,j,_,m):=hc.wt _ a;have:=(c.wt x i).1;rw[j]at this;have : k=x.2:=by exact_mod_cast this
 rw[<- this];show m.mono ⋯
theorem RMd.step(hc:RC b Q N w M gs ms)(h:RMd b N w M gs L D k lvs lds){n:Str}(hn:n∈N)(hS:n∉lvs.map (·.1)):RMd b N w M gs L D k (lvs++[(n,L)]) (lds.map λe=>e.settle n L):=by
 show(h.inv.step (λg f=>(hc.gw g f).2.1) hn hS,⟨by rw[length_map];show h.ok.1,λi g e f j=>?_⟩,⟨h.bt.D1,h.bt.sD,λx c=>?_,h.bt.dr,h.bt.dm⟩,h.k12,h.dL,h.fL)
 .rw[List.getElem?_map]at j;let(l,d,rfl):=Option.map_eq_some_iff.mp j;show(h.ok.2 i g l f d).settle h.inv.nd hS h.fL.lo λx c=>(h.inv.a x c).2
 .rcases mem_append.mp c with c | c
  .show h.bt.dl x c
  .rw[mem_singleton.mp c];show h.dL
theorem RMd.next(hc:RC b Q N w M gs ms)(h:RMd b N w M gs L D k (lvs++ns.map λn=>(n,L)) lds)(hi:RInv N w M gs (lvs++ns.map λn=>(n,L)) (vl L))(hlo:∀ x∈lvs,Lo x.2)(hk:k<=lvs.length+ns.length):RSt b N w M gs (lvs++ns.map λn=>(n,L)) lds:=by
 show(⟨L,hi⟩,h.ok,⟨D,h.bt.D1,h.bt.sD.mono (by simp;ac_nf),h.bt.dl,h.bt.dr,h.bt.dm⟩,λx a=>?_);rcases mem_append.mp a with a | a
 .show hlo x a
 .let(n,_,rfl):=mem_map.mp a;show h.fL.lo
end
theorem All2.put{P P' : α->V->Prop}:∀{as:List α}{xs:List V}{j:Nat}{a' : α}{x:V},All2 P as xs->xs[j]?=some x->P' a' x->(∀(i:Nat) a y,i≠j->as[i]?=some a->xs[i]?=some y->P a y->P' a y)->All2 P' (as.set j a') xs
 | [],xs,j,a',x,h,hx,_,_=>by
  have h:xs=[]:=h;subst h;cases hx
 | a::as,xs,0,a',x,h,hx,p,m=>by
  let(y,r,rfl,h1,h2):=h;have hx:y=x:=by simpa using hx
  subst hx;show(y,r,rfl,p,?_);have go:∀{as:List α}{r:List V},All2 P as r->(∀(i:Nat) a y,as[i]?=some a->r[i]?=some y->P a y->P' a y)->All2 P' as r:=by
   intro as;induction as with
   | nil=>intro r h _;show h
   | cons b bs ih=>
    intro r h m;let(z,t,rfl,h1,h2):=h;show(z,t,rfl,m 0 b z rfl rfl h1,ih h2 λi a y ha hy=>m (i+1) a y (by simpa using ha) (by simpa using hy))
  show go h2 λi a y ha hy=>m (i+1) a y ∅ (by simpa using ha) (by simpa using hy)
 | a::as,xs,j+1,a',x,h,hx,p,m=>by
  let(y,r,rfl,h1,h2):=h;show(y,r,rfl,m 0 a y ∅ rfl rfl h1,All2.put h2 (by simpa using hx) p λi a y ne ha hy=>m (i+1) a y ∅ (by simpa using ha) (by simpa using hy))
theorem Jlw{f : α->α}{ls:List α}:((ls.take j).map f++ls.drop j)[j]?=ls[j]?:=by
 by_cases c:j<=ls.length
 .have e:((ls.take j).map f).length=j:=by rw[length_map,length_take];ac_nf
  rw[List.getElem?_append_right ∅,e,List.getElem?_drop];simp
 .have e:((ls.take j).map f++ls.drop j).length<=j:=by simp;ac_nf
  rw[List.getElem?_eq_none e,List.getElem?_eq_none ∅]
theorem JhG{f : α->α}:∀{ls:List α}{j:Nat}{e : α},ls[j]?=some e->((ls.take j).map f++ls.drop j).set j (f e)=(ls.take (j+1)).map f++ls.drop (j+1)
 | [],j,e,h=>by simp at h
 | a::ls,0,e,h=>by
  have h:a=e:=by simpa using h
  subst h;simp
 | a::ls,j+1,e,h=>by
  have:=JhG (f:=f) (ls:=ls) (j:=j) (e:=e) (by simpa using h);simp only[List.take_succ_cons,map_cons,List.drop_succ_cons,cons_append,List.set_cons_succ,this]
theorem Jj1{ns:List α}{i:Nat}{n : α}(h:ns.Nodup)(hn:ns[i]?=some n):n∉ns.take i:=by
 intro z;rw[<- List.take_append_drop i ns,nodup_append]at h;show h.2.2 n z n (List.mem_of_getElem? (i:=0) ?_) rfl;rw[List.getElem?_drop];show hn
variable{n:Str}{L:Int × Int}
theorem Jjx{e:LidD}:(e.settle n L).nm=e.nm:=by
 unfold LidD.settle;split <;> rfl
theorem Jip{ls:List LidD}:(ls.map λe=>e.settle n L).map (·.nm)=ls.map (·.nm):=by
 rw[map_map];show List.map_congr_left λe _=>Jjx
structure ShD where
 nm:Str
 sl:Int × Int
 sp:Option Str
def wtF(ls:List PD)(n:Str):Rat:=((ls.find? λp=>decide (p.nm=n)).map λp=>(p.wt:Rat)).getD 0
def moF(ls:List PD)(n:Str):Rat:=((ls.find? λp=>decide (p.nm=n)).map λp=>vl p.mo/(p.wt:Rat)).getD 0
def gpF(es:List (GD × List Str))(pl:Str->Int × Int):List Gp:=es.map λe=>⟨vl (roomF pl e.1),e.2⟩
def gpB(b:Int)(es:List (GD × List Str))(pl:Str->Int × Int):List Gp:=es.map λe=>⟨vl (roomF pl e.1)*(b:Rat),e.2⟩
def stp(w f:Str->Rat)(pl:Str->Int × Int)(n:Str)(e:GD × List Str):Bool:=decide (n∈e.2)&&(decide (sm (λq=>f q*w q) e.2=vl (roomF pl e.1))&&decide (∀ q∈e.2,f q<=f n))
structure ShRow(ls:List PD)(es:List (GD × List Str))(pl:Str->Int × Int)(f:Str->Rat)(p:PD)(r:ShD):Prop where
 nm:r.nm=p.nm
 lo:Lo r.sl
 val:vl r.sl=f p.nm*(p.wt:Rat)
 sp:(r.sl=p.mo/\r.sp=none)\/(r.sl≠p.mo/\∃ e,es.find? (stp (wtF ls) f pl p.nm)=some e/\r.sp=some e.1.nm)
structure ShF(ls:List PD)(es:List (GD × List Str))(pl:Str->Int × Int)(f:Str->Rat)(D:Int):Prop where
 sub:∀ e∈es,(∀ n∈e.2,n∈ls.map (·.nm))/\e.2.Nodup
 fair:Fair (ls.map (·.nm)) (wtF ls) (moF ls) (gpF es pl) f
 D1:1<=D
 sD:Mth.Sz 600 D
 dv:∀ n∈ls.map (·.nm),Dv D (f n)
structure ShR(ls:List PD)(es:List (GD × List Str))(pl:Str->Int × Int)(rs:List ShD):Prop where
 len:rs.length=ls.length
 ex:∃ f D,ShF ls es pl f D/\∀(i:Nat) p r,ls[i]?=some p->rs[i]?=some r->ShRow ls es pl f p r
theorem JgR:∀{ls:List PD}{p:PD},(ls.map (·.nm)).Nodup->p∈ls->ls.find? (λq=>decide (q.nm=p.nm))=some p
 | [],_,_,h=>by cases h
 | a::ls,p,hn,h=>by
  rw[map_cons,nodup_cons]at hn;rw[List.find?_cons];rcases mem_cons.mp h with e | h
  .subst e;simp
  .have : a.nm≠p.nm:=λz=>hn.1 (z ▸ mem_map.mpr ⟨p,h,rfl⟩);rw[decide_eq_false this];show JgR hn.2 h
section
variable{es:List (GD × List Str)}{f':Str->Rat}{rs rs':List ShD}{f:Str->Rat}
theorem Jh2(hn:(ls.map (·.nm)).Nodup)(hp:p∈ls):wtF ls p.nm=(p.wt:Rat):=by
 unfold wtF;rw[JgR hn hp];rfl
theorem Jgl(hn:(ls.map (·.nm)).Nodup)(hp:p∈ls):moF ls p.nm=vl p.mo/(p.wt:Rat):=by
 unfold moF;rw[JgR hn hp];rfl
theorem Jml(hn:(ls.map (·.nm)).Nodup)(hk:∀ p∈ls,1<=p.wt):∀ n∈ls.map (·.nm),0<wtF ls n:=λn h=>by
 let(p,a,rfl):=mem_map.mp h;rw[Jh2 hn a];have:=hk p a;exact_mod_cast (show 0<p.wt by ac_nf)
theorem JgS{g:Gp}(h:g∈gpF es pl):∃ e∈es,g=⟨vl (roomF pl e.1),e.2⟩:=by
 let(e,a,rfl):=mem_map.mp h;show(e,a,rfl)
theorem ShR.uniq(hn:(ls.map (·.nm)).Nodup)(hk:∀ p∈ls,1<=p.wt)(h:ShR ls es pl rs)(k:ShR ls es pl rs'):rs=rs':=by
 let(Q,f,D,F,R):=h;let(X,o,D',F',H):=k;have J:=Jml hn hk;have G:∀ g∈gpF es pl, ∀ n∈g.way,n∈ls.map (·.nm):=λg M=>by
  let(e,K,rfl):=JgS M;show(F.sub e K).1
 have e:=F.fair.uniq J G F'.fair;show List.ext_getElem? λi=>?_;by_cases c:i<ls.length
 .have E:i<rs.length:=by ac_nf
  have O:i<rs'.length:=by ac_nf
  have v:=List.getElem?_eq_getElem c;have A:=List.getElem?_eq_getElem E;have B:=List.getElem?_eq_getElem O;have s:=R i _ _ v A;have r:=H i _ _ v B;rw[A,B];generalize ls[i]=p at *;generalize rs[i]=a at *;generalize rs'[i]=b at *;have u:p∈ls:=List.mem_of_getElem? v;have j:p.nm∈ls.map (·.nm):=mem_map.mpr ⟨p,u,rfl⟩;have d:a.sl=b.sl:=s.lo.inj r.lo (by rw[s.val,r.val,e _ j]);have N:es.find? (stp (wtF ls) f pl p.nm)=es.find? (stp (wtF ls) o pl p.nm):=by
   have P:∀{t:List (GD × List Str)},(∀ x∈t,x∈es)->t.find? (stp (wtF ls) f pl p.nm)=t.find? (stp (wtF ls) o pl p.nm):=by
    intro t;induction t with
    | nil=>intro _;rfl
    | cons x t ih=>
     intro z;have : stp (wtF ls) f pl p.nm x=stp (wtF ls) o pl p.nm x:=by
      have l:=(F.sub x (z x (by simp))).1;have I:sm (λq=>f q*wtF ls q) x.2=sm (λq=>o q*wtF ls q) x.2:=JbL λq m=>by rw[e q (l q m)]
      have C:(∀ q∈x.2,f q<=f p.nm)↔∀ q∈x.2,o q<=o p.nm:=by
       constructor
       .intro h q m;rw[<- e q (l q m), <- e _ j];show h q m
       .intro h q m;rw[e q (l q m),e _ j];show h q m
      unfold stp;rw[I,decide_eq_decide.mpr C]
     rw[List.find?_cons,List.find?_cons,this,ih λy L=>z y (by simp[L])]
   show P λ_ h=>h
  have w:a.sp=b.sp:=by
   rcases s.sp with⟨x1,x2⟩ | ⟨x1,e1,x2,x3⟩ <;> rcases r.sp with⟨y1,y2⟩ | ⟨y1,e2,y2,y3⟩
   .rw[x2,y2]
   .show absurd (d ▸ x1) y1
   .show absurd (d ▸ y1) x1
   .rw[N,y2]at x2;cases x2;rw[x3,y3]
  have nm:a.nm=b.nm:=s.nm.trans r.nm.symm;let(V,W,S):=a;let(U,Y,T):=b;simp only at nm d w;rw[nm,d,w]
 .rw[List.getElem?_eq_none ∅,List.getElem?_eq_none ∅]
end
theorem JkN:∀(fs:List (Int × Int))(k:Nat),(∀ a∈fs,1<=a.2/\Mth.Sz 12 a.2)->fs.length<=k->∃ D:Int,1<=D/\Mth.Sz (12*k+1) D/\∀ a∈fs,Dv D (vl a)
 | [],k,_,_=>⟨1,by decide,by unfold Mth.Sz;show Nat.one_lt_two_pow ∅,λa ha=>by cases ha⟩
 | a::fs,0,_,h=>by simp at h
 | a::fs,k+1,h,hl=>by
  let(D,h1,h2,h3):=JkN fs k (λx hx=>h x (by simp[hx])) (by simpa using hl);let(a1,a2):=h a (by simp);show(D*a.2,Jcq h1 a1,?_,λx hx=>?_)
  .have:=h2.mul a2;rw[show 12*(k+1)+1=12*k+1+12 by ac_nf];show this
  .rcases mem_cons.mp hx with e | hx
   .subst e;show Dv.over a1 ?_;have : vl x*(x.2:Rat)=(x.1:Rat):=by
     unfold vl;show Rat.div_mul_cancel (JaK a1)
    rw[this];show Dv.int _
   .show(h3 x hx).more _
theorem JjW(h:1<=a.2)(h0:0<=a.1):vl a<=(a.1:Rat):=by
 unfold vl;have p:(0:Rat)<(a.2:Rat):=by exact_mod_cast (show 0<a.2 by ac_nf)
 have e:(a.1:Rat)/(a.2:Rat)*(a.2:Rat)=(a.1:Rat):=Rat.div_mul_cancel (JaK h);have q:(a.1:Rat)<=(a.1:Rat)*(a.2:Rat):=by
  have : a.1<=a.1*a.2:=by
   have:=Int.mul_le_mul_of_nonneg_left h h0;ac_nf
  exact_mod_cast this
 rw[<- scaled p,e];show q
theorem vl_nn(h:1<=a.2):0<=vl a↔0<=a.1:=by
 unfold vl;have p:(0:Rat)<(a.2:Rat):=by exact_mod_cast (show 0<a.2 by ac_nf)
 have e:(a.1:Rat)/(a.2:Rat)*(a.2:Rat)=(a.1:Rat):=Rat.div_mul_cancel (JaK h);rw[<- scaled p,e,Rat.zero_mul];exact_mod_cast Iff.rfl
theorem JjG:∀(ws:List (Str × Int))(w:Str->Rat),(∀ x∈ws,w x.1=(x.2:Rat))->(((ws.map (·.2)).sum:Int):Rat)=sm w (ws.map (·.1))
 | [],_,_=>rfl
 | x::ws,w,h=>by
  have ih:=JjG ws w λy hy=>h y (by simp[hy]);simp only[map_cons,List.sum_cons,sm,h x (by simp), <- ih];push_cast;rfl
variable{es:List (GD × List Str)}{lds:List LidD}{ms:List (Str × (Int × Int))}{q0:Int}
theorem LSt.way{e:GD × List Str}{l:LidD}(h:LSt b ls pl e l):(∀ n∈e.2,n∈ls.map (·.nm))/\e.2.Nodup:=by
 show(λn a=>?_,h.pm.nodup_iff.mp h.nd);let(x,c,rfl):=mem_map.mp (h.pm.mem_iff.mpr a);let(p,d,e,_):=h.wt x c;show mem_map.mpr ⟨p,d,e⟩
theorem Jk0(hl:lds.length=es.length)(hls:∀(i:Nat) e l,es[i]?=some e->lds[i]?=some l->LSt b ls pl e l):∀ e∈es,(∀ n∈e.2,n∈ls.map (·.nm))/\e.2.Nodup:=λe c=>by
 let(i,a):=List.getElem?_of_mem c;have d:=(List.getElem?_eq_some_iff.mp a).1;show(hls i e _ a (List.getElem?_eq_getElem ∅)).way
theorem Jkz(b1:1<=b)(sb:Mth.Sz 2000 b)(hc:SHC ls es pl)(hr:∀ e∈es,0<=vl (roomF pl e.1))(hl:lds.length=es.length)(hls:∀(i:Nat) e l,es[i]?=some e->lds[i]?=some l->LSt b ls pl e l)(hm:ms.length=ls.length)(hms:∀(i:Nat) p m,ls[i]?=some p->ms[i]?=some m->MSt b p m):∃ q0,RC b q0 (ls.map (·.nm)) (wtF ls) (λn=>moF ls n*(b:Rat)) (gpB b es pl) ms/\RSt b (ls.map (·.nm)) (wtF ls) (λn=>moF ls n*(b:Rat)) (gpB b es pl) [] lds:=by
 have P:=Jk0 hl hls;have v:(0:Rat)<(b:Rat):=by exact_mod_cast (show 0<b by ac_nf)
 have Z:=JaK b1;have G:∀ m∈ms, ∃ p∈ls,MSt b p m:=λm s=>by
  let(i,M):=List.getElem?_of_mem s;have X:=(List.getElem?_eq_some_iff.mp M).1;show(ls[i]'∅,List.getElem_mem _,hms i _ m (List.getElem?_eq_getElem ∅) M)
 obtain⟨B,V,U,F⟩:∃ B:Int,Mth.Sz 200 B/\0<=B/\∀ x,Mth.Sz 200 x->x<=B:=⟨2 ^ 200-1,by unfold Mth.Sz;decide,by decide,λx k=>by unfold Mth.Sz at k;ac_nf⟩;have A:∀ g∈gpB b es pl, ∃ e∈es,g=⟨vl (roomF pl e.1)*(b:Rat),e.2⟩:=λg A=>by
  let(e,f,rfl):=mem_map.mp A;show(e,f,rfl)
 have C:∀ p∈ls,1<=p.wt:=λp d=>(hc.pok p d).w;have u:∀ p∈ls,0<=vl p.mo:=λp d=>(vl_nn (hc.pb p d).2.b1).mpr (hc.pok p d).m0;have M0:∀ p∈ls,0<=moF ls p.nm/\moF ls p.nm<=vl p.mo:=λp d=>by
  rw[Jgl hc.nd d];have K:=C p d;have L:(0:Rat)<(p.wt:Rat):=by exact_mod_cast (show 0<p.wt by ac_nf)
  have e:vl p.mo/(p.wt:Rat)*(p.wt:Rat)=vl p.mo:=Rat.div_mul_cancel (JaK K);have N:=u p d;constructor
  .rw[<- scaled L,e,Rat.zero_mul];show N
  .rw[<- scaled L,e];have : (1:Rat)<=(p.wt:Rat):=by exact_mod_cast K
   have:=Rat.mul_le_mul_of_nonneg_left this N;rw[Rat.mul_one]at this;show this
 have top:∀ a:Int × Int,FB 200 12 a->0<=vl a->vl a<=(B:Rat):=λa H T=>by
  show Rat.le_trans (JjW H.b1 ((vl_nn H.b1).mp T)) ?_;exact_mod_cast F _ H.s1
 have y:((B*b:Int):Rat)=(B:Rat)*(b:Rat):=by push_cast;rfl
 have O:RC b (B*b) (ls.map (·.nm)) (wtF ls) (λn=>moF ls n*(b:Rat)) (gpB b es pl) ms:=by
  show(b1,?_,hc.nd,by rw[length_map];show hc.l12,λn o=>?_,λm s=>?_,λg j=>?_,λn o=>?_,(V.mul sb))
  .show List.ext_getElem? λi=>?_;rw[List.getElem?_map,List.getElem?_map];by_cases c:i<ls.length
   .rw[List.getElem?_eq_getElem c,List.getElem?_eq_getElem (by ac_nf:i<ms.length)];show congrArg some (hms i _ _ (List.getElem?_eq_getElem c) (List.getElem?_eq_getElem ∅)).nm
   .rw[List.getElem?_eq_none ∅,List.getElem?_eq_none ∅];rfl
  .let(p,d,rfl):=mem_map.mp o;show(p.wt,Jh2 hc.nd d,C p d,hc.wt p d)
  .let(p,d,h):=G m s;show(?_,h.fb,?_)
   .rw[h.vl,h.nm,Jgl hc.nd d];grind
   .rw[h.nm];show Rat.mul_nonneg (M0 p d).1 (Rat.le_of_lt v)
  .let(e,f,rfl):=A g j;show((P e f).1,(P e f).2,Rat.mul_nonneg (hr e f) (Rat.le_of_lt v),?_);rw[y];show Rat.mul_le_mul_of_nonneg_right (top _ (hc.rb e f) (hr e f)) (Rat.le_of_lt v)
  .let(p,d,rfl):=mem_map.mp o;rw[y];show Rat.mul_le_mul_of_nonneg_right (Rat.le_trans (M0 p d).2 (top _ (hc.pb p d).2 (u p d))) (Rat.le_of_lt v)
 show(_,O,⟨(0,1),?_⟩,⟨by unfold gpB;rw[length_map];show hl,λi g l r I=>?_⟩,?_,λx k=>by cases k)
 .rw[Jht];show RInv.start (λn o=>?_) (λg j=>(O.gw g j).2.2.1);let(p,d,rfl):=mem_map.mp o;show Rat.mul_nonneg (M0 p d).1 (Rat.le_of_lt v)
 .unfold gpB at r;rw[List.getElem?_map]at r;let(e,f,rfl):=Option.map_eq_some_iff.mp r;have h:=hls i e l f I;have t:∀ x∈l.ws,wtF ls x.1=(x.2:Rat)/\1<=x.2:=λx k=>by
   let(p,d,S,Q):=h.wt x k;rw[<- S, <- Q];show(Jh2 hc.nd d,C p d)
  have W:sm (used [] (wtF ls)) e.2=0:=Jdg λq _=>by
   unfold used;rw[Jcw (by simp),Rat.zero_mul]
  show(h.pm,h.nd,t,?_,?_,h.fb.lo,?_,(λn _ E=>by cases E),λζ=>by let(n,_,E):=ζ;cases E)
  .rw[h.rest];show _=_-sm (used [] (wtF ls)) e.2;rw[W];grind
  .rw[h.load,JjG l.ws (wtF ls) λx k=>(t x k).1,JjC h.pm];show JbL λq _=>by unfold left;rw[if_neg (by simp)]
  .rw[h.last];show(Int.le_refl 1,by unfold Mth.g;simp)
 .let(D,D1,R,J):=JkN (ls.map (·.mo)++es.map λe=>roomF pl e.1) 14 (λa z=>by
   rcases mem_append.mp z with z | z
   .let(p,d,rfl):=mem_map.mp z;show((hc.pb p d).2.b1,(hc.pb p d).2.s2)
   .let(e,f,rfl):=mem_map.mp z;show((hc.rb e f).b1,(hc.rb e f).s2)) (by rw[length_append,length_map,length_map];show hc.l14)
  show(D,D1,R.mono (by simp),λx k=>(by cases k),λg j=>?_,λn o=>?_)
  .let(e,f,rfl):=A g j;show Dv D (vl (roomF pl e.1)*(b:Rat)/(b:Rat));rw[show vl (roomF pl e.1)*(b:Rat)/(b:Rat)=vl (roomF pl e.1) by grind];show J _ (mem_append.mpr (.inr (mem_map.mpr ⟨e,f,rfl⟩)))
  .let(p,d,rfl):=mem_map.mp o;rw[Jgl hc.nd d,Jh2 hc.nd d];have Y:=JaK (C p d);rw[show vl p.mo/(p.wt:Rat)*(b:Rat)/(b:Rat)*(p.wt:Rat)=vl p.mo by grind];show J _ (mem_append.mpr (.inl (mem_map.mpr ⟨p,d,rfl⟩)))
theorem Jge{γ:Type}{P : α->Bool}{R : β->Bool}{f : α->γ}{g : β->γ}:∀{as:List α}{bs:List β},as.length=bs.length->(∀(i:Nat) a b,as[i]?=some a->bs[i]?=some b->P a=R b/\f a=g b)->(as.find? P).map f=(bs.find? R).map g
 | [],[],_,_=>rfl
 | [],b::bs,h,_=>by simp at h
 | a::as,[],h,_=>by simp at h
 | a::as,b::bs,h,k=>by
  let(h1,h2):=k 0 a b rfl rfl;have ih:=Jge (as:=as) (bs:=bs) (by simpa using h) λi x y hx hy=>k (i+1) x y (by simpa using hx) (by simpa using hy);rw[List.find?_cons,List.find?_cons,h1];cases R b with
  | true=>show congrArg some h2
  | false=>show ih
theorem JjB{lv w:Str->Rat}{c:Rat}:∀(l:List Str),sm (λn=>lv n/c*w n) l=sm (λn=>lv n*w n) l/c
 | []=>by simp only[sm];grind
 | n::l=>by
  simp only[sm,JjB l];grind
abbrev RCs(b q0:Int)(ls:List PD)(es:List (GD × List Str))(pl:Str->Int × Int)(ms:List (Str × (Int × Int))):Prop:=RC b q0 (ls.map (·.nm)) (wtF ls) (λn=>moF ls n*(b:Rat)) (gpB b es pl) ms
abbrev RSs(b:Int)(ls:List PD)(es:List (GD × List Str))(pl:Str->Int × Int)(lvs:List (Str × (Int × Int)))(lds:List LidD):Prop:=RSt b (ls.map (·.nm)) (wtF ls) (λn=>moF ls n*(b:Rat)) (gpB b es pl) lvs lds
def lvf(b:Int)(lvs:List (Str × (Int × Int)))(n:Str):Rat:=lvv lvs n/(b:Rat)
theorem Jnj(rc:RCs b q0 ls es pl ms)(rs:RSs b ls es pl lvs lds)(hl:(ls.map (·.nm)).length<=lvs.length){n:Str}(hn:n∈ls.map (·.nm)):∃ x∈lvs,x.1=n/\lvv lvs n=vl x.2:=by
 let(x,a,e):=mem_map.mp (rs.all rc hl n hn);let(L,c):=rs.inv;have e:x.1=n:=e;show(x,a,e,e ▸ Jep c.nd a)
theorem sh_at(rs:RSs b ls es pl lvs lds){x:Str × (Int × Int)}(hx:x∈lvs):lvv lvs x.1=vl x.2:=by
 let(L,a):=rs.inv;show Jep a.nd hx
theorem sh_lv(rc:RCs b q0 ls es pl ms)(rs:RSs b ls es pl lvs lds){x:Str × (Int × Int)}(hx:x∈lvs):FB 2800 600 x.2:=by
 let(L,f):=rs.inv;let(D,c):=rs.bt;have e:=f.a x hx;have g:=rc.mq x.1 (f.sub _ (mem_map.mpr ⟨x,hx,rfl⟩));have d:=rs.lo x hx;have i:=rs.len rc;have h:=rc.l12;show((c.dl x hx).up rc.b1).fb (m:=2200) (n:=600) d.b1 d.g1 c.D1 (c.sD.mono ∅) e.1 (Rat.le_trans e.2.2 g) rc.sQ
theorem JjA(hw:∀ e∈es,(∀ n∈e.2,n∈ls.map (·.nm))/\e.2.Nodup)(rc:RCs b q0 ls es pl ms)(rs:RSs b ls es pl lvs lds)(hl:(ls.map (·.nm)).length<=lvs.length):∃ D,ShF ls es pl (lvf b lvs) D:=by
 let(L,r):=rs.inv;let(D,j):=rs.bt;have F:=r.fair rc.wpos (λg d=>(rc.gw g d).1) (rs.all rc hl);have f:(0:Rat)<(b:Rat):=by have:=rc.b1;exact_mod_cast (show 0<b by ac_nf)
 have k:=JaK rc.b1;have e:∀ n,lvf b lvs n*(b:Rat)=lvv lvs n:=λn=>Rat.div_mul_cancel k;have t:=rs.len rc;have o:=rc.l12;have m:∀ l,sm (λn=>lvf b lvs n*wtF ls n) l*(b:Rat)=sm (λn=>lvv lvs n*wtF ls n) l:=λl=>by
  unfold lvf;rw[JjB,Rat.div_mul_cancel k]
 show(D,hw,⟨λn a=>?_,λn a=>?_,λg d=>?_,λn a=>?_⟩,j.D1,j.sD.mono ∅,λn a=>?_)
 .rw[<- scaled f,e,Rat.zero_mul];show F.lo n a
 .rw[<- scaled f,e];show F.hi n a
 .let(x,c,rfl):=JgS d;rw[<- scaled f,m];show F.fit ⟨vl (roomF pl x.1)*(b:Rat),x.2⟩ (mem_map.mpr ⟨x,c,rfl⟩)
 .rcases F.stop n a with h | ⟨g,d,h1,i,h3⟩
  .left
   have:=e n;rw[h]at this;grind
  .right
   let(x,c,rfl):=mem_map.mp d;show(⟨vl (roomF pl x.1),x.2⟩,mem_map.mpr ⟨x,c,rfl⟩,h1,?_,λq s=>?_)
   .have i:sm (λn=>lvv lvs n*wtF ls n) x.2=vl (roomF pl x.1)*(b:Rat):=i;rw[<- m]at i;show sm (λn=>lvf b lvs n*wtF ls n) x.2=vl (roomF pl x.1);grind
   .rw[<- scaled f,e,e];show h3 q s
 .let(x,c,rfl,p):=Jnj rc rs hl a;unfold lvf;rw[p];show j.dl x c
theorem JlG(rc:RCs b q0 ls es pl ms)(rs:RSs b ls es pl lvs lds)(hl:(ls.map (·.nm)).length<=lvs.length){i:Nat}{e:GD × List Str}{l:LidD}(he:es[i]?=some e)(hli:lds[i]?=some l){x:Str × (Int × Int)}(hx:x∈lvs):((wtOf l.ws x.1).isSome&&(decide (l.rest=(0,1))&&decide (l.last=x.2)))=stp (wtF ls) (lvf b lvs) pl x.1 e:=by
 have a:=rs.ok.2 i ⟨vl (roomF pl e.1)*(b:Rat),e.2⟩ l (by unfold gpB;rw[List.getElem?_map,he];rfl) hli;have s:(0:Rat)<(b:Rat):=by have:=rc.b1;exact_mod_cast (show 0<b by ac_nf)
 have r:=JaK rc.b1;have d:∀ n,lvf b lvs n*(b:Rat)=lvv lvs n:=λn=>Rat.div_mul_cancel r;have A:∀ l,sm (λn=>lvf b lvs n*wtF ls n) l*(b:Rat)=sm (λn=>lvv lvs n*wtF ls n) l:=λl=>by
  unfold lvf;rw[JjB,Rat.div_mul_cancel r]
 have all:=rs.all rc hl;have j:=(rc.gw ⟨vl (roomF pl e.1)*(b:Rat),e.2⟩ (by unfold gpB;show mem_map.mpr ⟨e,List.mem_of_getElem? he,rfl⟩)).1;have f:=rs.lo x hx;have o:=sh_at rs hx;unfold stp;have w:(wtOf l.ws x.1).isSome=decide (x.1∈e.2):=by
  by_cases c:x.1∈e.2
  .rw[decide_eq_true c];cases h:wtOf l.ws x.1 with
   | none=>show absurd (a.pm.mem_iff.mpr c) (Jhu.mp h)
   | some k=>rfl
  .rw[decide_eq_false c,Jhu.mpr λz=>c (a.pm.mem_iff.mp z)];rfl
 have B:decide (l.rest=(0,1))=decide (sm (λq=>lvf b lvs q*wtF ls q) e.2=vl (roomF pl e.1)):=by
  show decide_eq_decide.mpr ?_;have p:l.rest=(0,1)↔vl l.rest=0:=by
   rw[<- Jht];show(λh=>by rw[h],λh=>a.low.inj ⟨Int.le_refl 1,by unfold Mth.g;simp⟩ h)
  have m:vl l.rest=vl (roomF pl e.1)*(b:Rat)-sm (λn=>lvv lvs n*wtF ls n) e.2:=a.rest;rw[p,m, <- A];constructor <;> intro h <;> grind
 rw[w,B];by_cases c:x.1∈e.2
 .have u:decide (l.last=x.2)=decide (∀ q∈e.2,lvf b lvs q<=lvf b lvs x.1):=by
   show decide_eq_decide.mpr ?_;have p:l.last=x.2↔vl l.last=lvv lvs x.1:=by
    rw[o];show(λh=>by rw[h],λh=>a.llow.inj f h)
   rw[p];constructor
   .intro h q t;rw[<- scaled s,d,d, <- h];show a.l1 q t (all q (j q t))
   .intro h;let(n,v,_,y):=a.l2 ⟨x.1,c,all _ (j _ c)⟩;have m:=h n v;rw[<- scaled s,d,d,y]at m;have C:=a.l1 x.1 c (all _ (j _ c));grind
  rw[u]
 .rw[decide_eq_false c];rfl
theorem Jmf(hw:∀ e∈es,(∀ n∈e.2,n∈ls.map (·.nm))/\e.2.Nodup)(rc:RCs b q0 ls es pl ms)(rs:RSs b ls es pl lvs lds)(hl:(ls.map (·.nm)).length<=lvs.length)(hn:lds.map (·.nm)=es.map (·.1.nm)){x:Str × (Int × Int)}(hx:x∈lvs)(hne:vl x.2≠moF ls x.1*(b:Rat)):∃ l e,lds.find? (λl=>(wtOf l.ws x.1).isSome&&(decide (l.rest=(0,1))&&decide (l.last=x.2)))=some l/\es.find? (stp (wtF ls) (lvf b lvs) pl x.1)=some e/\l.nm=e.1.nm:=by
 have k:lds.length=es.length:=by simpa using congrArg List.length hn
 have m:=Jge (P:=λl:LidD=>(wtOf l.ws x.1).isSome&&(decide (l.rest=(0,1))&&decide (l.last=x.2))) (R:=stp (wtF ls) (lvf b lvs) pl x.1) (f:=λl:LidD=>l.nm) (g:=λe:GD × List Str=>e.1.nm) k λi l e c a=>⟨JlG rc rs hl a c hx,by
  have:=congrArg (·[i]?) hn;simp only[List.getElem?_map,c,a]at this;show Option.some.inj this⟩
 let(D,F):=JjA hw rc rs hl;let(L,q):=rs.inv;have j:=q.sub _ (mem_map.mpr ⟨x,hx,rfl⟩);have p:=JaK rc.b1;have o:∃ e∈es,stp (wtF ls) (lvf b lvs) pl x.1 e=true:=by
  rcases F.fair.stop x.1 j with h | ⟨g,hg,c,a,h3⟩
  .show absurd ?_ hne;rw[<- h, <- sh_at rs hx];show(Rat.div_mul_cancel p).symm
  .let(e,d,rfl):=JgS hg;show(e,d,?_);unfold stp;rw[decide_eq_true c,decide_eq_true a,decide_eq_true h3];rfl
 cases hf:es.find? (stp (wtF ls) (lvf b lvs) pl x.1)with
 | none=>
  let(e,d,h):=o;have:=List.find?_eq_none.mp hf e d;show absurd h this
 | some e=>
  rw[hf]at m;let(l,c,a):=Option.map_eq_some_iff.mp m;show(l,e,c,rfl,a)
theorem Jmh(hc:SHC ls es pl)(rc:RCs b q0 ls es pl ms)(rs:RSs b ls es pl lvs lds){p:PD}(hp:p∈ls){x:Str × (Int × Int)}(hx:x∈lvs)(e1:x.1=p.nm)(he:vl x.2=moF ls x.1*(b:Rat)):ShRow ls es pl (lvf b lvs) p ⟨p.nm,p.mo,none⟩:=by
 have a:=JaK rc.b1;have c:=JaK (hc.pok p hp).w;show(rfl,(hc.pb p hp).2.lo,?_, .inl ⟨rfl,rfl⟩);show vl p.mo=_;unfold lvf;rw[<- e1,sh_at rs hx,he,e1,Jgl hc.nd hp];grind
theorem Jmg(hc:SHC ls es pl)(rc:RCs b q0 ls es pl ms)(rs:RSs b ls es pl lvs lds){p:PD}(hp:p∈ls){x:Str × (Int × Int)}(hx:x∈lvs)(e1:x.1=p.nm)(hne:vl x.2≠moF ls x.1*(b:Rat)){t:Int × Int}(ht:LoInv (mulF x.2 (p.wt,1)) b t){e:GD × List Str}(hf:es.find? (stp (wtF ls) (lvf b lvs) pl x.1)=some e):ShRow ls es pl (lvf b lvs) p ⟨p.nm,t,some e.1.nm⟩:=by
 have i:=JaK rc.b1;have j:=JaK (hc.pok p hp).w;have g:=rs.lo x hx;have h:=Jfs (a:=x.2) (c:=(p.wt,1)) g.b1 (Int.le_refl 1);have d:=ht.vl h.b1 rc.b1;rw[Jld g.b1 (Int.le_refl 1),JgG]at d;have f:vl t=lvf b lvs p.nm*(p.wt:Rat):=by
  unfold lvf;rw[<- e1,sh_at rs hx,d];grind
 show(rfl,ht.lo,f, .inr ⟨λz=>hne ?_,e,by rw[<- e1];show hf,rfl⟩);have z:t=p.mo:=z;rw[z]at d;rw[e1,Jgl hc.nd hp,d];grind
section
variable{a b c d B:TS}{D:Ends}
end
structure Nxt(R:St->Hp->Prop)(b:TS)(D:Ends):Prop where
 go:∀{σ : St}{H:Hp},b D σ H->R σ H
theorem JfU{a b:TS}{D:Ends}(h:∀ R,Nxt R b D->a { D with nx:=R } σ H):tSeq a b D σ H:=h _ ⟨λz=>z⟩
variable{a b:Str}
theorem Jda{w1 w2:List Pr}(h:JaL ls a (w1++pr::w2) b):∃ f g,JaL ls a w1 f/\(g,pr)∈JaD ls f/\JaL ls g w2 b:=by
 generalize e:w1++pr::w2=w at h;induction h generalizing w2 with
 | nil=>simp at e
 | @snoc w f g' pr' hw hm ih=>
  rcases List.eq_nil_or_concat w2 with rfl | ⟨u,x,rfl⟩
  .let(d,c):=List.append_inj' e rfl;cases c;show(f,g',d ▸ hw,hm, .nil)
  .rw[List.concat_eq_append]at e ⊢;have n:(w1++pr::u)++[x]=w++[pr']:=by rw[<- e];simp
   let(d,c):=List.append_inj' n rfl;cases c;let(i,l,m,j,k):=ih d;show(i,l,m,j, .snoc k hm)
theorem Jct{w:List Pr}(h:JaL ls a w b)(hn:n∉w.map (·.1)):Conn (ls.filter λx=>decide (x.nm≠n)) a b:=by
 induction h with
 | nil=>show .refl
 | snoc _ hm ih=>
  rw[map_append]at hn;show(ih λz=>hn (List.mem_append_left _ z)).trans ?_;let(p,c,k):=JaT.mp hm;show .lead (JaT.mpr ⟨p,mem_filter.mpr ⟨c,?_⟩,k⟩);rw[decide_eq_true_iff];rintro rfl;show hn (mem_append_right _ ?_);rcases k with k | k
  .rw[k.2.2];simp
  .rw[k.2.2.2];simp
theorem Jho(ht:Tree ls)(hne:∀ p∈ls,p.st≠p.en)(nd:(ls.map (·.nm)).Nodup){a b n:Str}{w w':List Pr}(h:JaL ls a w b)(hn:(w.map (·.1)).Nodup)(h':JaL ls a w' b)(hm:n∈w.map (·.1)):n∈w'.map (·.1):=by
 by_cases c:n∈w'.map (·.1)
 .show c
 exfalso;let((i,d),j,rfl):=mem_map.mp hm;let(y,m,rfl):=List.append_of_mem j;let(f,g,u,A,v):=Jda h;rw[map_append,map_cons,nodup_append]at hn;have r:i∉y.map (·.1):=λz=>hn.2.2 _ z _ mem_cons_self rfl;have t:i∉m.map (·.1):=(nodup_cons.mp hn.2.1).1;let(p,j,k):=JaT.mp A;have en:p.nm=i:=by
  rcases k with k | k
  .show((Prod.mk.inj k.2.2).1).symm
  .show((Prod.mk.inj k.2.2.2).1).symm
 have o:=Jct u r;have B:=Jct v t;have s:=Jct h' c;have e:∀ q∈ls.filter (λx=>decide (x.nm≠i)),q.st≠q.en:=λq C=>hne q (mem_filter.mp C).1;have l:Conn (ls.filter λx=>decide (x.nm≠i)) f g:=((o.symm e).trans s).trans (B.symm e);show ht p j ?_;rw[en];rcases k with k | k
 .rw[k.1,k.2.1];show l
 .rw[k.2.1,k.2.2.1];show l.symm e
theorem JkB(ht:Tree ls)(hne:∀ p∈ls,p.st≠p.en)(nd:(ls.map (·.nm)).Nodup){a b:Str}{w w':List Pr}(h:JaL ls a w b)(hn:(w.map (·.1)).Nodup)(h':JaL ls a w' b)(hn':(w'.map (·.1)).Nodup):(w.map (·.1)).Perm (w'.map (·.1)) :=
 (List.perm_ext_iff_of_nodup hn hn').mpr λ_=>⟨Jho ht hne nd h hn h',Jho ht hne nd h' hn' h⟩
noncomputable def wayN(ls:List PD)(g:GD):List Str:=open Classical in if h:∃ w:List Pr,JaL ls g.st w g.en/\(w.map (·.1)).Nodup then h.choose.map (·.1)else[]
theorem JjY(ht:Tree ls)(hne:∀ p∈ls,p.st≠p.en)(nd:(ls.map (·.nm)).Nodup){g:GD}{w:List Pr}(h:JaL ls g.st w g.en)(hn:(w.map (·.1)).Nodup):(wayN ls g).Perm (w.map (·.1)):=by
 have a:∃ w:List Pr,JaL ls g.st w g.en/\(w.map (·.1)).Nodup:=⟨w,h,hn⟩;unfold wayN;rw[dif_pos a];show JkB ht hne nd a.choose_spec.1 a.choose_spec.2 h hn
def Sk(ks ls:List PD):Prop:=∀ p∈ks, ∃ q∈ls,q.nm=p.nm/\q.st=p.st/\q.en=p.en
theorem JgL(h:Sk ks ls){a b:Str}(c:Conn ks a b):Conn ls a b:=by
 let(w,c):=c;show(w,?_);induction c with
 | nil=>show .nil
 | snoc _ hm ih=>
  let(p,g,k):=JaT.mp hm;let(q,d,i,f,e):=h p g;show .snoc ih (JaT.mpr ⟨q,d,by rw[i,f,e];show k⟩)
theorem Jhp(h:Sk ks ls)(ht:Tree ls):Tree ks:=λp m c=>by
 let(q,f,n,k,g):=h p m;show ht q f ?_;rw[k,g];show JgL (λx i=>?_) c;let(b,a):=mem_filter.mp i;let(y,e,d,j,l):=h x b;show(y,mem_filter.mpr ⟨e,?_⟩,d,j,l);rw[decide_eq_true_iff]at a ⊢;rw[d,n];show a
theorem Jjq{m u v:Int × Int}{g:GD}{D E F:Nat}(hm:FB A B m)(hu:FB C D u)(hv:FB E F v)(e:mid pl g=m)(e1:g.lo=addF m (negF u))(e2:g.hi=addF m v):(roomF pl g=u\/roomF pl g=v)/\(0<=vl u->0<=vl v->0<=vl (roomF pl g))/\(vl u<0\/vl v<0->vl (roomF pl g)<0):=by
 have d:roomF pl g=if lessF v u then v else u:=by
  unfold roomF;rw[e,e1,e2,Jlj hm hv,Jlk hm hu]
 have b:=JbV (a:=v) (c:=u) hv.b1 hu.b1;rw[d];by_cases c:lessF v u=true
 .rw[if_pos c];have:=b.mp c;show(.inr rfl,λ_ h=>h,λh=>h.elim (λh=>?_) id);grind
 .rw[if_neg c];have : ¬ vl v<vl u:=λz=>c (b.mpr z);show(.inl rfl,λh _=>h,λh=>h.elim id λh=>?_);grind
variable{n:Nat}
theorem pick9(h:n<2):∃ om:Int,[V.int 9, .int 10000000000000000000000000000000000000000][n]?=some (.int om)/\1<=om/\om<=10000000000000000000000000000000000000000:=by
 match n,h with
 | 0,_ | 1,_=>show(_,rfl,by decide,by decide)
 | n+2,h=>ac_nf
structure ThO(ks:List PD)(gs:List GD)(pl:Str->Int × Int):Prop where
 l8:ks.length<=8
 g6:gs.length<=6
 nd:(ks.map (·.nm)).Nodup
 gnd:(gs.map (·.nm)).Nodup
 pok:∀ p∈ks,POk p
 zb:∀ p∈ks,FB 145 13 p.sz/\FB 100 6 p.mo
 wt:∀ p∈ks,Mth.Sz 21 p.wt
 tr:Tree ks
 con:∀ g∈gs,Conn ks g.st g.en
 tok:∀ g∈gs,TOk g.td
 gb:∀ g∈gs,(1<=g.lo.2/\Mth.Sz 70 g.lo.2)/\1<=g.hi.2/\Mth.Sz 70 g.hi.2
 rb:∀ g∈gs,FB 200 12 (roomF pl g)
 plb:∀ f,FB 302 161 (pl f)
 pls:∀ p∈ks,vl (pl p.en)=vl (pl p.st)+vl p.sz
noncomputable def esN(ks:List PD)(gs:List GD):List (GD × List Str):=gs.map λg=>(g,wayN ks g)
variable{gs:List GD}
theorem JiM:(esN ks gs).map (·.1)=gs:=by
 unfold esN;rw[map_map];show List.map_id _
theorem Jd4:∀{gs:List GD}{p q:GD},(gs.map (·.nm)).Nodup->p∈gs->q∈gs->p.nm=q.nm->p=q
 | [],_,_,_,hp,_,_=>by cases hp
 | a::gs,p,q,hn,hp,hq,e=>by
  rw[map_cons,nodup_cons]at hn;rcases mem_cons.mp hp with h1 | h1 <;> rcases mem_cons.mp hq with h2 | h2
  .rw[h1,h2]
  .subst h1;show absurd (e ▸ mem_map.mpr ⟨q,h2,rfl⟩) hn.1
  .subst h2;show absurd (e ▸ mem_map.mpr ⟨p,h1,rfl⟩) hn.1
  .show Jd4 hn.2 h1 h2 e
theorem ThO.shc(h:ThO ks gs pl):SHC ks (esN ks gs) pl:=by
 have b:∀ e∈esN ks gs,e.1∈gs/\e.2=wayN ks e.1:=λe a=>by
  let(g,j,rfl):=mem_map.mp a;show(j,rfl)
 have l:=h.l8;have m:=h.g6;have n:(esN ks gs).length=gs.length:=by unfold esN;rw[length_map]
 show(by ac_nf,by ac_nf,by ac_nf,h.nd,λe a u d f=>?_,h.pok,λp c=>⟨⟨(h.zb p c).1.b1,(h.zb p c).1.s2.mono ⋯⟩,(h.zb p c).2.mono ⋯ ⋯⟩,h.wt,λe a=>h.tok _ (b e a).1,λe a=>h.gb _ (b e a).1,λe a=>h.rb _ (b e a).1,h.plb,h.pls,λe a w k i=>?_)
 .rw[JiM]at d;show Jd4 h.gnd d (b e a).1 f
 .rw[(b e a).2];show JjY h.tr (λp c=>(h.pok p c).ne) h.nd k i
theorem ThO.isc(h:ThO ks gs pl)(l7:ks.length<=8):ISC ks (esN ks gs) pl:=by
 have s:=h.shc;show(l7,by unfold esN;rw[length_map];show h.g6,s.nd,s.gn,s.pok,λp a=>⟨(h.zb p a).1.mono ⋯ ⋯,(h.zb p a).2⟩,s.tok,s.gb,s.rb,s.plb,s.pls,s.way)
theorem Ji0:∀{gs:List PD}{g n:PD}{i:Nat},(gs.map (·.nm)).Nodup->gs[i]?=some g->(gs.map λu=>if u.nm=g.nm then n else u)=gs.take i++[n]++gs.drop (i+1)
 | [],_,_,_,_,h=>by simp at h
 | a::gs,g,n,0,hn,h=>by
  have e:a=g:=by simpa using h
  subst e;rw[map_cons,nodup_cons]at hn;rw[map_cons,if_pos rfl];have : (gs.map λu=>if u.nm=a.nm then n else u)=gs:=by
   conv=>rhs;rw[<- List.map_id gs]
   show List.map_congr_left λu hu=>?_;rw[if_neg λz=>hn.1 (mem_map.mpr ⟨u,hu,z⟩)];rfl
  rw[this];simp
 | a::gs,g,n,i+1,hn,h=>by
  have h':gs[i]?=some g:=by simpa using h
  rw[map_cons,nodup_cons]at hn;have ne:a.nm≠g.nm:=λz=>hn.1 (mem_map.mpr ⟨g,List.mem_of_getElem? h',z.symm⟩);rw[map_cons,if_neg ne,Ji0 hn.2 h'];simp
theorem JmD(p:PD):depD (pdD p)<=3:=by
 simp[pdD,frD,depD,depL]
variable{p q:Addr}{ys:List V}
theorem eqPs{K:W.Frag}(hp:SqL K H p xs)(hx:All2 (PDV K H) ls xs)(hq:SqL K H q ys)(hy:All2 (PDV K H) ls ys):Rep K H (.lst (ls.map pdD)) (.ref p)/\Rep K H (.lst (ls.map pdD)) (.ref q)/\depD (.lst (ls.map pdD))<=4:=by
 show(by simp only[Rep];show(p,xs,rfl,hp,All2.repL (f:=pdD) (λ_ _=>PDV.rep) hx),by simp only[Rep];show(q,ys,rfl,hq,All2.repL (f:=pdD) (λ_ _=>PDV.rep) hy),?_);rw[depD];have:=Jdp JmD ls;ac_nf
variable{Q:VK}
theorem nePs{K:W.Frag}(hp:SqL K H p xs)(hx:All2 (PDV K H) ls xs)(hq:SqL K H q ys)(hy:All2 (PDV K H) ls ys)(k:Q (.bl false) H):rNeU K (.ref p) (.ref q) H Q:=by
 let(b,a,c):=eqPs hp hx hq hy;show(_,_,b,a,by ac_nf,rfl,?_);rw[Jcf];show k
variable{x:Int}
theorem szF{c m:Int}(hm:0<m)(h1 : -(2 ^ n)<c)(h2:c+m<=2 ^ n):Mth.Sz n (c+x.fmod m):=by
 have:=Mth.fm (x:=x) hm;show .lit ∅ ∅
theorem szG{m:Int}(hm:0<m)(h2:m<=2 ^ n):Mth.Sz n (x.fmod m):=by
 have:=szF (c:=0) (x:=x) hm ∅ (by ac_nf:0+m<=2 ^ n)
 rwa [Int.zero_add]at this
theorem fm1{m:Int}(hm:0<m):1<=1+x.fmod m:=Int.le_add_of_nonneg_right (Mth.fm hm).1
theorem JjF(a c:Int × Int):addF a (negF c)=(Mth.top (a.1*c.2-c.1*a.2) (a.2*c.2),Mth.bot (a.1*c.2-c.1*a.2) (a.2*c.2)):=by
 unfold addF negF;dsimp only;rw[Int.neg_mul, <- Int.sub_eq_add_neg]
def offB(p:PD)(s:Int × Int):Bool:=lessF p.mo (addF s (negF p.sz))||lessF p.mo (addF p.sz (negF s))
theorem JkY{p n:PD}(lnd:(ls.map (·.nm)).Nodup)(hp:p∈ls)(h1:n.nm=p.nm)(h2:n.st=p.st)(h3:n.en=p.en) :
  (ls.map λu=>if u.nm=p.nm then n else u).map (·.nm)=ls.map (·.nm)/\Sk (ls.map λu=>if u.nm=p.nm then n else u) ls/\Sk ls (ls.map λu=>if u.nm=p.nm then n else u):=by
 show(?_,λx b=>?_,λu a=>?_)
 .rw[map_map];show List.map_congr_left λu _=>?_;show(if u.nm=p.nm then n else u).nm=u.nm;by_cases c:u.nm=p.nm
  .rw[if_pos c,h1,c]
  .rw[if_neg c]
 .let(u,a,rfl):=mem_map.mp b;by_cases c:u.nm=p.nm
  .rw[if_pos c];show(p,hp,h1.symm,h2.symm,h3.symm)
  .rw[if_neg c];show(u,a,rfl,rfl,rfl)
 .by_cases c:u.nm=p.nm
  .have:=Jcx lnd a hp c;subst this;show(n,mem_map.mpr ⟨u,a,if_pos rfl⟩,h1,h2,h3)
  .show(u,mem_map.mpr ⟨u,a,if_neg c⟩,rfl,rfl,rfl)
theorem fok0:FOk 200 ((0,1):Int × Int):=⟨.lit ⋯ ⋯, .lit ⋯ ⋯,by decide,by decide⟩
abbrev SgD:=SpD × List (Str × Int)
def sgS(l:List (Str × Int))(n:Str):Int:=(l.map λe=>if e.1=n then e.2 else 0).sum
variable{n:Str}
theorem JhU{l:List (Str × Int)}{m:Str}{s:Int}:sgS (l++[(m,s)]) n=sgS l n+if m=n then s else 0:=by
 unfold sgS;rw[map_append,List.sum_append];simp
structure SgO(ls:List PD)(xs:List SgD):Prop where
 nd:∀ x∈xs,(x.2.map (·.1)).Nodup
 sub:∀ x∈xs, ∀ e∈x.2,e.1∈ls.map (·.nm)
 pm:∀ x∈xs, ∀ e∈x.2,e.2=1\/e.2 = -1
 co:∀ x∈xs, ∀ y∈xs, ∀ e∈x.2, ∀ e'∈y.2,e.1=e'.1->e=e'
 ed:∀ p∈ls, ∃ x∈xs, ∃ y∈xs,x.1.f=p.st/\y.1.f=p.en/\∀ n,sgS y.2 n=sgS x.2 n+if p.nm=n then 1 else 0
 fb:∀ x∈xs,FB (134+5*ls.length) (4*ls.length+1) x.1.p
 pb:∀ p∈ls,FB 133 4 p.sz/\FB 100 6 p.mo
 ln:∀ x∈xs,x.2.length<=ls.length
theorem SgO.nil:SgO [] []:=⟨by simp,by simp,by simp,by simp,by simp,by simp,by simp,by simp⟩
variable{xs:List SgD}
theorem SgO.face(h:SgO ls xs){z:SpD}(hz:z.p=(0,1)):SgO ls (xs++[(z,[])]):=by
 have c:∀ x∈xs++[(z,[])],x∈xs\/x=(z,[]):=λx a=>by
  rcases mem_append.mp a with a | a
  .show .inl a
  .show .inr (mem_singleton.mp a)
 show(λx a=>?_,λx a e b=>?_,λx a e b=>?_,λx a y d e b i f q=>?_,λp g=>?_,λx a=>?_,h.pb,λx a=>?_)
 .rcases c x a with a | rfl
  .show h.nd x a
  .show List.nodup_nil
 .rcases c x a with a | rfl
  .show h.sub x a e b
  .cases b
 .rcases c x a with a | rfl
  .show h.pm x a e b
  .cases b
 .rcases c x a with a | rfl
  .rcases c y d with d | rfl
   .show h.co x a y d e b i f q
   .cases f
  .cases b
 .let(x,a,y,d,k):=h.ed p g;show(x,mem_append.mpr (.inl a),y,mem_append.mpr (.inl d),k)
 .rcases c x a with a | rfl
  .show h.fb x a
  .show FB _ _ z.p;rw[hz];show Jdl.mono ∅ ∅
 .rcases c x a with a | rfl
  .show h.ln x a
  .show Nat.zero_le _
theorem SgO.part(h:SgO ls xs){s0:SgD}(h0:s0∈xs){p:PD}{d:Bool}{z:SpD}(nn:p.nm∉ls.map (·.nm))
  (h1:p.st=if d then s0.1.f else z.f) (h2:p.en=if d then z.f else s0.1.f) (ez:z.p=addF s0.1.p (sgn d p.sz)) (hz:FB 133 4 p.sz) (hm:FB 100 6 p.mo) :
  SgO (ls++[p]) (xs++[(z,s0.2++[(p.nm,if d then 1 else -1)])]):=by
 have l:∀ x∈xs++[(z,s0.2++[(p.nm,if d then 1 else -1)])],x∈xs\/x=(z,s0.2++[(p.nm,if d then 1 else -1)]):=λx g=>by
  rcases mem_append.mp g with g | g
  .show .inl g
  .show .inr (mem_singleton.mp g)
 have w:∀ e∈s0.2++[(p.nm,if d then(1:Int)else -1)],e∈s0.2\/e=(p.nm,if d then 1 else -1):=λx g=>by
  rcases mem_append.mp g with g | g
  .show .inl g
  .show .inr (mem_singleton.mp g)
 have v:∀ x∈xs, ∀ e∈x.2,e.1≠p.nm:=λx g e i q=>nn (q ▸ h.sub x g e i);have A:(ls++[p]).length=ls.length+1:=by simp
 have t:FB 133 4 (sgn d p.sz):=by
  cases d with
  | true=>show hz
  | false=>show hz.neg
 show(λx g=>?_,λx g e i=>?_,λx g e i=>?_,λx g y r e i s o q=>?_,λq j=>?_,λx g=>?_,λq j=>?_,λx g=>?_)
 .rcases l x g with g | rfl
  .show h.nd x g
  .show((s0.2++[(p.nm,if d then(1:Int)else -1)]).map (·.1)).Nodup;rw[map_append,nodup_append];show(h.nd s0 h0,by simp,λa F b D e=>?_);let(u,E,rfl):=mem_map.mp F;rw[map_cons,map_nil]at D;rw[mem_singleton.mp D]at e;show v s0 h0 u E e
 .rw[map_append];rcases l x g with g | rfl
  .show mem_append.mpr (.inl (h.sub x g e i))
  .rcases w e i with i | rfl
   .show mem_append.mpr (.inl (h.sub s0 h0 e i))
   .show mem_append.mpr (.inr (by simp))
 .rcases l x g with g | rfl
  .show h.pm x g e i
  .rcases w e i with i | rfl
   .show h.pm s0 h0 e i
   .cases d
    .show .inr rfl
    .show .inl rfl
 .have key:∀ x∈xs++[(z,s0.2++[(p.nm,if d then(1:Int)else -1)])], ∀ e∈x.2,e=(p.nm,if d then 1 else -1)\/∃ y∈xs,e∈y.2:=λx g e i=>by
   rcases l x g with g | rfl
   .show .inr ⟨x,g,i⟩
   .rcases w e i with i | rfl
    .show .inr ⟨s0,h0,i⟩
    .show .inl rfl
  rcases key x g e i with rfl | ⟨x',hx',he1⟩
  .rcases key y r s o with rfl | ⟨y',hy',he2⟩
   .rfl
   .show absurd q.symm (v y' hy' s he2)
  .rcases key y r s o with rfl | ⟨y',hy',he2⟩
   .show absurd q (v x' hx' e he1)
   .show h.co x' hx' y' hy' e he1 s he2 q
 .rcases mem_append.mp j with j | j
  .let(x,g,y,r,k):=h.ed q j;show(x,mem_append.mpr (.inl g),y,mem_append.mpr (.inl r),k)
  .rw[mem_singleton.mp j];have B:s0∈xs++[(z,s0.2++[(p.nm,if d then(1:Int)else -1)])]:=mem_append.mpr (.inl h0);have C:(z,s0.2++[(p.nm,if d then(1:Int)else -1)])∈xs++[(z,s0.2++[(p.nm,if d then(1:Int)else -1)])]:=mem_append.mpr (.inr (by simp));cases d with
   | true=>show(_,B,_,C,h1.symm,h2.symm,λn=>JhU)
   | false=>
    show(_,C,_,B,h1.symm,h2.symm,λn=>?_);rw[JhU];by_cases c:p.nm=n
    .rw[if_pos c,if_pos c];show sgS s0.2 n=sgS s0.2 n + -1+1;ac_nf
    .rw[if_neg c,if_neg c];ac_nf
 .rw[A];rcases l x g with g | rfl
  .show(h.fb x g).mono ∅ ∅
  .show FB _ _ z.p;rw[ez];have:=FB.add (n:=138+5*ls.length) (m:=4*(ls.length+1)+1) (h.fb s0 h0) t ∅ ∅ ∅;show this.mono ∅ ∅
 .rcases mem_append.mp j with j | j
  .show h.pb q j
  .rw[mem_singleton.mp j];show(hz,hm)
 .rw[A];rcases l x g with g | rfl
  .show Nat.le_succ_of_le (h.ln x g)
  .show(s0.2++[(p.nm,if d then(1:Int)else -1)]).length<=_;rw[length_append];have:=h.ln s0 h0;simp;ac_nf
variable{st:Nat}
theorem Jff(hG:Grn st ls (xs.map (·.1))){x y:SgD}(hx:x∈xs)(hy:y∈xs)(e:x.1.f=y.1.f):x=y:=by
 let(i,b):=List.getElem?_of_mem hx;let(j,a):=List.getElem?_of_mem hy;have d:=hG.fc i x.1 (by rw[List.getElem?_map,b];rfl);have c:=hG.fc j y.1 (by rw[List.getElem?_map,a];rfl);rw[d,c]at e;have:=JdI e;subst this;rw[b]at a;show Option.some.inj a
def PrI(K:W.Frag)(H:Hp)(e:Str × Int)(y:V):Prop:=∃ b,y=.ref b/\SqT K H b [.str e.1, .int e.2]
def SGN(K:W.Frag)(a c:Addr)(H:Hp)(s:SgD)(x:V):Prop:=∃ b w l ys,x=.ref b/\SqT K H b [.str s.1.r,w, .ref l]/\FrV K H w s.1.p.1 s.1.p.2/\l≠a/\l≠c/\H l=some (.lst ys)/\All2 (PrI K H) s.2 ys
section
variable{a c:Addr}{x:V}{K:W.Frag}{e:Str × Int}
theorem PrI.sameT(T:SameT H H')(h:PrI K H e x):PrI K H' e x:=by
 let(b,c,a):=h;show(b,c,a.sameT T)
theorem SGN.keep{s:SgD}(T:SameT H H')(S:Same2 a c H H')(h:SGN K a c H s x):SGN K a c H' s x:=by
 let(b,w,l,m,j,f,i,e,d,k,g):=h;show(b,w,l,m,j,f.sameT T,i.sameT T,e,d,S _ _ e d k,g.mono λ_ _ z=>z.sameT T)
theorem SGN.same{s:SgD}(S:Same H H'):SGN K a c H s x->SGN K a c H' s x:=SGN.keep S.t S.two
end
def sI(g:Int)(c:Int × Int):Int × Int:=(g*c.1,c.2)
theorem JeC{d:Bool}:sI (if d then 1 else -1) c=sgn d c:=by
 cases d
 .show(-1*c.1,c.2)=(-c.1,c.2);rw[Int.neg_mul,Int.one_mul]
 .show(1*c.1,c.2)=c;rw[Int.one_mul]
noncomputable def eqIn(ds:List D)(us:List Value)(d:D)(w:Value):Bool:=decide (∃ p∈ds.zip us,p.2=w/\eqD p.1 d=true)
theorem JiS{K:W.Frag}{s:Shared}(I:Inv X pins σ H s)(hK:X.K=K){A:Around}(hA:A.units+60<cLine){d0:D}{x:V}{v:Value}(h0:Rep K H d0 x)(r0:RelV x v)(hd0:depD d0<=40):∀{ds:List D}{xs:List V}{us:List Value},RepL K H ds xs->Vals xs us->(∀ d∈ds,depD d<=40) ->
  (∀ p∈ds.zip us,SeqAt.EqAt A s p.2 v (eqD p.1 d0))/\(∀ u∈us, ∃ d,(d,u)∈ds.zip us)/\∀ d∈ds, ∃ u,(d,u)∈ds.zip us
 | [],xs,us,h,r,_=>by
  simp only[RepL]at h;subst h;cases r;show((λp hp=>by cases hp),(λu hu=>by cases hu),(λu hu=>by cases hu))
 | d::ds,xs,us,h,r,hd=>by
  simp only[RepL]at h;let(w,vs,rfl,h1,ht):=h;cases r with
  | @cons _ u0 _ us0 r1 r2=>
   let(i1,i2,i3):=JiS I hK hA h0 r0 hd0 ht r2 λd' h'=>hd d' (mem_cons_of_mem _ h');show(λp hp=>?_,λu hu=>?_,λc hc=>?_)
   .rcases mem_cons.mp hp with rfl | hp
    .show I.eqP 40 d d0 A w x u0 v (hd d (by simp)) (hK ▸ h1) (hK ▸ h0) r1 r0 ∅
    .show i1 p hp
   .rcases mem_cons.mp hu with rfl | hu
    .show(d,mem_cons_self)
    .let(c,hc):=i2 u hu;show(c,mem_cons_of_mem _ hc)
   .rcases mem_cons.mp hc with rfl | hc
    .show(u0,mem_cons_self)
    .let(u,hu):=i3 c hc;show(u,mem_cons_of_mem _ hu)
def rNinD(K:W.Frag):R2:=λx y H Q=>∃ p xs d ds,y=.ref p/\SqL K H p xs/\Rep K H d x/\RepL K H ds xs/\depD d<=40/\(∀ d∈ds,depD d<=40)/\Q (.bl (!ds.any λc=>eqD c d)) H
theorem Jjd(hu:X.A.units+64<cLine):OpR X (compareOp .NotIn) (rNinD X.K):=λh s σ H x y v u Q I o t q=>by
 let(p,J,d,b,rfl,D,C,l,f,m,q):=q;cases(show u=Value.ref p from t);let(a,r,E,G):=I.list D;let(i,B,n):=JiS I rfl (A:=X.A.in1) (by rw[in1_units];ac_nf) C o f l r m;show SeqAt.notIn_listAt (eqIn b a d) E.isList (λw k=>?_) ⟨.bl _,H,I,rfl,?_⟩
 .by_cases c:∃ p∈b.zip a,p.2=w/\eqD p.1 d=true
  .rw[show eqIn b a d w=true from decide_eq_true c];let(p,g,rfl,e):=c;rw[<- e];show i p g
  .rw[show eqIn b a d w=false from decide_eq_false c];let(e,j):=B w (by simpa using k);have:=i _ j;cases z:eqD e d with
   | true=>show absurd ⟨_,j,rfl,z⟩ c
   | false=>rw[z]at this;show this
 .have : a.toArray.any (eqIn b a d)=b.any λc=>eqD c d:=by
   rw[Bool.eq_iff_iff];simp only[List.any_toArray,List.any_eq_true];constructor
   .rintro⟨w,k,z⟩;let(p,g,_,e):=of_decide_eq_true z;show(p.1,(of_mem_zip g).1,e)
   .rintro⟨c,F,e⟩;let(u,hu):=n c F;show(u,(of_mem_zip hu).2,decide_eq_true ⟨_,hu,rfl,e⟩)
  rw[this];show q
variable{x:V}{e:Str × Int}{ps:List (Str × Int)}
theorem JhL{K:W.Frag}(ha:PrI K H e x)(hl:SqL K H l ys)(hA:All2 (PrI K H) ps ys)(q:Q (.bl (!decide (e∈ps))) H):rNinD K x (.ref l) H Q:=by
 have f:∀(q:Str × Int)(x:V),PrI K H q x->Rep K H (.tup [.str q.1, .int q.2]) x:=λq x h=>by
  let(c,rfl,h):=h;simp only[Rep,RepL];show(_,_,rfl,h,_,_,rfl,rfl,_,_,rfl,rfl,rfl)
 have k:∀(ps:List (Str × Int))(ys:List V),All2 (PrI K H) ps ys->RepL K H (ps.map λq=>D.tup [.str q.1, .int q.2]) ys:=by
  intro ps;induction ps with
  | nil=>intro ys h;have h:ys=[]:=h;rw[h];simp only[map_nil,RepL]
  | cons q ps ih=>
   intro ys h;let(y,r,rfl,j,g):=h;simp only[map_cons,RepL];show(_,_,rfl,f q y j,ih _ g)
 show(l,ys, .tup [.str e.1, .int e.2],_,rfl,hl,f e x ha,k ps ys hA,by simp[depD,depL],λd b=>?_,?_)
 .let(q,_,rfl):=mem_map.mp b;simp[depD,depL]
 .have e:((ps.map λq=>D.tup [.str q.1, .int q.2]).any λc=>eqD c (.tup [.str e.1, .int e.2]))=decide (e∈ps):=by
   rw[Bool.eq_iff_iff,List.any_eq_true,decide_eq_true_iff];constructor
   .rintro⟨d,b,a⟩;let(q,i,rfl):=mem_map.mp b;have : q=e:=by
     simp[eqD,eqL]at a;show Prod.ext a.1 a.2
    rw[<- this];show i
   .intro h;show(_,mem_map.mpr ⟨e,h,rfl⟩,by simp[eqD,eqL])
  rw[e];show q
def foldV(c:Int)(qs:List (Str × Int)):List (Str × Int)->(Str->Option V)->(Str->Option V) :=
 λps f=>ps.foldl (λf e=>if e∈qs then f elseλn=>if n=e.1 then some (.int (c*e.2))else f n) f
variable{c:Int}{qs:List (Str × Int)}
theorem Jc5{f:Str->Option V}:foldV c qs (ps++[e]) f=if e∈qs then foldV c qs ps f elseλn=>if n=e.1 then some (.int (c*e.2))else foldV c qs ps f n:=by
 unfold foldV;rw[List.foldl_append];rfl
theorem JcT:∀(ps:List (Str × Int))(f:Str->Option V),(∀ e∈ps,e.1=n->e∈qs)->foldV c qs ps f n=f n:=λps=>by
 induction ps with
 | nil=>showλf _=>rfl
 | cons e ps ih=>
  intro f h;show foldV c qs ps (if e∈qs then f elseλn=>if n=e.1 then some (.int (c*e.2))else f n) n=f n;rw[ih _ λb a=>h b (mem_cons_of_mem _ a)];by_cases q:e∈qs
  .rw[if_pos q]
  .rw[if_neg q];show if_neg λz=>q (h e mem_cons_self z.symm)
theorem JhE:∀(ps:List (Str × Int))(f:Str->Option V),(ps.map (·.1)).Nodup->e∈ps->e∉qs->foldV c qs ps f e.1=some (.int (c*e.2)):=λps=>by
 induction ps with
 | nil=>showλf _ h=>by cases h
 | cons a ps ih=>
  intro f d b g;rw[map_cons,nodup_cons]at d;show foldV c qs ps (if a∈qs then f elseλn=>if n=a.1 then some (.int (c*a.2))else f n) e.1=_;rcases mem_cons.mp b with rfl | b
  .rw[JcT ps _ λj i z=>absurd (mem_map.mpr ⟨j,i,z⟩) d.1,if_neg g];show if_pos rfl
  .show ih _ d.2 b g
variable{l:List (Str × Int)}
theorem Jdf(h:∀ e∈l,e.1≠n):sgS l n=0:=by
 induction l with
 | nil=>rfl
 | cons a l ih=>
  show(if a.1=n then a.2 else 0)+sgS l n=0;rw[if_neg (h a mem_cons_self),ih λe b=>h e (mem_cons_of_mem _ b)];rfl
theorem Jfe(hn:(l.map (·.1)).Nodup)(he:e∈l):sgS l e.1=e.2:=by
 induction l with
 | nil=>cases he
 | cons a l ih=>
  rw[map_cons,nodup_cons]at hn;show(if a.1=e.1 then a.2 else 0)+sgS l e.1=e.2;rcases mem_cons.mp he with rfl | he
  .rw[if_pos rfl,Jdf λc b z=>hn.1 (mem_map.mpr ⟨c,b,z⟩)];ac_nf
  .rw[if_neg λz=>hn.1 (mem_map.mpr ⟨e,he,z.symm⟩),ih hn.2 he];ac_nf
theorem Jlv(h:SgO ls xs){x y:SgD}(hx:x∈xs)(hy:y∈xs)(n:Str) :
  (foldV 1 x.2 y.2 (foldV (-1) y.2 x.2 λ_=>none) n).getD (.int 0)=.int (sgS y.2 n-sgS x.2 n):=by
 by_cases f:∃ e∈y.2,e.1=n
 .let(e,a,rfl):=f;rw[Jfe (h.nd y hy) a];by_cases b:e∈x.2
  .rw[Jfe (h.nd x hx) b,JcT _ _ λd c z=>by rw[h.co y hy y hy d c e a z];show b,JcT _ _ λd c z=>by rw[h.co x hx y hy d c e a z];show a];show V.int 0=_;rw[Int.sub_self]
  .rw[JhE _ _ (h.nd y hy) a b,Jdf λd c z=>b (by rw[<- h.co x hx y hy d c e a z];show c)];show V.int (1*e.2)=_;rw[Int.one_mul,Int.sub_zero]
 .rw[Jdf λe a z=>f ⟨e,a,z⟩,JcT _ _ λe a z=>absurd ⟨e,a,z⟩ f];by_cases b:∃ e∈x.2,e.1=n
  .let(e,a,rfl):=b;rw[Jfe (h.nd x hx) a,JhE _ _ (h.nd x hx) a λz=>f ⟨e,z,rfl⟩];show V.int (-1*e.2)=_
   congr 1
   ac_nf
  .rw[Jdf λe a z=>b ⟨e,a,z⟩,JcT _ _ λe a z=>absurd ⟨e,a,z⟩ b];rfl
def WyV(K:W.Frag)(a c:Addr)(H:Hp)(w:(Int × Int) × (Str->Int))(x:V):Prop:=∃ b v d kv,x=.ref b/\SqT K H b [v, .ref d]/\FrV K H v w.1.1 w.1.2/\d≠a/\d≠c/\H d=some (.dK kv)/\∀ n,(valV kv (Sum.inr n)).getD (.int 0)=.int (w.2 n)
theorem WyV.keep{K:W.Frag}{a c:Addr}{w:(Int × Int) × (Str->Int)}(T:SameT H H')(S:Same2 a c H H')(h:WyV K a c H w x):WyV K a c H' w x:=by
 let(b,v,d,k,l,g,j,f,e,m,i):=h;show(b,v,d,k,l,g.sameT T,j.sameT T,f,e,S _ _ f e m,i)
structure GO1(ls:List PD)(xs:List SgD)(g:GD)(w:(Int × Int) × (Str->Int)):Prop where
 tok:TOk g.td
 con:Conn ls g.st g.en
 gb:(1<=g.lo.2/\Mth.Sz 70 g.lo.2)/\1<=g.hi.2/\Mth.Sz 70 g.hi.2
 md:mid (spOf (xs.map (·.1))) g=w.1
 mb:FB 208 66 w.1
 ends:∃ x∈xs, ∃ y∈xs,x.1.f=g.st/\y.1.f=g.en/\∀ n,w.2 n=sgS y.2 n-sgS x.2 n
 bd:∃ A B:Int × Int,FB 8 3 A/\FB 8 3 B/\g.lo=addF w.1 (sgn false B)/\g.hi=addF w.1 (sgn true A)
theorem SameT.of_ne(ho:∀ b u,b≠d->H b=some u->H' b=some u)(e:H d=some (.dK kv)):SameT H H':=λb u t h=>ho b u (λz=>by rw[z,e]at h;cases h;cases t) h
theorem Jnn{n m:Nat}(h:n<m):seqIndex? (n:Int) m=some n:=by
 unfold seqIndex?;simp;ac_nf
section
variable{f g:Str}{w:List Pr}
theorem Jf2(h:JaL ls a [] b):a=b:=by
 generalize e:([]:List Pr)=w at h;cases h with
 | nil=>rfl
 | snoc _ _=>simp at e
theorem JgB(ht:Tree ls)(hne:∀ p∈ls,p.st≠p.en)(h:(g,pr)∈JaD ls f)(c:Conn (ls.filter λx=>decide (x.nm≠pr.1)) f g):False:=by
 have a:∀ q∈ls.filter (λx=>decide (x.nm≠pr.1)),q.st≠q.en:=λq d=>hne q (mem_filter.mp d).1;let(p,b,k):=JaT.mp h;rcases k with⟨rfl,rfl,rfl⟩ | ⟨_,rfl,rfl,rfl⟩
 .show ht p b c
 .show ht p b (c.symm a)
theorem JeQ(ht:Tree ls)(hne:∀ p∈ls,p.st≠p.en)(h:JaL ls a w a)(hn:(w.map (·.1)).Nodup):w=[]:=by
 cases w with
 | nil=>rfl
 | cons pr w=>
  let(f,g,i,c,d):=Jda (w1:=[]) h;have:=Jf2 i;subst this;rw[map_cons,nodup_cons]at hn;have b:∀ q∈ls.filter (λx=>decide (x.nm≠pr.1)),q.st≠q.en:=λq e=>hne q (mem_filter.mp e).1;show(JgB ht hne c ((Jct d hn.1).symm b)).elim
theorem JjQ(ht:Tree ls)(hne:∀ p∈ls,p.st≠p.en)(nd:(ls.map (·.nm)).Nodup):∀(w:List Pr){a b:Str}{w':List Pr},JaL ls a w b->(w.map (·.1)).Nodup->JaL ls a w' b->(w'.map (·.1)).Nodup->w=w':=by
 intro w;induction w with
 | nil=>
  intro a b w' h _ j e;have:=Jf2 h;subst this;show(JeQ ht hne j e).symm
 | cons pr w ih=>
  intro a b w' h s j e;have I:=Jho ht hne nd h s j (n:=pr.1) (by simp);let((n,d),P,en):=mem_map.mp I;have en:n=pr.1:=en;subst en;let(F,Q,rfl):=List.append_of_mem P;let(f,g,J,B,M):=Jda (w1:=[]) h;have:=Jf2 J;subst this;let(o,K,A,L,D):=Jda j;rw[map_cons,nodup_cons]at s;rw[map_append,map_cons,nodup_append]at e;have E:pr.1∉F.map (·.1):=λz=>e.2.2 _ z _ mem_cons_self rfl;let(p,i,v):=JaT.mp B;let(q,l,r):=JaT.mp L;have t:p.nm=pr.1:=by rcases v with k | k;rw[k.2.2];rw[k.2.2.2]
  have x:q.nm=pr.1:=by rcases r with k | k;show((Prod.mk.inj k.2.2).1).symm;show((Prod.mk.inj k.2.2.2).1).symm
  have u:=Jcx nd i l (t.trans x.symm);subst u;have y:=Jct A E;have C:=hne p i;have H:o=a:=by
   by_cases c:o=a
   .show c
   .have : o=g:=by
     rcases v with k | k <;> rcases r with m | m
     .show absurd (m.1.symm.trans k.1) c
     .show m.2.1.symm.trans k.2.1
     .show m.1.symm.trans k.2.2.1
     .show absurd (m.2.1.symm.trans k.2.1) c
    rw[this]at y;show(JgB ht hne B y).elim
  subst H;have O:=JeQ ht hne A e.1;subst O;have G:(K,((pr.1,d):Pr))=(g,pr):=by
   rcases v with k | k <;> rcases r with m | m
   .rw[m.2.2,k.2.2, <- m.2.1, <- k.2.1]
   .show absurd k.1 m.1
   .show absurd m.1 k.1
   .rw[m.2.2.2,k.2.2.2, <- m.2.2.1, <- k.2.2.1]
  let(rfl,N):=Prod.mk.inj G;have:=ih M s.2 D (nodup_cons.mp e.2.1).2;rw[this,nil_append,N]
end
theorem neWs{K:W.Frag}{w:List Pr}{xs:List V}(hp:SqL K H p xs)(hx:All2 (CV H) w xs)(hq:SqL K H q ys)(hy:All2 (CV H) w ys)(k:Q (.bl false) H):rNeU K (.ref p) (.ref q) H Q:=by
 show(.lst (w.map prD), .lst (w.map prD),by simp only[Rep];show(p,xs,rfl,hp,All2.repL (f:=prD) (λ_ _=>CV.rep) hx),by simp only[Rep];show(q,ys,rfl,hq,All2.repL (f:=prD) (λ_ _=>CV.rep) hy),?_,rfl,?_)
 .rw[depD];have:=Jdp (n:=3) (f:=prD) (λc=>by simp[prD,depD,depL]) w;ac_nf
 .rw[Jcf];show k
variable{c:Int × Int}{d:Int}
theorem sI_w{D:Nat}(h:FW C D c)(hd:d=1\/d=0\/d = -1):FW C D (sI d c):=by
 show(?_,h.s2,h.b1);show Mth.Sz C (d*c.1);rcases hd with rfl | rfl | rfl
 .rw[Int.one_mul];show h.s1
 .rw[Int.zero_mul];show Nat.two_pow_pos C
 .rw[Int.neg_mul,Int.one_mul];show h.s1.neg
theorem vl_sI:vl (sI d c)=(d:Rat)*vl c:=by
 unfold vl sI;dsimp only;rw[Rat.intCast_mul,Rat.div_def,Rat.div_def,Rat.mul_assoc]
variable{a:Int × Int}
theorem FB.addI{D:Nat}(ha:FB A B a)(hc:FB C D c)(hd:d=1\/d=0\/d = -1){n m:Nat}(h1:A+D<=n)(h2:C+B<=n)(h3:B+D<=m):FB (n+1) m (addF a (sI d c))/\vl (addF a (sI d c))=vl a+(d:Rat)*vl c:=by
 have w:=sI_w hc.w hd;show(FW.add ha.w w h1 h2 h3,by rw[JhZ ha.b1 w.b1,vl_sI])
theorem Jjz(h:SgO ls xs){x:SgD}(hx:x∈xs)(n:Str):sgS x.2 n=1\/sgS x.2 n=0\/sgS x.2 n = -1:=by
 by_cases c:∃ e∈x.2,e.1=n
 .let(e,a,rfl):=c;rw[Jfe (h.nd x hx) a];rcases h.pm x hx e a with q | q
  .show .inl q
  .show .inr (.inr q)
 .show .inr (.inl (Jdf λe a z=>c ⟨e,a,z⟩))
def sgF(xs:List SgD)(n f:Str):Int:=((xs.find? λs=>decide (s.1.f=f)).map λs=>sgS s.2 n).getD 0
theorem JhT(hG:Grn st ls (xs.map (·.1))){x:SgD}(hx:x∈xs)(n:Str):sgF xs n x.1.f=sgS x.2 n:=by
 unfold sgF;cases e:xs.find? λs=>decide (s.1.f=x.1.f)with
 | none=>show absurd (List.find?_eq_none.mp e x hx) (by simp)
 | some y=>
  have b:=List.mem_of_find?_eq_some e;have a:=List.find?_some e;rw[Jff hG b hx (by simpa using a)];rfl
theorem Jjy(h:SgO ls xs)(n f:Str):sgF xs n f=1\/sgF xs n f=0\/sgF xs n f = -1:=by
 unfold sgF;cases e:xs.find? λs=>decide (s.1.f=f)with
 | none=>show .inr (.inl rfl)
 | some y=>show Jjz h (List.mem_of_find?_eq_some e) n
def plM(xs:List SgD)(n:Str)(o:Int × Int)(f:Str):Int × Int:=addF (spOf (xs.map (·.1)) f) (sI (sgF xs n f) o)
theorem JeI(h:SgO ls xs)(l8:ls.length<=8)(f:Str):FB 174 33 (spOf (xs.map (·.1)) f):=by
 unfold spOf;cases e:(xs.map (·.1)).find? λs=>decide (s.f=f)with
 | none=>show Jdl.mono ⋯ ⋯
 | some y=>
  let(x,a,rfl):=mem_map.mp (List.mem_of_find?_eq_some e);show(h.fb x a).mono ∅ ∅
theorem sz8{b:Int}(h:Mth.Sz 6 b):Mth.Sz 9 (b*8):=by
 unfold Mth.Sz at *;rw[Int.natAbs_mul];show b.natAbs*8<512;have h:b.natAbs<64:=h;ac_nf
theorem Jni(h:SgO ls xs){x y:SgD}(hx:x∈xs)(hy:y∈xs)(n:Str):sgS y.2 n-sgS x.2 n=1\/sgS y.2 n-sgS x.2 n=0\/sgS y.2 n-sgS x.2 n = -1:=by
 by_cases f:∃ e∈y.2,e.1=n
 .let(e,c,rfl):=f;by_cases d:∃ b∈x.2,b.1=e.1
  .let(b,a,q):=d;have:=h.co x hx y hy b a e c q;subst this;rw[Jfe (h.nd y hy) c,Jfe (h.nd x hx) a];ac_nf
  .have:=Jjz h hy e.1;rw[Jdf (l:=x.2) λb a z=>d ⟨b,a,z⟩];ac_nf
 .have:=Jjz h hx n;rw[Jdf (l:=y.2) λe c z=>f ⟨e,c,z⟩];ac_nf
variable{ws:List ((Int × Int) × (Str->Int))}
theorem tho_a(hG:Grn st ls (xs.map (·.1)))(hO:SgO ls xs)(l8:ls.length<=8)(hp:ks.Perm ls)(hw:∀ p∈ls,Mth.Sz 21 p.wt)(g6:gs.length<=6)(gnd:(gs.map (·.nm)).Nodup)(lw:ws.length=gs.length)(hok:∀(i:Nat) g w,gs[i]?=some g->ws[i]?=some w->GO1 ls xs g w):ThO ks gs (spOf (xs.map (·.1))):=by
 have c:∀ g∈gs, ∃ w,GO1 ls xs g w:=λg a=>by
  let(i,j):=List.getElem?_of_mem a;have n:=(List.getElem?_eq_some_iff.mp j).1;show(_,hok i g _ j (List.getElem?_eq_getElem ∅))
 have b:∀ p,p∈ks->p∈ls:=λp h=>hp.mem_iff.mp h;show(by rw[hp.length_eq];show l8,g6,(List.Perm.nodup_iff (hp.map (·.nm))).mpr (Jgn hG.nm),gnd,λp h=>hG.ok p (b p h),λp h=>⟨(hO.pb p (b p h)).1.mono ⋯ ⋯,(hO.pb p (b p h)).2⟩,λp h=>hw p (b p h),Jhp (λp h=>⟨p,b p h,rfl,rfl,rfl⟩) hG.tr,λg a=>?_,λg a=>?_,λg a=>?_,λg a=>?_,λf=>hG.plb l8 f,λp h=>hG.pls p (b p h))
 .let(w,o):=c g a;show o.con.sub λp h=>hp.mem_iff.mpr h
 .let(w,o):=c g a;show o.tok
 .let(w,o):=c g a;show o.gb
 .let(w,o):=c g a;let(A,B,d,k,m,l):=o.bd;rcases(Jjq o.mb k d o.md m l).1 with e | e
  .rw[e];show k.mono ⋯ ⋯
  .rw[e];show d.mono ⋯ ⋯
theorem mid_b(hG:Grn st ls (xs.map (·.1)))(hO:SgO ls xs)(l8:ls.length<=8){o:Int × Int}(fo:FB 106 9 o)(n:Str){g:GD}{w:(Int × Int) × (Str->Int)}(h:GO1 ls xs g w) :
  (w.2 n=1\/w.2 n=0\/w.2 n = -1)/\vl (mid (plM xs n o) g)=vl w.1+(w.2 n:Rat)*vl o/\FB 228 84 (mid (plM xs n o) g):=by
 let(x,d,y,c,l,k,e):=h.ends;have a:=FB.addI (n:=183) (m:=42) (JeI hO l8 g.st) fo (Jjy hO n g.st) ⋯ ⋯ ⋯;have b:=FB.addI (n:=183) (m:=42) (JeI hO l8 g.en) fo (Jjy hO n g.en) ⋯ ⋯ ⋯;have i:sgF xs n g.st=sgS x.2 n:=by rw[<- l];show JhT hG d n
 have f:sgF xs n g.en=sgS y.2 n:=by rw[<- k];show JhT hG c n
 show(by rw[e];show Jni hO d c n,?_,?_)
 .have j:vl w.1=vl (spOf (xs.map (·.1)) g.en)-vl (spOf (xs.map (·.1)) g.st):=by
   rw[<- h.md];unfold mid;rw[(JeI hO l8 g.en).vadd (JeI hO l8 g.st).neg,JbB,Rat.sub_eq_add_neg]
  show vl (addF (addF (spOf (xs.map (·.1)) g.en) (sI (sgF xs n g.en) o)) (negF (addF (spOf (xs.map (·.1)) g.st) (sI (sgF xs n g.st) o))))=_;rw[b.1.vadd a.1.neg,JbB,j,b.2,a.2,i,f,e,Rat.intCast_sub];grind
 .show FB.add (n:=227) (m:=84) b.1 a.1.neg ⋯ ⋯ ⋯
theorem tho_b(hG:Grn st ls (xs.map (·.1)))(hO:SgO ls xs)(l8:ls.length<=8)(hp:ks.Perm ls)(tho:ThO ks gs (spOf (xs.map (·.1))))(lw:ws.length=gs.length)(hok:∀(i:Nat) g w,gs[i]?=some g->ws[i]?=some w->GO1 ls xs g w){p:PD}(hpk:p∈ks){o s:Int × Int}(fo:FB 106 9 o)(es:s=addF p.sz o)(fs:FOk 200 s) :
  ThO (ks.map λu=>if u.nm=p.nm then⟨p.nm,p.st,p.en,s,(0,1),p.wt⟩else u) gs (plM xs p.nm o):=by
 have N:∀ g∈gs, ∃ w,GO1 ls xs g w:=λg k=>by
  let(i,J):=List.getElem?_of_mem k;have Y:=(List.getElem?_eq_some_iff.mp J).1;show(_,hok i g _ J (List.getElem?_eq_getElem ∅))
 let(U,T,P):=JkY (n:=(⟨p.nm,p.st,p.en,s,(0,1),p.wt⟩:PD)) tho.nd hpk rfl rfl rfl;have I:=hO.pb p (hp.mem_iff.mp hpk);have E:FB 143 13 s:=by
  rw[es];show FB.add (n:=142) (m:=13) I.1 fo ⋯ ⋯ ⋯
 have X:vl s=vl p.sz+vl o:=by rw[es];show I.1.vadd fo
 have t:∀ u∈ks.map (λu=>if u.nm=p.nm then(⟨p.nm,p.st,p.en,s,(0,1),p.wt⟩:PD)else u),u=⟨p.nm,p.st,p.en,s,(0,1),p.wt⟩\/(u∈ks/\u.nm≠p.nm):=λu a=>by
  let(v,M,rfl):=mem_map.mp a;by_cases c:v.nm=p.nm
  .show .inl (if_pos c)
  .rw[if_neg c];show .inr ⟨M,c⟩
 have b:=tho.pok p hpk;have d:=λf=>FB.addI (n:=183) (m:=42) (JeI hO l8 f) fo (Jjy hO p.nm f) ⋯ ⋯ ⋯;have K:∀ q∈ks, ∀ n,sgF xs n q.en=sgF xs n q.st+if q.nm=n then 1 else 0:=λq W n=>by
  let(x,O,y,Q,F,z,R):=hO.ed q (hp.mem_iff.mp W);rw[<- F, <- z,JhT hG O,JhT hG Q];show R n
 show(by rw[length_map];show tho.l8,tho.g6,by rw[U];show tho.nd,tho.gnd,λu a=>?_,λu a=>?_,λu a=>?_,Jhp T tho.tr,λg k=>JgL P (tho.con g k),tho.tok,tho.gb,λg k=>?_,λf=>(d f).1.mono ⋯ ⋯,λu a=>?_)
 .rcases t u a with rfl | ⟨h,_⟩
  .show(b.n1,b.n2,b.n3,b.ne,fs,fok0,Int.le_refl 0,b.w,b.ws)
  .show tho.pok u h
 .rcases t u a with rfl | ⟨h,_⟩
  .show(E.mono ⋯ ⋯,Jdl.mono ⋯ ⋯)
  .show tho.zb u h
 .rcases t u a with rfl | ⟨h,_⟩
  .show tho.wt p hpk
  .show tho.wt u h
 .let(w,h):=N g k;let(A,B,G,D,F,z):=h.bd;let(L,H,l):=mid_b hG hO l8 fo p.nm h;have r:=FB.addI (n:=112) (m:=12) D fo L ⋯ ⋯ ⋯;have C : - w.2 p.nm=1 \/ - w.2 p.nm=0 \/ - w.2 p.nm = -1:=by ac_nf
  have j:=FB.addI (n:=112) (m:=12) G fo C ⋯ ⋯ ⋯;have V:g.lo=addF (mid (plM xs p.nm o) g) (negF (addF B (sI (w.2 p.nm) o))):=by
   rw[F];show FB.inj (h.mb.add' (D.neg:FB 8 3 (negF B))) (l.add' r.1.neg) ?_;rw[show sgn false B=negF B from rfl,h.mb.vadd (D.neg:FB 8 3 (negF B)),l.vadd r.1.neg,JbB,JbB,H,r.2];grind
  have S:g.hi=addF (mid (plM xs p.nm o) g) (addF A (sI (- w.2 p.nm) o)):=by
   rw[z];show FB.inj (h.mb.add' G) (l.add' j.1) ?_;rw[show sgn true A=A from rfl,h.mb.vadd G,l.vadd j.1,H,j.2,Rat.intCast_neg];grind
  rcases(Jjq l r.1 j.1 rfl V S).1 with e | e
  .rw[e];show r.1.mono ⋯ ⋯
  .rw[e];show j.1.mono ⋯ ⋯
 .rcases t u a with rfl | ⟨h,hn⟩
  .show vl (addF _ _)=vl (addF _ _)+vl s;rw[(d _).2,(d _).2,tho.pls p hpk,K p hpk,if_pos rfl,X,Rat.intCast_add];grind
  .show vl (addF _ _)=vl (addF _ _)+vl u.sz;rw[(d _).2,(d _).2,tho.pls u h,K u h,if_neg hn,Int.add_zero];grind
theorem nm_gp:∀ st,st<=3->∀ j,j<8->nmK 103 st 0≠nmK 112 st j:=by decide
theorem JmT:∀ st,st<=3->∀ j,j<8->nmK 112 st j≠Str.ofString "nobody":=by decide
variable{p:PD}
theorem JlM{m s:Int × Int}{d:Bool}(fz:FB 133 4 p.sz)(fo:FB 100 6 p.mo)(fm:FB 113 16 m)(h:vl p.mo<vl m)(es:s=addF p.sz (sgn d m)):offB p s=true:=by
 have b:FB 113 16 (sgn d m):=by
  cases d
  .show fm.neg
  .show fm
 have a:=fz.add' b;rw[<- es]at a;have c:vl s=vl p.sz+vl (sgn d m):=by rw[es];show fz.vadd b
 have e:=a.add' fz.neg;have f:=fz.add' a.neg;unfold offB;rw[Bool.or_eq_true];cases d with
 | true=>
  show .inl ((JbV fo.b1 e.b1).mpr ?_);rw[a.vadd fz.neg,JbB,c,show sgn true m=m from rfl];grind
 | false=>
  show .inr ((JbV fo.b1 f.b1).mpr ?_);rw[fz.vadd a.neg,JbB,c,show sgn false m=negF m from rfl,JbB];grind
theorem JmV{o s:Int × Int}(fz:FB 133 4 p.sz)(fo:FB 100 6 p.mo)(fm:FB 106 9 o)(h1:vl o<=vl p.mo)(h2 : - vl p.mo<=vl o)(es:s=addF p.sz o):offB p s=false:=by
 have a:=fz.add' fm;rw[<- es]at a;have b:vl s=vl p.sz+vl o:=by rw[es];show fz.vadd fm
 have c:=a.add' fz.neg;have d:=fz.add' a.neg;unfold offB;rw[Bool.or_eq_false_iff];show(Bool.eq_false_iff.mpr λz=>?_,Bool.eq_false_iff.mpr λz=>?_)
 .have z:=(JbV fo.b1 c.b1).mp z;rw[a.vadd fz.neg,JbB,b]at z;grind
 .have z:=(JbV fo.b1 d.b1).mp z;rw[fz.vadd a.neg,JbB,b]at z;grind
theorem Jh0(ha:1<=a.2)(hc:1<=c.2)(h:a.1*c.2<=c.1*a.2):vl a<=vl c:=by
 show Rat.not_lt.mp λz=>?_;have:=(JbV hc ha).mpr z;have:=of_decide_eq_true this;ac_nf
theorem JmU{m:Int × Int}{g e:Int}(b1:1<=m.2)(m0:0<=m.1)(hg:g=1\/g = -1)(he:0<=e/\e<9):vl (Mth.top (g*m.1*e) (m.2*8),Mth.bot (g*m.1*e) (m.2*8))<=vl m/\- vl m<=vl (Mth.top (g*m.1*e) (m.2*8),Mth.bot (g*m.1*e) (m.2*8)):=by
 have a:1<=m.2*8:=by ac_nf
 have b:=Int.mul_nonneg m0 (by ac_nf:0<=m.2);rw[JgH a];have c:((g*m.1*e:Int):Rat)/((m.2*8:Int):Rat)=vl (g*m.1*e,m.2*8):=rfl;rw[c];show(Jh0 a b1 ?_,?_)
 .show g*m.1*e*m.2<=m.1*(m.2*8);have h:=Int.mul_nonneg b (by rcases hg with rfl | rfl <;> ac_nf:0<=8-g*e);grind
 .rw[<- JbB];show Jh0 b1 a ?_;show -m.1*(m.2*8)<=g*m.1*e*m.2;have h:=Int.mul_nonneg b (by rcases hg with rfl | rfl <;> ac_nf:0<=8+g*e);grind
end L2
open PySem L2
local macro_rules|`(tactic|rename_i $p:ident $h:ident $q:ident $H:ident $G:ident $S:ident $e:ident)=>`(tactic|(intro $p:ident $h:ident;generalize $q:ident:upd $H $p _=$G;have $S:ident:=newS $h $q;have $e:ident:=newE $q))
local macro_rules|`(tactic|bv_decide)=>`(tactic|exact ⟨rfl,rfl,rfl,by decide +kernel,rfl,by decide +kernel,by decide +kernel⟩)
local macro_rules|`(tactic|simpa! only [$xs,*])=>do let l<-(("y51y y53y y75y y2by y70y y84y y48y y2fy y7cy y98y y31y y3dy y76y y30y y8ey y23y y29y y7dy y78y y2ay y7ey y7ay y5dy y9ay y26y y8cy y74y y4dy y6cy y81y y34y y4by y72y y4cy y73y y71y y93y y67y y63y y95y y97y y25y y6by y24y yby yay y17y y1dy y1fy y21y y1ey y22y y8ay y80y y77y y91y y9by y82y y27y V.int.injEq V.str.injEq V.bl.injEq y59y y5by y2dy y2ey y6ey y62y y79y y68y y6ay y3ey y3fy y40y y47y y49y y42y y7fy y43y y35y y37y y3by y41y y45y y54y y56y y5ey y39y y90y y8dy y38y y91y y83y y69y y2cy y89y y4fy".splitOn " ").map (`L2++·.toName)++("true_and if_true if_false Bool.not_true Bool.not_false Bool.false_eq_true List.set_cons_zero List.set_cons_succ List.getElem?_cons_zero List.getElem?_cons_succ Option.some.injEq exists_eq_left exists_eq_left' Int.reduceToNat Int.reducePow append_nil nil_append cons_append reduceCtorEq decide_false decide_true".splitOn " ").map (·.toName)).toArray.mapM fun s=>`(Lean.Parser.Tactic.simpLemma|$(Lean.mkIdent s):term);`(tactic|simp only [$(Array.append (l.map fun x=>⟨x.raw⟩) xs.getElems),*])
local macro_rules|`(tactic|mstop)=>`(tactic|simpa! only [y87y])
local macro_rules|`(tactic|mstart)=>`(tactic|simpa! only [y87y,y4ey])
local macro_rules|`(tactic|cutsat)=>`(tactic|simpa! only [y87y,y88y])
local macro_rules|`(tactic|simp_all only [$xs,*])=>`(tactic|((try simpa! only [$xs,*]);repeat ((first|(with_reducible refine JfU fun _ _=>?_)|(with_reducible refine Nxt.go (by assumption) ?_));(try simpa! only [$xs,*]))))
local macro_rules|`(tactic|mvcgen)=>`(tactic|simp_all only [y4ey,y88y])
local macro_rules|`(tactic|mexact)=>`(tactic|simp_all only [y88y])
local macro_rules|`(tactic|mleave)=>`(tactic|simp_all only [y4ey])
local macro_rules|`(tactic|cbv)=>`(tactic|simp_all only [true_and])
local macro_rules|`(tactic|mspec)=>`(tactic|(try ((with_reducible refine Nxt.go (by assumption) ?_);cbv)))
local macro_rules|`(tactic|mframe)=>`(tactic|(mspec;cbv))
local macro_rules|`(tactic|mpure)=>`(tactic|repeat (refine And.intro (by first | exact Ja1 ⋯ | exact Ja3 ⋯ | exact Ja2 ⋯ | exact JaI ⋯ | exact Int.one_ne_zero | decide) ?_))
local macro_rules|`(tactic|simpa only [$xs,*])=>`(tactic|simpa! only [y87y, $xs,*])
namespace Prg
open PySem L2 Ch
variable{fd:FuncData}{dV:Value}{f:Addr}
def top(i:Nat):Stmt:=PySem.Challenge.pw_slackchain_k61_a_part_measured.main.body.getD i (.Pass ⟨0,0,0,0⟩)
set_option genInjectivity false in
structure Adr where
 SlackError:Addr
 NoNumber:Addr
 NoName:Addr
 Off:Addr
 Apart:Addr
 InRing:Addr
 NoPart:Addr
 NoGap:Addr
 NoRow:Addr
 Twice:Addr
 Tight:Addr
 Part:Addr
 Gap:Addr
 Joints:Addr
 Thing:Addr
 Scale:Addr
 Lid:Addr
 SMALL_LETTERS:Value
 LONGEST_NAME:Value
 ZERO:Addr
structure PartC(K:W.Frag)(C:Addr):Prop where
 cls:Cls K C
 n1:JaY K C "name"
 n2:JaY K C "start"
 n3:JaY K C "end"
 n4:JaY K C "size"
 n5:JaY K C "most"
 n6:JaY K C "weight"
def IsPart(Ad:Adr)(C:Addr):Prop:=C=Ad.Part
structure GapC(K:W.Frag)(C:Addr):Prop where
 cls:Cls K C
 n1:JaY K C "name"
 n2:JaY K C "one"
 n3:JaY K C "other"
 n4:JaY K C "low"
 n5:JaY K C "high"
def IsGap(Ad:Adr)(C:Addr):Prop:=C=Ad.Gap
structure Jlg(K:W.Frag)(C:Addr):Prop where
 cls:Cls K C
 n1:JaY K C "leads"
def Jdm(Ad:Adr)(C:Addr):Prop:=C=Ad.Joints
structure Jmr(K:W.Frag)(C:Addr):Prop where
 cls:Cls K C
 n1:JaY K C "parts_by_name"
 n2:JaY K C "gaps_by_name"
 n3:JaY K C "ways"
def JaH(Ad:Adr)(C:Addr):Prop:=C=Ad.Thing
structure Jmq(K:W.Frag)(C:Addr):Prop where
 cls:Cls K C
 n1:JaY K C "bottom"
 n2:JaY K C "factors"
def Jdb(Ad:Adr)(C:Addr):Prop:=C=Ad.Scale
structure LidC(K:W.Frag)(C:Addr):Prop where
 cls:Cls K C
 n1:JaY K C "name"
 n2:JaY K C "rest"
 n3:JaY K C "weights"
 n4:JaY K C "load"
 n5:JaY K C "last_level"
def IsLid(Ad:Adr)(C:Addr):Prop:=C=Ad.Lid
variable{H:Hp}{a C:Addr}{xs:List V}
theorem SqT.put{K:W.Frag}{x dx:Addr}{fs fs':List (Str × V)}(hx:H x=some (.ins C dx fs))(h:SqT K H a xs):SqT K (upd H x (.ins C dx fs')) a xs:=by
 rcases h with(h | ⟨o,h⟩) | h
 .show .inl (.inl (by rw[Jah (ne_of h hx (by intro z;cases z))];show h))
 .show .inl (.inr ⟨o,by rw[Jah (ne_of h hx (by intro z;cases z))];show h⟩)
 .show .inr h
def partF(n s e z m w:V):List (Str × V):=[("name",n),("start",s),("end",e),("size",z),("most",m),("weight",w)]
def gapF(n s e l g:V):List (Str × V):=[("name",n),("one",s),("other",e),("low",l),("high",g)]
structure Txt(K:W.Frag)(mg:Str->Option Value)(Ad:Adr):Prop where
 BdZ:mg "abs"=none
 Bad:mg "isinstance"=none
 BbH:mg "len"=none
 Bee:mg "int"=none
 Bea:mg "bool"=none
 Bdt:mg "tuple"=none
 Bef:mg "str"=none
 Bcr:mg "range"=none
 BdP:mg "list"=none
 Beg:mg "min"=none
 BdN:mg "sorted"=none
 Beh:mg "all"=none
 n_sum:mg "sum"=none
 n_dict:mg "dict"=none
 Bei:mg "zip"=none
 n_ValueError:mg "ValueError"=none
 m_SlackError:mg "SlackError"=some (.ref Ad.SlackError)
 m_NoNumber:mg "NoNumber"=some (.ref Ad.NoNumber)
 BcY:mg "NoName"=some (.ref Ad.NoName)
 m_Off:mg "Off"=some (.ref Ad.Off)
 Bej:mg "Apart"=some (.ref Ad.Apart)
 Beb:mg "InRing"=some (.ref Ad.InRing)
 Bd0:mg "NoPart"=some (.ref Ad.NoPart)
 Bd4:mg "NoGap"=some (.ref Ad.NoGap)
 m_NoRow:mg "NoRow"=some (.ref Ad.NoRow)
 Bd5:mg "Twice"=some (.ref Ad.Twice)
 m_Tight:mg "Tight"=some (.ref Ad.Tight)
 Bem:mg "Part"=some (.ref Ad.Part)
 Ben:mg "Gap"=some (.ref Ad.Gap)
 Bec:mg "Joints"=some (.ref Ad.Joints)
 Bek:mg "Thing"=some (.ref Ad.Thing)
 Bel:mg "Scale"=some (.ref Ad.Scale)
 m_Lid:mg "Lid"=some (.ref Ad.Lid)
 Bcs:mg "SMALL_LETTERS"=some Ad.SMALL_LETTERS
 Bct:RelV (.str "abcdefghijklmnopqrstuvwxyz") Ad.SMALL_LETTERS
 BcQ:mg "LONGEST_NAME"=some Ad.LONGEST_NAME
 BcR:RelV (.int 8) Ad.LONGEST_NAME
 Bcn:mg "ZERO"=some (.ref Ad.ZERO)
 Bco:RelV (.ref Ad.ZERO) (.ref Ad.ZERO)
 Bcp:∀ H:Hp,SqT K H Ad.ZERO [.int 0, .int 1]
 x_SlackError:W.excIn K Ad.SlackError [.type "ValueError", .type "Exception", .type "BaseException", .type "object"] "ValueError.__new__"=true
 x_NoNumber:W.excIn K Ad.NoNumber [.type "ValueError", .type "Exception", .type "BaseException", .type "object"] "ValueError.__new__"=true
 Bb1:W.excIn K Ad.NoName [.type "ValueError", .type "Exception", .type "BaseException", .type "object"] "ValueError.__new__"=true
 x_Off:W.excIn K Ad.Off [.type "ValueError", .type "Exception", .type "BaseException", .type "object"] "ValueError.__new__"=true
 BcT:∀ C,IsPart Ad C->PartC K C
 BdQ:∀ C,IsGap Ad C->GapC K C
 Bb9:∀ C,Jdm Ad C->Jlg K C
 Bbl:∀ C,JaH Ad C->Jmr K C
 Bcu:∀ C,Jdb Ad C->Jmq K C
 c_Lid:∀ C,IsLid Ad C->LidC K C
 xa:ExcA K Ad.Tight "tight_gap"
 xl:ExcL K Ad.Tight "tight_gap"
 slk:SlkI K Ad.SlackError
 xc:Jcj K Ad.Tight Ad.Tight
 xs_Off:Jcj K Ad.Off Ad.SlackError
 ex_Off:ExcC K Ad.Off
 k_Off_V:W.kitOne K (.ref Ad.Off) (.type "ValueError")=some true
 k_Off_Off:W.kitOne K (.ref Ad.Off) (.ref Ad.Off)=some true
 k_Off_NoName:W.kitOne K (.ref Ad.Off) (.ref Ad.NoName)=some false
 k_Off_NoGap:W.kitOne K (.ref Ad.Off) (.ref Ad.NoGap)=some false
 k_Off_NoPart:W.kitOne K (.ref Ad.Off) (.ref Ad.NoPart)=some false
 k_Off_NoRow:W.kitOne K (.ref Ad.Off) (.ref Ad.NoRow)=some false
 k_Off_Tight:W.kitOne K (.ref Ad.Off) (.ref Ad.Tight)=some false
 k_Off_Twice:W.kitOne K (.ref Ad.Off) (.ref Ad.Twice)=some false
 xs_NoName:Jcj K Ad.NoName Ad.SlackError
 ex_NoName:ExcC K Ad.NoName
 k_NoName_V:W.kitOne K (.ref Ad.NoName) (.type "ValueError")=some true
 k_NoName_Off:W.kitOne K (.ref Ad.NoName) (.ref Ad.Off)=some false
 k_NoName_NoName:W.kitOne K (.ref Ad.NoName) (.ref Ad.NoName)=some true
 k_NoName_NoGap:W.kitOne K (.ref Ad.NoName) (.ref Ad.NoGap)=some false
 k_NoName_NoPart:W.kitOne K (.ref Ad.NoName) (.ref Ad.NoPart)=some false
 k_NoName_NoRow:W.kitOne K (.ref Ad.NoName) (.ref Ad.NoRow)=some false
 k_NoName_Tight:W.kitOne K (.ref Ad.NoName) (.ref Ad.Tight)=some false
 k_NoName_Twice:W.kitOne K (.ref Ad.NoName) (.ref Ad.Twice)=some false
def PEV(K:W.Frag)(H:Hp)(e:PD ⊕ D)(x:V):Prop:=match e with
 | .inl p=>PDV K H p x/\POk p
 | .inr c=>Rep K H c x/\szD c/\partB c=false
def GEV(K:W.Frag)(H:Hp)(e:GD ⊕ D)(x:V):Prop:=match e with
 | .inl g=>TV K H g.td x/\TOk g.td
 | .inr c=>Rep K H c x/\szD c/\gapB c=false
def POV(K:W.Frag)(Ad:Adr)(H:Hp)(p:PD)(v:V):Prop:=∃ q dx vz vm,v=.ref q/\H q=some (.ins Ad.Part dx (partF (.str p.nm) (.str p.st) (.str p.en) vz vm (.int p.wt)))/\FrV K H vz p.sz.1 p.sz.2/\FrV K H vm p.mo.1 p.mo.2
def GOV(K:W.Frag)(Ad:Adr)(H:Hp)(g:GD)(v:V):Prop:=∃ q dx vl vg,v=.ref q/\H q=some (.ins Ad.Gap dx (gapF (.str g.nm) (.str g.st) (.str g.en) vl vg))/\FrV K H vl g.lo.1 g.lo.2/\FrV K H vg g.hi.1 g.hi.2
section
variable{Ad:Adr}{H':Hp}{v x:V}{K:W.Frag}
def isTI:HO->Bool
 | .ins _ _ _=>true
 | u=>isTF u
def SameI(H H':Hp):Prop:=∀ b u,isTI u=true->H b=some u->H' b=some u
theorem SameI.t(S:SameI H H'):SameT H H':=λb u t h=>S b u (by cases u <;> first | show t | (simp[isTF]at t)) h
theorem Same.i(S:Same H H'):SameI H H':=λb u _ h=>S b u h
theorem PEV.same{e:PD ⊕ D}(S:Same H H')(h:PEV K H e x):PEV K H' e x:=by
 match e,h with
 | .inl t,h=>show(h.1.sameT S.t,h.2)
 | .inr c,h=>show(h.1.same S,h.2)
theorem GEV.same{e:GD ⊕ D}(S:Same H H')(h:GEV K H e x):GEV K H' e x:=by
 match e,h with
 | .inl t,h=>show(h.1.sameT S.t,h.2)
 | .inr c,h=>show(h.1.same S,h.2)
theorem POV.si{p:PD}(S:SameI H H'):POV K Ad H p v->POV K Ad H' p v:=by rintro⟨q,g,a,c,e,b,d,f⟩;show(q,g,a,c,e,S _ _ rfl b,d.sameT S.t,f.sameT S.t)
theorem GOV.si{g:GD}(S:SameI H H'):GOV K Ad H g v->GOV K Ad H' g v:=by rintro⟨q,h,a,c,e,b,d,f⟩;show(q,h,a,c,e,S _ _ rfl b,d.sameT S.t,f.sameT S.t)
end
def JK(Ad:Adr)(H0 H:Hp)(j d:Addr)(ls:List PD):Prop:=(∃ dx,H j=some (.ins Ad.Joints dx [("leads", .ref d)]))/\H0 d=none/\∃ kvs,H d=some (.dK kvs)/\kvs.length<=2*ls.length/\JD H0 H (JaD ls) kvs
variable{Ad:Adr}{H0 H':Hp}{d:Addr}{ls:List PD}
theorem JK.same{j:Addr}(S:Same H H'):JK Ad H0 H j d ls->JK Ad H0 H' j d ls:=λζ=>by let((h,f),b,a,e,g,c):=ζ;show(⟨h,S _ _ f⟩,b,a,S _ _ e,g,c.same S)
def TK(K:W.Frag)(Ad:Adr)(H:Hp)(x:Addr)(ls:List PD)(gs:List GD):Prop:=∃ dx d1 d2 d3 k1 k2 k3,H x=some (.ins Ad.Thing dx [("parts_by_name", .ref d1),("gaps_by_name", .ref d2),("ways", .ref d3)])/\H d1=some (.dK k1)/\BG (·.nm) (POV K Ad H) ls k1/\H d2=some (.dK k2)/\BG (·.nm) (GOV K Ad H) gs k2/\H d3=some (.dK k3)/\BG (·.nm) (WOV H ls) gs k3
variable{x:Addr}{gs:List GD}
theorem TK.same{K:W.Frag}(S:Same H H'):TK K Ad H x ls gs->TK K Ad H' x ls gs:=by rintro⟨m,f,c,a,o,e,g,d,l,k,b,n,j,h⟩;show(m,f,c,a,o,e,g,S _ _ d,S _ _ l,k.mono λ_ _ z=>z.si (Same.i S),S _ _ b,n.mono λ_ _ z=>z.si (Same.i S),S _ _ j,h.mono λ_ _ z=>z.same S)
def SameJ(d:Addr)(H H':Hp):Prop:=∀ b u,b≠d->(∀ xs,u≠.lst xs)->H b=some u->H' b=some u
variable{n:Nat}
theorem JgW{α:Type}{f : α->Str}{ls l0:List α}{p : α}(h:ls++[p]=l0.take n)(hn:(l0.map f).Nodup):f p∉ls.map f:=λa=>by
 have:=((List.take_sublist n l0).map f).nodup hn;rw[<- h,map_append]at this;show(nodup_append.mp this).2.2 _ a _ (by simp) rfl
theorem Jhn(ht:Tree ls)(hn:(ls.map (·.nm)).Nodup)(i:Nat)(p:PD)(hp:ls[i]?=some p):¬ Conn (ls.take i) p.st p.en:=λz=>ht p (List.mem_of_getElem? hp) (z.sub λx a=>mem_filter.mpr ⟨List.mem_of_mem_take a,by
 rw[decide_eq_true_iff];showλe=>JgW (f:=(·.nm)) (p:=p) (n:=i+1) (by rw[take_succ,hp];rfl) hn (by rw[<- e];show mem_map.mpr ⟨x,a,rfl⟩)⟩)
theorem JmC(g:GD):depD (tdD g.td)<=3:=by
 simp[GD.td,tdD,bD,frD,depD,depL]
variable{q:Addr}
theorem neGs{K:W.Frag}{Q:VK}{p:Addr}{ys:List V}(hp:SqL K H p xs)(hx:All2 (λ(g:GD) v=>TV K H g.td v) gs xs)(hq:SqL K H q ys)(hy:All2 (λ(g:GD) v=>TV K H g.td v) gs ys)(k:Q (.bl false) H):rNeU K (.ref p) (.ref q) H Q:=by
 show(.lst (gs.map λg=>tdD g.td), .lst (gs.map λg=>tdD g.td),by simp only[Rep];show(p,xs,rfl,hp,All2.repL (f:=λg:GD=>tdD g.td) (λ_ _=>TV.rep) hx),by simp only[Rep];show(q,ys,rfl,hq,All2.repL (f:=λg:GD=>tdD g.td) (λ_ _=>TV.rep) hy),?_,rfl,?_)
 .rw[depD];have:=Jdp JmC gs;ac_nf
 .rw[Jcf];show k
structure X2(K:W.Frag)(Ad:Adr)(C:Addr)(j:Nat):Prop where
 cat:Jcj K C Ad.SlackError
 xc:ExcC K C
 k0:W.kitOne K (.ref C) (.ref Ad.Off)=some (decide (j=0))
 k1:W.kitOne K (.ref C) (.ref Ad.NoName)=some (decide (j=1))
 z0:W.kitOne K (.ref C) (.ref Ad.NoGap)=some false
 z1:W.kitOne K (.ref C) (.ref Ad.NoPart)=some false
 z2:W.kitOne K (.ref C) (.ref Ad.NoRow)=some false
 z3:W.kitOne K (.ref C) (.ref Ad.Tight)=some false
 z4:W.kitOne K (.ref C) (.ref Ad.Twice)=some false
 kv:W.kitOne K (.ref C) (.type "ValueError")=some true
 lt:j=0\/j=1
def SCK(Ad:Adr)(H:Hp)(x:Addr)(b:Int)(fs:List Int):Prop:=∃ dx fl,H x=some (.ins Ad.Scale dx [("bottom", .int b),("factors", .ref fl)])/\H fl=some (.lst (fs.map V.int))/\Scl b fs/\Mth.Sz 2000 b/\fs.length<=30
theorem SCK.same{b:Int}{fs:List Int}(S:Same H H'):SCK Ad H x b fs->SCK Ad H' x b fs:=by rintro⟨f,c,e,a,d⟩;show(f,c,S _ _ e,S _ _ a,d)
def LDV(K:W.Frag)(Ad:Adr)(H:Hp)(e:LidD)(v:V):Prop:=∃ q dx vr vt wd,v=.ref q/\H q=some (.ins Ad.Lid dx [("name", .str e.nm),("rest",vr),("weights", .ref wd),("load", .int e.load),("last_level",vt)])/\FrV K H vr e.rest.1 e.rest.2/\FrV K H vt e.last.1 e.last.2/\H wd=some (.dK (wsK e.ws))
variable{e:LidD}{v:V}
theorem LDV.same{K:W.Frag}(S:Same H H'):LDV K Ad H e v->LDV K Ad H' e v:=by rintro⟨q,i,c,d,j,g,a,f,h,b⟩;show(q,i,c,d,j,g,S _ _ a,f.same S,h.same S,S _ _ b)
theorem LDV.keep{K:W.Frag}{dq:Addr}{fs:List (Str × V)}(S:∀ b u,b≠q->H b=some u->H' b=some u)(hq:H q=some (.ins C dq fs))(hne:v≠.ref q):LDV K Ad H e v->LDV K Ad H' e v:=by
 rintro⟨g,l,f,i,m,c,d,j,k,a⟩;have T:SameT H H':=λb u t h=>S b u (λz=>by rw[z,hq]at h;cases h;simp[isTF]at t) h;show(g,l,f,i,m,c,S _ _ (λz=>hne (by rw[c,z])) d,j.sameT T,k.sameT T,S _ _ (λz=>by rw[z,hq]at a;cases a) a)
theorem Same.cutN(S:Same H H')(hd:H d=none):Same H (cut d H'):=λb u h=>by
 rw[JbX (λz=>by rw[z,hd]at h;cases h)];show S b u h
theorem SameT.cutO{o:HO}(h:H d=some o)(ho:isTF o=false):SameT H (cut d H):=λb u t a=>by
 rw[JbX (λz=>by rw[z,h]at a;cases a;rw[ho]at t;cases t)];show a
theorem LDV.notin{K:W.Frag}{es:List LidD}{u:HO}(hX:All2 (LDV K Ad H) es xs)(h:H a=some u)(hu:∀ dx fs,u≠.ins Ad.Lid dx fs):V.ref a∉xs:=λz=>by
 let(i,d):=List.getElem?_of_mem z;let(e,_,q,dx,f,g,j,b,c,_):=hX.at_ d;have b:a=q:=by injection b
 rw[b,c]at h;show hu _ _ (Option.some.inj h).symm
theorem LDV.dict{K:W.Frag}{kv:List (Key × V)}(S:∀ b u,b≠d->H b=some u->H' b=some u)(hd:H d=some (.dK kv))(hn:∀ wd,v=.ref wd->True)(h0:∀ q dx vr vt wd,H q=some (.ins Ad.Lid dx [("name", .str e.nm),("rest",vr),("weights", .ref wd),("load", .int e.load),("last_level",vt)])->v=.ref q->wd≠d):LDV K Ad H e v->LDV K Ad H' e v:=by
 rintro⟨g,dx,vr,vt,wd,c,a,i,j,f⟩;have T:SameT H H':=λb u t h=>S b u (λz=>by rw[z,hd]at h;cases h;simp[isTF]at t) h;show(g,dx,vr,vt,wd,c,S _ _ (λz=>by rw[z,hd]at a;cases a) a,i.sameT T,j.sameT T,S _ _ (h0 _ _ _ _ _ a c) f)
def ShV(K:W.Frag)(H:Hp)(r:ShD)(v:V):Prop:=∃ p vs t,v=.ref p/\SqT K H p [.str r.nm,vs, .ref t]/\FrV K H vs r.sl.1 r.sl.2/\SqT K H t (match r.sp with | none=>[.str (Str.ofString "most")] | some g=>[.str (Str.ofString "gap"), .str g])
variable{r:ShD}
theorem ShV.sameT{K:W.Frag}(S:SameT H H'):ShV K H r v->ShV K H' r v:=by rintro⟨p,c,t,d,a,b,e⟩;show(p,c,t,d,a.sameT S,b.sameT S,e.sameT S)
def shD(r:ShD):D:=.tup [.str r.nm,frD r.sl, .tup (match r.sp with | none=>[.str (Str.ofString "most")] | some g=>[.str (Str.ofString "gap"), .str g])]
theorem ShV.rep{K:W.Frag}(h:ShV K H r v):Rep K H (shD r) v:=by
 let(p,d,t,rfl,c,a,b):=h;have a:=FrV.rep a;cases e:r.sp with
 | none=>
  rw[e]at b;unfold shD;rw[e];simp only[Rep,RepL];show(p,_,rfl,c,_,_,rfl,rfl,_,_,rfl,by simpa only[Rep,RepL,frD]using a,_,_,rfl,⟨t,_,rfl,b,_,_,rfl,rfl,rfl⟩,rfl)
 | some g=>
  rw[e]at b;unfold shD;rw[e];simp only[Rep,RepL];show(p,_,rfl,c,_,_,rfl,rfl,_,_,rfl,by simpa only[Rep,RepL,frD]using a,_,_,rfl,⟨t,_,rfl,b,_,_,rfl,rfl,_,_,rfl,rfl,rfl⟩,rfl)
section
variable{P:Program}{mg:Str->Option Value}{base:Heap}{w:World}{K:W.Frag}
seal PE PA PS PSs PT PW PG PGs PI PO
local macro_rules|`(%[$xs,*|0])=>do let r:Lean.Term<-xs.getElems.foldrM (fun x (a:Lean.Term)=>`(Jaa $x $a)) (<-`(Jac));return r
local macro_rules|`(!$n:num)=>`(pe_ix ix_U (pv $n) Jad)
local macro_rules|`($k:num∘[$xs,*]∘$s)=>`(FnOk $(Lean.mkIdent `P) $(Lean.mkIdent `w) $(Lean.mkIdent `K) $(Lean.mkIdent `mg) $(Lean.mkIdent `base) (CX1 $(Lean.mkIdent `P) $(Lean.mkIdent `w)) $k $(Lean.mkIdent `f) $(Lean.mkIdent `fd) [$xs,*] $s)|`($k:num∘$n:str∘[$xs,*]∘$s)=>`(Cal $(Lean.mkIdent `P) $(Lean.mkIdent `w) $(Lean.mkIdent `K) $(Lean.mkIdent `mg) $(Lean.mkIdent `base) $k $n [$xs,*] [] $s)|`($k:num∘$n:str∘($c)∘[$xs,*]∘$s)=>`(MCal $(Lean.mkIdent `P) $(Lean.mkIdent `w) $(Lean.mkIdent `K) $(Lean.mkIdent `mg) $(Lean.mkIdent `base) $k $n $c [$xs,*] $s)|`($n:str∘$t:ident)=>`(FunD $(Lean.mkIdent `K) $n $n $t $(Lean.mkIdent `dV) $(Lean.mkIdent `f) $(Lean.mkIdent `fd))|`($n:str∘$q:str∘$t:ident)=>`(FunD $(Lean.mkIdent `K) $n $q $t $(Lean.mkIdent `dV) $(Lean.mkIdent `f) $(Lean.mkIdent `fd))
abbrev Bam:Stmt:=top 13
theorem JaU:Jan ["one","other","greater","lesser","rest"] ["one","other"] (Jaf Bam):=by bv_decide
def JaG  : Sp:=λvs H Q E=>∃(a b:Int),vs=[.int a, .int b]/\Q (.int (Mth.g a b)) H
theorem JdN(F:"common_divisor"∘Bam)(T:Txt K mg Ad)  : 1∘["one","other"]∘(JaG):=by
 show F.okn JaU (by subst_eqs) (λp A d s H r Q E n h=>?_)
 let(a,b,rfl,h):=h;have l:=n.units;show(_,(Jab (Jaj 2 JaU.nd (Jau Jdn rfl T.BdZ Jhx %[pv 0|0])) (Jab (Jaj 3 JaU.nd (Jau Jdn rfl T.BdZ Jhx %[pv 1|0])) (Jab (Jd8 PassesOwn.never (Jat (Jbr l) (pv 3) Jad (Jay _)) (Jab (Jaj 4 JaU.nd (pe_op JaB (pv 2) (pv 3))) (Jab (Jaj 2 JaU.nd (pv 3)) (Jag (Jaj 3 JaU.nd (pv 4)))))) (Jag (Jap (pv 2)))))),?_)
 clear l;show tSeq _ _ _ [some (.int a),some (.int b),none,none,none] H;try mstop
 show(λm σ k=>∃(x y:Int)(z:Option V),σ=[some (.int a),some (.int b),some (.int x),some (.int y),z]/\k=H/\0<=x/\0<=y/\Mth.g x y=Mth.g a b/\y.toNat=m,⟨_,_,_,none,rfl,rfl,Mth.JkI a,Mth.JkI b,Mth.Bed a b,rfl⟩,?_);intro m σ k z_;let(x,y,z,rfl,rfl,t,o,j,rfl):=z_;try mstop
 by_cases c:y=0
 .subst c;rw[if_neg (by simp)];have e:Mth.g a b=x:=by rw[<- j,Mth.JkU];ac_nf
  rw[e]at h;show h
 .rw[if_pos (by simp[c])];have f:=Mth.fm (x:=x) (y:=y) ∅;show(_,λ_ _ q=>q,c,(x.fmod y).toNat,by ac_nf,y,x.fmod y,_,rfl,rfl,o,f.1,by rw[Mth.JiQ ∅];show j,rfl)
abbrev BcU:Stmt:=top 14
theorem JfS:Jan ["one","other","shared","top","rest"] ["one","other"] (Jaf BcU):=by bv_decide
def JeN(K:W.Frag):Sp:=λvs H Q E=>∃(x y:V)(a b c d:Int),vs=[x,y]/\FrV K H x a b/\FrV K H y c d/\Mth.Sz 4000 a/\Mth.Sz 4000 b/\Mth.Sz 4000 c/\Mth.Sz 4000 d/\1<=b/\1<=d/\Mth.g a b=1/\Mth.g c d=1/\∀ p H',Same H H'->H' p=some (.tup [.int (Mth.top (a*d+c*b) (b*d)), .int (Mth.bot (a*d+c*b) (b*d))])->Q (.ref p) H'
theorem JlP(F:"plus"∘BcU)(T:Txt K mg Ad)(Bac:1∘"common_divisor"∘["one","other"]∘(JaG)):2∘["one","other"]∘(JeN K):=by
 show F.okn JfS (by subst_eqs) (λO A n s H W Q E q h=>?_)
 let(x,y,a,b,c,d,rfl,h):=h;show(_,(Jab (Jaj 2 JfS.nd (Bac.ev q ⋯ rfl passF %[!0,!1|0])) (Jab (Jaj 3 JfS.nd (pe_op JaQ (pe_op JaE (!0) (pe_op Jas (!1) (pv 2))) (pe_op JaE (!1) (pe_op Jas (!0) (pv 2))))) (Jab (Jaj 4 JfS.nd (Bac.ev q ⋯ rfl passF %[pv 3,pv 2|0])) (Jag (Jap (JaF %[pe_op Jas (pv 3) (pv 4),pe_op JaE (pe_op Jas (!0) (pv 2)) (pe_op Jas (!1) (pv 4))|0])))))),?_)
 let(e,j,B,N,M,o,U,C,G,I,k):=h;show tSeq _ _ _ [some x,some y,none,none,none] H;try mstop
 show ixF1 e (ixF1 j ?_);try mstop
 show(_,_,rfl,?_);try mstop
 have Y:=Mth.g_pos (a:=b) (b:=d) ∅;have L:=Mth.JcP b d;have r:=Mth.JbY b d;have z:Mth.Sz 4000 (Mth.g b d):=Nat.lt_of_le_of_lt (by have:=Mth.g_le (a:=b) (b:=d) ∅;ac_nf:(Mth.g b d).natAbs<=d.natAbs) o;have m:DivOk (Mth.g b d):=divOk ∅ z;have v:=N.fdiv L ∅;have V:=o.fdiv r ∅;show ixF0 e (ixF1 j ?_);try mstop
 show(m,mulOk B V,ixF0 j (ixF1 e ?_));try mstop
 show(m,mulOk M v,?_);show(_,_,rfl,?_);have l:=Mth.Jl4 U C G I (s:=Mth.g b d) rfl rfl rfl;generalize ht:a*d.fdiv (Mth.g b d)+c*b.fdiv (Mth.g b d)=t at l ⊢;have Z:=Mth.g_pos (a:=t) (b:=Mth.g b d) ∅;have D:=Mth.JbY t (Mth.g b d);have R:Mth.Sz 4000 (Mth.g t (Mth.g b d)):=Nat.lt_of_le_of_lt (by have:=Mth.g_le (a:=t) (b:=Mth.g b d) ∅;ac_nf:(Mth.g t (Mth.g b d)).natAbs<=(Mth.g b d).natAbs) z;have u:DivOk (Mth.g t (Mth.g b d)):=divOk ∅ R;try mstop
 show(u,ixF1 e ?_);try mstop
 show(m,ixF1 j ?_);try mstop
 show(u,mulOk v (o.fdiv (Int.dvd_trans D r) ∅),len2,?_);show Jeq λp J S X=>k p J S ?_;rw[X,l.1,l.2]
abbrev Bcb:Stmt:=top 15
theorem Jkx:Jan ["one","other"] ["one","other"] (Jaf Bcb):=by bv_decide
def Jc9(K:W.Frag):Sp:=λvs H Q E=>∃(x y:V)(a b c d:Int),vs=[x,y]/\FrV K H x a b/\FrV K H y c d/\Mth.Sz 4000 a/\Mth.Sz 4000 b/\Mth.Sz 4000 c/\Mth.Sz 4000 d/\1<=b/\1<=d/\Mth.g a b=1/\Mth.g c d=1/\∀ p H',Same H H'->H' p=some (.tup [.int (Mth.top (a*d-c*b) (b*d)), .int (Mth.bot (a*d-c*b) (b*d))])->Q (.ref p) H'
theorem Jkf(F:"minus"∘Bcb)(T:Txt K mg Ad)(Bca:2∘"plus"∘["one","other"]∘(JeN K)):3∘["one","other"]∘(Jc9 K):=by
 show F.okn Jkx (by subst_eqs) (λD A e s H J Q E j h=>?_)
 let(x,y,a,b,c,d,rfl,h):=h;show(_,(Jag (Jap (Bca.ev j ⋯ rfl passF %[pv 0,JaF %[pe_un JgD (!1),!1|0]|0]))),?_);let(u,g,i,C,z,I,G,l,m,n,k):=h;show tRet _ _ [some x,some y] H;try mstop
 show ixF0 g ?_;try mstop
 show ixF1 g ?_;try mstop
 show(len2,?_);rename_i p t L H M S v;show(_,_,a,b, -c,d,rfl,u.same S,FrV.of v,i,C,z.neg,I,G,l,m,by rw[Mth.g_neg];show n,λr q B o=>k r q (S.trans B) ?_);rw[o,Int.neg_mul, <- Int.sub_eq_add_neg]
abbrev Bcc:Stmt:=top 16
theorem JfT:Jan ["one","other","across","back"] ["one","other"] (Jaf Bcc):=by bv_decide
def JdC(K:W.Frag):Sp:=λvs H Q E=>∃(x y:V)(a b c d:Int),vs=[x,y]/\FrV K H x a b/\FrV K H y c d/\Mth.Sz 4000 a/\Mth.Sz 4000 b/\Mth.Sz 4000 c/\Mth.Sz 4000 d/\1<=b/\1<=d/\Mth.g a b=1/\Mth.g c d=1/\∀ p H',Same H H'->H' p=some (.tup [.int (Mth.top (a*c) (b*d)), .int (Mth.bot (a*c) (b*d))])->Q (.ref p) H'
theorem Jkh(F:"times"∘Bcc)(T:Txt K mg Ad)(Bac:1∘"common_divisor"∘["one","other"]∘(JaG)):2∘["one","other"]∘(JdC K):=by
 show F.okn JfT (by subst_eqs) (λO A l s H V Q E n h=>?_)
 let(x,y,a,b,c,d,rfl,h):=h;show(_,(Jab (Jaj 2 JfT.nd (Bac.ev n ⋯ rfl passF %[!0,!1|0])) (Jab (Jaj 3 JfT.nd (Bac.ev n ⋯ rfl passF %[!1,!0|0])) (Jag (Jap (JaF %[pe_op JaE (pe_op Jas (!0) (pv 2)) (pe_op Jas (!1) (pv 3)),pe_op JaE (pe_op Jas (!0) (pv 3)) (pe_op Jas (!1) (pv 2))|0]))))),?_)
 let(e,j,z,r,N,t,U,C,D,I,k):=h;show tSeq _ _ _ [some x,some y,none,none] H;try mstop
 show ixF0 e (ixF1 j ?_);try mstop
 show(_,_,rfl,?_);show ixF0 j (ixF1 e ?_);try mstop
 show(_,_,rfl,?_);try mstop
 have X:=Mth.g_pos (a:=a) (b:=d) ∅;have Y:=Mth.g_pos (a:=c) (b:=b) ∅;have G:=Mth.JcP a d;have R:=Mth.JbY a d;have J:=Mth.JcP c b;have B:=Mth.JbY c b;have M:Mth.Sz 4000 (Mth.g a d):=Nat.lt_of_le_of_lt (by have:=Mth.g_le (a:=a) (b:=d) ∅;ac_nf:(Mth.g a d).natAbs<=d.natAbs) t;have vl:Mth.Sz 4000 (Mth.g c b):=Nat.lt_of_le_of_lt (by have:=Mth.g_le (a:=c) (b:=b) ∅;ac_nf:(Mth.g c b).natAbs<=b.natAbs) r;have q:DivOk (Mth.g a d):=divOk ∅ M;have o:DivOk (Mth.g c b):=divOk ∅ vl;have m:=Mth.JkA U C D I (u:=Mth.g a d) (v:=Mth.g c b) rfl rfl;show ixF0 e ?_;try mstop
 show(q,ixF0 j ?_);try mstop
 show(o,mulOk (z.fdiv G ∅) (N.fdiv J ∅),ixF1 e ?_);try mstop
 show(o,ixF1 j ?_);try mstop
 show(q,mulOk (r.fdiv B ∅) (t.fdiv R ∅),len2,?_);show Jeq λp L S W=>k p L S ?_;rw[W,m.1,m.2]
abbrev BcV:Stmt:=top 17
theorem Jmd:Jan ["one","other"] ["one","other"] (Jaf BcV):=by bv_decide
def JfX(K:W.Frag)(Ad:Adr):Sp:=λvs H Q E=>∃(x y:V)(a b c d:Int),vs=[x,y]/\FrV K H x a b/\FrV K H y c d/\Mth.Sz 4000 a/\Mth.Sz 4000 b/\Mth.Sz 4000 c/\Mth.Sz 4000 d/\1<=b/\1<=d/\Mth.g a b=1/\Mth.g c d=1/\(c=0->E (.ref Ad.NoNumber) none H)/\(c≠0->∀ p H',Same H H'->H' p=some (.tup [.int (Mth.top (a*d) (b*c)), .int (Mth.bot (a*d) (b*c))])->Q (.ref p) H')
theorem JlO(F:"over"∘BcV)(T:Txt K mg Ad)(Bbu:2∘"times"∘["one","other"]∘(JdC K)):3∘["one","other"]∘(JfX K Ad):=by
 show F.okx Jmd (λU H Q E h=>?_) (λR A u s H U Q E j h=>?_)
 .let(x,y,a,b,c,d,rfl,_):=h;rfl
 let(x,y,a,b,c,d,rfl,h):=h;have L:=j.units;show(_,(Jab (ps_if (Jat (JcR L) (!1) Jad (Jay _)) (Jag (Jd7 PySem.F.excBase_ValueError T.x_NoNumber rfl T.m_NoNumber %[Jbe|0]))
   Jav) (Jab (ps_if (Jat Jgs (!1) Jad (Jay _)) (Jag (Jap (Bbu.ev j ⋯ rfl pass1 %[pv 0,JaF %[pe_un JgD (!1),pe_un JgD (!1)|0]|0])))
   Jav) (Jag (Jap (Bbu.ev j ⋯ rfl pass1 %[pv 0,JaF %[!1,!1|0]|0]))))),?_)
 clear L;let(G,g,B,J,I,N,M,W,C,D,V,k):=h;show tSeq _ _ _ [some x,some y] H;try mstop
 show ixF0 g ?_;try mstop
 by_cases i:c=0
 .rw[if_pos (by simpa using i)];try mstop
  show(by decide,V i)
 .rw[if_neg (by simpa using i)];show ixF0 g ?_;try mstop
  by_cases l:c<0
  .rw[if_pos (by simpa using l)];show ixF1 g ?_;try mstop
   show ixF0 g ?_;try mstop
   show(len2,?_);rename_i p q z H O S r;show(_,_,a,b, -d, -c,rfl,G.same S,FrV.of r,B,J,N.neg,I.neg,M,by ac_nf,C,by rw[Mth.g_neg,Mth.JmE,Mth.JkT];show D,λo n v m=>k i o n (S.trans v) ?_);have e:=Mth.JlJ (t:=a*d) (b:=b*c) (Int.mul_neg_of_pos_of_neg ∅ l);rw[m,Int.mul_neg,Int.mul_neg,e.1,e.2]
  .rw[if_neg (by simpa using l)];show ixF1 g ?_;try mstop
   show ixF0 g ?_;try mstop
   show(len2,?_);rename_i p q z H O S r;show(_,_,a,b,d,c,rfl,G.same S,FrV.of r,B,J,N,I,M,by ac_nf,C,by rw[Mth.JkT];show D,λo n v m=>k i o n (S.trans v) m)
abbrev Bcd:Stmt:=top 18
theorem Jky:Jan ["one","other"] ["one","other"] (Jaf Bcd):=by bv_decide
def JbO(K:W.Frag):Sp:=λvs H Q E=>∃(x y:V)(a b c d:Int),vs=[x,y]/\FrV K H x a b/\FrV K H y c d/\Mth.Sz 4000 a/\Mth.Sz 4000 b/\Mth.Sz 4000 c/\Mth.Sz 4000 d/\Q (.bl (decide (a*d<c*b))) H
theorem Jki(F:"under"∘Bcd)(T:Txt K mg Ad)  : 1∘["one","other"]∘(JbO K):=by
 show F.okn Jky (by subst_eqs) (λn A e s H p Q E q h=>?_)
 let(x,y,a,b,c,d,rfl,h):=h;show(_,(Jag (Jap (JbR Jgs (pe_op JaE (!0) (!1)) (pe_op JaE (!1) (!0)) (Jay _)))),?_);let(g,i,j,m,l,o,k):=h;show tRet _ _ [some x,some y] H;cbv;show ixF0 g (ixF1 i ?_);cbv;show(mulOk j o,ixF0 i (ixF1 g ?_));cbv;show(mulOk l m,k)
abbrev BbC:Stmt:=top 24
theorem Jil:Jan ["thing"] ["thing"] (Jaf BbC):=by bv_decide
def Jcs(K:W.Frag):Sp:=λvs H Q E=>∃(z:Str),vs=[.str z]/\nameS z=true/\∀ H',Same H H'->Q (.bl true) H'
theorem Jie(F:"is_name"∘BbC)(T:Txt K mg Ad)  : 1∘["thing"]∘(Jcs K):=by
 show F.okn Jil (by subst_eqs) (λt A e s H y Q E C h=>?_)
 let(z,rfl,h):=h;show(_,(Jab (ps_if (JbP (Jbc (Jau JaZ rfl T.Bad Jaz %[pv 0,Jdc (v:=.ty "str") rfl T.Bef Jmw rfl|0]))) (Jag (Jap pe_bl))
   Jav) (Jab (ps_if (PW.pt (pw_or (Jat Jgs (Jau Ja4 rfl T.BbH Jbs %[pv 0|0]) Jad (Jay _)) (JbZ (Jat JhM (Jau Ja4 rfl T.BbH Jbs %[pv 0|0]) (Jbh (v:=.int 8) rfl T.BcQ T.BcR) (Jay _))))) (Jag (Jap pe_bl))
   Jav) (Jag (Jap (Jau (Jiw rfl) rfl T.Beh Jmt %[Jfb (Jcy (own:=["sign"]) (cs:=[]) rfl (Jm7 (pv 0)) (λ_ _ _ _=>(Jaq 0 (show[("sign" : Str)].Nodup by decide))) (λ_ _ _ _=>JcY) (λ_ _ _ _=>(JbR (JmZ (K:=K) rfl) (pv 0) (Jbh (v:=.str "abcdefghijklmnopqrstuvwxyz") rfl T.Bcs T.Bct) (by with_unfolding_all rfl))) (JcQ rfl) ⋯ rfl ⋯ hcs0)|0]))))),?_)
 let(b,k):=h;show tSeq _ _ _ [some (.str z)] H;cbv;have r:=len8 b;have n:z.length<=sizeLine:=Nat.le_trans r ⋯;unfold nameS at b;simp only[Bool.and_eq_true,decide_eq_true_eq]at b;let((I,J),a):=b
 mframe;show(n,?_);cbv;rw[if_neg (by simp;ac_nf)];cbv;show(n,?_);cbv;rw[if_neg (by simp;ac_nf)];cbv;cbv;simpa only[tComp,iStr];show(λi m q d=>d=H/\i<=z.cps.size/\m=z.cps.size-i/\q=(z.cps.toList.take i).map λc=>V.bl (lowB c),⟨_,rfl,Nat.zero_le _,rfl,by simp⟩,?_);rintro i m q d ⟨rfl,L,rfl,rfl⟩;have G:z.cps.size=z.length:=rfl;show(by simp;ac_nf,?_);by_cases j:i<z.cps.size
 .show .inr ⟨j,?_⟩;rintro x o ⟨rfl,c,B,rfl⟩;simpa only[length_singleton,List.replicate,JaM,map_nil,y5fy,Jh9];show(_,Nat.sub_lt_sub_left j (Nat.lt_succ_self i),j,rfl,?_);have g:z.cps.toList[i]?=some c:=by simpa using B
  rw[take_succ,g];simp
 .have l:i=z.cps.size:=by ac_nf
  show .inl ⟨l,?_⟩;subst l;rw[take_of_length_le (by simp)];rename_i p M D d o S u;show(p,z.cps.toList.map lowB,rfl,SqL.of (by rw[u,map_map];rfl),?_);have:=k o S;simpa[List.all_map,a]using this
abbrev Ba9:Stmt:=top 25
theorem Jhh:Jan ["thing"] ["thing"] (Jaf Ba9):=by bv_decide
def JcF(K:W.Frag):Sp:=λvs H Q E=>∃(i:Int),vs=[.int i]/\Q (.bl true) H
theorem Jg0(F:"is_whole"∘Ba9)(T:Txt K mg Ad)  : 1∘["thing"]∘(JcF K):=by
 show F.okn Jhh (by subst_eqs) (λb A a s H c Q E d h=>?_)
 let(i,rfl,h):=h;show(_,(Jag (Jap (JcV (Jau JaZ rfl T.Bad Jaz %[pv 0,Jdc (v:=.ty "int") rfl T.Bee Jmu rfl|0]) (Jdv (JhQ (Jau JaZ rfl T.Bad Jaz %[pv 0,Jdc (v:=.ty "bool") rfl T.Bea Jlm rfl|0])))))),?_);show tRet _ _ [some (.int i)] H;cbv;show h
abbrev BaD:Stmt:=top 26
theorem Je0:Jan ["thing"] ["thing"] (Jaf BaD):=by bv_decide
def JbM(K:W.Frag):Sp:=λvs H Q E=>∃(x:V)(a b:Int),vs=[x]/\FrV K H x a b/\1<=b/\Mth.g a b=1/\Q (.bl true) H
theorem JeV(F:"is_fraction"∘BaD)(T:Txt K mg Ad)(Ba1:1∘"is_whole"∘["thing"]∘(JcF K))(Bac:1∘"common_divisor"∘["one","other"]∘(JaG)):2∘["thing"]∘(JbM K):=by
 show F.okn Je0 (by subst_eqs) (λl A e s H m Q E d h=>?_)
 let(x,a,b,rfl,h):=h;have g:=d.units;show(_,(Jab (ps_if (PW.pt (pw_or (JbP (Jbc (Jau JaZ rfl T.Bad Jaz %[pv 0,Jdc (v:=.ty "tuple") rfl T.Bdt Jfj rfl|0]))) (JbZ (Jat (Jbr g) (Jau Ja4 rfl T.BbH Jbs %[pv 0|0]) Jad (Jay _))))) (Jag (Jap pe_bl))
   Jav) (Jab (ps_if (PW.pt (pw_or (JbP (Jbc (Ba1.ev d ⋯ rfl passF %[!0|0]))) (JbZ (JbP (Jbc (Ba1.ev d ⋯ rfl passF %[!0|0])))))) (Jag (Jap pe_bl))
   Jav) (Jag (Jap (JcV (JbR JkX (!0) Jad (Jay _)) (Jdv (JbR (JcR g) (Bac.ev d ⋯ rfl passF %[!0,!0|0]) Jad (Jay _)))))))),?_)
 clear g;let((p,rfl,c),j,i,k):=h;show tSeq _ _ _ [some (.ref p)] H;cbv;show(_, .inr ⟨rfl,_,c⟩,?_)
 mframe;show(_, .inr c,?_);simpa only[length_cons,length_nil]
 (rw[if_neg (by simp)])
 cbv;show ixT0 c ?_;show(a,rfl,?_);cbv;show ixT1 c ?_;show(b,rfl,?_);cbv;show ixT1 c ?_;cbv;rw[if_pos (by simpa using j)];cbv;show ixT0 c (ixT1 c ?_);show(_,_,rfl,?_);cbv;simpa[i]using k
abbrev Bba:Stmt:=top 27
theorem Jhg:Jan ["thing"] ["thing"] (Jaf Bba):=by bv_decide
def Jdi(K:W.Frag):Sp:=λvs H Q E=>∃(x:V)(a b:Int),vs=[x]/\FrV K H x a b/\1<=b/\Mth.g a b=1/\Q (.bl true) H
theorem JgZ(F:"is_bound"∘Bba)(T:Txt K mg Ad)(Bau:2∘"is_fraction"∘["thing"]∘(JbM K)):3∘["thing"]∘(Jdi K):=by
 show F.okn Jhg (by subst_eqs) (λl A c s H m Q E e h=>?_)
 let(x,a,b,rfl,h):=h;show(_,(Jag (Jap (pe_or (JbR Jex (pv 0) JcX (Jay _)) (Jdv (Bau.ev e ⋯ rfl passF %[pv 0|0]))))),?_);let(d,i,g,k):=h;show tRet _ _ [some x] H;cbv;have j:x≠.non:=by
  let(p,rfl,_):=d;intro z;cases z
 rw[if_neg (by simpa using j)];cbv;show(x,a,b,rfl,d,i,g,k)
abbrev Ba2:Stmt:=top 28
theorem Jgx:Jan ["one","other"] ["one","other"] (Jaf Ba2):=by bv_decide
def Jci(K:W.Frag):Sp:=λvs H Q E=>∃(z w:Str),vs=[.str z, .str w]/\nameS z=true/\nameS w=true/\z≠w/\∀ H',Same H H'->Q (.bl true) H'
theorem Jgq(F:"are_faces"∘Ba2)(T:Txt K mg Ad)(BaJ:1∘"is_name"∘["thing"]∘(Jcs K)):2∘["one","other"]∘(Jci K):=by
 show F.okn Jgx (by subst_eqs) (λj A b s H m Q E a h=>?_)
 let(z,w,rfl,h):=h;have c:=a.units;show(_,(Jag (Jap (JcV (BaJ.ev a ⋯ rfl passF %[pv 0|0]) (JcV (BaJ.ev a ⋯ rfl passF %[pv 1|0]) (Jdv (JbR (Jbr c) (pv 0) (pv 1) (Jay _))))))),?_);clear c;let(e,n,l,k):=h;show tRet _ _ [some (.str z),some (.str w)] H;cbv;show(z,rfl,e,λo i=>?_);cbv;show(w,rfl,n,λd g=>?_);cbv;have:=k d (i.trans g);simpa[l]using this
abbrev BaK:Stmt:=top 29
theorem JfO:Jan ["least","greatest"] ["least","greatest"] (Jaf BaK):=by bv_decide
def JcD(K:W.Frag):Sp:=λvs H Q E=>∃(x y:V)(a b:Int × Int),vs=[x,y]/\FrV K H x a.1 a.2/\FrV K H y b.1 b.2/\FOk 600 a/\FOk 600 b/\¬ b.1*a.2<a.1*b.2/\Q (.bl true) H
theorem Jfy(F:"are_bounds"∘BaK)(T:Txt K mg Ad)(Bb2:3∘"is_bound"∘["thing"]∘(Jdi K))(Bah:1∘"under"∘["one","other"]∘(JbO K)):4∘["least","greatest"]∘(JcD K):=by
 show F.okn JfO (by subst_eqs) (λo A i s H q Q E e h=>?_)
 let(x,y,a,b,rfl,h):=h;show(_,(Jab (ps_if (PW.pt (pw_or (JbP (Jbc (Bb2.ev e ⋯ rfl passF %[pv 0|0]))) (JbZ (JbP (Jbc (Bb2.ev e ⋯ rfl passF %[pv 1|0])))))) (Jag (Jap pe_bl))
   Jav) (Jab (ps_if (PW.pt (pw_or (Jat Jex (pv 0) JcX (Jay _)) (JbZ (Jat Jex (pv 1) JcX (Jay _))))) (Jag (Jap pe_bl))
   Jav) (Jag (Jap (JhQ (Bah.ev e ⋯ rfl passF %[pv 1,pv 0|0])))))),?_)
 let(g,j,d,c,m,k):=h;show tSeq _ _ _ [some x,some y] H;cbv;show(x,_,_,rfl,g,d.b1,d.g1,?_);cbv;show(y,_,_,rfl,j,c.b1,c.g1,?_);cbv;have n:x≠.non:=by
  let(p,rfl,_):=g;intro z;cases z
 have l:y≠.non:=by
  let(p,rfl,_):=j;intro z;cases z
 rw[if_neg (by simpa using n),if_neg (by simpa using l)];cbv;cbv;show(y,x,_,_,_,_,rfl,j,g,c.s1.mono ⋯,c.s2.mono ⋯,d.s1.mono ⋯,d.s2.mono ⋯,?_);cbv;simpa[m]using k
abbrev Bb3:Stmt:=top 30
theorem Jjv:Jan ["thing"] ["thing"] (Jaf Bb3):=by bv_decide
def JeM(K:W.Frag):Sp:=λvs H Q E=>∃(x:V)(g:GD),vs=[x]/\TV K H g.td x/\TOk g.td/\∀ H',Same H H'->Q (.bl true) H'
theorem Ji9(F:"is_tie"∘Bb3)(T:Txt K mg Ad)(BaJ:1∘"is_name"∘["thing"]∘(Jcs K))(Ba3:2∘"are_faces"∘["one","other"]∘(Jci K))(BbS:4∘"are_bounds"∘["least","greatest"]∘(JcD K)):5∘["thing"]∘(JeM K):=by
 show F.okn Jjv (by subst_eqs) (λt A j s H u Q E e h=>?_)
 let(x,g,rfl,h):=h;have o:=e.units;show(_,(Jab (ps_if (PW.pt (pw_or (JbP (Jbc (Jau JaZ rfl T.Bad Jaz %[pv 0,Jdc (v:=.ty "tuple") rfl T.Bdt Jfj rfl|0]))) (JbZ (Jat (Jbr o) (Jau Ja4 rfl T.BbH Jbs %[pv 0|0]) Jad (Jay _))))) (Jag (Jap pe_bl))
   Jav) (Jag (Jap (JcV (BaJ.ev e ⋯ rfl passF %[!0|0]) (JcV (Ba3.ev e ⋯ rfl passF %[!0,!0|0]) (Jdv (BbS.ev e ⋯ rfl passF %[!0,!0|0]))))))),?_)
 clear o;let((a,vl,p,rfl,d,m,n),c,k):=h;replace m:FrV K H vl g.lo.1 g.lo.2:=m;replace n:FrV K H p g.hi.1 g.hi.2:=n;show tSeq _ _ _ [some (.ref a)] H;cbv;show(_, .inr ⟨rfl,_,d⟩,?_)
 mframe;show(_, .inr d,?_);simpa only[length_cons,length_nil]
 (rw[if_neg (by simp)])
 cbv;show ixT (i:=0) d rfl ?_;show(g.nm,rfl,c.n1,λy l=>?_);cbv;show ixT (i:=1) (d.same l) rfl ?_;show ixT (i:=2) (d.same l) rfl ?_;show(g.st,g.en,rfl,c.n2,c.n3,c.ne,λq r=>?_);cbv;have b:=l.trans r;show ixT (i:=3) (d.same b) rfl ?_;show ixT (i:=4) (d.same b) rfl ?_;show(vl,p,g.lo,g.hi,rfl,m.same b,n.same b,c.lo _ rfl,c.hi _ rfl,?_,k q b);have this : decide (g.hi.1*g.lo.2<g.lo.1*g.hi.2)=false:=c.le;simpa using this
abbrev Bar:Stmt:=inClass (top 48) 0
theorem Jd1:Jan ["self","row"] ["self","row"] (Jaf Bar):=by bv_decide
def JbS(K:W.Frag):Sp:=λvs H Q E=>∃(x C dx a:Addr)(n st en z m wt:V),vs=[.ref x, .ref a]/\H x=some (.ins C dx [])/\PartC K C/\SqT K H a [n,st,en,z,m,wt]/\∀ H',H' x=some (.ins C dx (partF n st en z m wt))->(∀ b,b≠x->H' b=H b)->Q .non H'
theorem JdY(F:"__init__"∘"Part.__init__"∘Bar)(T:Txt K mg Ad)  : 1∘["self","row"]∘(JbS K):=by
 show F.okn Jd1 (by subst_eqs) (λS A y s H W Q E Y h=>?_)
 let(x,C,d,a,n,g,j,z,m,v,rfl,h):=h;show(_,(Jab (Ja8 (pv 0) (!1) rfl) (Jab (Ja8 (pv 0) (!1) rfl) (Jab (Ja8 (pv 0) (!1) rfl) (Jab (Ja8 (pv 0) (!1) rfl) (Jab (Ja8 (pv 0) (!1) rfl) (Jag (Ja8 (pv 0) (!1) rfl))))))),?_)
 let(L,e,t,k):=h;show tSeq _ _ _ [some (.ref x),some (.ref a)] H;mexact;show ixT (i:=0) t rfl ?_;mexact;show(x,C,d,_,rfl,L,e.cls,e.n1,by simp,?_);have l:=SqT.put (fs':=putF "name" n []) L t;generalize u0:upd H x _=H1 at l ⊢;mexact;have J:H1 x=some (.ins C d [("name",n)]):=by rw[<- u0];show Jak.trans rfl
 have V:∀ b,b≠x->H1 b=H b:=λb c=>by rw[<- u0,Jah c]
 mexact;show ixT (i:=1) l rfl ?_;mexact;show(x,C,d,_,rfl,J,e.cls,e.n2,by simp,?_);have q:=SqT.put (fs':=putF "start" g [("name",n)]) J l;generalize u1:upd H1 x _=H2 at q ⊢;mexact;have D:H2 x=some (.ins C d [("name",n),("start",g)]):=by rw[<- u1];show Jak.trans rfl
 have O:∀ b,b≠x->H2 b=H1 b:=λb c=>by rw[<- u1,Jah c]
 mexact;show ixT (i:=2) q rfl ?_;mexact;show(x,C,d,_,rfl,D,e.cls,e.n3,by simp,?_);have r:=SqT.put (fs':=putF "end" j [("name",n),("start",g)]) D q;generalize u2:upd H2 x _=H3 at r ⊢;mexact;have G:H3 x=some (.ins C d [("name",n),("start",g),("end",j)]):=by rw[<- u2];show Jak.trans rfl
 have U:∀ b,b≠x->H3 b=H2 b:=λb c=>by rw[<- u2,Jah c]
 mexact;show ixT (i:=3) r rfl ?_;mexact;show(x,C,d,_,rfl,G,e.cls,e.n4,by simp,?_);have p:=SqT.put (fs':=putF "size" z [("name",n),("start",g),("end",j)]) G r;generalize u3:upd H3 x _=H4 at p ⊢;mexact;have I:H4 x=some (.ins C d [("name",n),("start",g),("end",j),("size",z)]):=by rw[<- u3];show Jak.trans rfl
 have R:∀ b,b≠x->H4 b=H3 b:=λb c=>by rw[<- u3,Jah c]
 mexact;show ixT (i:=4) p rfl ?_;mexact;show(x,C,d,_,rfl,I,e.cls,e.n5,by simp,?_);have o:=SqT.put (fs':=putF "most" m [("name",n),("start",g),("end",j),("size",z)]) I p;generalize u4:upd H4 x _=H5 at o ⊢;mexact;have B:H5 x=some (.ins C d [("name",n),("start",g),("end",j),("size",z),("most",m)]):=by rw[<- u4];show Jak.trans rfl
 have X:∀ b,b≠x->H5 b=H4 b:=λb c=>by rw[<- u4,Jah c]
 mexact;show ixT (i:=5) o rfl ?_;mexact;show(x,C,d,_,rfl,B,e.cls,e.n6,by simp,?_);have u:=SqT.put (fs':=putF "weight" v [("name",n),("start",g),("end",j),("size",z),("most",m)]) B o;generalize u5:upd H5 x _=H6 at u ⊢;mexact;have M:H6 x=some (.ins C d [("name",n),("start",g),("end",j),("size",z),("most",m),("weight",v)]):=by rw[<- u5];show Jak.trans rfl
 have N:∀ b,b≠x->H6 b=H5 b:=λb c=>by rw[<- u5,Jah c]
 mexact;show k H6 M λb c=>by rw[N b c,X b c,R b c,U b c,O b c,V b c]
abbrev BaL:Stmt:=inClass (top 48) 1
theorem JfM:Jan ["self"] ["self"] (Jaf BaL):=by bv_decide
def JcC(K:W.Frag)(Ad:Adr):Sp:=λvs H Q E=>∃(p dx:Addr)(n st en z m wt:V),vs=[.ref p]/\H p=some (.ins Ad.Part dx (partF n st en z m wt))/\∀ q H',Same H H'->H' q=some (.tup [n,st,en,z,m,wt])->Q (.ref q) H'
theorem Jfv(F:"plain"∘"Part.plain"∘BaL)(T:Txt K mg Ad)  : 1∘["self"]∘(JcC K Ad):=by
 show F.okn JfM (by subst_eqs) (λo A d s H r Q E t h=>?_)
 let(p,b,n,i,j,z,m,g,rfl,h):=h;show(_,(Jag (Jap (JaF %[Jar (pv 0) rfl,Jar (pv 0) rfl,Jar (pv 0) rfl,Jar (pv 0) rfl,Jar (pv 0) rfl,Jar (pv 0) rfl|0]))),?_);let(c,k):=h;have a:=T.BcT Ad.Part rfl;show tRet _ _ [some (.ref p)] H;mleave;show(p,_,b,_,n,rfl,c,a.cls,a.n1,rfl,?_);show(p,_,b,_,i,rfl,c,a.cls,a.n2,rfl,?_);show(p,_,b,_,j,rfl,c,a.cls,a.n3,rfl,?_);show(p,_,b,_,z,rfl,c,a.cls,a.n4,rfl,?_);show(p,_,b,_,m,rfl,c,a.cls,a.n5,rfl,?_);show(p,_,b,_,g,rfl,c,a.cls,a.n6,rfl,?_);mleave;show(by show 6<=sizeLine;decide,?_);show Jeq λq l S e=>k q l S e
abbrev Bav:Stmt:=inClass (top 49) 0
theorem JeD:Jan ["self","row"] ["self","row"] (Jaf Bav):=by bv_decide
def Jb7(K:W.Frag):Sp:=λvs H Q E=>∃(x C dx a:Addr)(n st en l g:V),vs=[.ref x, .ref a]/\H x=some (.ins C dx [])/\GapC K C/\SqT K H a [n,st,en,l,g]/\∀ H',H' x=some (.ins C dx (gapF n st en l g))->(∀ b,b≠x->H' b=H b)->Q .non H'
theorem Jer(F:"__init__"∘"Gap.__init__"∘Bav)(T:Txt K mg Ad)  : 1∘["self","row"]∘(Jb7 K):=by
 show F.okn JeD (by subst_eqs) (λM A v s H R Q E U h=>?_)
 let(x,C,d,a,n,j,r,l,g,rfl,h):=h;show(_,(Jab (Ja8 (pv 0) (!1) rfl) (Jab (Ja8 (pv 0) (!1) rfl) (Jab (Ja8 (pv 0) (!1) rfl) (Jab (Ja8 (pv 0) (!1) rfl) (Jag (Ja8 (pv 0) (!1) rfl)))))),?_)
 let(G,e,t,k):=h;show tSeq _ _ _ [some (.ref x),some (.ref a)] H;mexact;show ixT (i:=0) t rfl ?_;mexact;show(x,C,d,_,rfl,G,e.cls,e.n1,by simp,?_);have m:=SqT.put (fs':=putF "name" n []) G t;generalize u0:upd H x _=H1 at m ⊢;mexact;have D:H1 x=some (.ins C d [("name",n)]):=by rw[<- u0];show Jak.trans rfl
 have O:∀ b,b≠x->H1 b=H b:=λb c=>by rw[<- u0,Jah c]
 mexact;show ixT (i:=1) m rfl ?_;mexact;show(x,C,d,_,rfl,D,e.cls,e.n2,by simp,?_);have p:=SqT.put (fs':=putF "one" j [("name",n)]) D m;generalize u1:upd H1 x _=H2 at p ⊢;mexact;have y:H2 x=some (.ins C d [("name",n),("one",j)]):=by rw[<- u1];show Jak.trans rfl
 have J:∀ b,b≠x->H2 b=H1 b:=λb c=>by rw[<- u1,Jah c]
 mexact;show ixT (i:=2) p rfl ?_;mexact;show(x,C,d,_,rfl,y,e.cls,e.n3,by simp,?_);have q:=SqT.put (fs':=putF "other" r [("name",n),("one",j)]) y p;generalize u2:upd H2 x _=H3 at q ⊢;mexact;have z:H3 x=some (.ins C d [("name",n),("one",j),("other",r)]):=by rw[<- u2];show Jak.trans rfl
 have N:∀ b,b≠x->H3 b=H2 b:=λb c=>by rw[<- u2,Jah c]
 mexact;show ixT (i:=3) q rfl ?_;mexact;show(x,C,d,_,rfl,z,e.cls,e.n4,by simp,?_);have o:=SqT.put (fs':=putF "low" l [("name",n),("one",j),("other",r)]) z q;generalize u3:upd H3 x _=H4 at o ⊢;mexact;have B:H4 x=some (.ins C d [("name",n),("one",j),("other",r),("low",l)]):=by rw[<- u3];show Jak.trans rfl
 have L:∀ b,b≠x->H4 b=H3 b:=λb c=>by rw[<- u3,Jah c]
 mexact;show ixT (i:=4) o rfl ?_;mexact;show(x,C,d,_,rfl,B,e.cls,e.n5,by simp,?_);have u:=SqT.put (fs':=putF "high" g [("name",n),("one",j),("other",r),("low",l)]) B o;generalize u4:upd H4 x _=H5 at u ⊢;mexact;have I:H5 x=some (.ins C d [("name",n),("one",j),("other",r),("low",l),("high",g)]):=by rw[<- u4];show Jak.trans rfl
 have S:∀ b,b≠x->H5 b=H4 b:=λb c=>by rw[<- u4,Jah c]
 mexact;show k H5 I λb c=>by rw[S b c,L b c,N b c,J b c,O b c]
abbrev Ba4:Stmt:=inClass (top 49) 1
theorem Jgv:Jan ["self"] ["self"] (Jaf Ba4):=by bv_decide
def JcZ(K:W.Frag)(Ad:Adr):Sp:=λvs H Q E=>∃(p dx:Addr)(n st en l g:V),vs=[.ref p]/\H p=some (.ins Ad.Gap dx (gapF n st en l g))/\∀ q H',Same H H'->H' q=some (.tup [n,st,en,l,g])->Q (.ref q) H'
theorem Jgo(F:"plain"∘"Gap.plain"∘Ba4)(T:Txt K mg Ad)  : 1∘["self"]∘(JcZ K Ad):=by
 show F.okn Jgv (by subst_eqs) (λo A d s H r Q E t h=>?_)
 let(p,b,n,i,j,l,g,rfl,h):=h;show(_,(Jag (Jap (JaF %[Jar (pv 0) rfl,Jar (pv 0) rfl,Jar (pv 0) rfl,Jar (pv 0) rfl,Jar (pv 0) rfl|0]))),?_);let(c,k):=h;have a:=T.BdQ Ad.Gap rfl;show tRet _ _ [some (.ref p)] H;mleave;show(p,_,b,_,n,rfl,c,a.cls,a.n1,rfl,?_);show(p,_,b,_,i,rfl,c,a.cls,a.n2,rfl,?_);show(p,_,b,_,j,rfl,c,a.cls,a.n3,rfl,?_);show(p,_,b,_,l,rfl,c,a.cls,a.n4,rfl,?_);show(p,_,b,_,g,rfl,c,a.cls,a.n5,rfl,?_);mleave;show(by show 5<=sizeLine;decide,?_);show Jeq λq m S e=>k q m S e
abbrev BbD:Stmt:=top 46
theorem Jim:Jan ["thing"] ["thing"] (Jaf BbD):=by bv_decide
def JdR(K:W.Frag):Sp:=λvs H Q E=>∃(x:V)(p:PD),vs=[x]/\PDV K H p x/\POk p/\∀ H',Same H H'->Q (.bl true) H'
theorem Jif(F:"is_part"∘BbD)(T:Txt K mg Ad)(BaJ:1∘"is_name"∘["thing"]∘(Jcs K))(Ba3:2∘"are_faces"∘["one","other"]∘(Jci K))(Bau:2∘"is_fraction"∘["thing"]∘(JbM K))(Ba1:1∘"is_whole"∘["thing"]∘(JcF K))(Bah:1∘"under"∘["one","other"]∘(JbO K)):5∘["thing"]∘(JdR K):=by
 show F.okn Jim (by subst_eqs) (λu A g s H B Q E e h=>?_)
 let(x,p,rfl,h):=h;have o:=e.units;show(_,(Jab (ps_if (PW.pt (pw_or (JbP (Jbc (Jau JaZ rfl T.Bad Jaz %[pv 0,Jdc (v:=.ty "tuple") rfl T.Bdt Jfj rfl|0]))) (JbZ (Jat (Jbr o) (Jau Ja4 rfl T.BbH Jbs %[pv 0|0]) Jad (Jay _))))) (Jag (Jap pe_bl))
   Jav) (Jab (ps_if (PW.pt (pw_or (JbP (Jbc (BaJ.ev e ⋯ rfl passF %[!0|0]))) (JbZ (JbP (Jbc (Ba3.ev e ⋯ rfl passF %[!0,!0|0])))))) (Jag (Jap pe_bl))
   Jav) (Jab (ps_if (PW.pt (pw_or (JbP (Jbc (Bau.ev e ⋯ rfl passF %[!0|0]))) (pw_or (JbP (Jbc (Bau.ev e ⋯ rfl passF %[!0|0]))) (JbZ (JbP (Jbc (Ba1.ev e ⋯ rfl passF %[!0|0]))))))) (Jag (Jap pe_bl))
   Jav) (Jag (Jap (JcV (JhQ (Bah.ev e ⋯ rfl passF %[!0,Jbh (v:=.ref _) rfl T.Bcn T.Bco|0])) (Jdv (JbR JkX (!0) Jad (Jay _))))))))),?_)
 clear o;let((a,q,l,rfl,d,y,n),c,k):=h;show tSeq _ _ _ [some (.ref a)] H;cbv;show(_, .inr ⟨rfl,_,d⟩,?_)
 mframe;show(_, .inr d,?_);simpa only[length_cons,length_nil]
 (rw[if_neg (by simp)])
 cbv;show ixT (i:=0) d rfl ?_;show(p.nm,rfl,c.n1,λC j=>?_);cbv;show ixT (i:=1) (d.same j) rfl ?_;show ixT (i:=2) (d.same j) rfl ?_;show(p.st,p.en,rfl,c.n2,c.n3,c.ne,λr t=>?_);cbv;have b:=j.trans t;show ixT (i:=3) (d.same b) rfl ?_;show(q,_,_,rfl,y.same b,c.z.b1,c.z.g1,?_);cbv;show ixT (i:=4) (d.same b) rfl ?_;show(l,_,_,rfl,n.same b,c.m.b1,c.m.g1,?_);cbv;show ixT (i:=5) (d.same b) rfl ?_;show(p.wt,rfl,?_);cbv;show ixT (i:=4) (d.same b) rfl ?_;show(l, .ref Ad.ZERO,p.mo.1,p.mo.2,0,1,rfl,n.same b,⟨Ad.ZERO,rfl,T.Bcp _⟩,c.m.s1.mono ⋯,c.m.s2.mono ⋯, .lit ⋯ ⋯, .lit ⋯ ⋯,?_);cbv;have D:=c.m0;rw[if_pos (by simp;ac_nf)];cbv;show ixT (i:=5) (d.same b) rfl ?_;cbv;have:=k r b;simpa[c.w]using this
abbrev Bb4:Stmt:=top 47
theorem Jju:Jan ["thing"] ["thing"] (Jaf Bb4):=by bv_decide
def JeK(K:W.Frag):Sp:=λvs H Q E=>∃(x:V)(g:GD),vs=[x]/\TV K H g.td x/\TOk g.td/\∀ H',Same H H'->Q (.bl true) H'
theorem Ji7(F:"is_gap"∘Bb4)(T:Txt K mg Ad)(BcZ:5∘"is_tie"∘["thing"]∘(JeM K)):6∘["thing"]∘(JeK K):=by
 show F.okn Jju (by subst_eqs) (λn A b s H o Q E j h=>?_)
 let(x,g,rfl,h):=h;show(_,(Jag (Jap (JcV (BcZ.ev j ⋯ rfl passF %[pv 0|0]) (JcV (JbR JfG (!0) JcX (Jay _)) (Jdv (JbR JfG (!0) JcX (Jay _))))))),?_);let(d,m,k):=h;show tRet _ _ [some x] H;cbv;show(x,g,rfl,d,m,λl c=>?_);let(a,vl,p,rfl,e,(_,rfl,_),(_,rfl,_)):=d;cbv;show ixT (i:=3) (e.same c) rfl ?_;cbv;show ixT (i:=4) (e.same c) rfl ?_;cbv;show k l c
abbrev BbE:Stmt:=top 50
theorem Jin:Jan ["thing"] ["thing"] (Jaf BbE):=by bv_decide
def JdT(K:W.Frag)(Ad:Adr):Sp:=λvs H Q E=>∃(x:V)(p:PD),vs=[x]/\PDV K H p x/\POk p/\∀ v H',Same H H'->POV K Ad H' p v->Q v H'
theorem Jii(F:"part_of"∘BbE)(T:Txt K mg Ad)(Bcv:5∘"is_part"∘["thing"]∘(JdR K))(BdR:KCal P w K mg base 1 "Part" Ad.Part ["self","row"] (JbS K)):6∘["thing"]∘(JdT K Ad):=by
 show F.okn Jin (by subst_eqs) (λG A g s H J Q E i h=>?_)
 let(x,p,rfl,h):=h;show(_,(Jab (ps_if (JbP (Jbc (Bcv.ev i ⋯ rfl passF %[pv 0|0]))) (Jag ps_no)
   Jav) (Jag (Jap (BdR.ev i ⋯ rfl passF %[pv 0|0])))),?_)
 let(j,B,k):=h;show tSeq _ _ _ [some x] H;cbv;show(x,p,rfl,j,B,λm v=>?_);cbv;let(b,l,t,rfl,I,D,C):=j;intro y a r c L;have n:Same m (upd (upd m a (.own y)) y (.ins Ad.Part a [])):=λb u q=>by rw[Jah (Jai q r),Jah (Jai q c)];show q
 show(y,_,a,b,_,_,_,l,t,_,rfl,Jak,T.BcT _ rfl,(I.same v).same n,λz e o=>⟨rfl,?_⟩);have d:Same H z:=v.trans λb u q=>by rw[o b (Jai q r)];show n _ _ q
 show k _ z d ⟨y,a,l,t,rfl,e,D.same d,C.same d⟩
abbrev Bb5:Stmt:=top 51
theorem Jjt:Jan ["thing"] ["thing"] (Jaf Bb5):=by bv_decide
def JeJ(K:W.Frag)(Ad:Adr):Sp:=λvs H Q E=>∃(x:V)(g:GD),vs=[x]/\TV K H g.td x/\TOk g.td/\∀ v H',Same H H'->GOV K Ad H' g v->Q v H'
theorem Ji6(F:"gap_of"∘Bb5)(T:Txt K mg Ad)(Bc0:6∘"is_gap"∘["thing"]∘(JeK K))(Bd6:KCal P w K mg base 1 "Gap" Ad.Gap ["self","row"] (Jb7 K)):7∘["thing"]∘(JeJ K Ad):=by
 show F.okn Jjt (by subst_eqs) (λG A l s H J Q E p h=>?_)
 let(x,g,rfl,h):=h;show(_,(Jab (ps_if (JbP (Jbc (Bc0.ev p ⋯ rfl passF %[pv 0|0]))) (Jag ps_no)
   Jav) (Jag (Jap (Bd6.ev p ⋯ rfl passF %[pv 0|0])))),?_)
 let(r,D,k):=h;show tSeq _ _ _ [some x] H;cbv;show(x,g,rfl,r,D,λt B=>?_);cbv;let(b,i,n,rfl,I,m,j):=r;replace m:FrV K H i g.lo.1 g.lo.2:=m;replace j:FrV K H n g.hi.1 g.hi.2:=j;intro y a z c L;have v:Same t (upd (upd t a (.own y)) y (.ins Ad.Gap a [])):=λb u q=>by rw[Jah (Jai q z),Jah (Jai q c)];show q
 show(y,_,a,b,_,_,_,i,n,rfl,Jak,T.BdQ _ rfl,(I.same B).same v,λC e o=>⟨rfl,?_⟩);have d:Same H C:=B.trans λb u q=>by rw[o b (Jai q z)];show v _ _ q
 show k _ C d ⟨y,a,i,n,rfl,e,m.same d,j.same d⟩
abbrev Baj:Stmt:=inClass (top 52) 0
theorem Jdy:Jan ["self"] ["self"] (Jaf Baj):=by bv_decide
def Jbx(K:W.Frag)(Ad:Adr):Sp:=λvs H Q E=>∃(x dx:Addr),vs=[.ref x]/\H x=some (.ins Ad.Joints dx [])/\∀ d H',H d=none->d≠x->H' x=some (.ins Ad.Joints dx [("leads", .ref d)])->H' d=some (.dK [])->(∀ b u,b≠x->H b=some u->H' b=some u)->Q .non H'
theorem Jdr(F:"__init__"∘"Joints.__init__"∘Baj)(T:Txt K mg Ad)  : 1∘["self"]∘(Jbx K Ad):=by
 show F.okn Jdy (by subst_eqs) (λn A c s H q Q E r h=>?_)
 let(x,g,rfl,h):=h;show(_,(Jag (Ja8 (pv 0) Jbt rfl)),?_);let(e,k):=h;have l:=T.Bb9 _ rfl;show sFld _ _ _ _ _ [some (.ref x)] H;mexact;rename_i d a m H t i o;mexact;show(x,_,g,_,rfl,i _ _ e,l.cls,l.n1,by simp,?_);have j:d≠x:=λz=>by rw[z,e]at a;cases a
 show k d _ a j (Jak.trans rfl) (by rw[Jah j];show o) λb u p h=>by rw[Jah p];show i _ _ h
abbrev BaE:Stmt:=inClass (top 52) 1
theorem JeY:Jan ["self","part"] ["self","part"] (Jaf BaE):=by bv_decide
def Jcm(K:W.Frag)(Ad:Adr):Sp:=λvs H Q E=>∃(j d:Addr)(v:V)(ls:List PD)(p:PD)(H0:Hp),vs=[.ref j,v]/\JK Ad H0 H j d ls/\Same H0 H/\POV K Ad H p v/\p.st≠p.en/\ls.length<=20/\∀ H',Same H0 H'->SameJ d H H'->JK Ad H0 H' j d (ls++[p])->Q .non H'
theorem JeS(F:"link"∘"Joints.link"∘BaE)(T:Txt K mg Ad)  : 1∘["self","part"]∘(Jcm K Ad):=by
 show F.okn JeY (by subst_eqs) (λf6 A f1 s H vs Q E hr h=>?_)
 let(j,d,v,ls,p,X,rfl,h):=h;show(_,(Jab (Jbi (pe_bm PySem.F.plainAttrs_list PySem.F.slot_list_append PySem.F.type_list_append Jbb (Jjf (Jar (pv 0) rfl) (Jar (pv 1) rfl) (Jbd Jac) ⟨rfl,rfl,rfl,rfl⟩) %[JaF %[Jar (pv 1) rfl,JaF %[Jar (pv 1) rfl,pe_bl|0]|0]|0] (hs:=by show Jae rfl))) (Jag (Jbi (pe_bm PySem.F.plainAttrs_list PySem.F.slot_list_append PySem.F.type_list_append Jbb (Jjf (Jar (pv 0) rfl) (Jar (pv 1) rfl) (Jbd Jac) ⟨rfl,rfl,rfl,rfl⟩) %[JaF %[Jar (pv 1) rfl,JaF %[Jar (pv 1) rfl,pe_bl|0]|0]|0] (hs:=by show Jae rfl))))),?_)
 let(((dx,b7),b8,a1,D,hk,b6),d2,hv,e6,hl,k):=h;let(q,dq,vz,vm,rfl,J,hz,hm):=hv;have sl:(1000:Nat)<=sizeLine:=by decide
 have jc:=T.Bb9 _ rfl;have B:=T.BcT _ rfl;have nj:j≠d:=λz=>by rw[z,D]at b7;cases b7
 have nq:q≠d:=λz=>by rw[z,D]at J;cases J
 have e8:∀ f,(JaD ls f).length<=20:=λf=>by have:=JhJ ls f;ac_nf
 show tSeq _ _ _ [some (.ref j),some (.ref q)] H;mleave;rename_i R hR;obtain⟨H1,hH⟩:∃ H',H'=H:=⟨_,rfl⟩;subst hH;have key:∀(t:Hp)(kv:List (Key × V)),SameJ d H1 t->Same X t->t d=some (.dK kv)->kv.length<=2*ls.length+1->JD X t (addL (JaD ls) p.st (p.en,(p.nm,true))) kv->R [some (.ref j),some (.ref q)] t:=by
  intro t kv L O r f5 I;show hR.go ?_;clear hR;have e2:=L _ _ nj (by intro x z;cases z) b7;have a6:=L _ _ nq (by intro x z;cases z) J;have e7:∀ f,(addL (JaD ls) p.st (p.en,(p.nm,true)) f).length<=21:=λf=>by
   have:=JhJ ls f;unfold addL;split
   .rw[length_append,length_singleton];ac_nf
   .ac_nf
  mleave;show(j,_,dx,_, .ref d,rfl,e2,jc.cls,jc.n1,rfl,?_);mleave;show(d,rfl, .inl ⟨kv, .inl r⟩,?_);show(q,_,dq,_, .str p.en,rfl,a6,B.cls,B.n3,rfl,?_);mleave;show(len0,?_);rename_i l2 y f4 t e4 Y e9;mleave;show(kv,Sum.inr p.en,Y _ _ r,rfl,by ac_nf,λv hv=>?_,λhv=>?_)
  .obtain⟨l,x,c3,c5,a2,c2⟩:∃ l x,v=.ref l/\X l=none/\t l=some (.lst x)/\All2 (LeV t) ((addL (JaD ls) p.st (p.en,(p.nm,true))) p.en) x:=by
    rcases I.at_ p.en with⟨h1,_⟩ | ⟨l,x,h1,h2,h3,h4⟩
    .rw[hv]at h1;cases h1
    .rw[hv]at h1;cases h1;show(l,x,rfl,h2,h3,h4)
   subst c3;have f2:x.length<=21:=by rw[c2.length];show e7 _
   show(.inl ⟨rfl,_,SqL.of (Y _ _ a2)⟩,?_);mleave;have a:=Y _ _ a6;obtain⟨S,W⟩:∃ H',H'=e4:=⟨_,rfl⟩;rw[<- W]at a ⊢;show(q,_,dq,_, .str p.st,rfl,a,B.cls,B.n2,rfl,?_);mleave;show(q,_,dq,_, .str p.nm,rfl,a,B.cls,B.n1,rfl,?_);mleave;show(len2,?_);rename_i c6 c7 c9 S d9 e3 c1;mleave;show(len2,?_);rename_i b3 e0 d7 d9 N a3 d8;mleave;have b2:LeV N (p.st,(p.nm,false)) (.ref b3):=⟨b3,c6,rfl,d8,a3 _ _ c1⟩;have m:=e3.trans a3;have c:=m _ _ (by rw[W];show Y _ _ a2:S l=some (.lst x));show(l,x,_,rfl,rfl,c,by ac_nf,?_);generalize u3:upd N l _=H3;mleave;have i:Same t N:=λb u h=>m _ _ (by rw[W];show Y _ _ h);have a7:=(I.same i).more hv c b2 u3;have b0:SameJ d t H3:=λb u _ hu h=>by rw[<- u3,Jah (λz=>by have:=i _ _ h;rw[z,c]at this;cases this;show hu _ rfl)];show i _ _ h
   have b5:H3 d=some (.dK kv):=by rw[<- u3,Jah (λz=>by have:=i _ _ r;rw[z,c]at this;cases this)];show i _ _ r
   have c8:Same X H3:=λb u h=>by rw[<- u3,Jah (Jai h c5)];show i _ _ (O _ _ h)
   rw[Jf3 e6]at a7;show k H3 c8 (λb u Z hu h=>b0 b u Z hu (L b u Z hu h)) ⟨⟨dx,b0 _ _ nj (by intro x z;cases z) e2⟩,b8,_,b5,?_,a7⟩;rw[length_append,length_singleton];ac_nf
  .have a4:X l2=none:=by
    cases e:X l2 with
    | none=>rfl
    | some o=>rw[O _ _ e]at y;cases y
   generalize uc:upd e4 d _=S;mleave;have nd:l2≠d:=λz=>by rw[z,r]at y;cases y
   have a8:S l2=some (.lst []):=by rw[<- uc,Jah nd];show e9
   have G:∀ b u,b≠d->t b=some u->S b=some u:=λb u Z h=>by rw[<- uc,Jah Z];show Y _ _ h
   have b9:S d=some (.dK (putK kv (Sum.inr p.en) (.ref l2))):=by rw[<- uc,Jak]
   show(.inl ⟨rfl,_,SqL.of a8⟩,?_);mleave;have a:=G _ _ (λz=>by rw[z,r]at a6;cases a6) a6;show(q,_,dq,_, .str p.st,rfl,a,B.cls,B.n2,rfl,?_);mleave;show(q,_,dq,_, .str p.nm,rfl,a,B.cls,B.n1,rfl,?_);mleave;show(len2,?_);rename_i c6 c7 c9 S d9 e3 c1;mleave;show(len2,?_);rename_i b3 e0 d7 d9 N a3 d8;mleave;have b2:LeV N (p.st,(p.nm,false)) (.ref b3):=⟨b3,c6,rfl,d8,a3 _ _ c1⟩;have m:=e3.trans a3;have c:=m _ _ a8;show(l2,[],_,rfl,rfl,c,by show 0<sizeLine;ac_nf,?_);generalize u3:upd N l2 _=H3;mleave;have a7:=((I.sx G r).same m).first hv a4 (λg l' b4 z=>by
    rcases I.at_ g with⟨h1,_⟩ | ⟨l2,xs2,h1,_,h3,_⟩
    .rw[b4]at h1;cases h1
    .rw[b4]at h1;cases h1;rw[z,y]at h3;cases h3) c b2 u3
   have b0:SameJ d t H3:=λb u Z hu h=>by rw[<- u3,Jah (λz=>by rw[z,y]at h;cases h)];show m _ _ (G _ _ Z h)
   have b5:=m _ _ b9;rw[show N d=H3 d by rw[<- u3,Jah (Ne.symm nd)]]at b5;have c8:Same X H3:=λb u h=>by rw[<- u3,Jah (Jai h a4)];show m _ _ (G _ _ (Jai h b8) (O _ _ h))
   have lp:=Jbg kv (Sum.inr p.en) (V.ref l2);rw[Jf3 e6]at a7;show k H3 c8 (λb u Z hu h=>b0 b u Z hu (L b u Z hu h)) ⟨⟨dx,b0 _ _ nj (by intro x z;cases z) e2⟩,b8,_,b5,?_,a7⟩;rw[length_append,length_singleton];ac_nf
 clear hR;show(j,_,dx,_, .ref d,rfl,b7,jc.cls,jc.n1,rfl,?_);mleave;show(d,rfl, .inl ⟨a1, .inl D⟩,?_);show(q,_,dq,_, .str p.st,rfl,J,B.cls,B.n2,rfl,?_);mleave;show(len0,?_);rename_i l1 C f3 H1 e5 a0 f0;mleave;show(a1,Sum.inr p.st,a0 _ _ D,rfl,by ac_nf,λv hv=>?_,λhv=>?_)
 .obtain⟨l,x,c3,c5,a2,c2⟩:∃ l x,v=.ref l/\X l=none/\H1 l=some (.lst x)/\All2 (LeV H1) ((JaD ls) p.st) x:=by
   rcases b6.at_ p.st with⟨h1,_⟩ | ⟨l,x,h1,h2,h3,h4⟩
   .rw[hv]at h1;cases h1
   .rw[hv]at h1;cases h1;show(l,x,rfl,h2,h3,h4)
  subst c3;have f2:x.length<=20:=by rw[c2.length];show e8 _
  show(.inl ⟨rfl,_,SqL.of (a0 _ _ a2)⟩,?_);mleave;have a:=a0 _ _ J;obtain⟨U,W⟩:∃ H',H'=e5:=⟨_,rfl⟩;rw[<- W]at a ⊢;show(q,_,dq,_, .str p.en,rfl,a,B.cls,B.n3,rfl,?_);mleave;show(q,_,dq,_, .str p.nm,rfl,a,B.cls,B.n1,rfl,?_);mleave;show(len2,?_);rename_i d5 c0 d3 U d1 d0 d4;mleave;show(len2,?_);rename_i a5 c4 d6 d1 M b1 e1;mleave;have a9:LeV M (p.en,(p.nm,true)) (.ref a5):=⟨a5,d5,rfl,e1,b1 _ _ d4⟩;have n:=d0.trans b1;have c:=n _ _ (by rw[W];show a0 _ _ a2:U l=some (.lst x));show(l,x,_,rfl,rfl,c,by ac_nf,?_);generalize u2:upd M l _=t;mleave;have i:Same H1 M:=λb u h=>n _ _ (by rw[W];show a0 _ _ h);have I:=(b6.same i).more hv c a9 u2;have L:SameJ d H1 t:=λb u _ hu h=>by rw[<- u2,Jah (λz=>by have:=i _ _ h;rw[z,c]at this;cases this;show hu _ rfl)];show i _ _ h
  have r:t d=some (.dK a1):=by rw[<- u2,Jah (λz=>by have:=i _ _ D;rw[z,c]at this;cases this)];show i _ _ D
  have O:Same X t:=λb u h=>by rw[<- u2,Jah (Jai h c5)];show i _ _ (d2 _ _ h)
  show key t _ L O r ∅ I
 .have a4:X l1=none:=by
   cases e:X l1 with
   | none=>rfl
   | some o=>rw[d2 _ _ e]at C;cases C
  generalize uc:upd e5 d _=U;mleave;have nd:l1≠d:=λz=>by rw[z,D]at C;cases C
  have a8:U l1=some (.lst []):=by rw[<- uc,Jah nd];show f0
  have G:∀ b u,b≠d->H1 b=some u->U b=some u:=λb u Z h=>by rw[<- uc,Jah Z];show a0 _ _ h
  have b9:U d=some (.dK (putK a1 (Sum.inr p.st) (.ref l1))):=by rw[<- uc,Jak]
  show(.inl ⟨rfl,_,SqL.of a8⟩,?_);mleave;have a:=G _ _ (λz=>by rw[z,D]at J;cases J) J;show(q,_,dq,_, .str p.en,rfl,a,B.cls,B.n3,rfl,?_);mleave;show(q,_,dq,_, .str p.nm,rfl,a,B.cls,B.n1,rfl,?_);mleave;show(len2,?_);rename_i d5 c0 d3 U d1 d0 d4;mleave;show(len2,?_);rename_i a5 c4 d6 d1 M b1 e1;mleave;have a9:LeV M (p.en,(p.nm,true)) (.ref a5):=⟨a5,d5,rfl,e1,b1 _ _ d4⟩;have n:=d0.trans b1;have c:=n _ _ a8;show(l1,[],_,rfl,rfl,c,by show 0<sizeLine;ac_nf,?_);generalize u2:upd M l1 _=t;mleave;have I:=((b6.sx G D).same n).first hv a4 (λg l' b4 z=>by
   rcases b6.at_ g with⟨h1,_⟩ | ⟨l2,xs2,h1,_,h3,_⟩
   .rw[b4]at h1;cases h1
   .rw[b4]at h1;cases h1;rw[z,C]at h3;cases h3) c a9 u2
  have L:SameJ d H1 t:=λb u Z hu h=>by rw[<- u2,Jah (λz=>by rw[z,C]at h;cases h)];show n _ _ (G _ _ Z h)
  have r:=n _ _ b9;rw[show M d=t d by rw[<- u2,Jah (Ne.symm nd)]]at r;have O:Same X t:=λb u h=>by rw[<- u2,Jah (Jai h a4)];show n _ _ (G _ _ (Jai h b8) (d2 _ _ h))
  have lp:=Jbg a1 (Sum.inr p.st) (V.ref l1);show key t _ L O r ∅ I
abbrev Baf:Stmt:=inClass (top 52) 2
theorem JaN:Jan ["self","one","other","found","waiting","face","lead"] ["self","one","other"] (Jaf Baf):=by bv_decide
def Jbj(K:W.Frag)(Ad:Adr):Sp:=λvs H Q E=>∃(j d:Addr)(one other:Str)(ls:List PD)(H0:Hp),vs=[.ref j, .str one, .str other]/\JK Ad H0 H j d ls/\ls.length<=20/\(ls.map (·.nm)).Nodup/\(¬ Conn ls one other->∀ H',Same H H'->Q .non H')/\(∀ w l xs H',Same H H'->H l=none->H' l=some (.lst xs)->All2 (CV H') w xs->JaL ls one w other->(w.map (·.1)).Nodup->Q (.ref l) H')
theorem JcU(F:"way_between"∘"Joints.way_between"∘Baf)(T:Txt K mg Ad)  : 1∘["self","one","other"]∘(Jbj K Ad):=by
 show F.okn JaN (by subst_eqs) (λj0 A d9 s H vs Q E hr h=>?_)
 let(j,d,one,other,N,H0,rfl,h):=h;have hu:=hr.units;show(_,(Jab (Jaj 3 JaN.nd (JlY (Jkr (pv 1) (Jbd Jac) Jl5) rfl rfl (by simp) ⋯)) (Jab (Jaj 4 JaN.nd (Jbd %[pv 1|0])) (Jab (Jd8 PassesOwn.never (Jat JhM (Jau Ja4 rfl T.BbH Jbs %[pv 4|0]) Jad (Jay _)) (Jab (Jaj 5 JaN.nd (Jm4 PySem.F.plainAttrs_list PySem.F.slot_list_pop PySem.F.type_list_pop JmS (pv 4))) (Jag (JaV PassesOwn.never rfl (pi_U (JhP (hu1 hu) (Jar (pv 0) rfl) (pv 5) (Jbd Jac) ⟨rfl,rfl,rfl,rfl⟩)) (Jaq 6 JaN.nd) (Jag (ps_if (JeB (Jdt (hu1 hu) (!6) (pv 3)) (by with_unfolding_all rfl)) (Jab (JbC (hu1 hu) (pv 3) (!6) (pe_op JaQ (Ja9 (hu1 hu) (pv 3) (pv 5) (λ_ _=>rfl)) (Jbd %[!6|0])) rfl) (Jag (Jbi (pe_bm PySem.F.plainAttrs_list PySem.F.slot_list_append PySem.F.type_list_append Jbb (pv 4) %[!6|0] (hs:=by show Jae rfl)))))
   Jav)))))) (Jag (Jap (Jkl (hu1 hu) (pv 3) (pv 2) ⟨rfl,rfl,rfl,rfl⟩)))))),?_)
 clear hu;let(((dx,hj),j1,c4,hd,hk,hJ),hl,f7,k1,k2):=h;have sl:(1000:Nat)<=sizeLine:=by decide
 have jc:=T.Bb9 _ rfl;show tSeq _ _ _ [some (.ref j),some (.str one),some (.str other),none,none,none,none] H;mleave;rename_i fd b0 i1 H H1 S1 e1;mleave;show(len0,?_);rename_i l0 M h8 H1 H2 S2 e2;mleave;show(S2 _ _ e1,[(Sum.inr one, .ref l0)],rfl,by show 1<=15;ac_nf,?_);generalize u3:upd H2 fd _=H3;mleave;have e3:H3 fd=some (.dK [(Sum.inr one, .ref l0)]):=by rw[<- u3];show Jak.trans rfl
 have g5:l0≠fd:=λz=>by rw[z,e1]at M;cases M
 have d5:H3 l0=some (.lst []):=by rw[<- u3,Jah g5];show e2
 have c8:Same H H3:=λb u h=>by rw[<- u3,Jah (Jai h b0)];show S2 _ _ (S1 _ _ h)
 have g6:H l0=none:=by
  cases e:H l0 with
  | none=>rfl
  | some o=>rw[S1 _ _ e]at M;cases M
 show(by show 1<=sizeLine;ac_nf,?_);rename_i I D h7 H3 H4 S4 e4;mleave;have b4:H I=none:=by
  cases e:H I with
  | none=>rfl
  | some o=>rw[c8 _ _ e]at D;cases D
 have f1:l0≠I:=λz=>by rw[<- z,d5]at D;cases D
 have i9:fd≠I:=λz=>by rw[<- z,e3]at D;cases D
 have f6:Srch H N one fd I H4 [(one,[])] [one]:=⟨c8.trans S4,⟨_,S4 _ _ e3,rfl, .ref l0,[],rfl,⟨l0,[],rfl,g6,f1,S4 _ _ d5,rfl⟩,rfl⟩,by simp,by simp,λa J=>by rw[mem_singleton.mp J];show .nil,e4,by simp,by simp,λa J=>by rw[mem_singleton.mp J];simp⟩;show(λm σ H'=>∃(v5 v6:Option V)(ws:List (Str × List Pr))(wt:List Str),σ=[some (.ref j),some (.str one),some (.str other),some (.ref fd),some (.ref I),v5,v6]/\Srch H N one fd I H' ws wt/\(∀ a∈ws,a.1∉wt->∀ e∈JaD N a.1,e.1∈ws.map (·.1))/\m=2*(41-ws.length)+wt.length/\m<=81,⟨_,none,none,[(one,[])],[one],rfl,f6,λa J hn=>absurd (by rw[mem_singleton.mp J];simp) hn,rfl,by simp⟩,?_);intro m σ H5 z_;let(v5,v6,ws,wt,rfl,S,cl,rfl,b3):=z_;mleave;show(_, .inl (SqL.of S.wait),?_);mleave;rcases List.eq_nil_or_concat wt with rfl | ⟨wt',face,rfl⟩
 .rw[if_neg (by simp)];mleave;let(f0,d2,e0):=S.dict;mleave;show(fd,rfl, .inl ⟨f0, .inl d2⟩,_,DGet.k (k:=Sum.inr other) d2,?_);rcases e0.get (z:=other)with⟨a,v,R,h2,h3,l,xs,rfl,h4,_,h5,h6⟩ | ⟨R,h2⟩
  .rw[h3];show k2 a.2 l xs H5 S.same h4 h5 h6 (by rw[<- h2];show S.walk a R) (S.sim a R).1
  .rw[h2];show k1 (λhc=>R (Jlq S.here (λf hf e he=>?_) hc)) H5 S.same;let(a,J,rfl):=mem_map.mp hf;show cl a J (by simp) e he
 .rw[if_pos (by simp)];mleave;rw[List.concat_eq_append]at S cl b3 ⊢;show(_,λ_ _ q=>q,?_);mleave;show(.inl ⟨rfl,_,SqL.of S.wait⟩,?_);show(I,_, .str face,rfl,rfl,S.wait,by simp,?_);generalize u6:upd H5 I _=H6;mleave;have ed:((wt'++[face]).map V.str).dropLast=wt'.map V.str:=by simp
  rw[ed]at u6;have a8:Srch H N one fd I H6 ws wt':=S.wait' b4 u6 λf hf=>S.sub f (by simp[hf]);have b1:=S.sub face (by simp);mleave;show(j,_,dx,_, .ref d,rfl,a8.same _ _ hj,jc.cls,jc.n1,rfl,?_);mleave;show(d,rfl, .inl ⟨c4, .inl (a8.same _ _ hd)⟩,len0,?_);rename_i le b7 h0 H6 H7 S7 e7;mleave;have X:=a8.grow S7;have d6:le≠I:=λz=>by have:=a8.wait;rw[<- z,b7]at this;cases this
  show(_,DGet.k (k:=Sum.inr face) (X.same _ _ hd),?_);obtain⟨la,xs,e6,c6,c0,f2⟩:∃ la xs,(valV c4 (Sum.inr face)).getD (.ref le)=.ref la/\H7 la=some (.lst xs)/\All2 (LeV H7) (JaD N face) xs/\la≠I:=by
   rcases hJ.at_ face with⟨R,h2⟩ | ⟨l,xs,R,h2,h3,h4⟩
   .show(le,[],by rw[R];rfl,e7,by rw[h2];rfl,d6)
   .show(l,xs,by rw[R];rfl,X.same _ _ h3,h4.mono λ_ _ z=>z.sameT X.same.t,Jai h3 b4)
  have lx:=c0.length;have i3:=X.len hl;show(la,e6,ForA.byL (xs:=xs) (SqL.of c6) (λi σ H'=>i<=xs.length/\∃(v6:Option V)(r:List (Str × List Pr))(C:List Str),σ=[some (.ref j),some (.str one),some (.str other),some (.ref fd),some (.ref I),some (.str face),v6]/\Srch H N one fd I H' r C/\H' la=some (.lst xs)/\SameT H7 H'/\(∀ a∈r,a.1∉C->a.1≠face->∀ e∈JaD N a.1,e.1∈r.map (·.1))/\(∀ e∈(JaD N face).take i,e.1∈r.map (·.1))/\face∈r.map (·.1)/\2*(41-r.length)+C.length<=2*(41-ws.length)+wt'.length) ⟨Nat.zero_le _,v6,ws,wt',rfl,X,c6,SameT.refl _,λa J R h2=>cl a J (by simp[R,h2]),by simp,b1,Nat.le_refl _⟩ (λi σ H' z=>by let(_,_,_,_,_,_,z,_):=z;show SqL.of z) ?_ ?_)
  .intro i y σ H8 hy z_;let(hi,v6,r,C,rfl,B,a2,U,a4,Y,a1,d3):=z_;have li:i<xs.length:=(List.getElem?_eq_some_iff.mp hy).1;let(e,he,b,c,rfl,g1,f8):=c0.at_ hy;have a7:=U _ _ rfl g1;have g0:=U _ _ rfl f8;have d4:(JaD N face).take (i+1)=(JaD N face).take i++[e]:=by rw[take_succ,he];rfl
   have d1:e∈JaD N face:=List.mem_of_getElem? he;let(i7,W,a5):=B.dict;mleave;show ixT (i:=0) (SqT.of a7) rfl ?_;show(fd,_,rfl,DGet.k (k:=Sum.inr e.1) W,?_);rw[a5.val];by_cases O:e.1∈r.map (·.1)
   .rw[decide_eq_true O];mleave;show(li,_,r,C,rfl,B,a2,U,a4,λe' L=>?_,a1,d3);rw[d4]at L;rcases mem_append.mp L with h' | h'
    .show Y e' h'
    .rw[mem_singleton.mp h'];show O
   .rw[decide_eq_false O];mleave;let(a,v,J,d8,hv,l,xw,rfl,i5,i2,b9,d0):=a5.some a1;have i4:=B.lw a J;have j2:=B.len hl;have i6:=d0.length;show(fd, .ref l,rfl,by rw[<- hv];show DGet.k (k:=Sum.inr face) W,?_);show ixT (i:=1) (SqT.of a7) rfl ?_;show(by show 1<=sizeLine;ac_nf,?_);rename_i ln h9 i0 H8 H9 S9 e9;mleave;show .inl ⟨l,ln,xw,_,rfl,rfl,S9 _ _ b9,e9,by simp;ac_nf,?_⟩;rename_i lr Z g9 H9 a0 g3 f4;mleave;mleave;have n:=S9.trans g3;have c5:=B.grow n;show ixT (i:=0) (SqT.of (n _ _ a7)) rfl ?_;have lk:=a5.length;show(fd,_,rfl,DPut.k (k:=Sum.inr e.1) (n _ _ W) ∅,?_);generalize b2:upd a0 fd _=a6;mleave;have n0:H lr=none:=by
     cases e:H lr with
     | none=>rfl
     | some o=>rw[S9 _ _ (B.same _ _ e)]at Z;cases Z
    have f9:lr≠I:=λz=>by have:=(B.grow S9).wait;rw[<- z,Z]at this;cases this
    have f3:JaL N one (a.2++[e.2]) e.1:=.snoc (by rw[<- d8];show B.walk a J) d1;have a9:=n _ _ W;have c7:=a5.mono (P':=PWy H a0 I) λa v ζ=>(by let(l,xs,e1,hn,e8,hx,J):=ζ;show(l,xs,e1,hn,e8,n _ _ hx,J.mono λ_ _ z=>z.sameT n.t));have cv:CV a0 e.2 (.ref c):=⟨c,rfl,n _ _ g0⟩;let(pp,b6,b5):=(JaT (g:=e.1) (pr:=e.2)).mp d1;have c3:e.2.1=pp.nm:=by rcases b5 with h | h;rw[h.2.2];rw[h.2.2.2]
    have c1:(pp.st=face/\pp.en=e.1)\/(pp.en=face/\pp.st=e.1):=by rcases b5 with h | h;show .inl ⟨h.1,h.2.1⟩;show .inr ⟨h.2.1,h.2.2.1⟩
    have g8:((a.2++[e.2]).map (·.1)).Nodup/\∀ p∈N,p.nm∈(a.2++[e.2]).map (·.1)->p.st∈(r++[(e.1,a.2++[e.2])]).map (·.1)/\p.en∈(r++[(e.1,a.2++[e.2])]).map (·.1):=by
     have sm:=B.sim a J;have g4:e.2.1∉a.2.map (·.1):=λz=>by
      have:=sm.2 pp b6 (c3 ▸ z);rcases c1 with h | h
      .show O (h.2 ▸ this.2)
      .show O (h.2 ▸ this.1)
     rw[map_append,map_append,map_cons,map_nil,map_cons,map_nil];show(nodup_append.mpr ⟨sm.1,by simp,λx hx y hy z=>g4 (by rw[mem_singleton]at hy;rw[<- hy, <- z];show hx)⟩,λp hp hn=>?_);rcases mem_append.mp hn with hn | hn
     .have:=sm.2 p hp hn;show(mem_append.mpr (.inl this.1),mem_append.mpr (.inl this.2))
     .have ep:=Jcx f7 hp b6 ((mem_singleton.mp hn).trans c3);subst ep;have m1:e.1∈r.map (·.1)++[e.1]:=mem_append.mpr (.inr (by simp));have m2:face∈r.map (·.1)++[e.1]:=mem_append.mpr (.inl a1);rcases c1 with h | h
      .rw[h.1,h.2];show(m2,m1)
      .rw[h.1,h.2];show(m1,m2)
    have G:=c5.find a9 c7 b0 O f3 (by simp;ac_nf) g8 n0 f9 f4 ((d0.mono (P':=CV a0) λ_ _ z=>z.sameT n.t).append (.one cv)) b2;have b8:SameT a0 a6:=SameT.put b2 a9 rfl;have f5:la≠fd:=λz=>by rw[z,W]at a2;cases a2
    have c9:a6 la=some (.lst xs):=by rw[<- b2,Jah f5];show n _ _ a2
    have g7:=G.len hl;rw[length_append,length_singleton]at g7;have i8:(C.map V.str).length<=81:=by
     rw[length_map];rw[length_append,length_singleton]at b3;ac_nf
    show(.inl ⟨rfl,_,SqL.of G.wait⟩,?_);show ixT (i:=0) (SqT.of (b8 _ _ rfl (n _ _ a7))) rfl ?_;show(I,_,_,rfl,rfl,G.wait,by ac_nf,?_);generalize a3:upd a6 I _=d7;mleave;have ea:C.map V.str++[V.str e.1]=(C++[e.1]).map V.str:=by simp
    rw[ea]at a3;have c2:=G.wait' b4 a3 (λf hf=>by
     rcases mem_append.mp hf with h' | h'
     .show G.sub f h'
     .rw[mem_singleton.mp h',map_append];simp)
    have g2:SameT a6 d7:=SameT.put a3 G.wait rfl;show(li,_,r++[(e.1,a.2++[e.2])],C++[e.1],rfl,c2,by rw[<- a3,Jah f2];show c9,U.trans (n.t.trans (b8.trans g2)),λa' e5 R h2 e' L=>?_,λe' L=>?_,?_,?_)
    .rw[map_append];rcases mem_append.mp e5 with h' | h'
     .show mem_append.mpr (.inl (a4 a' h' (λz=>R (by simp[z])) h2 e' L))
     .show absurd ?_ R;rw[mem_singleton.mp h'];simp
    .rw[map_append];rw[d4]at L;rcases mem_append.mp L with h' | h'
     .show mem_append.mpr (.inl (Y e' h'))
     .rw[mem_singleton.mp h'];simp
    .rw[map_append];show mem_append.mpr (.inl a1)
    .rw[length_append,length_append,length_singleton,length_singleton];ac_nf
  .intro σ H8 z_;let(hi,v6,r,C,rfl,B,a2,U,a4,Y,a1,d3):=z_;rw[length_append,length_singleton]at b3;show(_,by rw[length_append,length_singleton];ac_nf,some (.str face),v6,r,C,rfl,B,λa J hn e he=>?_,rfl,by ac_nf);by_cases c:a.1=face
   .rw[take_of_length_le ∅]at Y;rw[c]at he;show Y e he
   .show a4 a J hn c e he
abbrev Ban:Stmt:=inClass (top 53) 0
theorem JaJ:Jan ["self","parts","gaps","joints","row","part","gap","found"] ["self","parts","gaps"] (Jaf Ban):=by bv_decide
def Ja7(K:W.Frag)(Ad:Adr):Sp:=λvs H Q E=>∃(x dx a c:Addr)(xs zs:List V)(ls0:List PD)(gs0:List GD)(H0:Hp),vs=[.ref x, .ref a, .ref c]/\H x=some (.ins Ad.Thing dx [])/\H0 x=none/\Same H0 H/\SqL K H0 a xs/\All2 (PDV K H0) ls0 xs/\SqL K H0 c zs/\All2 (λ(g:GD) v=>TV K H0 g.td v) gs0 zs/\ls0.length<=20/\gs0.length<=20/\(∀ p∈ls0,POk p)/\(∀ g∈gs0,TOk g.td)/\(ls0.map (·.nm)).Nodup/\(gs0.map (·.nm)).Nodup/\(∀(i:Nat) p,ls0[i]?=some p->¬ Conn (ls0.take i) p.st p.en)/\(∀ g∈gs0,Conn ls0 g.st g.en)/\∀ H',Same H0 H'->TK K Ad H' x ls0 gs0->Q .non H'
theorem JdL(F:"__init__"∘"Thing.__init__"∘Ban)(T:Txt K mg Ad)(Bc1:KCal P w K mg base 1 "Joints" Ad.Joints ["self"] (Jbx K Ad))(Bcw:6∘"part_of"∘["thing"]∘(JdT K Ad))(Bc2:7∘"gap_of"∘["thing"]∘(JeJ K Ad))(Ba8:1∘"way_between"∘(Jdm Ad)∘["self","one","other"]∘(Jbj K Ad))(BdS:1∘"link"∘(Jdm Ad)∘["self","part"]∘(Jcm K Ad)):9∘["self","parts","gaps"]∘(Ja7 K Ad):=by
 show F.okn JaJ (by subst_eqs) (λo2 A j8 s H vs Q E hr h=>?_)
 let(x,X,a,c,xs,zs,e9,f0,N,rfl,h):=h;have hu:=hr.units;show(_,(Jab (Jaj 3 JaJ.nd (Bc1.ev0 hr ⋯ rfl passF)) (Jab (Ja8 (pv 0) Jbt rfl) (Jab (JaV PassesOwn.never rfl (pi_U (pv 1)) (Jaq 4 JaJ.nd) (Jab (Jaj 5 JaJ.nd (Bcw.ev hr ⋯ rfl passF %[pv 4|0])) (Jab (ps_if (JeB (JhO (hu1 hu) (Jar (pv 5) rfl) (Jar (pv 0) rfl)) (by with_unfolding_all rfl)) (Jag ps_no)
   Jav) (Jab (ps_if (Jat JfG (Ba8.m hr ⋯ passF (pv 3) %[Jar (pv 5) rfl,Jar (pv 5) rfl|0]) JcX (Jay _)) (Jag ps_no)
   Jav) (Jab (Jbi (BdS.m hr ⋯ passF (pv 3) %[pv 5|0])) (Jag (JbC (hu1 hu) (Jar (pv 0) rfl) (Jar (pv 5) rfl) (pv 5) rfl))))))) (Jab (Ja8 (pv 0) Jbt rfl) (Jab (Ja8 (pv 0) Jbt rfl) (Jag (JaV PassesOwn.never rfl (pi_U (pv 2)) (Jaq 4 JaJ.nd) (Jab (Jaj 6 JaJ.nd (Bc2.ev hr ⋯ rfl passF %[pv 4|0])) (Jab (ps_if (JeB (JhO (hu1 hu) (Jar (pv 6) rfl) (Jar (pv 0) rfl)) (by with_unfolding_all rfl)) (Jag ps_no)
   Jav) (Jab (Jaj 7 JaJ.nd (Ba8.m hr ⋯ passF (pv 3) %[Jar (pv 6) rfl,Jar (pv 6) rfl|0])) (Jab (ps_if (Jat Jex (pv 7) JcX (Jay _)) (Jag ps_no)
   Jav) (Jab (JbC (hu1 hu) (Jar (pv 0) rfl) (Jar (pv 6) rfl) (pv 6) rfl) (Jag (JbC (hu1 hu) (Jar (pv 0) rfl) (Jar (pv 6) rfl) (pv 7) rfl)))))))))))))),?_)
 clear hu;let(hx,f8,S0,hS,hE,hC,hG,hl,hg,k8,m2,l0,l2,m9,j9,k):=h;have Y:=T.Bbl _ rfl;have pc:=T.BcT _ rfl;have gc:=T.BdQ _ rfl;have sl:(1000:Nat)<=sizeLine:=by decide
 have le:=hE.length;have lg:=hG.length;show tSeq _ _ _ [some (.ref x),some (.ref a),some (.ref c),none,none,none,none,none] H;mvcgen;intro j dj hj l5 nj;have Sm:Same H (upd (upd H dj (.own j)) j (.ins Ad.Joints dj [])):=λb u q=>by rw[Jah (Jai q hj),Jah (Jai q l5)];show q
 generalize um:upd (upd H dj (.own j)) j (.ins Ad.Joints dj [])=Hm at Sm ⊢;mvcgen;have em:Hm j=some (.ins Ad.Joints dj []):=by rw[<- um,Jak]
 show(j,dj,rfl,em,λd H1 l6 o0 m5 c0 j7=>⟨rfl,?_⟩);have I:∀{H:Hp}{b:Addr},Same N H->H b=none->N b=none:=λ{H b} S h=>by
  cases e:N b with
  | none=>rfl
  | some o=>rw[S _ _ e]at h;cases h
 have g0:∀{H n:Hp}{d:Addr}{kv:List (Key × V)},(∀ b u,b≠d->H b=some u->n b=some u)->H d=some (.dK kv)->SameI H n:=λ{H n d kv} S hd b u t h=>S b u (λz=>by rw[z,hd]at h;cases h;simp[isTI,isTF]at t) h;have i6:∀{H n:Hp}{d b:Addr}{kv:List (Key × V)}{ys:List V},(∀ b u,b≠d->H b=some u->n b=some u)->H d=some (.dK kv)->H b=some (.lst ys)->n b=some (.lst ys):=λ{H n d b kv ys} S hd h=>S _ _ (λz=>by rw[z,hd]at h;cases h) h;have f6:∀{H n:Hp}{e:Addr}{kv:List (Key × V)}{D:List PD},(∀ b u,b≠e->H b=some u->n b=some u)->H e=some (.dK kv)->e≠d->JK Ad N H j d D->JK Ad N n j d D:=λ{H n e kv D} S he ne ζ=>(by let((dj,h1),h2,kvs,h3,h4,h5):=ζ;show(⟨dj,S _ _ (λz=>by rw[z,he]at h1;cases h1) h1⟩,h2,kvs,S _ _ (Ne.symm ne) h3,h4,h5.sx S he));have j0:=I S0 hj;have i8:Same N H1:=λb u h=>j7 b u (Jai h j0) (Sm _ _ (S0 _ _ h));have f4:x≠j:=Jai hx hj;have f5:H1 x=some (.ins Ad.Thing X []):=j7 x _ f4 (Sm _ _ hx);have d0:N d=none:=I (S0.trans Sm) l6
 (try ((with_reducible show Nxt.go (by assumption) ?_);mvcgen))
 rename_i M W n4 H1 H2 S2 e2;mvcgen;mvcgen;show(x,_,X,_,rfl,S2 _ _ f5,Y.cls,Y.n1,by simp,?_);generalize u3:upd H2 x _=H3;mvcgen;have e3:H3 x=some (.ins Ad.Thing X [("parts_by_name", .ref M)]):=by rw[<- u3];show Jak.trans rfl
 have b5:∀ b u,b≠x->H2 b=some u->H3 b=some u:=λb u hb h=>by rw[<- u3,Jah hb];show h
 have i1:Same N H3:=λb u h=>b5 _ _ (Jai h f8) (S2 _ _ (i8 _ _ h));have f9:d≠x:=λz=>by rw[z,f5]at c0;cases c0
 have a4:M≠x:=λz=>by rw[z,f5]at W;cases W
 have c7:M≠d:=λz=>by rw[z,c0]at W;cases W
 have i2:H3 M=some (.dK []):=b5 _ _ a4 e2;have l4:=I i8 W;have k5:JK Ad N H3 j d []:=⟨⟨dj,b5 _ _ (Ne.symm f4) (S2 _ _ m5)⟩,d0,[],b5 _ _ f9 (S2 _ _ c0),by simp,JD.nil⟩;show(a,rfl,ForA.byL (xs:=xs) (hS.same i1) (λi σ n=>i<=xs.length/\∃(v4 v5:Option V)(k1:List (Key × V))(D:List PD),σ=[some (.ref x),some (.ref a),some (.ref c),some (.ref j),v4,v5,none,none]/\Same N n/\n x=some (.ins Ad.Thing X [("parts_by_name", .ref M)])/\JK Ad N n j d D/\n M=some (.dK k1)/\BG (·.nm) (POV K Ad n) D k1/\D.length=i/\(D.map (·.nm)).Nodup/\D=e9.take i) ⟨Nat.zero_le _,none,none,[],[],rfl,i1,e3,k5,i2,⟨rfl,rfl⟩,rfl, .nil,rfl⟩ (λi σ n z=>by let(_,_,_,_,_,_,z,_):=z;show hS.same z) ?_ ?_)
 .intro i y σ H4 hy z_;let(hi,v4,v5,k1,D,rfl,S4,a1,f3,a9,b7,i0,c2,hw):=z_;have li:i<xs.length:=(List.getElem?_eq_some_iff.mp hy).1;let(p,hp,f7):=hE.at_ hy;have ok:=k8 p (List.mem_of_getElem? hp);have i3:D++[p]=e9.take (i+1):=by rw[hw,take_succ,hp];rfl
  have cn:p.nm∉D.map (·.nm):=JgW i3 l0;have lk:=b7.length;mvcgen;show(y,p,rfl,f7.sameT S4.t,ok,λv H5 S5 pv=>?_);let(q,dq,vz,vm,rfl,c1,hz,hm):=id pv;have d7:=S5 _ _ a1;have j4:=S5 _ _ a9;have d9:=f3.same S5;have g7:=b7.mono (P':=POV K Ad H5) λ_ _ z=>z.si (Same.i S5);let((h6,j2),_):=id d9;mvcgen;show(q,_,dq,_, .str p.nm,rfl,c1,pc.cls,pc.n1,rfl,?_);show(x,_,X,_, .ref M,rfl,d7,Y.cls,Y.n1,rfl,?_);show(M,_,rfl,DGet.k (k:=Sum.inr p.nm) j4,?_);rw[g7.val];rw[decide_eq_false cn];mvcgen;show(j,_,h6,_,rfl,j2,rfl,rfl,?_);mvcgen;show(q,_,dq,_, .str p.st,rfl,c1,pc.cls,pc.n2,rfl,?_);show(q,_,dq,_, .str p.en,rfl,c1,pc.cls,pc.n3,rfl,?_);show(j,d,p.st,p.en,D,N,rfl,d9,by ac_nf,c2,λhc H6 S6=>?_,λw l yy H6 S6 o1 e6 h0 e4 _=>absurd (show Conn D p.st p.en from⟨w,e4⟩) (by rw[hw];show m9 i p hp));mvcgen;have g1:=d9.same S6;have d6:=S4.trans (S5.trans S6);show(j,_,h6,_,rfl,S6 _ _ j2,rfl,rfl,?_);mvcgen;show(j,d, .ref q,D,p,N,rfl,g1,d6,pv.si (Same.i S6),ok.ne,by ac_nf,λH7 m6 sj k0=>?_);have nd:∀{b:Addr}{C dd:Addr}{ff:List (Str × V)},H6 b=some (.ins C dd ff)->H7 b=some (.ins C dd ff):=λ{b C dd ff} h=>by
   let(_,_,_,f1,_):=g1;show sj _ _ (λz=>by rw[z,f1]at h;cases h) (by intro xs z;cases z) h
  have SI:SameI H6 H7:=λb u t h=>by
   let(_,_,_,f1,_):=g1;show sj b u (λz=>by rw[z,f1]at h;cases h;simp[isTI,isTF]at t) (λxs z=>by rw[z]at t;simp[isTI,isTF]at t) h
  have e0:H7 M=some (.dK k1):=sj _ _ c7 (by intro xs z;cases z) (S6 _ _ j4);have k7:=g7.mono (P':=POV K Ad H7) λ_ _ z=>(z.si (Same.i S6)).si SI;have m8:=(pv.si (Same.i S6)).si SI;mvcgen;show(x,_,X,_, .ref M,rfl,nd (S6 _ _ d7),Y.cls,Y.n1,rfl,?_);show(q,_,dq,_, .str p.nm,rfl,nd (S6 _ _ c1),pc.cls,pc.n1,rfl,?_);show(M,_,rfl,DPut.k (k:=Sum.inr p.nm) e0 ∅,?_);generalize u8:upd H7 M _=H8;mvcgen;have e8:=putE u8;have b8:∀ b u,b≠M->H7 b=some u->H8 b=some u:=λb u hb h=>by rw[<- u8,Jah hb];show h
  have l9:=g0 b8 e0;show(li,_,_,_,D++[p],rfl,λb u h=>b8 _ _ (Jai h l4) (m6 _ _ h),b8 _ _ (Ne.symm a4) (nd (S6 _ _ d7)),f6 b8 e0 c7 k0,e8,?_,by simp[i0],by rw[map_append];show nodup_append.mpr ⟨c2,by simp,λu hu v hv z=>cn (by have e:v=p.nm:=mem_singleton.mp hv;rw[<- e, <- z];show hu)⟩,i3);show(k7.new (a:=p) cn m8).mono λ_ _ z=>z.si l9
 .intro σ H4 z_;let(hi,v4,v5,k1,D,rfl,S4,a1,f3,a9,b7,i0,c2,hw):=z_;rw[take_of_length_le ∅]at hw;subst hw;mvcgen;let((m1,m0),_,l3,a7,j5,l8):=id f3;rename_i d2 L n6 H4 H5 S5 e5;mvcgen;show(x,_,X,_,rfl,S5 _ _ a1,Y.cls,Y.n2,by simp,?_);generalize u6:upd H5 x _=H6;mvcgen;have e6:H6 x=some (.ins Ad.Thing X [("parts_by_name", .ref M),("gaps_by_name", .ref d2)]):=by rw[<- u6];show Jak.trans rfl
  have a8:∀ b u,b≠x->H5 b=some u->H6 b=some u:=λb u hb h=>by rw[<- u6,Jah hb];show h
  mvcgen;rename_i d3 r n7 H6 H7 S7 e7;mvcgen;show(x,_,X,_,rfl,S7 _ _ e6,Y.cls,Y.n3,by simp,?_);generalize u8:upd H7 x _=H8;mvcgen;have e8:H8 x=some (.ins Ad.Thing X [("parts_by_name", .ref M),("gaps_by_name", .ref d2),("ways", .ref d3)]):=by rw[<- u8];show Jak.trans rfl
  have f2:∀ b u,b≠x->H7 b=some u->H8 b=some u:=λb u hb h=>by rw[<- u8,Jah hb];show h
  have a2:∀ b u,b≠x->H4 b=some u->H8 b=some u:=λb u hb h=>f2 _ _ hb (S7 _ _ (a8 _ _ hb (S5 _ _ h)));have b1:d2≠x:=λz=>by rw[z,a1]at L;cases L
  have d4:d2≠M:=λz=>by rw[z,a9]at L;cases L
  have j6:d2≠d:=λz=>by rw[z,a7]at L;cases L
  have c6:d3≠x:=λz=>by rw[z,e6]at r;cases r
  have g8:=a8 _ _ a4 (S5 _ _ a9);have m4:=a8 _ _ f9 (S5 _ _ a7);have c5:=a8 _ _ b1 e5;have c9:d3≠M:=λz=>by rw[z,g8]at r;cases r
  have h9:d3≠d:=λz=>by rw[z,m4]at r;cases r
  have a5:d3≠d2:=λz=>by rw[z,c5]at r;cases r
  have n0:=I S4 L;have d6:Same N H6:=λb u h=>a8 _ _ (Jai h f8) (S5 _ _ (S4 _ _ h));have k6:=I d6 r;have j1:Same N H8:=λb u h=>a2 _ _ (Jai h f8) (S4 _ _ h);have h8:SameT H4 H8:=λb u t h=>a2 _ _ (λz=>by rw[z,a1]at h;cases h;simp[isTF]at t) h;have m3:JK Ad N H8 j d D:=⟨⟨m1,a2 _ _ (Ne.symm f4) m0⟩,d0,l3,a2 _ _ f9 a7,j5,l8.sy a2 a1 (by intro xs z;cases z) rfl⟩;have k9:BG (·.nm) (POV K Ad H8) D k1:=b7.mono λp v ⟨q,dq,vz,vm,h1,h2,h3,h4⟩=>⟨q,dq,vz,vm,h1,a2 _ _ (ne_of h2 a1 (by
   intro z;injection z with _ _ z3
   have:=congrArg List.length z3;simp[partF]at this)) h2,h3.sameT h8,h4.sameT h8⟩
  show(c,rfl,ForA.byL (xs:=zs) (hC.same j1) (λi σ n=>i<=zs.length/\∃(v4 v6 v7:Option V)(k2 k3:List (Key × V))(gs:List GD),σ=[some (.ref x),some (.ref a),some (.ref c),some (.ref j),v4,v5,v6,v7]/\Same N n/\n x=some (.ins Ad.Thing X [("parts_by_name", .ref M),("gaps_by_name", .ref d2),("ways", .ref d3)])/\JK Ad N n j d D/\n M=some (.dK k1)/\BG (·.nm) (POV K Ad n) D k1/\n d2=some (.dK k2)/\BG (·.nm) (GOV K Ad n) gs k2/\n d3=some (.dK k3)/\BG (·.nm) (WOV n D) gs k3/\gs.length=i/\gs=f0.take i) ⟨Nat.zero_le _,v4,none,none,[],[],[],rfl,j1,e8,m3,a2 _ _ a4 a9,k9,f2 _ _ b1 (S7 _ _ c5),⟨rfl,rfl⟩,f2 _ _ c6 e7,⟨rfl,rfl⟩,rfl,rfl⟩ (λi σ n z=>by let(_,_,_,_,_,_,_,_,z,_):=z;show hC.same z) ?_ ?_)
  .intro i y σ H9 hy z_;let(hi,v4,v6,v7,k2,k3,gs,rfl,S9,a6,g6,b4,d8,a3,b0,b3,b6,h7,b9):=z_;have li:i<zs.length:=(List.getElem?_eq_some_iff.mp hy).1;let(g,e1,f7):=hG.at_ hy;have ok:=m2 g (List.mem_of_getElem? e1);have g9:gs++[g]=f0.take (i+1):=by rw[b9,take_succ,e1];rfl
   have cn:g.nm∉gs.map (·.nm):=JgW g9 l2;have lk:=b0.length;have n8:=b6.length;mvcgen;show(y,g,rfl,TV.sameT S9.t f7,ok,λv n9 c3 gv=>?_);let(q,dq,vl,vg,rfl,O,hz,hm):=id gv;have g3:=c3 _ _ a6;have i5:=c3 _ _ a3;have b2:=g6.same c3;let((i9,i7),_):=id b2;mvcgen;show(q,_,dq,_, .str g.nm,rfl,O,gc.cls,gc.n1,rfl,?_);show(x,_,X,_, .ref d2,rfl,g3,Y.cls,Y.n2,rfl,?_);show(d2,_,rfl,DGet.k (k:=Sum.inr g.nm) i5,?_);rw[b0.val];rw[decide_eq_false cn];mvcgen;show(j,_,i9,_,rfl,i7,rfl,rfl,?_);mvcgen;show(q,_,dq,_, .str g.st,rfl,O,gc.cls,gc.n2,rfl,?_);show(q,_,dq,_, .str g.en,rfl,O,gc.cls,gc.n3,rfl,?_);show(j,d,g.st,g.en,D,N,rfl,b2,by ac_nf,c2,λhc a0 Z=>absurd (j9 g (List.mem_of_getElem? e1)) hc,λw l yy a0 Z n5 l7 h0 e4 l1=>?_);mvcgen;have B:=c3.trans Z;have U:=B _ _ a3;show(x,_,X,_, .ref d2,rfl,B _ _ a6,Y.cls,Y.n2,rfl,?_);show(q,_,dq,_, .str g.nm,rfl,Z _ _ O,gc.cls,gc.n1,rfl,?_);show(d2,_,rfl,DPut.k (k:=Sum.inr g.nm) U ∅,?_);generalize g4:upd a0 d2 _=d5;mvcgen;have k4:=putE g4;have G:∀ b u,b≠d2->a0 b=some u->d5 b=some u:=λb u hb h=>by rw[<- g4,Jah hb];show h
   have j3:=g0 G U;have c4:=G _ _ (Ne.symm b1) (B _ _ a6);have g5:=G _ _ (λz=>by have:=Z _ _ O;rw[z,U]at this;cases this) (Z _ _ O);have R:=G _ _ a5 (B _ _ b3);mvcgen;show(x,_,X,_, .ref d3,rfl,c4,Y.cls,Y.n3,rfl,?_);show(q,_,dq,_, .str g.nm,rfl,g5,gc.cls,gc.n1,rfl,?_);show(d3,_,rfl,DPut.k (k:=Sum.inr g.nm) R ∅,?_);generalize i4:upd d5 d3 _=c8;mvcgen;have m7:=putE i4;have J:∀ b u,b≠d3->d5 b=some u->c8 b=some u:=λb u hb h=>by rw[<- i4,Jah hb];show h
   have g2:=g0 J R;have SI:SameI a0 c8:=λb u t h=>g2 b u t (j3 b u t h);have wv:∀{g:GD}{v:V},WOV a0 D g v->WOV c8 D g v:=λ{g v} ζ=>(by let(l,xs,w,h1,h2,h3,h4):=ζ;show(l,xs,w,h1,i6 J R (i6 G U h2),h3.mono λ_ _ z=>z.sameT SI.t,h4));show(li,_,_,_,_,_,gs++[g],rfl,λb u h=>J _ _ (Jai h k6) (G _ _ (Jai h n0) (B _ _ (S9 _ _ h))),J _ _ (Ne.symm c6) c4,f6 J R h9 (f6 G U j6 (b2.same Z)),J _ _ (Ne.symm c9) (G _ _ (Ne.symm d4) (B _ _ b4)),d8.mono λ_ _ z=>(z.si (Same.i B)).si SI,J _ _ (Ne.symm a5) k4,?_,m7,?_,by simp[h7],g9)
   .show((b0.mono (P':=GOV K Ad a0) λ_ _ z=>z.si (Same.i B)).new (a:=g) cn (gv.si (Same.i Z))).mono λ_ _ z=>z.si SI
   .show((b6.mono (P':=WOV a0 D) λ_ _ z=>z.same B).new (a:=g) cn ⟨l,yy,w,rfl,l7,h0,e4,l1⟩).mono λ_ _ z=>wv z
  .intro σ H9 z_;let(hi,v4,v6,v7,k2,k3,gs,rfl,S9,a6,g6,b4,d8,a3,b0,b3,b6,h7,b9):=z_;rw[take_of_length_le ∅]at b9;subst b9;mvcgen;show k H9 S9 ⟨X,M,d2,d3,k1,k2,k3,a6,b4,d8,a3,b0,b3,b6⟩
abbrev BaF:Stmt:=inClass (top 53) 1
theorem JeZ:Jan ["self"] ["self"] (Jaf BaF):=by bv_decide
def JaC(K:W.Frag)(Ad:Adr):Sp:=λvs H Q E=>∃(x:Addr)(ls:List PD)(gs:List GD),vs=[.ref x]/\TK K Ad H x ls gs/\ls.length<=20/\∀ l ys H',Same H H'->H l=none->H' l=some (.lst ys)->All2 (PDV K H') ls ys->Q (.ref l) H'
theorem JeT(F:"parts"∘"Thing.parts"∘BaF)(T:Txt K mg Ad)(Bdu:1∘"plain"∘(IsPart Ad)∘["self"]∘(JcC K Ad)):2∘["self"]∘(JaC K Ad):=by
 show F.okn JeZ (by subst_eqs) (λa1 A O s H vs Q E hr h=>?_)
 let(x,ls,gs,rfl,h):=h;show(_,(Jag (Jap (Jha (Jfb (Jcy (own:=["part"]) (cs:=[]) rfl (Jji (Jar (pv 0) rfl)) (λ_ _ _ _=>(Jaq 0 (show[("part" : Str)].Nodup by decide))) (λ_ _ _ _=>JcY) (λ_ _ _ _=>(Bdu.m0 hr ⋯ passF (pv 0))) (JcQ rfl) ⋯ rfl ⋯ hcs0))))),?_);let((dx,a,d2,d3,l,k2,k3,hx,j,b1,_),hl,k):=h;have tc:=T.Bbl _ rfl;have sl:(1000:Nat)<=sizeLine:=by decide
 have lk:=b1.length;show tRet _ _ [some (.ref x)] H;mleave;show(a,l,j,x,_,dx,_, .ref a,rfl,hx,tc.cls,tc.n1,rfl,a,l,rfl,j,λN=>?_);generalize uf:upd H a (.frz N (.dK l))=Z;mleave;have f1:Z a=some (.frz N (.dK l)):=by rw[<- uf,Jak]
 have o1:∀ b u,b≠a->H b=some u->Z b=some u:=λb u W h=>by rw[<- uf,Jah W];show h
 show CompJ.vals (λi m n=>n a=some (.frz N (.dK l))/\(∀ b u,b≠a->H b=some u->n b=some u)/\(∀ b u,b≠a->n b=some u->H b=none->True)/\All2 (PDV K n) (ls.take i) m) ⟨f1,o1,λ_ _ _ _ _=>trivial,rfl⟩ (λi m n hi z=>⟨z.1,by have:=z.2.2.2.length;rw[length_take]at this;ac_nf⟩) ?_ ?_
 .rintro i v m I hv ⟨C,y,_,M⟩;simpa only[length_singleton,List.replicate,JaM,map_cons,map_nil,Option.join_some];let(p,hp,q,dq,J,G,rfl,hq,hz,hm):=b1.2.at_ hv;have S:∀{b:Addr}{u:HO},H b=some u->isTI u=true->I b=some u:=λ{b u} h t=>y _ _ (λz=>by rw[z,j]at h;cases h;simp[isTI,isTF]at t) h;have Y:SameT H I:=λb u t h=>S h (by cases u <;> first | show t | (simp[isTF]at t));show(q,_,dq,_,rfl,S hq rfl,rfl,rfl,q,dq,_,_,_,J,G,_,rfl,S hq rfl,λr B d R=>?_);show(d _ _ C,λb u W h=>d _ _ (y _ _ W h),λ_ _ _ _ _=>trivial,?_);rw[take_succ,hp];show(M.mono (P':=PDV K B) λ_ _ z=>z.sameT d.t).append (.one ⟨r,J,G,rfl,SqT.of R,(hz.sameT Y).sameT d.t,(hm.sameT Y).sameT d.t⟩)
 .rintro m I ⟨C,y,_,M⟩;rw[take_of_length_le ∅]at M;rename_i r g a0 I B d R;mleave;show(N,l,d _ _ C,?_);generalize D:upd B a (.dK l)=L;mleave;have nr:r≠a:=λz=>by rw[z,C]at g;cases g
  have e4:L r=some (.lst m):=by rw[<- D,Jah nr];show R
  have X:Same H L:=λb u h=>by
   by_cases c:b=a
   .subst c;rw[j]at h;cases h;rw[<- D,Jak]
   .rw[<- D,Jah c];show d _ _ (y _ _ c h)
  have f3:=d _ _ C;have U:∀{b:Addr}{xs:List V},SqT K B b xs->SqT K L b xs:=λ{b xs} h=>by
   rcases h with(h | ⟨o,h⟩) | h
   .show .inl (.inl (by rw[<- D,Jah (λz=>by rw[z,f3]at h;cases h)];show h))
   .show .inl (.inr ⟨o,by rw[<- D,Jah (λz=>by rw[z,f3]at h;cases h)];show h⟩)
   .show .inr h
  have hn:H r=none:=by
   cases e:H r with
   | none=>rfl
   | some o=>rw[y _ _ nr e]at g;cases g
  show k r m L X hn e4 ((M.mono (P':=PDV K B) λ_ _ z=>z.sameT d.t).mono λp v ζ=>by let(b,J,G,h1,h2,(pz,h3,h4),(pm,h5,h6)):=ζ;show(b,J,G,h1,U h2,⟨pz,h3,U h4⟩,⟨pm,h5,U h6⟩))
abbrev BaM:Stmt:=inClass (top 53) 2
theorem JfN:Jan ["self"] ["self"] (Jaf BaM):=by bv_decide
def Ja0(K:W.Frag)(Ad:Adr):Sp:=λvs H Q E=>∃(x:Addr)(ls:List PD)(gs:List GD),vs=[.ref x]/\TK K Ad H x ls gs/\gs.length<=20/\∀ l ys H',Same H H'->H l=none->H' l=some (.lst ys)->All2 (λ(g:GD) v=>TV K H' g.td v) gs ys->Q (.ref l) H'
theorem Jfw(F:"gaps"∘"Thing.gaps"∘BaM)(T:Txt K mg Ad)(Bcx:1∘"plain"∘(IsGap Ad)∘["self"]∘(JcZ K Ad)):2∘["self"]∘(Ja0 K Ad):=by
 show F.okn JfN (by subst_eqs) (λa1 A R s H vs Q E hr h=>?_)
 let(x,ls,gs,rfl,h):=h;show(_,(Jag (Jap (Jha (Jfb (Jcy (own:=["gap"]) (cs:=[]) rfl (Jji (Jar (pv 0) rfl)) (λ_ _ _ _=>(Jaq 0 (show[("gap" : Str)].Nodup by decide))) (λ_ _ _ _=>JcY) (λ_ _ _ _=>(Bcx.m0 hr ⋯ passF (pv 0))) (JcQ rfl) ⋯ rfl ⋯ hcs0))))),?_);let((dx,d1,a,d3,k1,m,k3,hx,_,_,l,b2,_),hl,k):=h;have tc:=T.Bbl _ rfl;have sl:(1000:Nat)<=sizeLine:=by decide
 have lk:=b2.length;show tRet _ _ [some (.ref x)] H;mleave;show(a,m,l,x,_,dx,_, .ref a,rfl,hx,tc.cls,tc.n2,rfl,a,m,rfl,l,λO=>?_);generalize uf:upd H a (.frz O (.dK m))=H1;mleave;have f1:H1 a=some (.frz O (.dK m)):=by rw[<- uf,Jak]
 have o1:∀ b u,b≠a->H b=some u->H1 b=some u:=λb u X h=>by rw[<- uf,Jah X];show h
 show CompJ.vals (λi n G=>G a=some (.frz O (.dK m))/\(∀ b u,b≠a->H b=some u->G b=some u)/\All2 (λ(g:GD) v=>TV K G g.td v) (gs.take i) n) ⟨f1,o1,rfl⟩ (λi n G hi z=>⟨z.1,by have:=z.2.2.length;rw[length_take]at this;ac_nf⟩) ?_ ?_
 .rintro i v n J hv ⟨C,y,N⟩;simpa only[length_singleton,List.replicate,JaM,map_cons,map_nil,Option.join_some];let(p,hp,q,dq,L,I,rfl,hq,hz,hm):=b2.2.at_ hv;have U:∀{b:Addr}{u:HO},H b=some u->isTI u=true->J b=some u:=λ{b u} h t=>y _ _ (λz=>by rw[z,l]at h;cases h;simp[isTI,isTF]at t) h;have Z:SameT H J:=λb u t h=>U h (by cases u <;> first | show t | (simp[isTF]at t));show(q,_,dq,_,rfl,U hq rfl,rfl,rfl,q,dq,_,_,_,L,I,rfl,U hq rfl,λr B d S=>?_);show(d _ _ C,λb u X h=>d _ _ (y _ _ X h),?_);rw[take_succ,hp];show(N.mono (P':=λ(g:GD) v=>TV K B g.td v) λ_ _ z=>z.sameT d.t).append (.one ⟨r,L,I,rfl,SqT.of S,(hz.sameT Z).sameT d.t,(hm.sameT Z).sameT d.t⟩)
 .rintro n J ⟨C,y,N⟩;rw[take_of_length_le ∅]at N;rename_i r j a0 J B d S;mleave;show(O,m,d _ _ C,?_);generalize D:upd B a (.dK m)=M;mleave;have nr:r≠a:=λz=>by rw[z,C]at j;cases j
  have e4:M r=some (.lst n):=by rw[<- D,Jah nr];show S
  have Y:Same H M:=λb u h=>by
   by_cases c:b=a
   .subst c;rw[l]at h;cases h;rw[<- D,Jak]
   .rw[<- D,Jah c];show d _ _ (y _ _ c h)
  have f3:=d _ _ C;have W:∀{b:Addr}{xs:List V},SqT K B b xs->SqT K M b xs:=λ{b xs} h=>by
   rcases h with(h | ⟨o,h⟩) | h
   .show .inl (.inl (by rw[<- D,Jah (λz=>by rw[z,f3]at h;cases h)];show h))
   .show .inl (.inr ⟨o,by rw[<- D,Jah (λz=>by rw[z,f3]at h;cases h)];show h⟩)
   .show .inr h
  have hn:H r=none:=by
   cases e:H r with
   | none=>rfl
   | some o=>rw[y _ _ nr e]at j;cases j
  show k r n M Y hn e4 ((N.mono (P':=λ(g:GD) v=>TV K B g.td v) λ_ _ z=>z.sameT d.t).mono λp v ζ=>by let(b,L,I,h1,h2,(pz,h3,h4),(pm,h5,h6)):=ζ;show(b,L,I,h1,W h2,⟨pz,h3,W h4⟩,⟨pm,h5,W h6⟩))
abbrev Ba5:Stmt:=inClass (top 53) 3
theorem Jgw:Jan ["self","name"] ["self","name"] (Jaf Ba5):=by bv_decide
def JbQ(K:W.Frag)(Ad:Adr):Sp:=λvs H Q E=>∃(x:Addr)(z:Str)(ls:List PD)(gs:List GD),vs=[.ref x, .str z]/\TK K Ad H x ls gs/\(z∉gs.map (·.nm)->E (.ref Ad.NoName) none H)/\(∀ g∈gs,g.nm=z->∀ l xs w H',Same H H'->H l=none->H' l=some (.lst xs)->All2 (CV H') w xs->JaL ls g.st w g.en->(w.map (·.1)).Nodup->Q (.ref l) H')
theorem Jgp(F:"way"∘"Thing.way"∘Ba5)(T:Txt K mg Ad)  : 1∘["self","name"]∘(JbQ K Ad):=by
 show F.okx Jgw (λX H Q E h=>?_) (λO A i s H X Q E C h=>?_)
 .let(x,z,L,y,rfl,_):=h;rfl
 let(x,z,L,y,rfl,h):=h;have n:=C.units;show(_,(Jab (ps_if (JeB (Jdt (hu1 n) (pv 1) (Jar (pv 0) rfl)) (by with_unfolding_all rfl)) (Jag (Jd7 PySem.F.excBase_ValueError T.Bb1 rfl T.BcY %[Jbe|0]))
   Jav) (Jag (Jap (Jdu Je1 rfl T.BdP JgJ %[Ja9 (hu1 n) (Jar (pv 0) rfl) (pv 1) (λ_ _=>rfl)|0])))),?_)
 clear n;let((r,Y,d2,b,k1,k2,Z,q,D,b1,N,b2,a,p),V,k):=h;have d:=T.Bbl _ rfl;show tSeq _ _ _ [some (.ref x),some (.str z)] H;mleave;show(x,_,r,_, .ref b,rfl,q,d.cls,d.n3,rfl,?_);show(b,_,rfl,DGet.k (k:=Sum.inr z) a,?_);rw[p.val];by_cases c:z∈y.map (·.nm)
 .rw[decide_eq_true c];mleave;let(g,v,R,M,G,S,B,w,rfl,j,e,W,m):=p.some c;show(x,_,r,_, .ref b,rfl,q,d.cls,d.n3,rfl,?_);show(b,_,rfl,by rw[<- G];show DGet.k (k:=Sum.inr z) a,?_);show(S,B,rfl, .inl (SqL.of j),?_);rename_i l o J H I u U;mleave;show k g R M l B w I u o U (e.mono λ_ _ z=>z.sameT u.t) W m
 .rw[decide_eq_false c];mleave;show(by show 1<=sizeLine;decide,V c)
abbrev Baw:Stmt:=inClass (top 53) 4
theorem Ja5:Jan ["self","name","total","part","forward","size"] ["self","name"] (Jaf Baw):=by bv_decide
def Jbz(K:W.Frag)(Ad:Adr):Sp:=λvs H Q E=>∃(x:Addr)(z:Str)(ls:List PD)(gs:List GD),vs=[.ref x, .str z]/\TK K Ad H x ls gs/\(z∉gs.map (·.nm)->E (.ref Ad.NoName) none H)/\(∀ g∈gs,g.nm=z->∃ pl:Str->Fr2,(∀ u∈gs,u.nm=z->u=g)/\(∀ p∈ls, ∀ q∈ls,p.nm=q.nm->p=q)/\(∀ p∈ls,POk p)/\(∀ f,FB 302 161 (pl f))/\(∀ p∈ls,vl (pl p.en)=vl (pl p.st)+vl p.sz)/\∀ v H',Same H H'->FrV K H' v (mid pl g).1 (mid pl g).2->Q v H')
theorem Jeu(F:"middle"∘"Thing.middle"∘Baw)(T:Txt K mg Ad)(BcS:1∘"way"∘(JaH Ad)∘["self","name"]∘(JbQ K Ad))(Bca:2∘"plus"∘["one","other"]∘(JeN K))(BaY:3∘"minus"∘["one","other"]∘(Jc9 K)):4∘["self","name"]∘(Jbz K Ad):=by
 show F.okx Ja5 (λvs H Q E h=>?_) (λa4 A S s H vs Q E L h=>?_)
 .let(x,z,D,gs,rfl,_):=h;rfl
 let(x,z,D,gs,rfl,h):=h;have hu:=L.units;show(_,(Jab (Jaj 2 Ja5.nd (Jbh (v:=.ref _) rfl T.Bcn T.Bco)) (Jab (JaV PassesOwn.leaving rfl (pi_U (BcS.m L ⋯ pass1 (pv 0) %[pv 1|0])) (Jfc rfl (Jbo (Jaq 3 Ja5.nd) (Jbo (Jaq 4 Ja5.nd) JdO))) (Jab (Jaj 5 Ja5.nd (Jar (Ja9 (hu1 hu) (Jar (pv 0) rfl) (pv 3) (λ_ _=>rfl)) rfl)) (Jag (Jaj 2 Ja5.nd (JfI (Jbc (pv 4)) (Bca.ev L ⋯ rfl pass1 %[pv 2,pv 5|0]) (BaY.ev L ⋯ rfl pass1 %[pv 2,pv 5|0])))))) (Jag (Jap (pv 2))))),?_)
 clear hu;let(ht,kn,k):=h;let(dx,d1,d2,d3,k1,k2,k3,hx,a0,b1,_):=id ht;have tc:=T.Bbl _ rfl;have pc:=T.BcT _ rfl;show tSeq _ _ _ [some (.ref x),some (.str z),none,none,none,none] H;mleave;show(x,_,dx,_,rfl,hx,rfl,rfl,x,z,D,gs,rfl,ht,kn,λg hg hz l xs w H1 S1 a5 e1 C hw _=>?_);let(a,a3,hN,hP,u,hV,k):=k g hg hz;have lg:=JlF hV hw;have lx:=C.length;show(l,rfl,ForA.byL (xs:=xs) (SqL.of e1) (λi σ U=>i<=xs.length/\∃(R v4 W:Option V)(t:V)(f:Str),σ=[some (.ref x),some (.str z),some t,R,v4,W]/\Same H1 U/\FrV K U t (addF (a f) (negF (a g.st))).1 (addF (a f) (negF (a g.st))).2/\Legs D a f (w.drop i) g.en) ⟨Nat.zero_le _,none,none,none, .ref Ad.ZERO,g.st,rfl,Same.refl _,by rw[Jka (u _)];show(Ad.ZERO,rfl,T.Bcp _),lg⟩ (λi σ U q=>by let(_,_,_,_,_,_,_,q,_):=q;show SqL.of (q _ _ e1)) ?_ ?_)
 .intro i y σ H2 hy z_;let(hi,R,v4,W,t,f,rfl,o,M,J):=z_;have li:i<xs.length:=(List.getElem?_eq_some_iff.mp hy).1;let(pr,G,b,rfl,hb):=C.at_ hy;have I:i<w.length:=by ac_nf
  have a1:w.drop i=pr::w.drop (i+1):=by
   rw[List.drop_eq_getElem_cons I];rw[List.getElem?_eq_getElem I]at G;rw[Option.some.inj G]
  rw[a1]at J;have d:=S1.trans o;obtain⟨p,n,j,rfl,hp,hv,B⟩:∃ p n j,pr=(p.nm,n)/\p∈D/\vl (a j)=vl (a f)+vl (sgn n p.sz)/\Legs D a j (w.drop (i+1)) g.en:=by
   cases J with
   | cons h1 h2 h3=>show(_,_,_,rfl,h1,h2,h3)
  mleave;show(b,_,rfl,SqT.of (o _ _ hb),rfl,?_);mleave;let(q,v,hq,a2,Z,qa,dq,N,vm,rfl,Y,X,hm):=b1.some (z:=p.nm) (mem_map.mpr ⟨p,hp,rfl⟩);have eq:=hN q hq p hp a2;subst eq;show(x,_,dx,_, .ref d1,rfl,d _ _ hx,tc.cls,tc.n1,rfl,?_);show(d1,_,rfl,by rw[<- Z];show DGet.k (k:=Sum.inr q.nm) (d _ _ a0),?_);show(qa,_,dq,_,N,rfl,d _ _ Y,pc.cls,pc.n4,rfl,?_);have c:=(hP q hq).z;have e:FB 464 322 (addF (a f) (negF (a g.st))):=FB.add (u _) (u _).neg ⋯ ⋯ ⋯;have fz:FrV K H2 N q.sz.1 q.sz.2:=X.same d;have st:=JlE (u f) (u j) (z:=sgn n q.sz) (by cases n;show(L2.FOk.fb c).neg;show L2.FOk.fb c) (u g.st) hv;mleave;cases n with
  | true=>
   mleave;show(t,N,_,_,_,_,rfl,M,fz,e.s1.mono ⋯,e.s2.mono ⋯,c.s1.mono ⋯,c.s2.mono ⋯,e.b1,c.b1,e.g1,c.g1,λr H3 O e3=>?_);show(li,_,_,_, .ref r,j,rfl,o.trans O,by rw[<- st];show FrV.of e3,B)
  | false=>
   mleave;show(t,N,_,_,_,_,rfl,M,fz,e.s1.mono ⋯,e.s2.mono ⋯,c.s1.mono ⋯,c.s2.mono ⋯,e.b1,c.b1,e.g1,c.g1,λr H3 O e3=>?_);show(li,_,_,_, .ref r,j,rfl,o.trans O,?_,B);rw[<- st];show FrV.of ?_;rw[e3];show _=some (HO.tup [.int (Mth.top (_*q.sz.2 + -q.sz.1*_) _), .int (Mth.bot (_*q.sz.2 + -q.sz.1*_) _)]);rw[Int.neg_mul, <- Int.sub_eq_add_neg];rfl
 .intro σ H2 z_;let(hi,R,v4,W,t,f,rfl,o,M,J):=z_;rw[List.drop_eq_nil_of_le ∅]at J;cases J;mleave;show k t H2 (S1.trans o) M
abbrev BaN:Stmt:=inClass (top 53) 5
theorem Jbu:Jan ["self","name","middle","gap","above","below"] ["self","name"] (Jaf BaN):=by bv_decide
def JbA(K:W.Frag)(Ad:Adr):Sp:=λvs H Q E=>∃(x:Addr)(z:Str)(ls:List PD)(gs:List GD),vs=[.ref x, .str z]/\TK K Ad H x ls gs/\(z∉gs.map (·.nm)->E (.ref Ad.NoName) none H)/\(∀ g∈gs,g.nm=z->∃ pl:Str->Fr2,(∀ u∈gs,u.nm=z->u=g)/\(∀ p∈ls, ∀ q∈ls,p.nm=q.nm->p=q)/\(∀ p∈ls,POk p)/\(∀ f,FB 302 161 (pl f))/\(∀ p∈ls,vl (pl p.en)=vl (pl p.st)+vl p.sz)/\TOk g.td/\∀ v H',Same H H'->FrV K H' v (roomF pl g).1 (roomF pl g).2->Q v H')
theorem Jfx(F:"room"∘"Thing.room"∘BaN)(T:Txt K mg Ad)(BbI:4∘"middle"∘(JaH Ad)∘["self","name"]∘(Jbz K Ad))(BaY:3∘"minus"∘["one","other"]∘(Jc9 K))(Bah:1∘"under"∘["one","other"]∘(JbO K)):5∘["self","name"]∘(JbA K Ad):=by
 show F.okx Jbu (λvs H Q E h=>?_) (λa1 A G s H vs Q E e h=>?_)
 .let(x,z,V,gs,rfl,_):=h;rfl
 let(x,z,V,gs,rfl,h):=h;have hu:=e.units;show(_,(Jab (Jaj 2 Jbu.nd (BbI.m e ⋯ pass1 (pv 0) %[pv 1|0])) (Jab (Jaj 3 Jbu.nd (Ja9 (hu1 hu) (Jar (pv 0) rfl) (pv 1) (λ_ _=>rfl))) (Jab (Jaj 4 Jbu.nd (BaY.ev e ⋯ rfl pass1 %[Jar (pv 3) rfl,pv 2|0])) (Jab (Jaj 5 Jbu.nd (BaY.ev e ⋯ rfl pass1 %[pv 2,Jar (pv 3) rfl|0])) (Jag (Jap (JfI (Jbc (Bah.ev e ⋯ rfl pass1 %[pv 4,pv 5|0])) (pv 4) (pv 5)))))))),?_)
 clear hu;let(ht,kn,k):=h;let(W,d1,S,d3,k1,k2,k3,U,a0,b1,J,b2,_):=id ht;have tc:=T.Bbl _ rfl;have t:=T.BdQ _ rfl;show tSeq _ _ _ [some (.ref x),some (.str z),none,none,none,none] H;mleave;show(x,_,W,_,rfl,U,rfl,rfl,x,z,V,gs,rfl,ht,kn,λg hg X=>?_);let(pl,q,hN,hP,hB,hV,N,k):=k g hg X;show(pl,q,hN,hP,hB,hV,λv H1 n fm=>?_);have b:=JmR (g:=g) hB;unfold roomF at k;generalize mid pl g=m at *;mleave;let(a,v',I,L,M,qa,dq,p,r,rfl,l,C,D):=b2.some (z:=z) (mem_map.mpr ⟨g,hg,X⟩);have eg:=q a I L;subst eg;have j:=N.lo _ rfl;have o:=N.hi _ rfl;show(x,_,W,_, .ref S,rfl,n _ _ U,tc.cls,tc.n2,rfl,?_);show(S,_,rfl,by rw[<- M];show DGet.k (k:=Sum.inr z) (n _ _ J),?_);mleave;show(qa,_,dq,_,r,rfl,n _ _ l,t.cls,t.n5,rfl,?_);show(r,v,_,_,_,_,rfl,D.same n,fm,o.s1.mono ⋯,o.s2.mono ⋯,b.s1.mono ⋯,b.s2.mono ⋯,o.b1,b.b1,o.g1,b.g1,λZ H2 S2 e2=>?_);mleave;have d:=n.trans S2;show(qa,_,dq,_,p,rfl,d _ _ l,t.cls,t.n4,rfl,?_);show(v,p,_,_,_,_,rfl,fm.same S2,C.same d,b.s1.mono ⋯,b.s2.mono ⋯,j.s1.mono ⋯,j.s2.mono ⋯,b.b1,j.b1,b.g1,j.g1,λO u y e3=>?_);mleave;have ea:addF a.hi (negF m)=(Mth.top (a.hi.1*m.2-m.1*a.hi.2) (a.hi.2*m.2),Mth.bot (a.hi.1*m.2-m.1*a.hi.2) (a.hi.2*m.2)):=by
  unfold addF negF;dsimp only;rw[Int.neg_mul, <- Int.sub_eq_add_neg]
 have eb:addF m (negF a.lo)=(Mth.top (m.1*a.lo.2-a.lo.1*m.2) (m.2*a.lo.2),Mth.bot (m.1*a.lo.2-a.lo.1*m.2) (m.2*a.lo.2)):=by
  unfold addF negF;dsimp only;rw[Int.neg_mul, <- Int.sub_eq_add_neg]
 have fa:FrV K u (.ref Z) (addF a.hi (negF m)).1 (addF a.hi (negF m)).2:=by rw[ea];show FrV.of (y _ _ e2)
 have Y:FrV K u (.ref O) (addF m (negF a.lo)).1 (addF m (negF a.lo)).2:=by rw[eb];show FrV.of e3
 have R:=FB.add' (L2.FOk.fb o) b.neg;have bb:=FB.add' b (L2.FOk.fb j).neg;generalize addF a.hi (negF m)=A at *;generalize addF m (negF a.lo)=B at *;show(.ref Z, .ref O,A.1,A.2,B.1,B.2,rfl,fa,Y,R.s1.mono ⋯,R.s2.mono ⋯,bb.s1.mono ⋯,bb.s2.mono ⋯,?_);mleave;by_cases c:lessF A B=true
 .rw[if_pos c]at k;rw[if_pos (show decide (A.1*B.2<B.1*A.2)=true from c)];mleave;show k _ u (d.trans y) fa
 .rw[if_neg c]at k;rw[if_neg (show¬ decide (A.1*B.2<B.1*A.2)=true from c)];mleave;show k _ u (d.trans y) Y
abbrev Bao:Stmt:=inClass (top 19) 0
theorem JbD:Jan ["self","numbers","number","factor"] ["self","numbers"] (Jaf Bao):=by bv_decide
def JbG(K:W.Frag)(Ad:Adr):Sp:=λvs H Q E=>∃(x dx a:Addr)(xs:List V)(ns:List Fr2),vs=[.ref x, .ref a]/\H x=some (.ins Ad.Scale dx [])/\H a=some (.lst xs)/\All2 (FLV K H) ns xs/\ns.length<=28/\(∀ n∈ns,1<=n.2/\Mth.Sz 70 n.2)/\∀ b fs fl H',H' x=some (.ins Ad.Scale dx [("bottom", .int b),("factors", .ref fl)])->H fl=none->H' fl=some (.lst (fs.map V.int))->(∀ c u,c≠x->H c=some u->H' c=some u)->Scl b fs->Mth.Sz 2000 b->fs.length<=30->Q .non H'
theorem JdK(F:"__init__"∘"Scale.__init__"∘Bao)(T:Txt K mg Ad)(Bac:1∘"common_divisor"∘["one","other"]∘(JaG)):2∘["self","numbers"]∘(JbG K Ad):=by
 show F.okn JbD (by subst_eqs) (λa4 A a0 s H vs Q E hr h=>?_)
 let(x,l,a,xs,ns,rfl,h):=h;show(_,(Jab (Ja8 (pv 0) Jad rfl) (Jab (Ja8 (pv 0) (Jbd Jac) rfl) (Jag (JaV PassesOwn.never rfl (pi_U (pv 1)) (Jaq 2 JbD.nd) (Jab (Jaj 3 JbD.nd (pe_op Jas (!2) (Bac.ev hr ⋯ rfl passF %[Jar (pv 0) rfl,!2|0]))) (Jag (ps_if (Jat JhM (pv 3) Jad (Jay _)) (Jab (Ja8 (pv 0) (pe_op JaE (Jar (pv 0) rfl) (pv 3)) rfl) (Jag (Jbi (pe_bm PySem.F.plainAttrs_list PySem.F.slot_list_append PySem.F.type_list_append Jbb (Jar (pv 0) rfl) %[pv 3|0] (hs:=by show Jae rfl)))))
   Jav))))))),?_)
 let(e0,X,hN,hl,a1,k):=h;have e:=T.Bcu Ad.Scale rfl;have sl:(1000:Nat)<=sizeLine:=by decide
 have lx:=hN.length;show tSeq _ _ _ [some (.ref x),some (.ref a),none,none] H;mvcgen;show(x,_,l,_,rfl,e0,e.cls,e.n1,by simp,?_);generalize u1:upd H x _=Z;mvcgen;have e1:Z x=some (.ins Ad.Scale l [("bottom", .int 1)]):=by rw[<- u1];show Jak.trans rfl
 have o1:∀ b,b≠x->Z b=H b:=λb hb=>by rw[<- u1,Jah hb]
 mvcgen;show(len0,?_);rename_i d j a3 Z H2 R e2;mvcgen;mvcgen;show(x,_,l,_,rfl,R _ _ e1,e.cls,e.n2,by simp,?_);generalize N:upd H2 x _=S;mvcgen;have e3:S x=some (.ins Ad.Scale l [("bottom", .int 1),("factors", .ref d)]):=by rw[<- N];show Jak.trans rfl
 have U:d≠x:=λz=>by rw[z,e1]at j;cases j
 have f3:S d=some (.lst []):=by rw[<- N,Jah U];show e2
 have o3:∀ c u,c≠x->H c=some u->S c=some u:=λc u C h=>by rw[<- N,Jah C];show R _ _ (by rw[o1 c C];show h)
 have o:H d=none:=by rw[<- o1 d U];show j
 have I:a≠x:=λz=>by rw[z,e0]at X;cases X
 have a2:SameT H S:=(SameT.put u1 e0 rfl).trans (R.t.trans (SameT.put N (R _ _ e1) rfl));mvcgen;show(a,rfl,ForA.byL (xs:=xs) (SqL.of (o3 _ _ I X)) (λi σ B=>i<=xs.length/\∃(v2 v3:Option V)(b:Int)(m:List Int),σ=[some (.ref x),some (.ref a),v2,v3]/\B x=some (.ins Ad.Scale l [("bottom", .int b),("factors", .ref d)])/\B d=some (.lst (m.map V.int))/\(∀ c u,c≠x->H c=some u->B c=some u)/\SameT H B/\Scl b m/\Mth.Sz (1+70*i) b/\m.length<=i) ⟨Nat.zero_le _,none,none,1,[],rfl,e3,f3,o3,a2,Scl.nil, .lit ⋯ ⋯,Nat.le_refl _⟩ (λi σ B q=>by let(_,_,_,_,_,_,_,_,q,_):=q;show SqL.of (q _ _ I X)) ?_ ?_)
 .intro i y σ G hy z_;let(hi,v2,v3,b,m,rfl,p,Y,M,L,hs,v,lf):=z_;have li:=(List.getElem?_eq_some_iff.mp hy).1;let(n,hn,J):=hN.at_ hy;have J:FrV K G y n.1 n.2:=FrV.sameT L J;have r:=a1 n (List.mem_of_getElem? hn);have v:Mth.Sz 2000 b:=v.mono ∅;have gp:=Mth.g_pos (a:=b) (b:=n.2) ∅;have gd:=Mth.JbY b n.2;have gl:=Mth.g_le (a:=b) (b:=n.2) ∅;have d1:DivOk (Mth.g b n.2):=divOk (n:=70) ∅ (Nat.lt_of_le_of_lt (by ac_nf:(Mth.g b n.2).natAbs<=n.2.natAbs) r.2);have f1:=Mth.Jcg gd ∅ r.1;have sf:Mth.Sz 70 (n.2.fdiv (Mth.g b n.2)):=r.2.fdiv gd ∅;mvcgen;show ixF1 J ?_;show(x,_,l,_, .int b,rfl,p,e.cls,e.n1,rfl,?_);show ixF1 J ?_;mvcgen;show(_,_,rfl,?_);mvcgen;show(d1,?_);generalize n.2.fdiv (Mth.g b n.2)=f at *;mvcgen;by_cases c:1<f
  .rw[if_pos (by simpa using c)];mvcgen;try simpa only[y4ey,y88y]
   show(x,_,l,_, .int b,rfl,p,e.cls,e.n1,rfl,?_);try simpa only[y4ey,y88y]
   show(mulOk v sf,?_);show(x,_,l,_,rfl,p,e.cls,e.n1,by simp,?_);generalize W:upd G x _=D;mvcgen;have e5:D x=some (.ins Ad.Scale l [("bottom", .int (b*f)),("factors", .ref d)]):=by rw[<- W];show Jak.trans rfl
   have f5:D d=some (.lst (m.map V.int)):=by rw[<- W,Jah U];show Y
   have T5:SameT G D:=SameT.put W p rfl;try simpa only[y4ey,y88y]
   show(x,_,l,_, .ref d,rfl,e5,e.cls,e.n2,rfl,?_);show(.inl ⟨rfl,_,SqL.of f5⟩,?_);mvcgen;show(d,_,_,rfl,rfl,f5,by rw[length_map];ac_nf,?_);generalize O:upd D d _=H6;mvcgen;have f6:=putE O;have T6:SameT D H6:=SameT.put O f5 rfl;mvcgen;show(li,_,_,b*f,m++[f],rfl,by rw[<- O,Jah (Ne.symm U)];show e5,by rw[f6];simp,λc u C h=>by rw[<- O,Jah (Jai h o), <- W,Jah C];show M c u C h,L.trans (T5.trans T6),hs.snoc ∅,?_,by simp;ac_nf);have:=(show Mth.Sz (1+70*i) b by assumption).mul sf;show this.mono ∅
  .rw[if_neg (by simpa using c)];mvcgen;mvcgen;show(li,_,_,b,m,rfl,p,Y,M,L,hs,(show Mth.Sz (1+70*i) b by assumption).mono ∅,by ac_nf)
 .intro σ G z_;let(hi,v2,v3,b,m,rfl,p,Y,M,L,hs,v,lf):=z_;mvcgen;show k b m d G p o Y M hs (v.mono ∅) ∅
abbrev Bax:Stmt:=inClass (top 19) 1
theorem JaW:Jan ["self","number","top","rest","factor","shared"] ["self","number"] (Jaf Bax):=by bv_decide
def Jbk(K:W.Frag)(Ad:Adr):Sp:=λvs H Q E=>∃(x:Addr)(v:V)(n:Fr2)(b:Int)(fs:List Int),vs=[.ref x,v]/\SCK Ad H x b fs/\FrV K H v n.1 n.2/\FB 200 56 n/\∀ p (t:Fr2) H',Same H H'->H' p=some (.tup [.int t.1, .int t.2])->LInv n b t->Q (.ref p) H'
theorem Jet(F:"lifted"∘"Scale.lifted"∘Bax)(T:Txt K mg Ad)(Bac:1∘"common_divisor"∘["one","other"]∘(JaG)):2∘["self","number"]∘(Jbk K Ad):=by
 show F.okn JaW (by subst_eqs) (λa0 A N s H vs Q E X h=>?_)
 let(x,v,n,b,d,rfl,h):=h;have hu:=X.units;show(_,(Jab (ps_if (Jat (JcR hu) (pe_op JaB (Jar (pv 0) rfl) (!1)) Jad (Jay _)) (Jag (Jap (JaF %[pe_op JaE (!1) (pe_op Jas (Jar (pv 0) rfl) (!1)),Jad|0])))
   Jav) (Jab (Jaj 2 JaW.nd (!1)) (Jab (Jaj 3 JaW.nd (!1)) (Jab (JaV PassesOwn.never rfl (pi_U (Jar (pv 0) rfl)) (Jaq 4 JaW.nd) (Jab (Jaj 5 JaW.nd (Bac.ev X ⋯ rfl passF %[pv 3,pv 4|0])) (Jab (Jaj 2 JaW.nd (pe_op JaE (pv 2) (pe_op Jas (pv 4) (pv 5)))) (Jag (Jaj 3 JaW.nd (pe_op Jas (pv 3) (pv 5))))))) (Jag (Jap (JaF %[pv 2,pv 3|0]))))))),?_)
 clear hu;let((M,Z,J,Y,m,O,a1),o,r,k):=h;have l:=T.Bcu Ad.Scale rfl;have sl:(1000:Nat)<=sizeLine:=by decide
 have D:=r.b1;have b1:=m.b1;have d1:DivOk n.2:=divOk (n:=56) ∅ r.s2;show tSeq _ _ _ [some (.ref x),some v,none,none,none,none] H;mleave;show(x,_,M,_, .int b,rfl,J,l.cls,l.n1,rfl,?_);show ixF1 o ?_;mleave;show(by ac_nf,?_);by_cases c:b.fmod n.2=0
 .rw[if_pos (by simpa using c)];mleave;mleave;show ixF0 o ?_;show(x,_,M,_, .int b,rfl,J,l.cls,l.n1,rfl,?_);show ixF1 o ?_;mleave;have dv:n.2∣b:=by
   rw[Int.fmod_eq_emod_of_nonneg _ ∅]at c;show Int.dvd_of_emod_eq_zero c
  show(d1,mulOk r.s1 (O.fdiv dv D),len2,?_);rename_i p I W H G R S;mleave;show k p (n.1*b.fdiv n.2,1) G R S (LInv.all D c)
 .rw[if_neg (by simpa using c)];mleave;mleave;show ixF0 o ?_;mleave;show ixF1 o ?_;mleave;show(x,_,M,_, .ref Z,rfl,J,l.cls,l.n2,rfl,?_);show(Z,rfl,ForA.byL (xs:=d.map V.int) (SqL.of Y) (λi σ u=>i<=(d.map V.int).length/\u=H/\∃(t:Fr2)(L U:Option V),σ=[some (.ref x),some v,some (.int t.1),some (.int t.2),L,U]/\LInv n (prodI (d.take i)) t) ⟨Nat.zero_le _,rfl,n,none,none,rfl,LInv.nil D r.g1⟩ (λi σ u q=>by rw[q.2.1];show SqL.of Y) ?_ ?_)
  .intro i y σ u j z_;let(hi,rfl,t,L,U,rfl,B):=z_;have C:=(List.getElem?_eq_some_iff.mp j).1;rw[length_map]at C;rw[List.getElem?_map,List.getElem?_eq_getElem C]at j;obtain⟨f,e⟩:∃ f,f=d[i]:=⟨_,rfl⟩;rw[<- e]at j;have j:y=.int f:=(Option.some.inj j).symm;subst j;have fm:f∈d:=by rw[e];show List.getElem_mem C
   have f1:=m.f1 f fm;have z:Mth.Sz 2000 f:=sz_le O ∅ (m.mem fm);have tk:=m.take i;have tb:=B.fb r (sz_le O ∅ tk.2);have gp:=Mth.g_pos (a:=t.2) (b:=f) ∅;have gl:=Mth.g_le (a:=t.2) (b:=f) ∅;have dg:DivOk (Mth.g t.2 f):=divOk (n:=2000) ∅ (Nat.lt_of_le_of_lt (by ac_nf:(Mth.g t.2 f).natAbs<=f.natAbs) z);have qf:=z.fdiv (Mth.JbY t.2 f) ∅;have st:=B.step f1;have et:prodI (d.take (i+1))=prodI (d.take i)*f:=by
    rw[take_succ,List.getElem?_eq_getElem C, <- e];show Jcr f _
   mleave;show(_,_,rfl,?_);mleave;show(dg,mulOk tb.s1 qf,?_);mleave;show(dg,?_);mleave;show(by rw[length_map];ac_nf,(t.1*f.fdiv (Mth.g t.2 f),t.2.fdiv (Mth.g t.2 f)),_,_,rfl,by rw[et];show st)
  .intro σ u z_;let(hi,rfl,t,L,U,rfl,B):=z_;rw[take_of_length_le (by rw[length_map];ac_nf),m.pr]at B;mleave;show(len2,?_);rename_i p I W u G R S;mleave;show k p t G R S B
abbrev Bas:Stmt:=inClass (top 19) 2
theorem JaR:Jan ["self","number","top","bottom","factor","shared"] ["self","number"] (Jaf Bas):=by bv_decide
def JbT(K:W.Frag)(Ad:Adr):Sp:=λvs H Q E=>∃(x:Addr)(v:V)(n:Fr2)(b:Int)(fs:List Int),vs=[.ref x,v]/\SCK Ad H x b fs/\FrV K H v n.1 n.2/\FB 3000 1000 n/\∀ p (t:Fr2) H',Same H H'->H' p=some (.tup [.int t.1, .int t.2])->LoInv n b t->Q (.ref p) H'
theorem JdZ(F:"lowered"∘"Scale.lowered"∘Bas)(T:Txt K mg Ad)(Bac:1∘"common_divisor"∘["one","other"]∘(JaG)):2∘["self","number"]∘(JbT K Ad):=by
 show F.okn JaR (by subst_eqs) (λa0 A z s H vs Q E N h=>?_)
 let(x,v,n,b,c,rfl,h):=h;show(_,(Jab (Jaj 2 JaR.nd (!1)) (Jab (Jaj 3 JaR.nd (!1)) (Jab (JaV PassesOwn.never rfl (pi_U (Jar (pv 0) rfl)) (Jaq 4 JaR.nd) (Jab (Jaj 5 JaR.nd (Bac.ev N ⋯ rfl passF %[pv 2,pv 4|0])) (Jab (Jaj 2 JaR.nd (pe_op Jas (pv 2) (pv 5))) (Jag (Jaj 3 JaR.nd (pe_op JaE (pv 3) (pe_op Jas (pv 4) (pv 5)))))))) (Jag (Jap (JaF %[pv 2,pv 3|0])))))),?_)
 let((Y,J,U,G,j,I,a1),D,B,k):=h;have M:=T.Bcu Ad.Scale rfl;have n1:=B.b1;have b1:=j.b1;show tSeq _ _ _ [some (.ref x),some v,none,none,none,none] H;mleave;show ixF0 D ?_;mleave;show ixF1 D ?_;mleave;show(x,_,Y,_, .ref J,rfl,U,M.cls,M.n2,rfl,?_);show(J,rfl,ForA.byL (xs:=c.map V.int) (SqL.of G) (λi σ l=>i<=(c.map V.int).length/\l=H/\∃(t:Fr2)(u C:Option V),σ=[some (.ref x),some v,some (.int t.1),some (.int t.2),u,C]/\LoInv n (prodI (c.take i)) t) ⟨Nat.zero_le _,rfl,n,none,none,rfl,LoInv.nil B.lo⟩ (λi σ l q=>by rw[q.2.1];show SqL.of G) ?_ ?_)
 .intro i y σ l e z_;let(hi,rfl,t,u,C,rfl,o):=z_;have r:=(List.getElem?_eq_some_iff.mp e).1;rw[length_map]at r;rw[List.getElem?_map,List.getElem?_eq_getElem r]at e;obtain⟨f,d⟩:∃ f,f=c[i]:=⟨_,rfl⟩;rw[<- d]at e;have e:y=.int f:=(Option.some.inj e).symm;subst e;have fm:f∈c:=by rw[d];show List.getElem_mem r
  have f1:=j.f1 f fm;have m:Mth.Sz 2000 f:=sz_le I ∅ (j.mem fm);have W:=j.take i;have pb:Mth.Sz 2000 (prodI (c.take i)):=sz_le I ∅ W.2;have R:Mth.Sz 3000 t.2:=by
   show Nat.lt_of_le_of_lt o.le2 ?_;have:=B.s2.mul pb;unfold Mth.Sz at this;rw[Int.natAbs_mul]at this;show this
  have gp:=Mth.g_pos (a:=t.1) (b:=f) ∅;have gl:=Mth.g_le (a:=t.1) (b:=f) ∅;have L:DivOk (Mth.g t.1 f):=divOk (n:=2000) ∅ (Nat.lt_of_le_of_lt (by ac_nf:(Mth.g t.1 f).natAbs<=f.natAbs) m);have X:=m.fdiv (Mth.JbY t.1 f) ∅;have st:=o.step f1;have Z:prodI (c.take (i+1))=prodI (c.take i)*f:=by
   rw[take_succ,List.getElem?_eq_getElem r, <- d];show Jcr f _
  mleave;show(_,_,rfl,?_);mleave;show(L,?_);mleave;show(L,mulOk R X,?_);mleave;show(by rw[length_map];ac_nf,(t.1.fdiv (Mth.g t.1 f),t.2*f.fdiv (Mth.g t.1 f)),_,_,rfl,by rw[Z];show st)
 .intro σ l z_;let(hi,rfl,t,u,C,rfl,o):=z_;rw[take_of_length_le (by rw[length_map];ac_nf),j.pr]at o;mleave;show(len2,?_);rename_i p S a2 l O S1 e1;mleave;show k p t O S1 e1 o
abbrev Bbb:Stmt:=top 32
theorem JcA:Jan ["thing","numbers","part","gap"] ["thing"] (Jaf Bbb):=by bv_decide
def JcL(K:W.Frag)(Ad:Adr):Sp:=λvs H Q E=>∃(x:Addr)(ls:List PD)(gs:List GD),vs=[.ref x]/\TK K Ad H x ls gs/\ls.length<=12/\gs.length<=7/\ls.length+gs.length<=14/\(∀ p∈ls,(1<=p.sz.2/\Mth.Sz 70 p.sz.2)/\1<=p.mo.2/\Mth.Sz 70 p.mo.2)/\(∀ g∈gs,(1<=g.lo.2/\Mth.Sz 70 g.lo.2)/\1<=g.hi.2/\Mth.Sz 70 g.hi.2)/\∀ s b fs H',Same H H'->SCK Ad H' s b fs->Q (.ref s) H'
theorem Jg6(F:"scale_of"∘Bbb)(T:Txt K mg Ad)(Bae:2∘"parts"∘(JaH Ad)∘["self"]∘(JaC K Ad))(BaZ:2∘"gaps"∘(JaH Ad)∘["self"]∘(Ja0 K Ad))(Bdv:KCal P w K mg base 2 "Scale" Ad.Scale ["self","numbers"] (JbG K Ad)):4∘["thing"]∘(JcL K Ad):=by
 show F.okn JcA (by subst_eqs) (λb8 A a7 s H vs Q E hr h=>?_)
 let(x,ls,gs,rfl,h):=h;show(_,(Jab (Jaj 1 JcA.nd (Jbd Jac)) (Jab (JaV PassesOwn.never rfl (pi_U (Bae.m0 hr ⋯ passF (pv 0))) (Jaq 2 JcA.nd) (Jag (Jbi (pe_bm PySem.F.plainAttrs_list PySem.F.slot_list_extend PySem.F.type_list_extend Jgm (pv 1) %[Jbd %[!2,!2|0]|0])))) (Jab (JaV PassesOwn.never rfl (pi_U (BaZ.m0 hr ⋯ passF (pv 0))) (Jaq 3 JcA.nd) (Jag (Jbi (pe_bm PySem.F.plainAttrs_list PySem.F.slot_list_extend PySem.F.type_list_extend Jgm (pv 1) %[Jbd %[!3,!3|0]|0])))) (Jag (Jap (Bdv.ev hr ⋯ rfl passF %[pv 1|0])))))),?_)
 let(ht,h7,h6,b7,b1,a8,k):=h;let(dx,d1,d2,d3,k1,k2,k3,hx,_):=id ht;have sl:(1000:Nat)<=sizeLine:=by decide
 show tSeq _ _ _ [some (.ref x),none,none,none] H;cbv;show(len0,?_);rename_i r J b6 H H1 S1 e1;cbv;cbv;show(x,_,dx,_,rfl,S1 _ _ hx,rfl,rfl,x,ls,gs,rfl,ht.same S1,by ac_nf,λl ys H2 S2 a5 e2 hY=>?_);have lY:=hY.length;have b4:l≠r:=λz=>by rw[z,e1]at a5;cases a5
 cbv;show(l,rfl,ForA.byL (xs:=ys) (SqL.of e2) (λi σ B=>i<=ys.length/\∃(M L:Option V)(j:List V)(e:List Fr2),σ=[some (.ref x),some (.ref r),M,L]/\(∀ c u,c≠r->H2 c=some u->B c=some u)/\SameT H2 B/\B r=some (.lst j)/\All2 (FLV K B) e j/\(∀ n∈e,1<=n.2/\Mth.Sz 70 n.2)/\e.length=2*i) ⟨Nat.zero_le _,none,none,[],[],rfl,λ_ _ _ h=>h,(Same.refl _).t,S2 _ _ e1,rfl,(λn d=>by cases d),rfl⟩ (λi σ B q=>by let(_,_,_,_,_,_,q,_):=q;show SqL.of (q _ _ b4 e2)) ?_ ?_)
 .intro i y σ H3 U z_;let(hi,M,L,j,e,rfl,ho,Y,o,v,a,ln):=z_;have li:=(List.getElem?_eq_some_iff.mp U).1;have la:=v.length;let(p,hp,b,vz,vm,rfl,hb,hz,hm):=hY.at_ U;have a1:=b1 p (List.mem_of_getElem? hp);have a0:=hb.sameT Y;cbv;show(.inl ⟨rfl,_,SqL.of o⟩,?_);show ixT (i:=3) a0 rfl ?_;show ixT (i:=4) a0 rfl ?_;cbv;show(len2,?_);rename_i tl a4 Z H3 H4 N e4;cbv;show(r,tl,j,_,rfl,rfl,N _ _ o,e4,by simp only[length_cons,length_nil];ac_nf,?_);generalize u5:upd H4 r _=D;cbv;have e5:=putE u5;have T5:SameT H4 D:=SameT.put u5 (N _ _ o) rfl;have G:SameT H3 D:=N.t.trans T5;cbv;show(li,_,_,j++[vz,vm],e++[p.sz,p.mo],rfl,λc u X h=>by rw[<- u5,Jah X];show N _ _ (ho c u X h),Y.trans G,e5,(v.mono (P':=FLV K D) λ_ _ z=>z.sameT G).append ⟨vz,_,rfl,FrV.sameT (Y.trans G) hz,vm,_,rfl,FrV.sameT (Y.trans G) hm,rfl⟩,λn d=>?_,by simp;ac_nf);rcases mem_append.mp d with d | d
  .show a n d
  .rcases mem_cons.mp d with rfl | d
   .show a1.1
   .rw[mem_singleton.mp d];show a1.2
 .intro σ H3 z_;let(hi,M,L,j,e,rfl,ho,Y,o,v,a,ln):=z_;have O:Same H H3:=λc u h=>ho c u (Jai h J) (S2 _ _ (S1 _ _ h));cbv;show(x,_,dx,_,rfl,O _ _ hx,rfl,rfl,x,ls,gs,rfl,ht.same O,by ac_nf,λm zs H4 N a3 e4 hZ=>?_);have lZ:=hZ.length;have b0:m≠r:=λz=>by rw[z,o]at a3;cases a3
  have la:=v.length;cbv;show(m,rfl,ForA.byL (xs:=zs) (SqL.of e4) (λi σ B=>i<=zs.length/\∃(M L:Option V)(j:List V)(e:List Fr2),σ=[some (.ref x),some (.ref r),M,L]/\(∀ c u,c≠r->H4 c=some u->B c=some u)/\SameT H4 B/\B r=some (.lst j)/\All2 (FLV K B) e j/\(∀ n∈e,1<=n.2/\Mth.Sz 70 n.2)/\e.length<=2*ls.length+2*i) ⟨Nat.zero_le _,M,L,j,e,rfl,λ_ _ _ h=>h,(Same.refl _).t,N _ _ o,v.mono (λ_ _ z=>z.sameT N.t),a,by ac_nf⟩ (λi σ B q=>by let(_,_,_,_,_,_,q,_):=q;show SqL.of (q _ _ b0 e4)) ?_ ?_)
  .clear v a ln o la;intro i y σ D U z_;let(hi,M,L,j,e,rfl,R,C,o,v,a,ln):=z_;have li:=(List.getElem?_eq_some_iff.mp U).1;have la:=v.length;let(g,hg,b,vz,vm,rfl,hb,hz,hm):=hZ.at_ U;have a2:=a8 g (List.mem_of_getElem? hg);have W:=hb.sameT C;cbv;show(.inl ⟨rfl,_,SqL.of o⟩,?_);show ixT (i:=3) W rfl ?_;show ixT (i:=4) W rfl ?_;cbv;show(len2,?_);rename_i tl a4 Z D H6 S6 e6;cbv;show(r,tl,j,_,rfl,rfl,S6 _ _ o,e6,by simp only[length_cons,length_nil];ac_nf,?_);generalize u7:upd H6 r _=H7;cbv;have e7:=putE u7;have T7:SameT H6 H7:=SameT.put u7 (S6 _ _ o) rfl;have I:SameT D H7:=S6.t.trans T7;cbv;show(li,_,_,j++[vz,vm],e++[g.lo,g.hi],rfl,λc u X h=>by rw[<- u7,Jah X];show S6 _ _ (R c u X h),C.trans I,e7,(v.mono (P':=FLV K H7) λ_ _ z=>z.sameT I).append ⟨vz,_,rfl,FrV.sameT (C.trans I) hz,vm,_,rfl,FrV.sameT (C.trans I) hm,rfl⟩,λn d=>?_,by simp;ac_nf);rcases mem_append.mp d with d | d
   .show a n d
   .rcases mem_cons.mp d with rfl | d
    .show a2.1
    .rw[mem_singleton.mp d];show a2.2
  .clear v a ln o la;intro σ D z_;let(hi,M,L,j,e,rfl,R,C,o,v,a,ln):=z_;have S:Same H D:=λc u h=>R c u (Jai h J) (N _ _ (O _ _ h));cbv;intro s ds hs a6 b5;have Sm:Same D (upd (upd D ds (.own s)) s (.ins Ad.Scale ds [])):=λb u q=>by rw[Jah (Jai q hs),Jah (Jai q a6)];show q
   show(s,ds,r,j,e,rfl,Jak,Sm _ _ o,v.mono (λ_ _ z=>z.sameT Sm.t),by ac_nf,a,λb fs fl H6 h1 h2 h3 h4 a9 b3 b2=>⟨rfl,k s b fs H6 (λc u h=>?_) ⟨ds,fl,h1,h3,a9,b3,b2⟩⟩);show h4 c u (Jai (S _ _ h) hs) (Sm _ _ (S _ _ h))
abbrev BaO:Stmt:=top 33
theorem JfR:Jan ["thing","gap_name"] ["thing","gap_name"] (Jaf BaO):=by bv_decide
def Jb1(K:W.Frag)(Ad:Adr):Sp:=λvs H Q E=>∃(x:Addr)(ls:List PD)(gs:List GD)(g:GD),vs=[.ref x, .str g.nm]/\TK K Ad H x ls gs/\(ls.map (·.nm)).Nodup/\ls.length<=12/\g∈gs/\(∀ u∈gs,u.nm=g.nm->u=g)/\∀ l (w:List Pr) H',Same H H'->H' l=some (.lst ((w.map (·.1)).map V.str))->JaL ls g.st w g.en->(w.map (·.1)).Nodup->Q (.ref l) H'
theorem JfE(F:"part_names"∘BaO)(T:Txt K mg Ad)(BcS:1∘"way"∘(JaH Ad)∘["self","name"]∘(JbQ K Ad)):2∘["thing","gap_name"]∘(Jb1 K Ad):=by
 show F.okn JfR (by subst_eqs) (λa0 A o s H vs Q E I h=>?_)
 let(x,j,C,g,rfl,h):=h;show(_,(Jag (Jap (Jfb (Jcy (own:=["name","forward"]) (cs:=[]) rfl (pi_U (BcS.m I ⋯ passF (pv 0) %[pv 1|0])) (λ_ _ _ _=>(Jl3 (K:=K) (n:=2) rfl rfl (Jbo (Jaq 0 (show[("name" : Str),("forward" : Str)].Nodup by decide) (hf:=Or.inr rfl)) (Jbo (Jaq 1 (show[("name" : Str),("forward" : Str)].Nodup by decide) (hf:=Or.inr rfl)) JdO)))) (λ_ _ _ _=>JcY) (λ_ _ _ _=>(pv 0)) (JcQ rfl) ⋯ rfl ⋯ hcs0)))),?_);let(D,O,h8,hg,u,k):=h;let(U,d1,d2,d3,k1,k2,k3,S,_):=id D;have sl:(1000:Nat)<=sizeLine:=by decide
 show tRet _ _ [some (.ref x),some (.str g.nm)] H;cbv;show(x,_,U,_,rfl,S,rfl,rfl,x,g.nm,j,C,rfl,D,λz=>absurd (mem_map.mpr ⟨g,hg,rfl⟩) z,λX q W l xs w M S1 a2 v a G c=>?_);have e:=u X q W;subst e;have lx:=a.length;have lw:w.length<=12:=by
  have:=sub_len (w.map (·.1)) (j.map (·.nm)) c λn R=>Jc8 (JfH G) n R;rw[length_map,length_map]at this;ac_nf
 cbv;show(l,rfl, .inl ⟨⟨xs,SqL.of v⟩,CompJ.list (xs:=xs) (λi B d=>d=M/\B=((w.take i).map (·.1)).map V.str) ⟨rfl,rfl⟩ (λi B d hi z=>⟨by rw[z.1];show SqL.of v,by rw[z.2,length_map,length_map,length_take];ac_nf⟩) ?_ ?_⟩)
 .rintro i y t d Z ⟨rfl,rfl⟩;let(pr,p,b,rfl,hb):=a.at_ Z;simpa only[length_singleton,length_cons,length_nil,List.replicate,JaM,map_cons,map_nil,Option.join_some];show(b,_,rfl,SqT.of hb,rfl,?_);cbv;rw[take_succ,p];simp
 .rintro t d ⟨rfl,rfl⟩;rw[take_of_length_le ∅];rename_i r J a1 d N Y L;cbv;show k r w N (S1.trans Y) L G c
abbrev Bay:Stmt:=inClass (top 34) 0
theorem JeE:Jan ["self","name","rest","weights"] ["self","name","rest","weights"] (Jaf Bay):=by bv_decide
def Jb8(K:W.Frag)(Ad:Adr):Sp:=λvs H Q E=>∃(x dx wd:Addr)(nm:Str)(vr:V)(ws:List (Str × Int)),vs=[.ref x, .str nm,vr, .ref wd]/\H x=some (.ins Ad.Lid dx [])/\H wd=some (.dK (wsK ws))/\∀ H',H' x=some (.ins Ad.Lid dx [("name", .str nm),("rest",vr),("weights", .ref wd),("load", .int (ws.map (·.2)).sum),("last_level", .ref Ad.ZERO)])->(∀ b,b≠x->H' b=H b)->Q .non H'
theorem Jes(F:"__init__"∘"Lid.__init__"∘Bay)(T:Txt K mg Ad)  : 1∘["self","name","rest","weights"]∘(Jb8 K Ad):=by
 show F.okn JeE (by subst_eqs) (λO A o s H W Q E X h=>?_)
 let(x,c,e,g,j,i,rfl,h):=h;show(_,(Jab (Ja8 (pv 0) (pv 1) rfl) (Jab (Ja8 (pv 0) (pv 2) rfl) (Jab (Ja8 (pv 0) (pv 3) rfl) (Jab (Ja8 (pv 0) (Jl2 rfl rfl rfl T.n_sum Jmx (pv 3)) rfl) (Jag (Ja8 (pv 0) (Jbh (v:=.ref _) rfl T.Bcn T.Bco) rfl)))))),?_)
 let(D,r,k):=h;have d:=T.c_Lid Ad.Lid rfl;have q:e≠x:=λz=>by rw[z,D]at r;cases r
 show tSeq _ _ _ [some (.ref x),some (.str g),some j,some (.ref e)] H;mexact;show(x,_,c,_,rfl,D,d.cls,d.n1,by simp,?_);generalize u:upd H x _=m;mexact;have U:m x=some (.ins Ad.Lid c [("name", .str g)]):=by rw[<- u];show Jak.trans rfl
 have V:∀ b,b≠x->m b=H b:=λb a=>by rw[<- u,Jah a]
 mexact;show(x,_,c,_,rfl,U,d.cls,d.n2,by simp,?_);generalize C:upd m x _=n;mexact;have L:n x=some (.ins Ad.Lid c [("name", .str g),("rest",j)]):=by rw[<- C];show Jak.trans rfl
 have M:∀ b,b≠x->n b=H b:=λb a=>by rw[<- C,Jah a];show V b a
 mexact;show(x,_,c,_,rfl,L,d.cls,d.n3,by simp,?_);generalize y:upd n x _=p;mexact;have R:p x=some (.ins Ad.Lid c [("name", .str g),("rest",j),("weights", .ref e)]):=by rw[<- y];show Jak.trans rfl
 have B:∀ b,b≠x->p b=H b:=λb a=>by rw[<- y,Jah a];show M b a
 mexact;show(e,wsK i,i.map (·.2),rfl,by rw[B e q];show r,JkF i,?_);mexact;show(x,_,c,_,rfl,R,d.cls,d.n4,by simp,?_);generalize G:upd p x _=l;mexact;have S:l x=some (.ins Ad.Lid c [("name", .str g),("rest",j),("weights", .ref e),("load", .int (i.map (·.2)).sum)]):=by rw[<- G];show Jak.trans rfl
 have N:∀ b,b≠x->l b=H b:=λb a=>by rw[<- G,Jah a];show B b a
 mexact;show(x,_,c,_,rfl,S,d.cls,d.n5,by simp,?_);generalize I:upd l x _=t;mexact;have J:t x=some (.ins Ad.Lid c [("name", .str g),("rest",j),("weights", .ref e),("load", .int (i.map (·.2)).sum),("last_level", .ref Ad.ZERO)]):=by rw[<- I];show Jak.trans rfl
 show k t J λb a=>by rw[<- I,Jah a];show N b a
abbrev Bap:Stmt:=inClass (top 34) 1
theorem JdP:Jan ["self"] ["self"] (Jaf Bap):=by bv_decide
def JbF(K:W.Frag)(Ad:Adr):Sp:=λvs H Q E=>∃(q:Addr)(e:LidD),vs=[.ref q]/\LDV K Ad H e (.ref q)/\FB 3000 1000 e.rest/\1<=e.load/\Mth.Sz 64 e.load/\∀ p H',Same H H'->H' p=some (.tup [.int (divF e.rest (e.load,1)).1, .int (divF e.rest (e.load,1)).2])->Q (.ref p) H'
theorem JdJ(F:"full_level"∘"Lid.full_level"∘Bap)(T:Txt K mg Ad)(BcW:3∘"over"∘["one","other"]∘(JfX K Ad)):4∘["self"]∘(JbF K Ad):=by
 show F.okn JdP (by subst_eqs) (λy A d s H C Q E c h=>?_)
 let(q,e,rfl,h):=h;show(_,(Jag (Jap (BcW.ev c ⋯ rfl passF %[Jar (pv 0) rfl,JaF %[Jar (pv 0) rfl,Jad|0]|0]))),?_);let((L,j,i,J,O,n,m,c,N,M),b,G,v,k):=h;cases n;have a:=T.c_Lid Ad.Lid rfl;show tRet _ _ [some (.ref q)] H;mleave;show(q,_,j,_,i,rfl,m,a.cls,a.n2,rfl,?_);show(q,_,j,_, .int e.load,rfl,m,a.cls,a.n4,rfl,?_);mleave;show(len2,?_);rename_i p u D H I l B;mleave;show(i, .ref p,_,_,e.load,1,rfl,c.same l,FrV.of B,b.s1.mono ⋯,b.s2.mono ⋯,v.mono ⋯, .lit ⋯ ⋯,b.b1,by decide,b.g1,by unfold Mth.g;simp,λz=>absurd z ∅,λ_ t r x o=>?_);show k t r (l.trans x) o
abbrev BaP:Stmt:=inClass (top 34) 2
theorem JdA:Jan ["self","part","level","weight"] ["self","part","level"] (Jaf BaP):=by bv_decide
def JcB(K:W.Frag)(Ad:Adr):Sp:=λvs H Q E=>∃(q:Addr)(n:Str)(lv:V)(e:LidD)(L:Fr2),vs=[.ref q, .str n,lv]/\LDV K Ad H e (.ref q)/\FrV K H lv L.1 L.2/\FB 3000 1000 e.rest/\FB 3000 1000 L/\(∀ x∈e.ws,Mth.Sz 64 x.2)/\∀ H',(∀ b u,b≠q->H b=some u->H' b=some u)->LDV K Ad H' (e.settle n L) (.ref q)->(∀ d kv,H d=some (.dK kv)->LDV K Ad (cut d H) e (.ref q)->LDV K Ad (cut d H') (e.settle n L) (.ref q))->Q .non H'
theorem Jfu(F:"settle"∘"Lid.settle"∘BaP)(T:Txt K mg Ad)(BaY:3∘"minus"∘["one","other"]∘(Jc9 K))(Bbu:2∘"times"∘["one","other"]∘(JdC K)):4∘["self","part","level"]∘(JcB K Ad):=by
 show F.okn JdA (by subst_eqs) (λb4 A a0 s H vs Q E R h=>?_)
 let(q,n,G,e,L,rfl,h):=h;have hu:=R.units;show(_,(Jag (ps_if (JeB (JhO (hu1 hu) (pv 1) (Jar (pv 0) rfl)) (by with_unfolding_all rfl)) (Jab (Jaj 3 JdA.nd (Ja9 (hu1 hu) (Jar (pv 0) rfl) (pv 1) (λ_ _=>rfl))) (Jab (Ja8 (pv 0) (BaY.ev R ⋯ rfl passF %[Jar (pv 0) rfl,Bbu.ev R ⋯ rfl passF %[pv 2,JaF %[pv 3,Jad|0]|0]|0]) rfl) (Jab (Ja8 (pv 0) (pe_op Jey (Jar (pv 0) rfl) (pv 3)) rfl) (Jag (Ja8 (pv 0) (pv 2) rfl)))))
   Jav)),?_)
 clear hu;let(hd,hl,fr,r,a3,k):=h;let(q',l,vr,vt,m,hv,v,R,ht,M):=id hd;cases hv;have j:=T.c_Lid Ad.Lid rfl;have I:m≠q:=λz=>by rw[z,v]at M;cases M
 have gw:=DGet.k (k:=Sum.inr n) M;rw[Jhr]at gw;show tIfS _ _ _ _ [some (.ref q),some (.str n),some G,none] H;try simpa only[y4ey,y88y]
 show(q,_,l,_, .ref m,rfl,v,j.cls,j.n3,rfl,?_);show(m,_,rfl,gw,?_);cases hwt:wtOf e.ws n with
 | none=>
  rw[show((none:Option Int).map V.int).isSome=false from rfl];try simpa only[y4ey,y88y]
  have O:e.settle n L=e:=by unfold LidD.settle;rw[hwt]
  show k H (λb u _ h=>h) (by rw[O];show hd) (λd kv _ h=>by rw[O];show h)
 | some w=>
  rw[hwt]at gw;have O:e.settle n L={ e with rest:=subF e.rest (mulF L (w,1)),load:=e.load-w,last:=L }:=by unfold LidD.settle;rw[hwt]
  have sw:=a3 _ (Jj0 hwt);rw[show((some w).map V.int).isSome=true from rfl];try simpa only[y4ey,y88y]
  show(q,_,l,_, .ref m,rfl,v,j.cls,j.n3,rfl,?_);show(m, .int w,rfl,gw,?_);try simpa only[y4ey,y88y]
  show(q,_,l,_,vr,rfl,v,j.cls,j.n2,rfl,?_);try simpa only[y4ey,y88y]
  show(len2,?_);rename_i p b0 a8 H H1 S1 e1;mvcgen;show(G, .ref p,_,_,w,1,rfl,hl.same S1,FrV.of e1,r.s1.mono ⋯,r.s2.mono ⋯,sw.mono ⋯, .lit ⋯ ⋯,r.b1,by decide,r.g1,by unfold Mth.g;simp,λp2 H2 S2 e2=>?_);have N:=S1.trans S2;have ml:=Jfs (a:=L) (c:=(w,1)) r.b1 (Int.le_refl 1);have a1:Mth.Sz 4000 (mulF L (w,1)).1:=(Mth.Sz.top (by have:=r.b1;show L.2*1≠0;ac_nf) (r.s1.mul sw)).mono ⋯;have a5:Mth.Sz 4000 (mulF L (w,1)).2:=(Mth.Sz.bot (t:=L.1*w) (b:=L.2*1) (by have:=r.b1;ac_nf) (by rw[Int.mul_one];show r.s2)).mono ⋯;have e2:H2 p2=some (.tup [.int (mulF L (w,1)).1, .int (mulF L (w,1)).2]):=e2;try simpa only[y4ey,y88y]
  show(vr, .ref p2,_,_,_,_,rfl,R.same N,FrV.of e2,fr.s1.mono ⋯,fr.s2.mono ⋯,a1,a5,fr.b1,ml.b1,fr.g1,ml.g1,λY H3 S3 e3=>?_);have B:=N.trans S3;have J:=B _ _ v;try simpa only[y4ey,y88y]
  show(q,_,l,_,rfl,J,j.cls,j.n2,by simp,?_);generalize u4:upd H3 q _=U;mvcgen;have e4:U q=some (.ins Ad.Lid l [("name", .str e.nm),("rest", .ref Y),("weights", .ref m),("load", .int e.load),("last_level",vt)]):=by rw[<- u4];show Jak.trans rfl
  have o4:∀ b u,b≠q->H b=some u->U b=some u:=λb u S h=>by rw[<- u4,Jah S];show B _ _ h
  have T4:SameT H3 U:=SameT.put u4 J rfl;try simpa only[y4ey,y88y]
  show(q,_,l,_, .int e.load,rfl,e4,j.cls,j.n4,rfl,?_);try simpa only[y4ey,y88y]
  show(q,_,l,_,rfl,e4,j.cls,j.n4,by simp,?_);generalize u5:upd U q _=H5;mvcgen;have e5:H5 q=some (.ins Ad.Lid l [("name", .str e.nm),("rest", .ref Y),("weights", .ref m),("load", .int (e.load-w)),("last_level",vt)]):=by rw[<- u5];show Jak.trans rfl
  have T5:SameT U H5:=SameT.put u5 e4 rfl;try simpa only[y4ey,y88y]
  show(q,_,l,_,rfl,e5,j.cls,j.n5,by simp,?_);generalize u6:upd H5 q _=D;mvcgen;have e6:D q=some (.ins Ad.Lid l [("name", .str e.nm),("rest", .ref Y),("weights", .ref m),("load", .int (e.load-w)),("last_level",G)]):=by rw[<- u6];show Jak.trans rfl
  have T6:SameT H5 D:=SameT.put u6 e5 rfl;have W:=T4.trans (T5.trans T6);have Z:∀ b u,b≠q->H b=some u->D b=some u:=λb u S h=>by rw[<- u6,Jah S, <- u5,Jah S];show o4 b u S h
  have f3:=FrV.of (K:=K) (W _ _ rfl e3);have fl:=(hl.same B).sameT W;show k D Z ?_ λd b3 X a4=>?_
  .rw[O];show(q,l, .ref Y,G,m,rfl,e6,f3,fl,Z _ _ I M)
  .let(q',a7,b2,a9,a2,y,x,_,_,o):=a4;have y:q=q':=by injection y
   subst y;have C:q≠d:=λz=>by rw[z,X]at v;cases v
   rw[JbX C,v]at x;simp only[Option.some.injEq,HO.ins.injEq,List.cons.injEq,Prod.mk.injEq,V.ref.injEq,true_and,and_true]at x;have ew:m=a2:=x.2.2.1;subst ew;have a6:m≠d:=λz=>by
    rw[z]at o;unfold cut at o;rw[if_pos rfl]at o;cases o
   have Tc:SameT D (cut d D):=SameT.cutO (Z _ _ C.symm X) rfl;rw[O];show(q,l, .ref Y,G,m,rfl,by rw[JbX C];show e6,f3.sameT Tc,fl.sameT Tc,by rw[JbX a6];show Z _ _ I M)
abbrev Bak:Stmt:=inClass (top 34) 3
theorem Jdz:Jan ["self","part","level"] ["self","part","level"] (Jaf Bak):=by bv_decide
def Jby(K:W.Frag)(Ad:Adr):Sp:=λvs H Q E=>∃(q:Addr)(n:Str)(lv:V)(e:LidD)(L:Fr2),vs=[.ref q, .str n,lv]/\LDV K Ad H e (.ref q)/\FrV K H lv L.1 L.2/\Q (.bl ((wtOf e.ws n).isSome&&(decide (e.rest=(0,1))&&decide (e.last=L)))) H
theorem Jds(F:"has_stopped"∘"Lid.has_stopped"∘Bak)(T:Txt K mg Ad)  : 1∘["self","part","level"]∘(Jby K Ad):=by
 show F.okn Jdz (by subst_eqs) (λt A d s H z Q E c h=>?_)
 let(q,n,j,e,L,rfl,h):=h;have b:=c.units;show(_,(Jag (Jap (JcV (Jm5 (JhO (hu1 b) (pv 1) (Jar (pv 0) rfl)) (by with_unfolding_all rfl)) (JcV (JbR (JcR b) (Jar (pv 0) rfl) (Jbh (v:=.ref _) rfl T.Bcn T.Bco) (Jay _)) (Jdv (JbR (JcR b) (Jar (pv 0) rfl) (pv 2) (Jay _))))))),?_);clear b;let((D,g,r,u,m,o,i,c,C,B),x,k):=h;cases o;have a:=T.c_Lid Ad.Lid rfl;have l:=DGet.k (k:=Sum.inr n) B;rw[Jhr]at l;have y:decide (e.rest=(0,1))=(decide (e.rest.1=0)&&decide (e.rest.2=1)):=by
  rw[<- Bool.decide_and];show decide_eq_decide.mpr Prod.ext_iff
 have p:decide (e.last=L)=(decide (e.last.1=L.1)&&decide (e.last.2=L.2)):=by
  rw[<- Bool.decide_and];show decide_eq_decide.mpr Prod.ext_iff
 rw[y,p]at k;show tRet _ _ [some (.ref q),some (.str n),some j] H;mleave;show(q,_,g,_, .ref m,rfl,i,a.cls,a.n3,rfl,?_);show(m,_,rfl,l,?_);rw[show((wtOf e.ws n).map V.int).isSome=(wtOf e.ws n).isSome by cases wtOf e.ws n <;> rfl];cases c1:(wtOf e.ws n).isSome with
 | false=>
  rw[c1]at k;mleave;show k
 | true=>
  rw[c1]at k;mleave;show(q,_,g,_,r,rfl,i,a.cls,a.n2,rfl,?_);show eqF c ⟨Ad.ZERO,rfl,T.Bcp _⟩ ?_;cases c2:(decide (e.rest.1=0)&&decide (e.rest.2=1))with
  | false=>
   rw[c2]at k;mleave;show k
  | true=>
   rw[c2]at k;mleave;show(q,_,g,_,u,rfl,i,a.cls,a.n5,rfl,?_);show eqF C x ?_;show k
abbrev Baq:Stmt:=inClass (top 9) 0
theorem JdQ:Jan ["self","words","tight_gap"] ["self","words","tight_gap"] (Jaf Baq):=by bv_decide
def JbH(K:W.Frag)(Ad:Adr):Sp:=λvs H Q E=>∃(e:Addr)(w z:Str)(S f:Addr),vs=[.ref e, .str w, .str z]/\H e=some (ExcN e Ad.Tight none)/\ExcI K Ad.Tight S f/\∀(dx:Addr)(H':Hp),(∀ b u,b≠e->H b=some u->H' b=some u)->H dx=none->dx≠e->H' e=some (ExcN e Ad.Tight (some dx))->H' dx=some (.xd [("tight_gap", .str z)])->Q .non H'
theorem JdM(F:"__init__"∘"Tight.__init__"∘Baq)(T:Txt K mg Ad)  : 1∘["self","words","tight_gap"]∘(JbH K Ad):=by
 show F.okn JdQ (by subst_eqs) (λm A g s H o Q E p h=>?_)
 let(e,w,z,S,f,rfl,h):=h;show(_,(Jab (Jbi (Jkk T.slk rfl T.m_SlackError %[pv 0,pv 1|0])) (Jag (Jl6 (pv 0) (pv 2) rfl))),?_)
 let(i,j,k):=h;show tSeq _ _ _ [some (.ref e),some (.str w),some (.str z)] H;cbv;show(e,_,_,_,_,_,rfl,by show 1<=sizeLine;decide,i,j,?_);rw[show upd H e (ExcN e Ad.Tight none)=H from funext λb=>by
  by_cases c:b=e
  .rw[c,Jak,i]
  .rw[Jah c]]
 mframe;show(e,_,S,f,rfl,i,j,T.xa,λl a d=>?_);show k l _ (λb u n h=>by rw[Jah (Jai h a),Jah n];show h) a d (by rw[Jah (Ne.symm d),Jak]) Jak
abbrev BbF:Stmt:=top 35
theorem JbE:Jan ["thing","scale","weights","part","lids","gap","room","on_way"] ["thing","scale"] (Jaf BbF):=by bv_decide
def JdS(K:W.Frag)(Ad:Adr):Sp:=λvs H Q E=>∃(x sc:Addr)(ls:List PD)(es:List (GD × List Str))(pl:Str->Fr2)(b:Int)(fs:List Int),vs=[.ref x, .ref sc]/\TK K Ad H x ls (es.map (·.1))/\SCK Ad H sc b fs/\SHC ls es pl/\((∀ e∈es,0<=vl (roomF pl e.1))->∀ ll xs lds H',Same H H'->H ll=none->H' ll=some (.lst xs)->All2 (LDV K Ad H') lds xs->xs.Nodup->(∀ v∈xs, ∃ q,v=.ref q/\H q=none)->lds.length=es.length->(∀(i:Nat) e l,es[i]?=some e->lds[i]?=some l->LSt b ls pl e l)->Q (.ref ll) H')/\∀(i:Nat)(e:GD × List Str),es[i]?=some e->vl (roomF pl e.1)<0->(∀ e'∈es.take i,0<=vl (roomF pl e'.1))->∀(dx:Addr)(H':Hp),Same H H'->H dx=none->H' dx=some (.xd [("tight_gap", .str e.1.nm)])->E (.ref Ad.Tight) (some dx) H'
theorem Jih(F:"lids_of"∘BbF)(T:Txt K mg Ad)(Bae:2∘"parts"∘(JaH Ad)∘["self"]∘(JaC K Ad))(BaZ:2∘"gaps"∘(JaH Ad)∘["self"]∘(Ja0 K Ad))(Bb7:5∘"room"∘(JaH Ad)∘["self","name"]∘(JbA K Ad))(Bah:1∘"under"∘["one","other"]∘(JbO K))(BaQ:2∘"part_names"∘["thing","gap_name"]∘(Jb1 K Ad))(k_Lid:KCal P w K mg base 1 "Lid" Ad.Lid ["self","name","rest","weights"] (Jb8 K Ad))(Ba7:2∘"lifted"∘(Jdb Ad)∘["self","number"]∘(Jbk K Ad))(k_Tight:XCal P w K mg base 1 "Tight" Ad.Tight Ad.SlackError ["self","words","tight_gap"] (JbH K Ad)):7∘["thing","scale"]∘(JdS K Ad):=by
 show F.okx JbE (λvs H Q E h=>?_) (λk9 A g8 s H vs Q E hr h=>?_)
 .let(x,sc,ls,es,pl,b,fs,rfl,_):=h;rfl
 let(x,sc,ls,es,pl,b,fs,rfl,h):=h;have hu:=hr.units;show(_,(Jab (Jaj 2 JbE.nd Jbt rfl (Or.inr rfl)) (Jab (JaV PassesOwn.leaving rfl (pi_U (Bae.m0 hr ⋯ pass1 (pv 0))) (Jaq 3 JbE.nd) (Jag (JbC (hu1 hu) (pv 2) (!3) (!3) rfl))) (Jab (Jaj 4 JbE.nd (Jbd Jac)) (Jab (JaV PassesOwn.leaving rfl (pi_U (BaZ.m0 hr ⋯ pass1 (pv 0))) (Jaq 5 JbE.nd) (Jab (Jaj 6 JbE.nd (Bb7.m hr ⋯ pass1 (pv 0) %[!5|0])) (Jab (ps_if (Jbc (Bah.ev hr ⋯ rfl pass1 %[pv 6,Jbh (v:=.ref _) rfl T.Bcn T.Bco|0])) (Jag (Jjn (k_Tight.ev hr ⋯ rfl pass1 %[Jbe,!5|0])))
   Jav) (Jab (Jaj 7 JbE.nd (Jdu (Jh4 rfl) rfl T.n_dict Jln %[Jfb (Jcy (own:=["name"]) (cs:=[(2,"weights")]) rfl (pi_U (BaQ.ev hr ⋯ rfl pass1 %[pv 0,!5|0])) (λ_ _ _ _=>(Jaq 0 (show[("name" : Str),("weights" : Str)].Nodup by decide))) (λ_ _ _ _=>JcY) (λ_ _ _ _=>(JaF %[pv 0,Ja9 (hu1 hu) (pv 1) (pv 0) (λ_ _=>rfl)|0])) (JcQ rfl) ⋯ rfl ⋯ (hcs1 rfl rfl rfl))|0])) (Jag (Jbi (pe_bm PySem.F.plainAttrs_list PySem.F.slot_list_append PySem.F.type_list_append Jbb (pv 4) %[k_Lid.ev hr ⋯ rfl pass1 %[!5,Ba7.m hr ⋯ pass1 (pv 1) %[pv 6|0],pv 7|0]|0] (hs:=by show Jae rfl)))))))) (Jag (Jap (pv 4))))))),?_)
 clear hu;let(ht,e7,N,k,kT):=h;let(dx,d1,d2,d3,k1,k2,k3,hx,_):=id ht;let(i2,fl,d5,_,j9,sb,_):=id e7;have sl:(1000:Nat)<=sizeLine:=by decide
 have k7:=N.l12;have l7:=N.l7;show tSeq _ _ _ [some (.ref x),some (.ref sc),none,none,none,none,none,none] H;cbv;rename_i wd f5 j3 H H1 S1 e1;cbv;show(x,_,dx,_,rfl,S1 _ _ hx,rfl,rfl,x,ls,_,rfl,ht.same S1,by ac_nf,λl ys H2 S2 g4 e2 hY=>?_);have lY:=hY.length;have i9:l≠wd:=λz=>by rw[z,e1]at g4;cases g4
 have h6:=S1.trans S2;cbv;show(l,rfl,ForA.byLN (xs:=ys) (SqL.of e2) (λi σ M=>i<=ys.length/\∃(v3:Option V)(kv:List (Key × V)),σ=[some (.ref x),some (.ref sc),some (.ref wd),v3,none,none,none,none]/\(∀ c u,c≠wd->H2 c=some u->M c=some u)/\SameT H2 M/\M wd=some (.dK kv)/\BG (·.nm) (λp v=>v=.int p.wt) (ls.take i) kv) ⟨Nat.zero_le _,none,[],rfl,λ_ _ _ h=>h,SameT.refl _,S2 _ _ e1,⟨rfl,rfl⟩⟩ (λi σ M q=>by let(_,_,_,_,q,_):=q;show SqL.of (q _ _ i9 e2)) ?_ ?_)
 .intro i y σ H3 R z_ N0 b8;let(hi,v3,kv,rfl,ho,hT,X,hB):=z_;have li:=(List.getElem?_eq_some_iff.mp R).1;let(p,hp,b_,vz,vm,rfl,hb,_,_):=hY.at_ R;have lB:=hB.length;rw[length_take]at lB;have f0:=hb.sameT hT;cbv;show ixT (i:=5) f0 rfl ?_;cbv;show ixT (i:=0) f0 rfl ?_;show(wd,_,rfl,DPut.k (k:=Sum.inr p.nm) X ∅,?_);generalize u4:upd H3 wd _=H4;cbv;have e4:=putE u4;have T4:SameT H3 H4:=SameT.put u4 X rfl;show b8 _ _ ⟨li,_,_,rfl,λc u a0 h=>by rw[<- u4,Jah a0];show ho c u a0 h,hT.trans T4,e4,?_⟩;rw[take_succ,hp];show hB.new (a:=p) (JgX N.nd hp) rfl
 .intro σ H3 z_;let(hi,v3,kv,rfl,ho,hT,X,hB):=z_;rw[take_of_length_le ∅]at hB;have f1:Same H H3:=λc u h=>ho c u (Jai h f5) (h6 _ _ h);cbv;show(len0,?_);rename_i G a1 j5 H3 H4 S4 e4;cbv;have c6:=f1.trans S4;have Y:H G=none:=Jch f1 a1;show(x,_,dx,_,rfl,c6 _ _ hx,rfl,rfl,x,ls,_,rfl,ht.same c6,by rw[length_map];ac_nf,λm zs H5 S5 f6 e5 hZ=>?_);have lZ:=hZ.length;rw[length_map]at lZ;have g6:m≠G:=λz=>by rw[z,e4]at f6;cases f6
  have d0:=c6.trans S5;have f7:=S5 _ _ (S4 _ _ X);cbv;show(m,rfl,ForA.byLN (xs:=zs) (SqL.of e5) (λi σ M=>i<=zs.length/\(∀ e∈es.take i,0<=vl (roomF pl e.1))/\∃(v5 v6 v7:Option V)(xs:List V)(L:List LidD),σ=[some (.ref x),some (.ref sc),some (.ref wd),v3,some (.ref G),v5,v6,v7]/\(∀ c u,c≠G->H5 c=some u->M c=some u)/\M G=some (.lst xs)/\All2 (LDV K Ad (cut G M)) L xs/\xs.Nodup/\(∀ v∈xs, ∃ q,v=.ref q/\H q=none/\M q≠none)/\L.length=i/\∀(j:Nat) e l,es[j]?=some e->L[j]?=some l->LSt b ls pl e l) ⟨Nat.zero_le _,(λe he=>by simp at he),none,none,none,[],[],rfl,λ_ _ _ h=>h,S5 _ _ e4,rfl, .nil,(λv hv=>by cases hv),rfl,λj e l _ h=>by simp at h⟩ (λi σ M q=>by let(_,_,_,_,_,_,_,_,q,_):=q;show SqL.of (q _ _ g6 e5)) ?_ ?_)
  .intro i y σ H6 R z_ N0 b8;let(hi,a9,v5,v6,v7,xs,L,rfl,W,Z,hX,c5,b0,c2,c3):=z_;have li:=(List.getElem?_eq_some_iff.mp R).1;have lX:=hX.length;let(g,a8,a_,l1,l2,rfl,hb,_,_):=hZ.at_ R;obtain⟨e,a5,rfl⟩:∃ e,es[i]?=some e/\e.1=g:=by
    rw[List.getElem?_map]at a8;show Option.map_eq_some_iff.mp a8
   have he:=List.mem_of_getElem? a5;have gm:e.1∈es.map (·.1):=mem_map.mpr ⟨e,he,rfl⟩;have B:Same H H6:=λc u h=>W c u (Jai h Y) (d0 _ _ h);have i3:SameT H5 H6:=λc u t h=>W c u (λz=>by have:=S5 _ _ e4;rw[<- z,h]at this;cases this;simp[isTF]at t) h;have h7:wd≠G:=λz=>by rw[<- z,X]at a1;cases a1
   have f8:=W _ _ h7 f7;have b2:=hb.sameT i3;cbv;show(x,_,dx,_,rfl,B _ _ hx,rfl,rfl,?_);show ixT (i:=0) b2 rfl ?_;show(x,e.1.nm,ls,es.map (·.1),rfl,ht.same B,λz=>absurd (mem_map.mpr ⟨e.1,gm,rfl⟩) z,λg' a8 hz=>?_);have g7:=N.gn e he g' a8 hz;subst g7;show(pl,N.gn e he,λp hp q hq h=>Jg9 N.nd hp hq h,N.pok,N.plb,N.pls,N.tok e he,λv H7 S7 fv=>?_);have rb:=N.rb e he;have l0:=JbV (a:=roomF pl e.1) (c:=(0,1)) rb.b1 ⋯;rw[Jht]at l0;unfold lessF at l0;cbv;show(v, .ref Ad.ZERO,_,_,0,1,rfl,fv,⟨Ad.ZERO,rfl,T.Bcp _⟩,rb.s1.mono ⋯,rb.s2.mono ⋯, .lit ⋯ ⋯, .lit ⋯ ⋯,?_);cbv;by_cases a3:vl (roomF pl e.1)<0
   .rw[if_pos (l0.mpr a3)];cbv;show ixT (i:=0) (b2.same S7) rfl ?_;show(by show 2<=sizeLine;ac_nf,λZ g1=>?_);let(fI,k6,_,_,hI,_):=k_Tight.ex;have d7:=Jch (B.trans S7) g1;show(Z,_,_,_,fI,rfl,Jak,hI,λe3 H8 h4 f9 d4 i1 j1=>⟨rfl,Z,_,_,fI,some e3,rfl,i1,hI,d7,?_⟩);rw[Jah d4]at f9;have S8:∀ b u,H7 b=some u->unt H8 Z b=some u:=λb u h=>by
     have hb:=Jai h g1;rw[JdD hb];show h4 b u hb (by rw[Jah hb];show h)
    show kT i e a5 a3 a9 e3 (unt H8 Z) (λb u h=>S8 _ _ ((B.trans S7) _ _ h)) (Jch (B.trans S7) f9) (by rw[JdD d4];show j1)
   have f3:0<=vl (roomF pl e.1):=Rat.not_lt.mp a3;have g9:∀ e'∈es.take (i+1),0<=vl (roomF pl e'.1):=λe' g2=>by
    rw[take_succ,a5]at g2;rcases mem_append.mp g2 with q | q
    .show a9 e' q
    .rw[mem_singleton.mp q];show f3
   rw[if_neg (λz=>absurd (l0.mp z) (Rat.not_lt.mpr f3))];cbv;have i5:=B.trans S7;show ixT (i:=0) (b2.same S7) rfl ?_;show(x,ls,es.map (·.1),e.1,rfl,ht.same i5,N.nd,by ac_nf,gm,N.gn e he,λnl w H8 S8 e8 hw c0=>?_);have c4:=S7.trans S8;have d9:=c4 _ _ f8;have g3:∀ n∈w.map (·.1),n∈ls.map (·.nm):=λn hn=>Jc8 (JfH hw) n hn;have lw:w.length<=12:=by
    have:=sub_len (w.map (·.1)) (ls.map (·.nm)) c0 λn hn=>g3 n hn;rw[length_map,length_map]at this;ac_nf
   cbv;show(nl,rfl, .inl ⟨⟨_,SqL.of e8⟩,CompJ.list (xs:=(w.map (·.1)).map V.str) (λj qs M=>Same H8 M/\∃(as:List Addr)(D:List (Str × Int)),qs=as.map V.ref/\as.length=D.length/\(∀(i:Nat)(a:Addr)(p:Str × Int),as[i]?=some a->D[i]?=some p->M a=some (.tup [.str p.1, .int p.2]))/\D.map (·.1)=(w.map (·.1)).take j/\∀ y∈D, ∃ p∈ls,p.nm=y.1/\p.wt=y.2) ⟨Same.refl _,[],[],rfl,rfl,(λi a p h=>by simp at h),rfl,(λy R=>by cases R)⟩ (λj qs M hj z=>by
    let(z1,as,D,rfl,C,_,d,_):=z;have:=congrArg List.length d;rw[length_map,length_take,length_map]at this;show(SqL.of (z1 _ _ e8),by rw[length_map];ac_nf)) ?_ ?_⟩)
   .intro j y' qs H9 S z_;let(S9,as,D,rfl,b9,b7,o,c7):=z_;have lj:=(List.getElem?_eq_some_iff.mp S).1;rw[length_map]at lj;rw[List.getElem?_map,List.getElem?_eq_getElem lj]at S;obtain⟨n,hn⟩:∃ n,n=(w.map (·.1))[j]:=⟨_,rfl⟩;rw[<- hn]at S;have S:y'=.str n:=(Option.some.inj S).symm;subst S;have j0:n∈ls.map (·.nm):=g3 n (by rw[hn];show List.getElem_mem lj);let(p,v',i0,h9,hv,i7):=hB.some (z:=n) j0;simpa only[length_singleton,length_cons,length_nil,List.replicate,JaM,map_cons,map_nil,Option.join_some];show(wd,_,rfl,by rw[<- hv];show DGet.k (k:=Sum.inr n) (S9 _ _ d9),?_);rw[i7];show(by show 2<=sizeLine;ac_nf,?_);rename_i t k4 k8 H9 e9 U c1;cbv;show(S9.trans U,as++[t],D++[(n,p.wt)],by simp,by simp[b9],λi' a' p' C d=>?_,?_,λy R=>?_)
    .rcases Jbf C with C | ⟨q1,q2⟩
     .rcases Jbf d with d | ⟨q3,q4⟩
      .show U _ _ (b7 i' a' p' C d)
      .have:=(List.getElem?_eq_some_iff.mp C).1;ac_nf
     .rcases Jbf d with d | ⟨q3,q4⟩
      .have:=(List.getElem?_eq_some_iff.mp d).1;ac_nf
      .rw[q2,q4];show c1
    .rw[map_append,o,take_succ,List.getElem?_eq_getElem lj, <- hn];rfl
    .rcases mem_append.mp R with R | R
     .show c7 y R
     .rw[mem_singleton.mp R];show(p,i0,h9,rfl)
   .intro qs H9 z_;let(S9,as,D,rfl,b9,b7,o,c7):=z_;rw[length_map,take_of_length_le (Nat.le_refl _)]at o;have k0:D.length<=12:=by have:=congrArg List.length o;rw[length_map,length_map]at this;ac_nf
    have c8:(D.map (·.1)).Nodup:=by rw[o];show c0
    rename_i ql j6 j4 H9 e9 U c1;cbv;show(ql,as,D.map λp=>(p.1,V.int p.2),rfl,c1,by rw[length_map];show b9,λi' a' p' C d=>?_,?_)
    .rw[List.getElem?_map]at d;let(g5,h3,rfl):=Option.map_eq_some_iff.mp d;show U _ _ (b7 i' a' g5 C h3)
    have j2:JdW (D.map λp=>(p.1,V.int p.2))=wsK D:=by
     rw[Jje (by rw[map_map];show c8),map_map];rfl
    rw[j2];rename_i od b5 j8 e9 k5 h8 f2;cbv;have b4:=S9.trans (U.trans h8);have r:=c4.trans b4;have c9:=B.trans r;have f4:=r _ _ Z;show(.inl ⟨rfl,_,SqL.of f4⟩,?_);show ixT (i:=0) (b2.same r) rfl ?_;show(sc,_,i2,_,rfl,c9 _ _ d5,rfl,rfl,?_);show(sc,v,roomF pl e.1,b,fs,rfl,e7.same c9,FrV.same (S8.trans b4) fv,rb.mono ⋯ ⋯,λpr t b6 a6 h0 hL=>?_);cbv;intro q dq hq i6 j7;have e0:Same b6 (upd (upd b6 dq (.own q)) q (.ins Ad.Lid dq [])):=λb u z=>by rw[Jah (Jai z hq),Jah (Jai z i6)];show z
    show(q,dq,od,e.1.nm, .ref pr,D,rfl,Jak,e0 _ _ (a6 _ _ f2),λa4 g0 i4=>⟨rfl,?_⟩);have I:Same b6 a4:=λb u z=>by rw[i4 b (Jai z hq)];show e0 _ _ z
    have O:=r.trans (a6.trans I);have b3:=O _ _ Z;have a7:H6 q=none:=Jch (r.trans a6) hq;show(G,xs,_,rfl,rfl,b3,by ac_nf,?_);generalize a2:upd a4 G _=d6;cbv;have d8:=putE a2;have ec:cut G d6=cut G a4:=by rw[<- a2];show JgM
    have e6:q≠G:=λz=>by rw[z,Z]at a7;cases a7
    have i8:od≠G:=λz=>by rw[z,(c4.trans (S9.trans U)) _ _ Z]at b5;cases b5
    show b8 _ _ ⟨li,g9,_,_,_,xs++[.ref q],L++[⟨e.1.nm,t,D,(D.map (·.2)).sum,(0,1)⟩],rfl,λc u a0 h=>by rw[<- a2,Jah a0];show O _ _ (W c u a0 h),d8,?_,?_,λv' J=>?_,by simp[c2],λj e' l' C d=>?_⟩
    .rw[ec];show(hX.mono (P':=LDV K Ad (cut G a4)) λ_ _ z=>z.same O.cut).append (.one ⟨q,dq, .ref pr, .ref Ad.ZERO,od,rfl,?_,?_,⟨Ad.ZERO,rfl,T.Bcp _⟩,?_⟩)
     .rw[JbX e6];show g0
     .show(FrV.of (I _ _ h0)).cut b3
     .rw[JbX i8];show I _ _ (a6 _ _ f2)
    .show nodup_append.mpr ⟨c5,by simp,λu hu v' J z=>?_⟩;rw[mem_singleton.mp J]at z;let(q',C,_,d):=b0 u hu;rw[C]at z;cases z;show d a7
    .have h5:∀ c,H6 c≠none->d6 c≠none:=λc h=>by
      by_cases cc:c=G
      .rw[cc,d8];intro y;cases y
      .cases hh:H6 c with
       | none=>show absurd hh h
       | some u=>rw[<- a2,Jah cc,O _ _ hh];intro y;cases y
     rcases mem_append.mp J with J | J
     .let(q',C,d,h3):=b0 v' J;show(q',C,d,h5 q' h3)
     .rw[mem_singleton.mp J];show(q,rfl,Jch B a7,by rw[<- a2,Jah e6,g0];intro y;cases y)
    .rcases Jbf d with d | ⟨q1,q2⟩
     .show c3 j e' l' C d
     .rw[q1,c2,a5]at C;cases C;rw[q2];show(rfl,hL.vl rb.b1,(hL.fb rb sb).mono ⋯ ⋯,by rw[o];show(N.way e he w hw c0).symm,c8,c7,rfl,rfl)
  .intro σ H6 z_;let(hi,a9,v5,v6,v7,xs,L,rfl,W,Z,hX,c5,b0,c2,c3):=z_;cbv;show k (λe he=>a9 e (by rw[take_of_length_le ∅];show he)) G xs L H6 (λc u h=>W c u (Jai h Y) (d0 _ _ h)) Y Z (hX.mono λ_ _ z=>z.same Jdo) c5 (λv hv=>by let(q,C,d,_):=b0 v hv;show(q,C,d)) ∅ c3
abbrev BaG:Stmt:=top 36
theorem Jcl:Jan ["thing","scale","told","part"] ["thing","scale"] (Jaf BaG):=by bv_decide
def Jco(K:W.Frag)(Ad:Adr):Sp:=λvs H Q E=>∃(x sc:Addr)(ls:List PD)(gs:List GD)(b:Int)(fs:List Int),vs=[.ref x, .ref sc]/\TK K Ad H x ls gs/\SCK Ad H sc b fs/\ls.length<=12/\(ls.map (·.nm)).Nodup/\(∀ p∈ls,FB 200 12 p.mo/\1<=p.wt/\Mth.Sz 21 p.wt)/\∀ md kv ms H',Same H H'->H md=none->H' md=some (.dK kv)->BG (·.1) (NFV K H') ms kv->ms.length=ls.length->(∀(i:Nat) p m,ls[i]?=some p->ms[i]?=some m->MSt b p m)->Q (.ref md) H'
theorem JeX(F:"most_levels"∘BaG)(T:Txt K mg Ad)(Bae:2∘"parts"∘(JaH Ad)∘["self"]∘(JaC K Ad))(Ba7:2∘"lifted"∘(Jdb Ad)∘["self","number"]∘(Jbk K Ad))(BcW:3∘"over"∘["one","other"]∘(JfX K Ad)):4∘["thing","scale"]∘(Jco K Ad):=by
 show F.okn Jcl (by subst_eqs) (λb2 A a1 s H vs Q E Z h=>?_)
 let(x,U,ls,gs,b,fs,rfl,h):=h;have hu:=Z.units;show(_,(Jab (Jaj 2 Jcl.nd Jbt) (Jab (JaV PassesOwn.never rfl (pi_U (Bae.m0 Z ⋯ passF (pv 0))) (Jaq 3 Jcl.nd) (Jag (JbC (hu1 hu) (pv 2) (!3) (BcW.ev Z ⋯ rfl passF %[Ba7.m Z ⋯ passF (pv 1) %[!3|0],JaF %[!3,Jad|0]|0]) rfl))) (Jag (Jap (pv 2))))),?_)
 clear hu;let(ht,L,b0,a4,a6,k):=h;let(dx,d1,d2,d3,k1,k2,k3,hx,_):=id ht;let(a3,fl,G,_,S,sb,_):=id L;have sl:(1000:Nat)<=sizeLine:=by decide
 have b1:=S.b1;show tSeq _ _ _ [some (.ref x),some (.ref U),none,none] H;cbv;rename_i B e a9 H H1 S1 e1;cbv;show(x,_,dx,_,rfl,S1 _ _ hx,rfl,rfl,x,ls,_,rfl,ht.same S1,by ac_nf,λl ys H2 S2 W e2 hY=>?_);have lY:=hY.length;have a5:l≠B:=λz=>by rw[z,e1]at W;cases W
 have J:=S1.trans S2;cbv;show(l,rfl,ForA.byLN (xs:=ys) (SqL.of e2) (λi σ I=>i<=ys.length/\∃(v3:Option V)(R:List (Key × V))(v:List (Str × Fr2)),σ=[some (.ref x),some (.ref U),some (.ref B),v3]/\(∀ c u,c≠B->H2 c=some u->I c=some u)/\SameT H2 I/\I B=some (.dK R)/\BG (·.1) (NFV K I) v R/\v.map (·.1)=(ls.take i).map (·.nm)/\∀(j:Nat) p m,ls[j]?=some p->v[j]?=some m->MSt b p m) ⟨Nat.zero_le _,none,[],[],rfl,λ_ _ _ h=>h,SameT.refl _,S2 _ _ e1,⟨rfl,rfl⟩,rfl,λj p m _ h=>by simp at h⟩ (λi σ I q=>by let(_,_,_,_,_,q,_):=q;show SqL.of (q _ _ a5 e2)) ?_ ?_)
 .intro i y σ H3 hy z_ N0 a2;let(hi,v3,R,v,rfl,Y,X,r,hB,d,C):=z_;have li:=(List.getElem?_eq_some_iff.mp hy).1;let(p,hp,b_,vz,vm,rfl,hb,_,hm):=hY.at_ hy;let(mb,w1,ws):=a6 p (List.mem_of_getElem? hp);have lB:=hB.length;have a0:v.length=i:=by have:=congrArg List.length d;rw[length_map,length_map,length_take]at this;ac_nf
  have D:=hb.sameT X;have O:Same H H3:=λc u h=>Y c u (Jai h e) (J _ _ h);cbv;show(U,_,a3,_,rfl,O _ _ G,rfl,rfl,?_);show ixT (i:=4) D rfl ?_;show(U,vm,p.mo,b,fs,rfl,L.same O,hm.sameT X,mb.mono ⋯ ⋯,λpr t H4 S4 e4 hL=>?_);cbv;show ixT (i:=5) (D.same S4) rfl ?_;cbv;show(len2,?_);rename_i wp a7 a8 H4 H5 S5 e5;cbv;have o:=hL.fb mb sb;show(.ref pr, .ref wp,_,_,p.wt,1,rfl,FrV.of (S5 _ _ e4),FrV.of e5,o.s1.mono ⋯,o.s2.mono ⋯,ws.mono ⋯, .lit ⋯ ⋯,o.b1,by decide,o.g1,by unfold Mth.g;simp,λz=>absurd z ∅,λ_ p2 H6 S6 e6=>?_);have e6:H6 p2=some (.tup [.int (divF t (p.wt,1)).1, .int (divF t (p.wt,1)).2]):=e6;have n:=S4.trans (S5.trans S6);cbv;show ixT (i:=0) (D.same n) rfl ?_;show(B,_,rfl,DPut.k (k:=Sum.inr p.nm) (n _ _ r) ∅,?_);generalize u7:upd H6 B _=H7;cbv;have e7:=putE u7;have T7:SameT H6 H7:=SameT.put u7 (n _ _ r) rfl;have N:SameT H3 H7:=n.t.trans T7;have nn:p.nm∉v.map (·.1):=by rw[d];show JgX a4 hp
  show a2 _ _ ⟨li,_,_,v++[(p.nm,divF t (p.wt,1))],rfl,λc u M h=>by rw[<- u7,Jah M];show n _ _ (Y c u M h),X.trans N,e7,?_,?_,λj p' m' h1 h2=>?_⟩
  .show(hB.mono (P':=NFV K H7) λ_ _ z=>z.sameT N).new (a:=(p.nm,divF t (p.wt,1))) nn (FrV.of (T7 _ _ rfl e6))
  .rw[map_append,d,take_succ,hp,map_append];rfl
  .rcases Jbf h2 with h2 | ⟨q1,q2⟩
   .show C j p' m' h1 h2
   .rw[q1,a0,hp]at h1;cases h1;rw[q2];have dl:=Jls (a:=t) (c:=(p.wt,1)) o.b1 w1;show(rfl,?_,?_,?_,dl.b1,dl.g1)
    .show vl (divF t (p.wt,1))=_;rw[Jlb o.b1 w1 (Int.le_refl 1),JgG,hL.vl mb.b1]
    .show Mth.Sz.top (by have:=Jcq o.b1 w1;show t.2*p.wt≠0;ac_nf) (by rw[Int.mul_one];show o.s1)
    .show(Mth.Sz.bot (t:=t.1*1) (b:=t.2*p.wt) (by have:=Jcq o.b1 w1;ac_nf) (o.s2.mul ws)).mono ⋯
 .intro σ H3 z_;let(hi,v3,R,v,rfl,Y,X,r,hB,d,C):=z_;rw[take_of_length_le ∅]at d;cbv;show k B R v H3 (λc u h=>Y c u (Jai h e) (J _ _ h)) e r hB (by simpa using congrArg List.length d) C
abbrev Baz:Stmt:=top 37
theorem Jb6:Jan ["mosts","lids","levels","stops","lid"] ["mosts","lids","levels"] (Jaf Baz):=by bv_decide
def Jb9(K:W.Frag)(Ad:Adr):Sp:=λvs H Q E=>∃(md ll ld:Addr)(kvm:List (Key × V))(ms:List (Str × Fr2))(xs:List V)(lds:List LidD)(kvl:List (Key × V))(lvs:List (Str × Fr2)),vs=[.ref md, .ref ll, .ref ld]/\H md=some (.dK kvm)/\BG (·.1) (NFV K H) ms kvm/\H ll=some (.lst xs)/\All2 (LDV K Ad H) lds xs/\H ld=some (.dK kvl)/\BG (·.1) (NFV K H) lvs kvl/\ms.length<=12/\lds.length<=7/\(∀ e∈lds,FB 3000 1000 e.rest/\Mth.Sz 64 e.load/\e.ws.length<=12)/\(ms.map (·.1)).Nodup/\∀ sl ys H',Same H H'->H' sl=some (.lst ys)->All2 (StV K H') (stF ms lds (lvs.map (·.1))) ys->Q (.ref sl) H'
theorem Jev(F:"coming_stops"∘Baz)(T:Txt K mg Ad)(m_full_level:4∘"full_level"∘(IsLid Ad)∘["self"]∘(JbF K Ad)):5∘["mosts","lids","levels"]∘(Jb9 K Ad):=by
 show F.okn Jb6 (by subst_eqs) (λe2 A b9 s H vs Q E hr h=>?_)
 let(r,ll,ld,c,ms,xs,L,c8,a,rfl,h):=h;have hu:=hr.units;show(_,(Jab (Jl7 (Jb5 (j:=3) (own:=["name"]) (cs:=[(0,"mosts"),(2,"levels")]) Jb6.nd rfl (Or.inl rfl) rfl (Jjg (pv 0)) (λ_ _ _ _=>(Jaq 0 (show[("name" : Str),("mosts" : Str),("levels" : Str)].Nodup by decide))) (λ_ _ _ _=>JfK (JeB (Jdt (hu1 hu) (pv 0) (pv 2)) (by with_unfolding_all rfl))) (λ_ _ _ _=>(JaF %[Ja9 (hu1 hu) (pv 1) (pv 0) (λ_ _=>rfl),Jbd %[pv 0|0]|0])) (JcQ rfl) ⋯ rfl ⋯ (hcs2 rfl rfl rfl rfl rfl rfl))) (Jab (JaV PassesOwn.never rfl (pi_U (pv 1)) (Jaq 4 Jb6.nd) (Jag (ps_if (Jat JhM (Jar (pv 4) rfl) Jad (Jay _)) (Jag (Jbi (pe_bm PySem.F.plainAttrs_list PySem.F.slot_list_append PySem.F.type_list_append Jbb (pv 3) %[JaF %[m_full_level.m0 hr ⋯ passF (pv 4),Jha (Jcy (own:=["name"]) (cs:=[(2,"levels")]) rfl (Jjg (Jar (pv 4) rfl)) (λ_ _ _ _=>(Jaq 0 (show[("name" : Str),("levels" : Str)].Nodup by decide))) (λ_ _ _ _=>JfK (JeB (Jdt (hu1 hu) (pv 0) (pv 1)) (by with_unfolding_all rfl))) (λ_ _ _ _=>(pv 0)) (JcQ rfl) ⋯ rfl ⋯ (hcs1 rfl rfl rfl))|0]|0] (hs:=by show Jae rfl))))
   Jav))) (Jag (Jap (pv 3))))),?_)
 clear hu;let(hm,bm,hl,hX,hv,bl,d4,l7,d3,c2,k):=h;have sz:(1000:Nat)<=sizeLine:=by decide
 have lX:=hX.length;show tSeq _ _ _ [some (.ref r),some (.ref ll),some (.ref ld),none,none] H;mleave;show(r,c,hm,r,c,ms.map (·.1),rfl,hm,bm.keysS,λod=>?_);generalize uf:upd H r (.frz od (.dK c))=H1;mleave;have f1:H1 r=some (.frz od (.dK c)):=by rw[<- uf,Jak]
 have t1:thw r c H1=H:=by rw[<- uf];show JjN hm
 show JcO.keys (λi X C=>C r=some (.frz od (.dK c))/\Same H (thw r c C)/\All2 (StV K (thw r c C)) (((ms.take i).filter λm=>decide (m.1∉a.map (·.1))).map λm=>(m.2,[m.1])) X) ⟨f1,by rw[t1];show Same.refl _,rfl⟩ (λi X C hi z=>⟨z.1,by
  have h1:=z.2.2.length;rw[length_map]at h1;have h2:=List.length_filter_le (λm:Str × Fr2=>decide (m.1∉a.map (·.1))) (ms.take i);rw[length_take]at h2;ac_nf⟩) ?_ ?_
 .rintro i z X H2 hz ⟨M,S2,hA⟩;rw[List.getElem?_map]at hz;let(m,Z,U):=Option.map_eq_some_iff.mp hz;have U:m.1=z:=U;subst U;have b0:=List.mem_of_getElem? Z;simpa only[length_singleton,length_cons,length_nil,List.replicate,JaM,map_cons,map_nil,Option.join_some];show(ld,_,rfl,JjO (k:=Sum.inr m.1) M (S2 _ _ hv),?_);rw[bl.val];by_cases g:m.1∈a.map (·.1)
  .rw[decide_eq_true g];mleave;show(M,S2,?_);rw[take_succ,Z,filter_append,map_append];have : [m].filter (λm=>decide (m.1∉a.map (·.1)))=[]:=List.filter_eq_nil_iff.mpr λx D=>by rw[mem_singleton.mp D];simpa using g
   rw[show(some m).toList=[m]from rfl,this,map_nil,append_nil];show hA
  .rw[decide_eq_false g];mleave;let(a',v,c3,b7,b6,c6):=bm.some (z:=m.1) (mem_map.mpr ⟨m,b0,rfl⟩);have ea:=JhF c2 c3 b0 b7;subst ea;show(r,v,rfl,by rw[<- b6];show DGet.f (k:=Sum.inr a'.1) M,?_);mleave;show(by show 1<=sizeLine;ac_nf,?_);rename_i l b5 c9 H2 H3 S3 e3;mleave;show(by show 2<=sizeLine;ac_nf,?_);rename_i t c4 d5 H3 H4 S4 e4;mleave;have b1:=S3.trans S4;have f4:=b1 _ _ M;have St:=Jf0 (d:=r) (kv:=c) b1;show(f4,S2.trans St,?_);rw[take_succ,Z,filter_append,map_append];have : [a'].filter (λm=>decide (m.1∉a.map (·.1)))=[a']:=List.filter_eq_self.mpr λx D=>by rw[mem_singleton.mp D];simpa using g
   rw[show(some a').toList=[a']from rfl,this];show(hA.mono (P':=StV K (thw r c H4)) λ_ _ z=>z.same St).append (.one ⟨t,v,l,rfl,SqT.of (JhV f4 e4 (by intro o w z;cases z)),FrV.same (S2.trans St) c6,JhV f4 (S4 _ _ e3) (by intro o w z;cases z)⟩)
 .rintro X H2 ⟨M,S2,hA⟩;rw[length_map,take_of_length_le (Nat.le_refl _)]at hA;rename_i B O d7 H2 H3 S3 e3;mleave;show(od,c,S3 _ _ M,?_);obtain⟨H4,S⟩:∃ H4,H4=thw r c H3:=⟨_,rfl⟩;rw[show upd H3 r (.dK c)=H4 from S.symm];mleave;have St:=Jf0 (d:=r) (kv:=c) S3;rw[<- S]at St;have b2:=S2.trans St;have e4:H4 B=some (.lst X):=by rw[S];show JhV (S3 _ _ M) e3 (by intro o w z;cases z)
  have R:H B=none:=Jch S2 (JfZ M O);have c7:All2 (StV K (cut B H4)) ((ms.filter λm=>decide (m.1∉a.map (·.1))).map λm=>(m.2,[m.1])) X:=hA.mono λ_ _ z=>z.same λb u h=>by
   rw[JbX (λy=>by rw[y,JfZ M O]at h;cases h)];show St b u h
  have d8:(ms.filter λm=>decide (m.1∉a.map (·.1))).length<=12:=Nat.le_trans (List.length_filter_le _ _) d4;have e1:ll≠B:=λz=>by rw[z,R]at hl;cases hl
  show(ll,rfl,ForA.byLN (xs:=xs) (SqL.of (b2 _ _ hl)) (λi σ C=>i<=xs.length/\∃(v4:Option V)(N:List V)(st:List (Fr2 × List Str)),σ=[some (.ref r),some (.ref ll),some (.ref ld),some (.ref B),v4]/\Same H C/\C B=some (.lst N)/\All2 (StV K (cut B C)) st N/\st.length<=12+i/\st=(ms.filter λm=>decide (m.1∉a.map (·.1))).map (λm=>(m.2,[m.1]))++((L.take i).filter λe=>decide (0<e.load)).map λe=>(divF e.rest (e.load,1),(e.ws.map (·.1)).filter λn=>decide (n∉a.map (·.1)))) ⟨Nat.zero_le _,none,X,_,rfl,b2,e4,c7,by rw[length_map];ac_nf,by rw[take_zero];simp⟩ (λi σ C q=>by let(_,_,_,_,_,q,_):=q;show SqL.of (q _ _ hl)) ?_ ?_)
  .intro i y σ H5 hy z_ N0 a9;let(hi,v4,N,st,rfl,S5,ez,hZ,d6,G):=z_;have li:=(List.getElem?_eq_some_iff.mp hy).1;let(e,a7,hd):=hX.at_ hy;have d2:=List.mem_of_getElem? a7;let(c5,d0,e0):=d3 e d2;have b3:=hd.same S5;let(q,dx,vr,vt,J,rfl,hq,hr,d9,hw):=id b3;have tc:=T.c_Lid Ad.Lid rfl;have lZ:=hZ.length;mleave;show(q,_,dx,_, .int e.load,rfl,hq,tc.cls,tc.n4,rfl,?_);mleave;have b4:L.take (i+1)=L.take i++[e]:=by rw[take_succ,a7];rfl
   by_cases c0:0<e.load
   .rw[if_pos (by simpa using c0)];mleave;show(.inl ⟨rfl,_,SqL.of ez⟩,?_);show(q,_,dx,_,rfl,hq,rfl,rfl,?_);show(q,e,rfl,b3,c5,by ac_nf,d0,λp H6 S6 e6=>?_);mleave;have a2:=S6 _ _ hw;show(J,_,a2,q,_,dx,_, .ref J,rfl,S6 _ _ hq,tc.cls,tc.n3,rfl,J,wsK e.ws,e.ws.map (·.1),rfl,a2,JkE e.ws,λa0=>?_);generalize ug:upd H6 J (.frz a0 (.dK (wsK e.ws)))=H7;mleave;have f7:H7 J=some (.frz a0 (.dK (wsK e.ws))):=by rw[<- ug,Jak]
    have t7:thw J (wsK e.ws) H7=H6:=by rw[<- ug];show JjN a2
    have d1:=S5.trans S6;show JcO.keys (λj qs C=>C=H7/\qs=(((e.ws.map (·.1)).take j).filter λn=>decide (n∉a.map (·.1))).map V.str) ⟨rfl,by rw[take_zero];rfl⟩ (λj qs C hj z=>⟨by rw[z.1];show f7,by
     rw[z.2,length_map];have h2:=List.length_filter_le (λn:Str=>decide (n∉a.map (·.1))) ((e.ws.map (·.1)).take j);rw[length_take,length_map]at h2;ac_nf⟩) ?_ ?_
    .rintro j z qs H8 hz ⟨a3,I⟩;subst a3;subst I;simpa only[length_singleton,length_cons,length_nil,List.replicate,JaM,map_cons,map_nil,Option.join_some];show(ld,_,rfl,JjO (k:=Sum.inr z) f7 (by rw[t7];show d1 _ _ hv),?_);rw[bl.val];have a5:(e.ws.map (·.1)).take (j+1)=(e.ws.map (·.1)).take j++[z]:=by rw[take_succ,hz];rfl
     by_cases g:z∈a.map (·.1)
     .rw[decide_eq_true g];mleave;rw[a5,filter_append,show[z].filter (λn=>decide (n∉a.map (·.1)))=[]from List.filter_eq_nil_iff.mpr λx D=>by rw[mem_singleton.mp D];simpa using g,append_nil]
     .rw[decide_eq_false g];mleave;rw[a5,filter_append,show[z].filter (λn=>decide (n∉a.map (·.1)))=[z]from List.filter_eq_self.mpr λx D=>by rw[mem_singleton.mp D];simpa using g,map_append];rfl
    .rintro qs H8 ⟨a3,I⟩;subst a3;rw[take_of_length_le (Nat.le_refl _)]at I;subst I;rename_i l b5 c9 H8 H9 S9 e9;mleave;show(a0,_,S9 _ _ f7,?_);obtain⟨HA,a4⟩:∃ HA,HA=thw J (wsK e.ws) H9:=⟨_,rfl⟩;rw[show upd H9 J (.dK (wsK e.ws))=HA from a4.symm];have Su:=Jf0 (d:=J) (kv:=wsK e.ws) S9;rw[t7, <- a4]at Su;have eA:HA l=some (.lst (((e.ws.map (·.1)).filter λn=>decide (n∉a.map (·.1))).map V.str)):=by rw[a4];show JhV (S9 _ _ f7) e9 (by intro o w z;cases z)
     mleave;show(len2,?_);rename_i t c4 d5 HA HB SB eB;mleave;have Y:=S6.trans (Su.trans SB);have a1:=Y _ _ ez;show(B,N,_,rfl,rfl,a1,by ac_nf,?_);generalize W:upd HB B _=b8;mleave;have c1:=putE W;have ec:cut B b8=cut B HB:=by rw[<- W];show JgM
     have a6:H6 l=none:=by rw[<- t7];show JfZ f7 b5
     have a8:l≠B:=λz=>by rw[z,S6 _ _ ez]at a6;cases a6
     show a9 _ _ ⟨li,_,N++[.ref t],st++[(divF e.rest (e.load,1),(e.ws.map (·.1)).filter λn=>decide (n∉a.map (·.1)))],rfl,λb u h=>by rw[<- W,Jah (Jai h R)];show Y _ _ (S5 _ _ h),c1,?_,by simp;ac_nf,?_⟩
     .rw[ec];show(hZ.mono (P':=StV K (cut B HB)) λ_ _ z=>z.same Y.cut).append (.one ⟨t, .ref p,l,rfl,SqT.cut a1 (SqT.of eB),FrV.cut a1 (FrV.of (SB _ _ (Su _ _ e6))),?_⟩);rw[JbX a8];show SB _ _ eA
     .rw[G,b4,filter_append,show[e].filter (λe=>decide (0<e.load))=[e]from List.filter_eq_self.mpr λx D=>by rw[mem_singleton.mp D];simpa using c0,map_append, <- List.append_assoc];rfl
   .rw[if_neg (by simpa using c0)];mleave;show a9 _ _ ⟨li,_,N,st,rfl,S5,ez,hZ,by ac_nf,?_⟩;rw[G,b4,filter_append,show[e].filter (λe=>decide (0<e.load))=[]from List.filter_eq_nil_iff.mpr λx D=>by rw[mem_singleton.mp D];simpa using c0,append_nil]
  .intro σ H5 z_;let(hi,v4,N,st,rfl,S5,ez,hZ,d6,G):=z_;rw[take_of_length_le ∅]at G;mleave;show k B N H5 S5 ez ?_;unfold stF;rw[<- G];show hZ.mono λ_ _ z=>z.cut
abbrev BaH:Stmt:=top 38
theorem JbI:Jan ["stops","found","stop"] ["stops"] (Jaf BaH):=by bv_decide
def Jcn(K:W.Frag):Sp:=λvs H Q E=>∃(sl:Addr)(ys:List V)(st:List (Fr2 × List Str)),vs=[.ref sl]/\SqL K H sl ys/\All2 (StV K H) st ys/\st≠[]/\(∀ s∈st,FB 3000 1200 s.1)/\∀ v (L:Fr2),L∈st.map (·.1)->(∀ s∈st,vl L<=vl s.1)->FrV K H v L.1 L.2->Q v H
theorem JeU(F:"first_level"∘BaH)(T:Txt K mg Ad)(Bah:1∘"under"∘["one","other"]∘(JbO K)):2∘["stops"]∘(Jcn K):=by
 show F.okn JbI (by subst_eqs) (λa1 A O s H vs Q E hr h=>?_)
 let(u,Y,W,rfl,h):=h;show(_,(Jab (Jaj 1 JbI.nd (pe_ix ix_U (!0) Jad)) (Jab (JaV PassesOwn.never rfl (pi_U (pv 0)) (Jaq 2 JbI.nd) (Jag (ps_if (Jbc (Bah.ev hr ⋯ rfl passF %[!2,pv 1|0])) (Jag (Jaj 1 JbI.nd (!2)))
   Jav))) (Jag (Jap (pv 1))))),?_)
 let(C,S,M,j,k):=h;have lA:=S.length;obtain⟨g,r,rfl⟩:∃ g r,W=g::r:=by cases W with | nil=>show absurd rfl M | cons a b=>show(a,b,rfl)
 let(y0,a0,t0,v0,l0,rfl,R,D,_):=S.get (i:=0) rfl;show tSeq _ _ _ [some (.ref u),none,none] H;cbv;show ixL (i:=0) C a0 ?_;cbv;show ixT (i:=0) R rfl ?_;cbv;show(u,rfl,ForA.byLN (xs:=Y) C (λi σ x=>i<=Y.length/\x=H/\∃(v:V)(L:Fr2)(G:Option V),σ=[some (.ref u),some v,G]/\FrV K H v L.1 L.2/\L∈(g::r).map (·.1)/\∀ s∈(g::r).take i,vl L<=vl s.1) ⟨Nat.zero_le _,rfl,v0,g.1,none,rfl,D,by simp,(λs n=>by simp at n)⟩ (λi σ x q=>by rw[q.2.1];show C) ?_ ?_)
 .intro i y σ x hy z_ N0 m;let(hi,rfl,v,L,G,rfl,p,B,d):=z_;have li:=(List.getElem?_eq_some_iff.mp hy).1;let(s,n,t,w,l,rfl,ht,hw,_):=S.at_ hy;have J:=j s (List.mem_of_getElem? n);let(sL,Z,N):=mem_map.mp B;have U:FB 3000 1200 L:=N ▸ j sL Z;have o:(g::r).take (i+1)=(g::r).take i++[s]:=by rw[take_succ,n];rfl
  have I:=JbV (a:=s.1) (c:=L) J.b1 U.b1;unfold lessF at I;cbv;show ixT (i:=0) ht rfl ?_;show(w,v,_,_,_,_,rfl,hw,p,J.s1.mono ⋯,J.s2.mono ⋯,U.s1.mono ⋯,U.s2.mono ⋯,?_);cbv;by_cases c:decide (s.1.1*L.2<L.1*s.1.2)=true
  .rw[if_pos c];cbv;show ixT (i:=0) ht rfl ?_;cbv;have lt:=I.mp c;show m _ _ ⟨li,rfl,w,s.1,_,rfl,hw,mem_map.mpr ⟨s,List.mem_of_getElem? n,rfl⟩,λX e=>?_⟩;rw[o]at e;rcases mem_append.mp e with h | h
   .show Rat.le_trans (Rat.le_of_lt lt) (d X h)
   .rw[mem_singleton.mp h];show Rat.le_refl
  .rw[if_neg c];cbv;show m _ _ ⟨li,rfl,v,L,_,rfl,p,B,λX e=>?_⟩;rw[o]at e;rcases mem_append.mp e with h | h
   .show d X h
   .rw[mem_singleton.mp h];show Rat.not_lt.mp λz=>c (I.mpr z)
 .intro σ x z_;let(hi,rfl,v,L,G,rfl,p,B,d):=z_;rw[take_of_length_le ∅]at d;cbv;show k v L B d p
abbrev BaR:Stmt:=top 39
theorem Jb0:Jan ["stops","level","names","stop","name"] ["stops","level"] (Jaf BaR):=by bv_decide
def JcM(K:W.Frag):Sp:=λvs H Q E=>∃(sl:Addr)(lv:V)(ys:List V)(st:List (Fr2 × List Str))(L:Fr2)(N:List Str),vs=[.ref sl,lv]/\SqL K H sl ys/\All2 (StV K H) st ys/\FrV K H lv L.1 L.2/\N.length<=20/\(∀ s∈st, ∀ n∈s.2,n∈N)/\∀(l:Addr)(ns:List Str)(H':Hp),Same H H'->H' l=some (.lst (ns.map V.str))->ns.Nodup->(∀ n,n∈ns↔∃ s∈st,s.1=L/\n∈s.2)->Q (.ref l) H'
theorem JfF(F:"stopped_at"∘BaR)(T:Txt K mg Ad)  : 1∘["stops","level"]∘(JcM K):=by
 show F.okn Jb0 (by subst_eqs) (λa7 A a2 s H vs Q E hr h=>?_)
 let(Z,lv,ys,st,L,N,rfl,h):=h;have hu:=hr.units;show(_,(Jab (Jaj 2 Jb0.nd Jbt) (Jab (JaV PassesOwn.never rfl (pi_U (pv 0)) (Jaq 3 Jb0.nd) (Jag (ps_if (Jat (JcR hu) (!3) (pv 1) (Jay _)) (Jag (JaV PassesOwn.never rfl (pi_U (!3)) (Jaq 4 Jb0.nd) (Jag (JbC (hu1 hu) (pv 2) (pv 4) pe_bl rfl))))
   Jav))) (Jag (Jap (Jdu (Jh5 rfl) rfl T.BdP JgJ %[pv 2|0]))))),?_)
 clear hu;let(hS,hA,hL,a5,hN,k):=h;have sz:(1000:Nat)<=sizeLine:=by decide
 have lA:=hA.length;show tSeq _ _ _ [some (.ref Z),some lv,none,none,none] H;cbv;rename_i O R a4 H H1 S1 e1;cbv;show(Z,rfl,ForA.byLN (xs:=ys) (hS.same S1) (λi σ S=>i<=ys.length/\∃(v3 M:Option V)(B:List (Key × V))(r:List Str),σ=[some (.ref Z),some lv,some (.ref O),v3,M]/\Same H S/\S O=some (.dK B)/\B.map (·.1)=r.map Sum.inr/\r.Nodup/\∀ n,n∈r↔∃ s∈st.take i,s.1=L/\n∈s.2) ⟨Nat.zero_le _,none,none,[],[],rfl,S1,e1,rfl, .nil,λn=>by simp⟩ (λi σ S q=>by let(_,_,_,_,_,_,q,_):=q;show hS.same q) ?_ ?_)
 .intro i y σ H2 hy z_ N0 Y;let(hi,v3,M,B,r,rfl,I,e2,hk,G,d):=z_;have li:=(List.getElem?_eq_some_iff.mp hy).1;let(s,hs,t,w,l,rfl,ht,hw,hl):=hA.at_ hy;have a3:=List.mem_of_getElem? hs;have a1:st.take (i+1)=st.take i++[s]:=by rw[take_succ,hs];rfl
  cbv;show ixT (i:=0) (ht.same I) rfl ?_;show eqF (hw.same I) (hL.same I) ?_;have ee:(decide (s.1.1=L.1)&&decide (s.1.2=L.2))=decide (s.1=L):=by
   rw[<- Bool.decide_and];show decide_eq_decide.mpr Prod.ext_iff.symm
  rw[ee];cbv;by_cases c:s.1=L
  .rw[if_pos (by simpa using c)];cbv;show ixT (i:=1) (ht.same I) rfl ?_;cbv;have a8:l≠O:=Jai hl R;show(l,rfl,ForA.byLN (xs:=s.2.map V.str) (SqL.of (I _ _ hl)) (λj σ S=>j<=(s.2.map V.str).length/\∃(M:Option V)(B:List (Key × V))(ns':List Str),σ=[some (.ref Z),some lv,some (.ref O),some (.ref t),M]/\Same H S/\S O=some (.dK B)/\B.map (·.1)=ns'.map Sum.inr/\ns'.Nodup/\∀ n,n∈ns'↔n∈r\/n∈s.2.take j) ⟨Nat.zero_le _,M,B,r,rfl,I,e2,hk,G,λn=>by simp⟩ (λj σ S q=>by let(_,_,_,_,_,q,_):=q;show SqL.of (q _ _ hl)) ?_ ?_)
   .intro j z σ H3 hz z_ N1 a0;let(hj,M,D,e,rfl,W,e3,o,g,a):=z_;have lj:=(List.getElem?_eq_some_iff.mp hz).1;rw[List.getElem?_map]at hz;let(n,hn,rfl):=Option.map_eq_some_iff.mp hz;have lk:D.length=e.length:=by simpa using congrArg List.length o
    have lN:e.length<=N.length:=sub_len e N g λx hx=>by
     rcases(a x).mp hx with h | h
     .let(J,m,_,p):=(d x).mp h;show hN J (List.mem_of_mem_take m) x p
     .show hN s a3 x (List.mem_of_mem_take h)
    cbv;show(O,_,rfl,DPut.k (k:=Sum.inr n) e3 ∅,?_);generalize u4:upd H3 O _=H4;cbv;have e4:=putE u4;have X:s.2.take (j+1)=s.2.take j++[n]:=by rw[take_succ,hn];rfl
    have S4:Same H H4:=λb u h=>by rw[<- u4,Jah (Jai h R)];show W _ _ h
    have U:=JiW (kvs:=D) (k:=Sum.inr n);rw[o]at U;by_cases cn:n∈e
    .show a0 _ _ ⟨lj,_,_,e,rfl,S4,e4,?_,g,λx=>?_⟩
     .rw[JiX,if_pos (U.mpr (mem_map.mpr ⟨n,cn,rfl⟩))];show o
     .rw[a x,X,mem_append,mem_singleton];show(λh=>h.elim .inl λh=>.inr (.inl h),λh=>?_);rcases h with h | h | h
      .show .inl h
      .show .inr h
      .rw[h];show(a n).mp cn
    .show a0 _ _ ⟨lj,_,_,e++[n],rfl,S4,e4,?_,?_,λx=>?_⟩
     .rw[JiX,if_neg (λz=>cn (by let(q,hq,eq):=mem_map.mp (U.mp z);have eq:q=n:=(by injection eq);show eq ▸ hq)),o,map_append];rfl
     .show nodup_append.mpr ⟨g,by simp,λu hu v hv z=>cn (by rw[mem_singleton.mp hv]at z;rw[<- z];show hu)⟩
     .rw[mem_append,mem_singleton,a x,X,mem_append,mem_singleton];grind
   .intro σ H3 z_;let(hj,M,D,e,rfl,W,e3,o,g,a):=z_;rw[length_map,take_of_length_le (Nat.le_refl _)]at a;show Y _ _ ⟨li,_,_,D,e,rfl,W,e3,o,g,λn=>?_⟩;rw[a n,d n,a1];constructor
    .rintro(⟨J,m,p,C⟩ | h)
     .show(J,mem_append.mpr (.inl m),p,C)
     .show(s,mem_append.mpr (.inr (by simp)),c,h)
    .rintro⟨J,m,p,C⟩;rcases mem_append.mp m with m | m
     .show .inl ⟨J,m,p,C⟩
     .rw[mem_singleton.mp m]at C;show .inr C
  .rw[if_neg (by simpa using c)];cbv;show Y _ _ ⟨li,_,_,B,r,rfl,I,e2,hk,G,λn=>?_⟩;rw[d n,a1];constructor
   .rintro⟨J,m,p,C⟩;show(J,mem_append.mpr (.inl m),p,C)
   .rintro⟨J,m,p,C⟩;rcases mem_append.mp m with m | m
    .show(J,m,p,C)
    .rw[mem_singleton.mp m]at p;show absurd p c
 .intro σ H2 z_;let(hi,v3,M,B,r,rfl,I,e2,hk,G,d):=z_;rw[take_of_length_le ∅]at d;cbv;show(O,B,r,rfl,e2,hk,?_);rename_i l a9 a6 H2 H3 W e3;cbv;show k l r H3 (I.trans W) e3 G d
abbrev BaA:Stmt:=top 40
theorem Ja6:Jan ["mosts","lids","levels","stops","level","name","lid"] ["mosts","lids"] (Jaf BaA):=by bv_decide
def Jcd(K:W.Frag)(Ad:Adr):Sp:=λvs H Q E=>∃(md ll:Addr)(kvm:List (Key × V))(ms:List (Str × Fr2))(xs:List V)(lds:List LidD)(b q0:Int)(N:List Str)(w M:Str->Rat)(gs:List Gp),vs=[.ref md, .ref ll]/\H md=some (.dK kvm)/\BG (·.1) (NFV K H) ms kvm/\H ll=some (.lst xs)/\All2 (LDV K Ad H) lds xs/\xs.Nodup/\lds.length<=7/\RC b q0 N w M gs ms/\RSt b N w M gs [] lds/\∀(ld:Addr)(kv:List (Key × V))(lvs:List (Str × Fr2))(lds':List LidD)(H':Hp),(∀ a u,V.ref a∉xs->H a=some u->H' a=some u)->H ld=none->H' ld=some (.dK kv)->BG (·.1) (NFV K H') lvs kv->All2 (LDV K Ad H') lds' xs->RSt b N w M gs lvs lds'->N.length<=lvs.length->lds'.map (·.nm)=lds.map (·.nm)->Q (.ref ld) H'
theorem Jew(F:"risen_levels"∘BaA)(T:Txt K mg Ad)(Bbv:5∘"coming_stops"∘["mosts","lids","levels"]∘(Jb9 K Ad))(BbJ:2∘"first_level"∘["stops"]∘(Jcn K))(BbT:1∘"stopped_at"∘["stops","level"]∘(JcM K))(m_settle:4∘"settle"∘(IsLid Ad)∘["self","part","level"]∘(JcB K Ad)):7∘["mosts","lids"]∘(Jcd K Ad):=by
 show F.okn Ja6 (by subst_eqs) (λg2 A c6 s H vs Q E hr h=>?_)
 let(md,ll,R,ms,xs,G,b,q0,N,w,M,gs,rfl,h):=h;have hu:=hr.units;show(_,(Jab (Jaj 2 Ja6.nd Jbt) (Jab (Jd8 PassesOwn.never (Jat Jgs (Jau Jcp rfl T.BbH Jbs %[pv 2|0]) (Jau Jcp rfl T.BbH Jbs %[pv 0|0]) (Jay _)) (Jab (Jaj 3 Ja6.nd (Bbv.ev hr ⋯ rfl passF %[pv 0,pv 1,pv 2|0])) (Jab (Jaj 4 Ja6.nd (BbJ.ev hr ⋯ rfl passF %[pv 3|0])) (Jag (JaV PassesOwn.never rfl (pi_U (BbT.ev hr ⋯ rfl passF %[pv 3,pv 4|0])) (Jaq 5 Ja6.nd) (Jab (JbC (hu1 hu) (pv 2) (pv 5) (pv 4) rfl) (Jag (JaV PassesOwn.never rfl (pi_U (pv 1)) (Jaq 6 Ja6.nd) (Jag (Jbi (m_settle.m hr ⋯ passF (pv 6) %[pv 5,pv 4|0]))))))))))) (Jag (Jap (pv 2))))),?_)
 clear hu;let(hm,bm,hl,hX,f3,l7,U,d3,k):=h;show tSeq _ _ _ [some (.ref md),some (.ref ll),none,none,none,none,none] H;cbv;rename_i g S f5 H H1 S1 e1;cbv;show(λm σ C=>∃(v3 v4 v5 v6:Option V)(kv:List (Key × V))(d:List (Str × Fr2))(o:List LidD),σ=[some (.ref md),some (.ref ll),some (.ref g),v3,v4,v5,v6]/\(∀ a u,V.ref a∉xs->H a=some u->C a=some u)/\C g=some (.dK kv)/\BG (·.1) (NFV K C) d kv/\All2 (LDV K Ad (cut g C)) o xs/\RSt b N w M gs d o/\o.map (·.nm)=G.map (·.nm)/\m=N.length-d.length,⟨_,none,none,none,none,[],[],G,rfl,λa u _ h=>S1 _ _ h,e1,⟨rfl,rfl⟩,hX.mono λ_ _ h=>h.same (Same.cutN S1 S),d3,rfl,rfl⟩,?_);intro m σ H2 z_;let(v3,v4,v5,v6,kv,d,o,rfl,S2,e2,b2,b7,st,b3,rfl):=z_;have x2:All2 (LDV K Ad H2) o xs:=b7.mono λ_ _ z=>z.same Jdo;cbv;have g0:=U.l12;have b8:=S2 md _ (LDV.notin hX hm (λ_ _ z=>by cases z)) hm;have W:=S2 ll _ (LDV.notin hX hl (λ_ _ z=>by cases z)) hl;have T2:SameT H H2:=λc u t h=>S2 c u (LDV.notin hX h (λ_ _ z=>by rw[z]at t;simp[isTF]at t)) h;have e0:BG (·.1) (NFV K H2) ms R:=bm.mono λ_ _ z=>z.sameT T2;have lk:=b2.length;have lm:=bm.length;have lN:ms.length=N.length:=by rw[<- U.nm,length_map]
 have sz:(1000:Nat)<=sizeLine:=by decide
 have f6:=hX.length;have f9:=x2.length;show(g,kv,rfl,e2,md,R,rfl,b8,?_);cbv;by_cases c:d.length<N.length
 .rw[if_pos (by simpa using(by ac_nf:kv.length<R.length))];cbv;show(_,λσ' C h=>h,?_);cbv;show(md,ll,g,R,ms,xs,o,kv,d,rfl,b8,e0,W,x2,e2,b2,by ac_nf,by ac_nf,st.lids U,by rw[U.nm];show U.nd,λsl ys H3 S3 e3 hY=>?_);cbv;have x:=st.stops U;show(sl,ys,_,rfl,SqL.of e3,hY,st.some U c,λs hs=>⟨(x s hs).1.s1,(x s hs).1.s2.mono ⋯,(x s hs).1.b1,(x s hs).1.g1⟩,λv L hL a9 hv=>?_);cbv;show(sl,v,ys,_,L,N,rfl,SqL.of e3,hY,hv,by ac_nf,λs hs n hn=>((x s hs).2 n hn).1,λl I H4 S4 e4 c3 f4=>?_);let(d8,d0,d7,D,c5):=st.first U c hL a9 c3 f4;have O:=S3.trans S4;have x4:All2 (LDV K Ad H4) o xs:=x2.mono λ_ _ z=>z.same O;have a0:=O _ _ e2;have f2:l≠g:=λz=>by rw[z,a0]at e4;cases e4
  have d5:=LDV.notin x4 e4 (λ_ _ z=>by cases z);have a3:=LDV.notin x4 a0 (λ_ _ z=>by cases z);have b4:ll≠g:=λz=>by rw[z,e2]at W;cases W
  have a2:=LDV.notin x2 W (λ_ _ z=>by cases z);have d4:=hv.same S4;cbv;show(l,rfl,ForA.byLN (xs:=I.map V.str) (SqL.of e4) (λi σ C=>i<=(I.map V.str).length/\∃(v5 v6:Option V)(kv':List (Key × V))(lds':List LidD),σ=[some (.ref md),some (.ref ll),some (.ref g),some (.ref sl),some v,v5,v6]/\(∀ a u,V.ref a∉xs->a≠g->H4 a=some u->C a=some u)/\C g=some (.dK kv')/\BG (·.1) (NFV K C) (d++(I.take i).map λn=>(n,L)) kv'/\All2 (LDV K Ad (cut g C)) lds' xs/\RMd b N w M gs L D (d.length+1) (d++(I.take i).map λn=>(n,L)) lds'/\lds'.map (·.nm)=G.map (·.nm)) ⟨Nat.zero_le _,v5,v6,kv,o,rfl,λ_ _ _ _ h=>h,a0,by rw[take_zero,map_nil,append_nil];show b2.mono λ_ _ z=>z.sameT λc u _ h=>O _ _ h,b7.mono (λ_ _ z=>z.same O.cut),by rw[take_zero,map_nil,append_nil];show c5,b3⟩ (λi σ C q=>by let(_,_,_,_,_,_,q,_):=q;show SqL.of (q _ _ d5 f2 e4)) ?_ ?_)
  .intro i y σ H5 hy z_ N0 d1;let(hi,f0,c1,a7,p,rfl,S5,e5,b5,J,B,X):=z_;have li:=(List.getElem?_eq_some_iff.mp hy).1;rw[length_map]at li;rw[List.getElem?_map]at hy;let(n,hn,rfl):=Option.map_eq_some_iff.mp hy;have e9:=List.mem_of_getElem? hn;have hN:=d0 n e9;have c7:I.take (i+1)=I.take i++[n]:=by rw[take_succ,hn];rfl
   have a5:(d++(I.take (i+1)).map λn=>(n,L))=(d++(I.take i).map λn=>(n,L))++[(n,L)]:=by rw[c7,map_append, <- List.append_assoc];rfl
   have hS:n∉(d++(I.take i).map λn=>(n,L)).map (·.1):=by
    rw[Jbn];intro z;rcases mem_append.mp z with z | z
    .show hN.2 z
    .show Jj1 c3 hn z
   have T5:SameT H4 H5:=λc u t h=>S5 c u (LDV.notin x4 h (λ_ _ z=>by rw[z]at t;simp[isTF]at t)) (λz=>by rw[z,a0]at h;cases h;simp[isTF]at t) h;have f7:=b5.length;have l5:(d++(I.take i).map λn=>(n,L)).length<=N.length:=by
    have:=sub_len _ _ B.inv.nd B.inv.sub;simpa using this
   have f8:=J.length;cbv;show(g,_,rfl,DPut.k (k:=Sum.inr n) e5 ∅,?_);generalize u6:upd H5 g _=Z;cbv;have e6:=putE u6;have T6:SameT H5 Z:=SameT.put u6 e5 rfl;have o6:∀ a u,a≠g->H5 a=some u->Z a=some u:=λa u ne h=>by rw[<- u6,Jah ne];show h
   have d9:cut g Z=cut g H5:=by rw[<- u6];show JgM
   rw[<- d9]at J;have x6:All2 (LDV K Ad Z) p xs:=J.mono λ_ _ z=>z.same Jdo;have b0:=(d4.sameT T5).sameT T6;have b6:BG (·.1) (NFV K Z) (d++(I.take (i+1)).map λn=>(n,L)) (putK a7 (Sum.inr n) v):=by
    rw[a5];show(b5.mono (P':=NFV K Z) λ_ _ z=>z.sameT T6).new (a:=(n,L)) hS b0
   have a8:Z ll=some (.lst xs):=o6 _ _ b4 (S5 _ _ a2 b4 (O _ _ W));have Y:=B.rest U;have c9:=B.step U hN.1 hS;cbv;show(ll,rfl,ForA.byLN (xs:=xs) (SqL.of a8) (λj σ C=>j<=xs.length/\∃(v6:Option V),σ=[some (.ref md),some (.ref ll),some (.ref g),some (.ref sl),some v,some (.str n),v6]/\(∀ a u,V.ref a∉xs->Z a=some u->C a=some u)/\All2 (LDV K Ad (cut g C)) ((p.take j).map (λe=>e.settle n L)++p.drop j) xs) ⟨Nat.zero_le _,c1,rfl,λ_ _ _ h=>h,by rw[take_zero,map_nil,List.drop_zero,nil_append];show J⟩ (λj σ C q=>by let(_,_,_,q,_):=q;show SqL.of (q _ _ a2 a8)) ?_ ?_)
   .rintro j z σ H7 hz ⟨hj,c0,rfl,S7,x7⟩ N1 d6;have lj:=(List.getElem?_eq_some_iff.mp hz).1;let(e,a6,a4):=x7.at_ hz;rw[Jlw]at a6;have c2:=List.mem_of_getElem? a6;have b9:=a4.same Jdo;let(q,dx,vr,vt,wd,rfl,hq,_):=id b9;have T7:SameT Z H7:=λc u t h=>S7 c u (LDV.notin x6 h (λ_ _ z=>by rw[z]at t;simp[isTF]at t)) h;have e7:=S7 _ _ a3 e6;have d2:V.ref q∈xs:=List.mem_of_getElem? hz;cbv;show(q,_,dx,_,rfl,hq,rfl,rfl,?_);show(q,n,v,e,L,rfl,b9,b0.sameT T7,(Y e c2).1,B.fL,(Y e c2).2,λH8 S8 _ f1=>?_);cbv;have c4:g≠q:=λz=>by rw[<- z,e7]at hq;cases hq
    have e8:=S8 _ _ c4 e7;show d6 _ _ ⟨lj,_,rfl,λa u hx h=>S8 a u (λz=>hx (z ▸ d2)) (S7 a u hx h),?_⟩;rw[<- JhG a6];show x7.put hz (f1 g _ e7 a4) λi' a y ne ha hy a1=>?_;have qc:cut g H7 q=_:=(JbX c4.symm).trans hq;show a1.keep (q:=q) (λb u nb h=>?_) qc (λz=>ne ?_)
    .have c8:b≠g:=λz=>by rw[z]at h;unfold cut at h;rw[if_pos rfl]at h;cases h
     rw[JbX c8]at h ⊢;show S8 b u nb h
    .rw[z, <- hz]at hy;show((List.getElem?_inj lj f3).mp hy.symm).symm
   .rintro σ H7 ⟨hj,c0,rfl,S7,x7⟩;rw[take_of_length_le ∅,List.drop_eq_nil_of_le ∅,append_nil]at x7;have T7:SameT Z H7:=λc u t h=>S7 c u (LDV.notin x6 h (λ_ _ z=>by rw[z]at t;simp[isTF]at t)) h;show d1 _ _ ⟨by rw[length_map];ac_nf,_,_,_,_,rfl,λa u hx a1 h=>S7 a u hx (o6 a u a1 (S5 a u hx a1 h)),S7 _ _ a3 e6,b6.mono λ_ _ z=>z.sameT T7,x7,by rw[a5];show c9,Jip.trans X⟩
  .intro σ H5 z_;let(hi,f0,c1,a7,p,rfl,S5,e5,b5,J,B,X):=z_;rw[length_map,take_of_length_le (Nat.le_refl _)]at b5 B;have ln:1<=I.length:=by cases I with | nil=>show absurd rfl d8 | cons a r=>simp
   show(_,?_,_,_,_,_,a7,_,p,rfl,λa u hx h=>S5 a u hx (λz=>by rw[z,S]at h;cases h) (O _ _ (S2 a u hx h)),e5,b5,J,B.next U d7 st.lo ∅,X,rfl);rw[length_append,length_map];ac_nf
 .rw[if_neg (by simpa using(by ac_nf:¬ kv.length<R.length))];cbv;show k g kv d o H2 S2 S e2 b2 x2 st ∅ b3
abbrev Bbc:Stmt:=top 41
theorem JeF:Jan ["lids","name","level","full"] ["lids","name","level"] (Jaf Bbc):=by bv_decide
def Jdh(K:W.Frag)(Ad:Adr):Sp:=λvs H Q E=>∃(ll:Addr)(n:Str)(lv:V)(xs:List V)(lds:List LidD)(L:Fr2)(e:LidD),vs=[.ref ll, .str n,lv]/\H ll=some (.lst xs)/\All2 (LDV K Ad H) lds xs/\lds.length<=7/\FrV K H lv L.1 L.2/\lds.find? (λl=>(wtOf l.ws n).isSome&&(decide (l.rest=(0,1))&&decide (l.last=L)))=some e/\∀ p H',Same H H'->H' p=some (.tup [.str (Str.ofString "gap"), .str e.nm])->Q (.ref p) H'
theorem JgY(F:"gap_stop"∘Bbc)(T:Txt K mg Ad)(m_has_stopped:1∘"has_stopped"∘(IsLid Ad)∘["self","part","level"]∘(Jby K Ad)):2∘["lids","name","level"]∘(Jdh K Ad):=by
 show F.okn JeF (by subst_eqs) (λa1 A t s H vs Q E W h=>?_)
 let(o,n,u,xs,a,L,e,rfl,h):=h;show(_,(Jab (Jb5 (j:=3) (own:=["lid"]) (cs:=[(1,"name"),(2,"level")]) JeF.nd rfl (Or.inl rfl) rfl (pi_U (pv 0)) (λ_ _ _ _=>(Jaq 0 (show[("lid" : Str),("name" : Str),("level" : Str)].Nodup by decide))) (λ_ _ _ _=>JfK (Jbc (m_has_stopped.m W ⋯ passF (pv 0) %[pv 1,pv 2|0]))) (λ_ _ _ _=>(JlZ (K:=K) rfl (pv 0) rfl)) (JcQ rfl) ⋯ rfl ⋯ (hcs2 rfl rfl rfl rfl rfl rfl)) (Jag (Jap (JaF %[Jbe,!3|0])))),?_)
 let(O,G,l7,X,N,k):=h;have lX:=G.length;have sz:(1000:Nat)<=sizeLine:=by decide
 show tSeq _ _ _ [some (.ref o),some (.str n),some u,none] H;mleave;obtain⟨P,J⟩:∃ P:LidD->Bool,P=λl=>(wtOf l.ws n).isSome&&(decide (l.rest=(0,1))&&decide (l.last=L)):=⟨_,rfl⟩;rw[<- J]at N;show(o,rfl, .inl ⟨⟨xs,SqL.of O⟩,JcO.list (xs:=xs) (λi g R=>R=H/\g=((a.take i).filter P).map λe=>V.str e.nm) ⟨rfl,by rw[take_zero];rfl⟩ (λi g R hi z=>⟨by rw[z.1];show SqL.of O,by
  rw[z.2,length_map];have h2:=List.length_filter_le P (a.take i);rw[length_take]at h2;ac_nf⟩) ?_ ?_⟩)
 .rintro i y g I hy ⟨c,b⟩;subst c;subst b;let(l,v,B):=G.at_ hy;let(q,M,vr,vt,wd,rfl,S,_):=id B;have C:=T.c_Lid Ad.Lid rfl;have d:a.take (i+1)=a.take i++[l]:=by rw[take_succ,v];rfl
  simpa only[length_singleton,length_cons,length_nil,List.replicate,JaM,map_cons,map_nil,Option.join_some];show(q,_,M,_,rfl,S,rfl,rfl,?_);show(q,n,u,l,L,rfl,B,X,?_);mleave;rw[show((wtOf l.ws n).isSome&&(decide (l.rest=(0,1))&&decide (l.last=L)))=P l by rw[J]];cases cp:P l with
  | false=>
   mleave;rw[d,filter_append,show[l].filter P=[]from List.filter_eq_nil_iff.mpr λx r=>by rw[mem_singleton.mp r,cp];decide,append_nil]
  | true=>
   mleave;show(q,_,M,_, .str l.nm,rfl,S,C.cls,C.n1,rfl,?_);mleave;rw[d,filter_append,show[l].filter P=[l]from List.filter_eq_self.mpr λx r=>by rw[mem_singleton.mp r,cp],map_append];rfl
 .rintro g I ⟨c,b⟩;subst c;rw[take_of_length_le ∅]at b;have h0:g[0]?=some (.str e.nm):=by
   have h1:(a.filter P).head?=some e:=by rw[List.head?_filter];show N
   rw[b,List.getElem?_map, <- List.head?_eq_getElem?,h1];rfl
  rename_i fl D U I H3 Y e3;mleave;mleave;show ixL (i:=0) (SqL.of e3) h0 ?_;mleave;show(len2,?_);rename_i p a0 a2 H3 H4 Z e4;mleave;show k p H4 (Y.trans Z) e4
abbrev Bce:Stmt:=top 42
theorem JbK:Jan ["thing","scale","lids","mosts","levels","told","part","name","level","slack"] ["thing"] (Jaf Bce):=by bv_decide
def JfY(K:W.Frag)(Ad:Adr):Sp:=λvs H Q E=>∃(x:Addr)(ls:List PD)(es:List (GD × List Str))(pl:Str->Fr2),vs=[.ref x]/\TK K Ad H x ls (es.map (·.1))/\SHC ls es pl/\((∀ e∈es,0<=vl (roomF pl e.1))->∀(tl:Addr)(zs:List V)(rs:List ShD)(H':Hp),Same H H'->H tl=none->H' tl=some (.lst zs)->All2 (ShV K H') rs zs->ShR ls es pl rs->Q (.ref tl) H')/\∀(i:Nat)(e:GD × List Str),es[i]?=some e->vl (roomF pl e.1)<0->(∀ e'∈es.take i,0<=vl (roomF pl e'.1))->∀(dx:Addr)(H':Hp),Same H H'->H dx=none->H' dx=some (.xd [("tight_gap", .str e.1.nm)])->E (.ref Ad.Tight) (some dx) H'
theorem Jkg(F:"share"∘Bce)(T:Txt K mg Ad)(Bbd:4∘"scale_of"∘["thing"]∘(JcL K Ad))(Bcy:7∘"lids_of"∘["thing","scale"]∘(JdS K Ad))(BbK:4∘"most_levels"∘["thing","scale"]∘(Jco K Ad))(Bbw:7∘"risen_levels"∘["mosts","lids"]∘(Jcd K Ad))(Bae:2∘"parts"∘(JaH Ad)∘["self"]∘(JaC K Ad))(m_lowered:2∘"lowered"∘(Jdb Ad)∘["self","number"]∘(JbT K Ad))(Bbu:2∘"times"∘["one","other"]∘(JdC K))(Bcf:2∘"gap_stop"∘["lids","name","level"]∘(Jdh K Ad)):9∘["thing"]∘(JfY K Ad):=by
 show F.okx JbK (λvs H Q E h=>?_) (λj3 A e7 s H vs Q E hr h=>?_)
 .let(x,X,es,pl,rfl,_):=h;rfl
 let(x,X,es,pl,rfl,h):=h;have hu:=hr.units;show(_,(Jab (Jaj 1 JbK.nd (Bbd.ev hr ⋯ rfl pass1 %[pv 0|0])) (Jab (Jaj 2 JbK.nd (Bcy.ev hr ⋯ rfl pass1 %[pv 0,pv 1|0])) (Jab (Jaj 3 JbK.nd (BbK.ev hr ⋯ rfl pass1 %[pv 0,pv 1|0])) (Jab (Jaj 4 JbK.nd (Bbw.ev hr ⋯ rfl pass1 %[pv 3,pv 2|0])) (Jab (Jaj 5 JbK.nd (Jbd Jac)) (Jab (JaV PassesOwn.leaving rfl (pi_U (Bae.m0 hr ⋯ pass1 (pv 0))) (Jaq 6 JbK.nd) (Jab (Jaj 7 JbK.nd (!6)) (Jab (Jaj 8 JbK.nd (Ja9 (hu1 hu) (pv 4) (pv 7) (λ_ _=>rfl))) (Jag (ps_if (Jat (JcR hu) (pv 8) (Ja9 (hu1 hu) (pv 3) (pv 7) (λ_ _=>rfl)) (Jay _)) (Jag (Jbi (pe_bm PySem.F.plainAttrs_list PySem.F.slot_list_append PySem.F.type_list_append Jbb (pv 5) %[JaF %[pv 7,!6,JaF %[Jbe|0]|0]|0] (hs:=by show Jae rfl)))) (Jab (Jaj 9 JbK.nd (m_lowered.m hr ⋯ pass1 (pv 1) %[Bbu.ev hr ⋯ rfl pass1 %[pv 8,JaF %[!6,Jad|0]|0]|0])) (Jag (Jbi (pe_bm PySem.F.plainAttrs_list PySem.F.slot_list_append PySem.F.type_list_append Jbb (pv 5) %[JaF %[pv 7,pv 9,Bcf.ev hr ⋯ rfl pass1 %[pv 2,pv 7,pv 8|0]|0]|0] (hs:=by show Jae rfl)))))))))) (Jag (Jap (pv 5))))))))),?_)
 clear hu;let(ht,d,k,kT):=h;let(dx,d1,d2,d3,k1,k2,k3,hx,_):=id ht;have sl:(1000:Nat)<=sizeLine:=by decide
 have j1:=d.l12;have l7:=d.l7;show tSeq _ _ _ [some (.ref x),none,none,none,none,none,none,none,none,none] H;cbv;show(x,X,_,rfl,ht,d.l12,by rw[length_map];show d.l7,by rw[length_map];show d.l14,λp R=>⟨(d.pb p R).1,(d.pb p R).2.b1,(d.pb p R).2.s2.mono ⋯⟩,λg hg=>by let(e,he,rfl):=mem_map.mp hg;show d.gb e he,λsc b fs H1 S1 a0=>?_);let(f8,fl,c0,_,d6,sb,_):=id a0;have b1:=d6.b1;cbv;show(x,sc,X,es,pl,b,fs,rfl,ht.same S1,a0,d,λc9 ll xs b7 H2 S2 i7 e2 hX i0 g9 c2 b3=>?_,λi e h1 h2 h3 f5 H2 S2 h4 h5=>kT i e h1 h2 h3 f5 H2 (S1.trans S2) (Jch S1 h4) h5);cbv;have f4:=S1.trans S2;show(x,sc,X,_,b,fs,rfl,ht.same f4,a0.same S2,d.l12,d.nd,λp R=>⟨(d.pb p R).2,(d.pok p R).w,d.wt p R⟩,λmd d0 ms H3 S3 i4 e3 bm d9 f3=>?_);let(q0,rc,h8):=Jkz b1 sb d c9 c2 b3 d9 f3;have hw:=Jk0 c2 b3;cbv;have x3:All2 (LDV K Ad H3) b7 xs:=hX.mono λ_ _ z=>z.same S3;show(md,ll,d0,ms,xs,b7,b,q0,_,_,_,_,rfl,e3,bm,S3 _ _ e2,x3,i0,by ac_nf,rc,h8,λld kv g6 O H4 S4 i2 e4 b4 x4 W M f1=>?_);have b8:Same H1 H4:=λc u h=>S4 c u (λz=>by let(q,eq,hq):=g9 _ z;have eq:c=q:=(by injection eq);rw[<- eq,h]at hq;cases hq) (S3 _ _ (S2 _ _ h));have a2:=S1.trans b8;have T4:SameT H3 H4:=λc u t h=>S4 c u (LDV.notin x3 h (λ_ _ z=>by rw[z]at t;simp[isTF]at t)) h;have f7:=S4 _ _ (LDV.notin x3 e3 (λ_ _ z=>by cases z)) e3;have h0:=S4 _ _ (LDV.notin x3 (S3 _ _ e2) (λ_ _ z=>by cases z)) (S3 _ _ e2);have f0:BG (·.1) (NFV K H4) ms d0:=bm.mono λ_ _ z=>z.sameT T4;have d4:O.map (·.nm)=es.map (·.1.nm):=by
  rw[f1];show List.ext_getElem? λi=>?_;rw[List.getElem?_map,List.getElem?_map];by_cases c:i<es.length
  .rw[List.getElem?_eq_getElem c,List.getElem?_eq_getElem (by ac_nf:i<b7.length)];show congrArg some (b3 i _ _ (List.getElem?_eq_getElem c) (List.getElem?_eq_getElem ∅)).nm
  .rw[List.getElem?_eq_none ∅,List.getElem?_eq_none ∅];rfl
 have j4:O.length=es.length:=by simpa using congrArg List.length d4
 cbv;show(Nat.zero_le _,?_);rename_i Y a6 i5 H4 H5 S5 e5;cbv;have a4:H Y=none:=Jch a2 a6;show(x,_,dx,_,rfl,S5 _ _ (a2 _ _ hx),rfl,rfl,x,X,_,rfl,ht.same (a2.trans S5),by ac_nf,λl ys H6 S6 d8 e6 hY=>?_);have lY:=hY.length;have h6:l≠Y:=λz=>by rw[z,e5]at d8;cases d8
 have d7:=Same.trans S5 S6;cbv;show(l,rfl,ForA.byLN (xs:=ys) (SqL.of e6) (λi σ H'=>i<=ys.length/\∃(v6 v7 v8 v9:Option V)(zs:List V)(W:List ShD),σ=[some (.ref x),some (.ref sc),some (.ref ll),some (.ref md),some (.ref ld),some (.ref Y),v6,v7,v8,v9]/\(∀ c u,c≠Y->H6 c=some u->H' c=some u)/\SameT H6 H'/\H' Y=some (.lst zs)/\All2 (ShV K H') W zs/\W.length=i/\∀(j:Nat) p r,X[j]?=some p->W[j]?=some r->ShRow X es pl (lvf b g6) p r) ⟨Nat.zero_le _,none,none,none,none,[],[],rfl,λ_ _ _ h=>h,SameT.refl _,S6 _ _ e5,rfl,rfl,λj p r _ h=>by simp at h⟩ (λi σ H' q=>by let(_,_,_,_,_,_,_,_,q,_):=q;show SqL.of (q _ _ h6 e6)) ?_ ?_)
 .intro i y σ H7 hy z_ N0 c3;let(hi,v6,v7,v8,v9,zs,a1,rfl,ho,hT,ez,hZ,N,I):=z_;have li:=(List.getElem?_eq_some_iff.mp hy).1;let(p,R,b_,vz,vm,rfl,hb,_,hm):=hY.at_ hy;have Z:=List.mem_of_getElem? R;have b6:=hb.sameT hT;have o:Same H4 H7:=λc u h=>ho c u (Jai h a6) (d7 _ _ h);have c5:p.nm∈X.map (·.nm):=mem_map.mpr ⟨p,Z,rfl⟩;let(a,U,ha,J,c6,g2):=b4.some (z:=p.nm) (W.all rc M _ c5);have J:a.1=p.nm:=J;let(m,b5,g0,b2,a7,f6):=f0.some (z:=p.nm) (by rw[rc.nm];show c5);have b2:m.1=p.nm:=b2;have fa:=sh_lv rc W ha;have ml:=rc.ml m g0;have c8:vl m.2=moF X a.1*(b:Rat):=by rw[ml.1,b2,J]
  have g7:DGet H7 ld (.str p.nm) (some U):=by rw[<- c6];show DGet.k (k:=Sum.inr p.nm) (o _ _ e4)
  have i1:DGet H7 md (.str p.nm) (some b5):=by rw[<- a7];show DGet.k (k:=Sum.inr p.nm) (o _ _ f7)
  have b0:FrV K H7 U a.2.1 a.2.2:=FrV.same o g2;have g4:FrV K H7 b5 m.2.1 m.2.2:=FrV.same o f6;have lZ:=hZ.length;cbv;show ixT (i:=0) b6 rfl ?_;cbv;show(ld,U,rfl,g7,?_);cbv;show(md,b5,rfl,i1,?_);show eqF b0 g4 ?_;have ee:(decide (a.2.1=m.2.1)&&decide (a.2.2=m.2.2))=decide (a.2=m.2):=by
   rw[<- Bool.decide_and];show decide_eq_decide.mpr Prod.ext_iff.symm
  rw[ee];cbv;by_cases c:a.2=m.2
  .rw[if_pos (by simpa using c)];cbv;show(.inl ⟨rfl,_,SqL.of ez⟩,?_);show ixT (i:=4) b6 rfl ?_;cbv;show(by show 1<=sizeLine;ac_nf,?_);rename_i t i8 j2 H7 H8 S8 e8;cbv;cbv;show(by show 3<=sizeLine;ac_nf,?_);rename_i pr d5 c1 H8 H9 S9 e9;cbv;have B:=Same.trans S8 S9;have S:=B _ _ ez;cbv;show(Y,zs,_,rfl,rfl,S,by ac_nf,?_);generalize C:upd H9 Y _=G;cbv;have a8:=putE C;have n:SameT H9 G:=SameT.put C S rfl;have T7:=B.t.trans n;show c3 _ _ ⟨li,_,_,_,_,_,a1++[(⟨p.nm,p.mo,none⟩:ShD)],rfl,λc u L h=>by rw[<- C,Jah L];show B _ _ (ho c u L h),hT.trans T7,a8,(hZ.mono (P':=ShV K G) λ_ _ z=>z.sameT T7).append (.one (show ShV K G (⟨p.nm,p.mo,none⟩:ShD) (.ref pr)from⟨pr,_,t,rfl,SqT.of (n _ _ rfl e9),((hm.sameT hT).same B).sameT n,SqT.of (n _ _ rfl (S9 _ _ e8))⟩)),by rw[length_append,N];rfl,λj p' r' h1 h2=>?_⟩;rcases Jbf h2 with h2 | ⟨q1,q2⟩
   .show I j p' r' h1 h2
   .rw[q1,N,R]at h1;cases h1;rw[q2];show Jmh d rc W Z ha J (by rw[c];show c8)
  .rw[if_neg (by simpa using c)];cbv;have b9:vl a.2≠moF X a.1*(b:Rat):=λz=>c (fa.lo.inj ml.2.1.lo (z.trans c8.symm));let(l0,e0,g8,f2,g5):=Jmf hw rc W M d4 ha b9;have wp:=d.wt p Z;show(sc,_,f8,_,rfl,o _ _ (b8 _ _ c0),rfl,rfl,?_);show ixT (i:=5) b6 rfl ?_;cbv;show(len2,?_);rename_i w1 i3 i6 H7 H8 S8 e8;cbv;show(U, .ref w1,_,_,p.wt,1,rfl,b0.same S8,FrV.of e8,fa.s1.mono ⋯,fa.s2.mono ⋯,wp.mono ⋯, .lit ⋯ ⋯,fa.b1,by decide,fa.g1,by unfold Mth.g;simp,λp2 H9 S9 e9=>?_);have e9:H9 p2=some (.tup [.int (mulF a.2 (p.wt,1)).1, .int (mulF a.2 (p.wt,1)).2]):=e9;have a5:=Same.trans S8 S9;have i9:=Jfs (a:=a.2) (c:=(p.wt,1)) fa.b1 (Int.le_refl 1);have e1:FB 3000 1000 (mulF a.2 (p.wt,1)):=by
    show FB.low (Jcq fa.b1 (Int.le_refl 1)) ((fa.s1.mul wp).mono ⋯) ?_;show Mth.Sz 1000 (a.2.2*1);rw[Int.mul_one];show fa.s2.mono ⋯
   cbv;show(sc, .ref p2,_,b,fs,rfl,a0.same (b8.trans (o.trans a5)),FrV.of e9,e1,λp3 tt j0 h7 f9 h9=>?_);have v:=a5.trans h7;cbv;show(.inl ⟨rfl,_,SqL.of (v _ _ ez)⟩,?_);cbv;show(ll,p.nm,U,xs,O,a.2,l0,rfl,v _ _ (o _ _ h0),x4.mono (λ_ _ z=>z.same (o.trans v)),by ac_nf,b0.same v,by rw[<- J];show g8,λt g3 c4 c7=>?_);cbv;show(by show 3<=sizeLine;ac_nf,?_);rename_i pr d5 c1 g3 a3 a9 e9;cbv;have B:=v.trans (c4.trans a9);have S:=B _ _ ez;cbv;show(Y,zs,_,rfl,rfl,S,by ac_nf,?_);generalize C:upd a3 Y _=G;cbv;have a8:=putE C;have n:SameT a3 G:=SameT.put C S rfl;have T7:=B.t.trans n;show c3 _ _ ⟨li,_,_,_,_,_,a1++[(⟨p.nm,tt,some e0.1.nm⟩:ShD)],rfl,λc u L h=>by rw[<- C,Jah L];show B _ _ (ho c u L h),hT.trans T7,a8,(hZ.mono (P':=ShV K G) λ_ _ z=>z.sameT T7).append (.one (show ShV K G (⟨p.nm,tt,some e0.1.nm⟩:ShD) (.ref pr)from⟨pr,_,t,rfl,SqT.of (n _ _ rfl e9),FrV.of (n _ _ rfl (a9 _ _ (c4 _ _ f9))),by rw[g5]at c7;show SqT.of (n _ _ rfl (a9 _ _ c7))⟩)),by rw[length_append,N];rfl,λj p' r' h1 h2=>?_⟩;rcases Jbf h2 with h2 | ⟨q1,q2⟩
   .show I j p' r' h1 h2
   .rw[q1,N,R]at h1;cases h1;rw[q2];show Jmg d rc W Z ha J b9 h9 f2
 .intro σ H7 z_;let(hi,v6,v7,v8,v9,zs,a1,rfl,ho,hT,ez,hZ,N,I):=z_;cbv;let(D,F):=JjA hw rc W M;show k c9 Y zs a1 H7 (λc u h=>ho c u (Jai h a4) (d7 _ _ (a2 _ _ h))) a4 ez hZ ⟨by have:=hZ.length;ac_nf,_,D,F,I⟩
abbrev BcX:Stmt:=top 43
theorem JfP:Jan ["room","slacks","total","slack"] ["room","slacks"] (Jaf BcX):=by bv_decide
def Jhm(K:W.Frag):Sp:=λvs H Q E=>∃(r:V)(l:Addr)(xs:List V)(ts:List Fr2)(m:Fr2),vs=[r, .ref l]/\FrV K H r m.1 m.2/\FB 2200 56 m/\SqL K H l xs/\All2 (FLV K H) ts xs/\(∀ t∈ts,FB 2200 56 t)/\ts.length<=8/\∀(b:Bool) H',Same H H'->(b=true↔smF ts<=vl m)->Q (.bl b) H'
theorem JlN(F:"fits"∘BcX)(T:Txt K mg Ad)(Bca:2∘"plus"∘["one","other"]∘(JeN K))(Bah:1∘"under"∘["one","other"]∘(JbO K)):3∘["room","slacks"]∘(Jhm K):=by
 show F.okn JfP (by subst_eqs) (λZ A B s H vs Q E G h=>?_)
 let(r,l,xs,I,m,rfl,h):=h;show(_,(Jab (Jaj 2 JfP.nd (Jbh (v:=.ref _) rfl T.Bcn T.Bco)) (Jab (JaV PassesOwn.never rfl (pi_U (pv 1)) (Jaq 3 JfP.nd) (Jag (Jaj 2 JfP.nd (Bca.ev G ⋯ rfl passF %[pv 2,pv 3|0])))) (Jag (Jap (JhQ (Bah.ev G ⋯ rfl passF %[pv 0,pv 2|0])))))),?_)
 let(W,fm,O,M,hB,l8,k):=h;have lx:=M.length;show tSeq _ _ _ [some r,some (.ref l),none,none] H;cbv;show(l,rfl,ForA.byL (xs:=xs) O (λi σ C=>i<=xs.length/\∃(t:V)(u:Fr2)(o:Option V),σ=[some r,some (.ref l),some t,o]/\Same H C/\FrV K C t u.1 u.2/\FB (2700+57*i) (1+56*i) u/\vl u=smF (I.take i)) ⟨Nat.zero_le _, .ref Ad.ZERO,(0,1),none,rfl,Same.refl _,⟨Ad.ZERO,rfl,T.Bcp _⟩,Jdl.mono ∅ ∅,by rw[take_zero];unfold vl smF;grind⟩ (λi σ C q=>by let(_,_,_,_,_,q,_):=q;show O.same q) ?_ ?_)
 .intro i y σ L N z_;let(hi,t,u,o,rfl,g,D,b,j):=z_;have U:=(List.getElem?_eq_some_iff.mp N).1;let(s,J,R):=M.at_ N;have d:=hB s (List.mem_of_getElem? J);have X:i<8:=by ac_nf
  cbv;show(t,y,_,_,_,_,rfl,D,FrV.same g R,b.s1.mono ∅,b.s2.mono ∅,d.s1.mono ∅,d.s2.mono ∅,b.b1,d.b1,b.g1,d.g1,λp H2 Y S=>?_);cbv;show(U, .ref p,addF u s,_,rfl,g.trans Y,FrV.of S,?_,?_)
  .have:=FB.add (n:=2700+57*i+56) (m:=1+56*(i+1)) b d ∅ ∅ ∅;show this.mono ∅ ∅
  .rw[JhZ b.b1 d.b1,j,take_succ,J];show(JfW s _).symm
 .intro σ L z_;let(hi,t,u,o,rfl,g,D,b,j):=z_;rw[take_of_length_le ∅]at j;have X:xs.length<=8:=by ac_nf
  cbv;show(r,t,m.1,m.2,u.1,u.2,rfl,FrV.same g W,D,fm.s1.mono ∅,fm.s2.mono ∅,b.s1.mono ∅,b.s2.mono ∅,?_);cbv;have x:=JbV (a:=m) (c:=u) fm.b1 b.b1;unfold lessF at x;show k _ L g ?_;rw[<- j];by_cases c:vl m<vl u
  .rw[x.mpr c];constructor
   .intro z;cases z
   .intro z;show absurd c (Rat.not_lt.mpr z)
  .have e:decide (m.1*u.2<u.1*m.2)=false:=by
    cases q:decide (m.1*u.2<u.1*m.2)with
    | false=>rfl
    | true=>show absurd (x.mp q) c
   rw[e];show(λ_=>Rat.not_lt.mp c,λ_=>rfl)
abbrev BaS:Stmt:=top 44
theorem Jba:Jan ["thing","slacks","scale","by_name","part","slack","gap","on_way"] ["thing","slacks"] (Jaf BaS):=by bv_decide
def JcE(K:W.Frag)(Ad:Adr):Sp:=λvs H Q E=>∃(x sl:Addr)(ls:List PD)(es:List (GD × List Str))(sx:List V)(ss:List Fr2)(pl:Str->Fr2),vs=[.ref x, .ref sl]/\TK K Ad H x ls (es.map (·.1))/\SqL K H sl sx/\All2 (FLV K H) ss sx/\ss.length=ls.length/\(∀ s∈ss,FB 200 56 s)/\ISC ls es pl/\∀(b:Bool) H',Same H H'->(b=true↔ShP ls es ss pl)->Q (.bl b) H'
theorem Jfz(F:"is_sharing"∘BaS)(T:Txt K mg Ad)(Bbd:4∘"scale_of"∘["thing"]∘(JcL K Ad))(Bae:2∘"parts"∘(JaH Ad)∘["self"]∘(JaC K Ad))(BaZ:2∘"gaps"∘(JaH Ad)∘["self"]∘(Ja0 K Ad))(Bah:1∘"under"∘["one","other"]∘(JbO K))(Ba7:2∘"lifted"∘(Jdb Ad)∘["self","number"]∘(Jbk K Ad))(BaQ:2∘"part_names"∘["thing","gap_name"]∘(Jb1 K Ad))(BdT:3∘"fits"∘["room","slacks"]∘(Jhm K))(Bb7:5∘"room"∘(JaH Ad)∘["self","name"]∘(JbA K Ad)):7∘["thing","slacks"]∘(JcE K Ad):=by
 show F.okn Jba (by subst_eqs) (λi0 A f5 s H vs Q E hr h=>?_)
 let(x,sl,o,es,sx,ss,pl,rfl,h):=h;have hu:=hr.units;show(_,(Jab (Jaj 2 Jba.nd (Bbd.ev hr ⋯ rfl passF %[pv 0|0])) (Jab (Jaj 3 Jba.nd Jbt rfl (Or.inr rfl)) (Jab (JaV PassesOwn.never rfl (Jm8 rfl T.Bei Jmy %[Bae.m0 hr ⋯ passF (pv 0),pv 1|0]) (Jfc rfl (Jbo (Jaq 4 Jba.nd) (Jbo (Jaq 5 Jba.nd) JdO))) (Jab (ps_if (PW.pt (pw_or (Jbc (Bah.ev hr ⋯ rfl passF %[pv 5,Jbh (v:=.ref _) rfl T.Bcn T.Bco|0])) (JbZ (Jbc (Bah.ev hr ⋯ rfl passF %[!4,pv 5|0]))))) (Jag (Jap pe_bl))
   Jav) (Jag (JbC (hu1 hu) (pv 3) (!4) (Ba7.m hr ⋯ passF (pv 2) %[pv 5|0]) rfl)))) (Jab (JaV PassesOwn.never rfl (pi_U (BaZ.m0 hr ⋯ passF (pv 0))) (Jaq 6 Jba.nd) (Jab (JkZ (Jb5 (j:=7) (own:=["name"]) (cs:=[(3,"by_name")]) Jba.nd rfl (Or.inl rfl) rfl (pi_U (BaQ.ev hr ⋯ rfl passF %[pv 0,!6|0])) (λ_ _ _ _=>(Jaq 0 (show[("name" : Str),("by_name" : Str)].Nodup by decide))) (λ_ _ _ _=>JcY) (λ_ _ _ _=>(Ja9 (hu1 hu) (pv 1) (pv 0) (λ_ _=>rfl))) (JcQ rfl) ⋯ rfl ⋯ (hcs1 rfl rfl rfl))) (Jag (ps_if (JbP (Jbc (BdT.ev hr ⋯ rfl passF %[Ba7.m hr ⋯ passF (pv 2) %[Bb7.m hr ⋯ passF (pv 0) %[!6|0]|0],pv 7|0]))) (Jag (Jap pe_bl))
   Jav)))) (Jag (Jap pe_bl)))))),?_)
 clear hu;let(ht,d5,hA,g1,f1,d,k):=h;let(dx,d1,d2,d3,k1,k2,k3,hx,_):=id ht;have h8:(1000:Nat)<=sizeLine:=by decide
 have l7:=d.l7;have l6:=d.l6;have h5:=hA.length;show tSeq _ _ _ [some (.ref x),some (.ref sl),none,none,none,none,none,none] H;cbv;show(x,o,es.map (·.1),rfl,ht,by ac_nf,by rw[length_map];show Nat.le_trans d.l6 ⋯,by rw[length_map];have:=d.l6;ac_nf,λp O=>⟨⟨(d.pb p O).1.b1,(d.pb p O).1.s2.mono ⋯⟩,(d.pb p O).2.b1,(d.pb p O).2.s2.mono ⋯⟩,λg hg=>by let(e,he,rfl):=mem_map.mp hg;show d.gb e he,λsc b fs H1 S1 b5=>?_);let(d7,fl,I,_,f0,sb,_):=id b5;cbv;rename_i S J h3 H1 H2 S2 e2;cbv;cbv;have b2:=S1.trans S2;show(x,_,dx,_,rfl,b2 _ _ hx,rfl,rfl,x,o,_,rfl,ht.same b2,by ac_nf,λl ys H3 S3 f2 e3 hY=>?_);have lY:=hY.length;have Z:=b2.trans S3;have g3:l≠S:=λz=>by rw[z,e2]at f2;cases f2
 have e1:=d5.same Z;have a1:H S=none:=Jch S1 J;have L:sc≠S:=λz=>by rw[z,J]at I;cases I
 have ez:(o.zip ss).map (·.1.nm)=o.map (·.nm):=Jle g1;cbv;show(l,sl,rfl,⟨ys,SqL.of e3⟩,⟨sx,e1⟩,ForJ.zip (xs:=ys) (ys:=sx) (λi σ B=>i<=o.length/\∃(v4 v5:Option V)(kv:List (Key × V)),σ=[some (.ref x),some (.ref sl),some (.ref sc),some (.ref S),v4,v5,none,none]/\(∀ c u,c≠S->H3 c=some u->B c=some u)/\SameT H3 B/\B S=some (.dK kv)/\BG (·.1.nm) (LFV K B b) ((o.zip ss).take i) kv/\∀(j:Nat)(p:PD)(s:Fr2),j<i->o[j]?=some p->ss[j]?=some s->0<=vl s/\vl s<=vl p.mo) ⟨Nat.zero_le _,none,none,[],rfl,λ_ _ _ h=>h,(Same.refl _).t,S3 _ _ e2,⟨rfl,rfl⟩,λj p s M=>absurd M (Nat.not_lt_zero _)⟩ (λi σ B q=>by
  let(_,_,_,_,_,q,_):=q;have S0:Same H B:=λc u h=>q c u (Jai h a1) (Z _ _ h);show(SqL.of (q _ _ g3 e3),d5.same S0)) ?_ ?_)
 .intro i y z σ H4 pp H5 hy hz z_ hn R e5;let(hi,v4,v5,kv,rfl,ho,hT,a2,hB,hg):=z_;have li:=(List.getElem?_eq_some_iff.mp hy).1;let(p,O,a_,vz,vm,rfl,hb,h6,hm):=hY.at_ hy;let(s,hs,f9):=hA.at_ hz;have G:=f1 s (List.mem_of_getElem? hs);have pb:=d.pb p (List.mem_of_getElem? O);have a7:SameT H3 H5:=hT.trans R.t;have c6:=hb.sameT a7;have b6:FrV K H5 z s.1 s.2:=FrV.sameT (Z.t.trans a7) f9;have r:Same H H4:=λc u h=>ho c u (Jai h a1) (Z _ _ h);have lk:=hB.length;rw[length_take]at lk;cbv;show(pp,_,rfl,SqT.of e5,rfl,?_);cbv;have z0:vl (0,1)=0:=by unfold vl;grind
  have l1:=JbV (a:=s) (c:=(0,1)) G.b1 ⋯;rw[z0]at l1;have l2:=JbV (a:=p.mo) (c:=s) pb.2.b1 G.b1;unfold lessF at l1 l2;show(z, .ref Ad.ZERO,s.1,s.2,0,1,rfl,b6,⟨Ad.ZERO,rfl,T.Bcp _⟩,G.s1.mono ⋯,G.s2.mono ⋯, .lit ⋯ ⋯, .lit ⋯ ⋯,?_);cbv;by_cases c1:decide (s.1*1<0*s.2)=true
  .rw[if_pos c1];cbv;cbv;show k false _ (r.trans R) ⟨λz=>(by cases z),λz=>absurd (l1.mp c1) (Rat.not_lt.mpr (z.1 i p s O hs).1)⟩
  .rw[if_neg c1];cbv;cbv;show ixT (i:=4) c6 rfl ?_;show(vm,z,p.mo.1,p.mo.2,s.1,s.2,rfl,FrV.sameT a7 hm,b6,pb.2.s1.mono ⋯,pb.2.s2.mono ⋯,G.s1.mono ⋯,G.s2.mono ⋯,?_);cbv;by_cases c2:decide (p.mo.1*s.2<s.1*p.mo.2)=true
   .rw[if_pos c2];cbv;cbv;show k false _ (r.trans R) ⟨λz=>(by cases z),λz=>absurd (l2.mp c2) (Rat.not_lt.mpr (z.1 i p s O hs).2)⟩
   .rw[if_neg c2];cbv;cbv;have d0:SCK Ad H5 sc b fs:=by
     let(Y,X,q1,q2,q3):=b5;have nf:X≠S:=λz=>by rw[z,J]at q2;cases q2
     show(Y,X,R _ _ (ho _ _ L (S3 _ _ (S2 _ _ q1))),R _ _ (ho _ _ nf (S3 _ _ (S2 _ _ q2))),q3)
    have b8:=R _ _ (ho _ _ L (S3 _ _ (S2 _ _ I)));show(sc,_,d7,_,rfl,b8,rfl,rfl,?_);show(sc,z,s,b,fs,rfl,d0,b6,G,λq t H6 U e6 hL=>?_);cbv;show ixT (i:=0) (c6.same U) rfl ?_;show(S,_,rfl,DPut.k (k:=Sum.inr p.nm) (U _ _ (R _ _ a2)) ∅,?_);generalize u7:upd H6 S _=H7;cbv;have e7:=putE u7;have T7:SameT H6 H7:=SameT.put u7 (U _ _ (R _ _ a2)) rfl;have e4:SameT H4 H7:=R.t.trans (U.t.trans T7);have nw:p.nm∉((o.zip ss).take i).map (·.1.nm):=λz=>by
     have e:=List.map_take (f:=λ(x:PD × Fr2)=>x.1.nm) (l:=o.zip ss) (i:=i);rw[e,ez, <- List.map_take]at z;show JgX d.nd O z
    have g2:(o.zip ss)[i]?=some (p,s):=List.getElem?_zip_eq_some.mpr ⟨O,hs⟩;show(by ac_nf,_,_,_,rfl,λc u d4 h=>by rw[<- u7,Jah d4];show U _ _ (R _ _ (ho c u d4 h)),hT.trans e4,e7,?_,λj p' s' M b4 b7=>?_)
    .rw[take_succ,g2];show(hB.mono (P':=LFV K H7 b) λ_ _ z=>z.sameT e4).new (a:=(p,s)) nw ⟨t,hL,FrV.of (T7 _ _ rfl e6)⟩
    .rcases Nat.lt_succ_iff_lt_or_eq.mp M with M | rfl
     .show hg j p' s' M b4 b7
     .rw[O]at b4;rw[hs]at b7;cases b4;cases b7;show(Rat.not_lt.mp λq=>c1 (l1.mpr q),Rat.not_lt.mp λq=>c2 (l2.mpr q))
 .intro σ H4 z_;let(hi,v4,v5,kv,rfl,ho,hT,a2,hB,hg):=z_;have em:min ys.length sx.length=o.length:=by ac_nf
  rw[em]at hB hg;rw[take_of_length_le (by rw[List.length_zip];ac_nf)]at hB;have d8:∀(i:Nat)(p:PD)(s:Fr2),o[i]?=some p->ss[i]?=some s->0<=vl s/\vl s<=vl p.mo:=λi p s h1 h2=>hg i p s (List.getElem?_eq_some_iff.mp h1).1 h1 h2;have r:Same H H4:=λc u h=>ho c u (Jai h a1) (Z _ _ h);have c3:SCK Ad H4 sc b fs:=by
   let(Y,X,q1,q2,q3):=b5;have nf:X≠S:=λz=>by rw[z,J]at q2;cases q2
   show(Y,X,ho _ _ L (S3 _ _ (S2 _ _ q1)),ho _ _ nf (S3 _ _ (S2 _ _ q2)),q3)
  have b3:=ho _ _ L (S3 _ _ (S2 _ _ I));have bq:(0:Rat)<(b:Rat):=by exact_mod_cast (show 0<b by have:=f0.b1;ac_nf)
  cbv;show(x,_,dx,_,rfl,r _ _ hx,rfl,rfl,x,o,_,rfl,ht.same r,by rw[length_map];ac_nf,λm zs H5 R h9 e5 hZ=>?_);have lZ:=hZ.length;rw[length_map]at lZ;have c4:=r.trans R;cbv;show(m,rfl,ForA.byL (xs:=zs) (SqL.of e5) (λi σ B=>i<=zs.length/\∃(v6 v7:Option V),σ=[some (.ref x),some (.ref sl),some (.ref sc),some (.ref S),v4,v5,v6,v7]/\Same H5 B/\∀(j:Nat)(e:GD × List Str),j<i->es[j]?=some e->sm (svl o ss) e.2<=vl (roomF pl e.1)) ⟨Nat.zero_le _,none,none,rfl,Same.refl _,λj e M=>absurd M (Nat.not_lt_zero _)⟩ (λi σ B q=>by let(_,_,_,_,q,_):=q;show SqL.of (q _ _ e5)) ?_ ?_)
  .intro i y σ H6 hy z_;let(hi,v6,v7,rfl,U,a9):=z_;have li:=(List.getElem?_eq_some_iff.mp hy).1;let(g,a3,a_,i1,i3,rfl,hb,_,_):=hZ.at_ hy;obtain⟨e,c7,rfl⟩:∃ e,es[i]?=some e/\e.1=g:=by
    rw[List.getElem?_map]at a3;show Option.map_eq_some_iff.mp a3
   have he:=List.mem_of_getElem? c7;have f6:=c4.trans U;have g7:=R.trans U;have e9:=hb.same U;have gm:e.1∈es.map (·.1):=mem_map.mpr ⟨e,he,rfl⟩;cbv;show ixT (i:=0) e9 rfl ?_;show(x,o,es.map (·.1),e.1,rfl,ht.same f6,d.nd,by ac_nf,gm,d.gn e he,λnl w H7 S7 e7 hw d6=>?_);have lw:w.length<=8:=by
    have:=sub_len (w.map (·.1)) (o.map (·.nm)) d6 λn hn=>Jc8 (JfH hw) n hn;rw[length_map,length_map]at this;ac_nf
   have b0:=g7.trans S7;have g4:=hB.mono (P':=LFV K H7 b) λ_ _ z=>z.sameT b0.t;have c8:=b0 _ _ a2;show(nl,rfl, .inl ⟨⟨_,SqL.of e7⟩,CompJ.list (xs:=(w.map (·.1)).map V.str) (λi ys B=>B=H7/\∃ ts:List Fr2,All2 (FLV K H7) ts ys/\ts.length=i/\(∀ t∈ts,FB 2200 56 t)/\smF ts=sm (svl o ss) ((w.map (·.1)).take i)*(b:Rat)) ⟨rfl,[],rfl,rfl,(λt ht=>by cases ht),by rw[take_zero];unfold smF sm;grind⟩ (λi ys B hi z=>by
    let(rfl,ts,a0,i2,_):=z;have:=a0.length;rw[length_map,length_map]at hi;show(SqL.of e7,by ac_nf)) ?_ ?_⟩)
   .intro j y' g0 B N z_;let(rfl,ts,a0,a4,a6,W):=z_;have lj:=(List.getElem?_eq_some_iff.mp N).1;rw[length_map]at lj;rw[List.getElem?_map,List.getElem?_eq_getElem lj]at N;obtain⟨n,hn⟩:∃ n,n=(w.map (·.1))[j]:=⟨_,rfl⟩;rw[<- hn]at N;have N:y'=.str n:=(Option.some.inj N).symm;subst N;have g8:n∈o.map (·.nm):=Jc8 (JfH hw) n (by rw[hn];show List.getElem_mem lj);let(x',v,c5,g6,hv,t,hL,ft):=g4.some (z:=n) (by rw[ez];show g8);have g9:=(of_mem_zip c5).2;have xb:=f1 _ g9;simpa only[length_singleton,length_cons,length_nil,List.replicate,JaM,map_cons,map_nil,Option.join_some];show(S,_,rfl,by rw[<- hv];show DGet.k (k:=Sum.inr n) c8,?_);show(ts++[t],a0.append (.one ft),by simp[a4],λt' f7=>?_,?_)
    .rcases mem_append.mp f7 with h | h
     .show a6 t' h
     .rw[mem_singleton.mp h];show hL.fb xb sb
    .rw[JfW,W,hL.vl xb.b1,take_succ,List.getElem?_eq_getElem lj, <- hn];show _=sm _ (_++[n])*_;rw[JjD, <- g6,Jno d.nd c5];grind
   .intro g0 B z_;let(rfl,ts,a0,a4,a6,W):=z_;rw[length_map]at a4 W;rw[take_of_length_le (Nat.le_refl _)]at W;rw[length_map]at a4;rename_i ow h0 h4 B H8 S8 e8;cbv;cbv;have a8:=b0.trans S8;have d9:=r.trans a8;show(sc,_,d7,_,rfl,a8 _ _ b3,rfl,rfl,?_);show(x,_,dx,_,rfl,d9 _ _ hx,rfl,rfl,?_);show ixT (i:=0) ((e9.same S7).same S8) rfl ?_;show(x,e.1.nm,o,es.map (·.1),rfl,ht.same d9,λz=>absurd (mem_map.mpr ⟨e.1,gm,rfl⟩) z,λg' a3 hz=>?_);have f4:=d.gn e he g' a3 hz;subst f4;show(pl,d.gn e he,λp O q hq h=>Jg9 d.nd O hq h,d.pok,d.plb,d.pls,d.tok e he,λv H9 S9 fv=>?_);have e0:=a8.trans S9;show(sc,v,roomF pl e.1,b,fs,rfl,c3.same e0,fv,(d.rb e he).mono ⋯ ⋯,λq t h7 a5 f8 hL=>?_);have f3:=e0.trans a5;have tb:=hL.fb (d.rb e he) sb |>.mono (C:=2200) (D:=56) ⋯ ⋯
    show(.ref q,ow,_,ts,t,rfl,FrV.of f8,tb,SqL.of (a5 _ _ (S9 _ _ e8)),a0.mono (λ_ _ z=>z.sameT (S8.trans (S9.trans a5)).t),a6,by ac_nf,λbb g5 c9 c0=>?_);rw[W,hL.vl (d.rb e he).b1,scaled bq, <- JjC (d.way e he w hw d6)]at c0;cases bb with
    | true=>
     cbv;show(li,_,_,rfl,U.trans (S7.trans (S8.trans (S9.trans (a5.trans c9)))),λj e' M b9=>?_);rcases Nat.lt_succ_iff_lt_or_eq.mp M with M | rfl
     .show a9 j e' M b9
     .rw[c7]at b9;cases b9;show c0.mp rfl
    | false=>
     cbv;show k false g5 (r.trans (f3.trans c9)) ⟨λz=>(by cases z),λz=>?_⟩;show(Bool.false_ne_true (c0.mpr (z.2 e he))).elim
  .intro σ H6 z_;let(hi,v6,v7,rfl,U,a9):=z_;cbv;show k true H6 (c4.trans U) ⟨λ_=>⟨d8,λe he=>?_⟩,λ_=>rfl⟩;let(j,M):=List.getElem?_of_mem he;show a9 j e (by have:=(List.getElem?_eq_some_iff.mp M).1;ac_nf) M
abbrev BaT:Stmt:=top 55
theorem JdB:Jan ["thing","name","part"] ["thing","name"] (Jaf BaT):=by bv_decide
def JcK(K:W.Frag)(Ad:Adr):Sp:=λvs H Q E=>∃(x:Addr)(z:Str)(ls:List PD)(gs:List GD),vs=[.ref x, .str z]/\TK K Ad H x ls gs/\ls.length<=20/\((∀ p∈ls,p.nm≠z)->∀ H',Same H H'->E (.ref Ad.NoName) none H')/\(∀ p∈ls,p.nm=z->∀ v H',Same H H'->PDV K H' p v->Q v H')
theorem JfD(F:"part_named"∘BaT)(T:Txt K mg Ad)(Bae:2∘"parts"∘(JaH Ad)∘["self"]∘(JaC K Ad)):3∘["thing","name"]∘(JcK K Ad):=by
 show F.okx JdB (λvs H Q E h=>?_) (λU A o s H vs Q E p h=>?_)
 .let(x,z,n,I,rfl,_):=h;rfl
 let(x,z,n,I,rfl,h):=h;have a:=p.units;show(_,(Jab (JaV PassesOwn.leaving rfl (pi_U (Bae.m0 p ⋯ pass1 (pv 0))) (Jaq 2 JdB.nd) (Jag (ps_if (Jat (JcR a) (!2) (pv 1) (Jay _)) (Jag (Jap (pv 2)))
   Jav))) (Jag (Jd7 PySem.F.excBase_ValueError T.Bb1 rfl T.BcY %[Jbe|0]))),?_)
 clear a;let(J,W,Y,k):=h;have sl:(1000:Nat)<=sizeLine:=by decide
 let(S,d1,d2,d3,k1,k2,k3,R,_):=id J;show tSeq _ _ _ [some (.ref x),some (.str z),none] H;cbv;show(x,_,S,_,rfl,R,rfl,rfl,?_);cbv;show(x,n,I,rfl,J,W,λl G O t a0 D v=>?_);have lg:=v.length;cbv;show(l,rfl,ForA.byL (xs:=G) (SqL.of D) (λi σ C=>i<=G.length/\(∀ g∈n.take i,g.nm≠z)/\∃ j:Option V,σ=[some (.ref x),some (.str z),j]/\C=O) ⟨Nat.zero_le _,(λg e=>by simp at e),none,rfl,rfl⟩ (λi σ C q=>by let(_,_,_,_,rfl):=q;show SqL.of D) ?_ ?_)
 .rintro i y σ m r ⟨X,d,j,rfl,rfl⟩;have N:=(List.getElem?_eq_some_iff.mp r).1;let(g,e,B):=v.at_ r;let(b,L,M,rfl,Z,_,_):=id B;cbv;show ixT (i:=0) Z rfl ?_;cbv;by_cases c:g.nm=z
  .rw[if_pos (decide_eq_true c)];cbv;cbv;show k g (List.mem_of_getElem? e) c _ m t B
  .rw[if_neg (λh=>c (of_decide_eq_true h))];cbv;cbv;show(N,λu a=>?_,_,rfl,trivial);rw[take_succ,e]at a;rcases mem_append.mp a with h | h
   .show d u h
   .rw[mem_singleton.mp h];show c
 .rintro σ m ⟨X,d,j,rfl,rfl⟩;rw[take_of_length_le ∅]at d;cbv;show(by show 1<=sizeLine;ac_nf,Y d m t)
abbrev Bbe:Stmt:=top 56
theorem Jhk:Jan ["rows","row"] ["rows","row"] (Jaf Bbe):=by bv_decide
def Jdk(K:W.Frag):Sp:=λvs H Q E=>∃(a b:Addr)(ls:List PD)(p:PD)(zs:List V),vs=[.ref a, .ref b]/\H a=some (.lst zs)/\All2 (PDV K H) ls zs/\ls.length<=20/\PDV K H p (.ref b)/\∀ l ys H',Same H H'->H' l=some (.lst ys)->All2 (PDV K H') (ls.map λu=>if u.nm=p.nm then p else u) ys->Q (.ref l) H'
theorem Jg7(F:"with_row"∘Bbe)(T:Txt K mg Ad)  : 1∘["rows","row"]∘(Jdk K):=by
 show F.okn Jhk (by subst_eqs) (λN A o s H S Q E G h=>?_)
 let(a,b,q,p,r,rfl,h):=h;have j:=G.units;show(_,(Jag (Jap (Jfb (Jcy (own:=["other"]) (cs:=[(1,"row")]) rfl (pi_U (pv 0)) (λ_ _ _ _=>(Jaq 0 (show[("other" : Str),("row" : Str)].Nodup by decide))) (λ_ _ _ _=>JcY) (λ_ _ _ _=>(JfI (Jat (JkW (K:=K) rfl j) (pe_ix (ix_UK (K:=K) rfl) (pv 0) Jad) (pe_ix (ix_UK (K:=K) rfl) (pv 1) Jad) (Jay _)) (pv 1) (pv 0))) (JcQ rfl) ⋯ rfl ⋯ (hcs1 rfl rfl rfl))))),?_);clear j;let(D,x,X,B,k):=h;have W:(1000:Nat)<=sizeLine:=by decide
 have U:=x.length;show tRet _ _ [some (.ref a),some (.ref b)] H;cbv;show(a,rfl, .inl ⟨⟨_,SqL.of D⟩,CompJ.list (xs:=r) (λi g d=>d=H/\All2 (PDV K H) ((q.take i).map λu=>if u.nm=p.nm then p else u) g) ⟨rfl,rfl⟩ (λi g d Y z=>⟨by rw[z.1];show SqL.of D,by have:=z.2.length;rw[length_map,length_take]at this;ac_nf⟩) ?_ ?_⟩)
 .rintro i y g d M ⟨rfl,e⟩;simpa only[length_singleton,length_cons,length_nil,List.replicate,JaM,map_cons,map_nil,Option.join_some];let(u,j,C):=x.at_ M;let(V,_,_,rfl,n,_,_):=id C;let(Z,_,_,I,m,_,_):=id B;cases I;show ixT (i:=0) n rfl ?_;show ixT (i:=0) m rfl ?_;cbv;rw[take_succ,j,Option.toList_some,map_append];by_cases c:u.nm=p.nm
  .rw[if_pos (decide_eq_true c)];cbv;show e.append (All2.one ?_)
   (show PDV K d (if u.nm=p.nm then p else u) _)
   (rw[if_pos c])
   show B
  .rw[if_neg (λh=>c (of_decide_eq_true h))];cbv;show e.append (All2.one ?_)
   (show PDV K d (if u.nm=p.nm then p else u) _)
   (rw[if_neg c])
   show C
 rintro g d ⟨rfl,e⟩;rw[take_of_length_le ∅]at e;rename_i l R L d J v O;cbv;show k l g J v O (e.mono λ_ _ z=>z.sameT v.t)
abbrev Bb6:Stmt:=top 57
theorem JeG:Jan ["part","size","more","less"] ["part","size"] (Jaf Bb6):=by bv_decide
def JeL(K:W.Frag):Sp:=λvs H Q E=>∃(v w:V)(p:PD)(s:Fr2),vs=[v,w]/\PDV K H p v/\FrV K H w s.1 s.2/\FOk 200 p.sz/\FOk 200 p.mo/\FOk 200 s/\∀ H',Same H H'->Q (.bl (offB p s)) H'
theorem Ji8(F:"is_off"∘Bb6)(T:Txt K mg Ad)(BaY:3∘"minus"∘["one","other"]∘(Jc9 K))(Bah:1∘"under"∘["one","other"]∘(JbO K)):4∘["part","size"]∘(JeL K):=by
 show F.okn JeG (by subst_eqs) (λL A n s H O Q E g h=>?_)
 let(v,w,p,s,rfl,h):=h;show(_,(Jab (Jaj 2 JeG.nd (BaY.ev g ⋯ rfl passF %[pv 1,!0|0])) (Jab (Jaj 3 JeG.nd (BaY.ev g ⋯ rfl passF %[!0,pv 1|0])) (Jag (Jap (pe_or (Bah.ev g ⋯ rfl passF %[!0,pv 2|0]) (Jdv (Bah.ev g ⋯ rfl passF %[!0,pv 3|0]))))))),?_)
 let(G,D,e,fm,d,k):=h;let(b,r,z,rfl,l,u,t):=id G;show tSeq _ _ _ [some (.ref b),some w,none,none] H;cbv;show ixT (i:=3) l rfl ?_;show(w,r,_,_,_,_,rfl,D,u,d.s1.mono ⋯,d.s2.mono ⋯,e.s1.mono ⋯,e.s2.mono ⋯,d.b1,e.b1,d.g1,e.g1,λx R j N=>?_);cbv;show ixT (i:=3) (l.same j) rfl ?_;show(r,w,_,_,_,_,rfl,u.same j,D.same j,e.s1.mono ⋯,e.s2.mono ⋯,d.s1.mono ⋯,d.s2.mono ⋯,e.b1,d.b1,e.g1,d.g1,λo m y I=>?_);have a:=j.trans y;have M:FrV K m (.ref x) (addF s (negF p.sz)).1 (addF s (negF p.sz)).2:=by rw[JjF];show FrV.of (y _ _ N)
 have J:FrV K m (.ref o) (addF p.sz (negF s)).1 (addF p.sz (negF s)).2:=by rw[JjF];show FrV.of I
 have q:=FB.add' (L2.FOk.fb d) (L2.FOk.fb e).neg;have C:=FB.add' (L2.FOk.fb e) (L2.FOk.fb d).neg;have k:=k m a;unfold offB at k;generalize addF s (negF p.sz)=A at *;generalize addF p.sz (negF s)=B at *;cbv;show ixT (i:=4) (l.same a) rfl ?_;show(z, .ref x,_,_,A.1,A.2,rfl,t.same a,M,fm.s1.mono ⋯,fm.s2.mono ⋯,q.s1.mono ⋯,q.s2.mono ⋯,?_);cbv;by_cases c:lessF p.mo A=true
 .rw[if_pos (show decide (p.mo.1*A.2<A.1*p.mo.2)=true from c)];cbv;rw[c,Bool.true_or]at k;cbv;try show k
 .rw[if_neg (show¬ decide (p.mo.1*A.2<A.1*p.mo.2)=true from c)];cbv;rw[Bool.eq_false_iff.mpr c,Bool.false_or]at k;cbv;show ixT (i:=4) (l.same a) rfl ?_;show(z, .ref o,_,_,B.1,B.2,rfl,t.same a,J,fm.s1.mono ⋯,fm.s2.mono ⋯,C.s1.mono ⋯,C.s2.mono ⋯,?_);cbv;try show k
abbrev Bbf:Stmt:=top 58
theorem Jde:Jan ["thing","name","size","part","row"] ["thing","name","size"] (Jaf Bbf):=by bv_decide
def Jcc(K:W.Frag)(Ad:Adr):Sp:=λvs H Q E=>∃(x:Addr)(z:Str)(w:V)(s:Fr2)(ls:List PD)(gs:List GD),vs=[.ref x, .str z,w]/\TK K Ad H x ls gs/\FrV K H w s.1 s.2/\FOk 200 s/\ls.length<=20/\gs.length<=20/\(∀ p∈ls,POk p)/\(∀ g∈gs,TOk g.td)/\(ls.map (·.nm)).Nodup/\(gs.map (·.nm)).Nodup/\Tree ls/\(∀ g∈gs,Conn ls g.st g.en)/\((∀ p∈ls,p.nm≠z)->∀ H',Same H H'->E (.ref Ad.NoName) none H')/\(∀ p∈ls,p.nm=z->(offB p s=true->∀ H',Same H H'->E (.ref Ad.Off) none H')/\(offB p s=false->∀ y H',Same H H'->TK K Ad H' y (ls.map λu=>if u.nm=p.nm then⟨p.nm,p.st,p.en,s,(0,1),p.wt⟩else u) gs->Q (.ref y) H'))
theorem Jg5(F:"measured"∘Bbf)(T:Txt K mg Ad)(BbU:3∘"part_named"∘["thing","name"]∘(JcK K Ad))(Bc3:4∘"is_off"∘["part","size"]∘(JeL K))(Bcg:1∘"with_row"∘["rows","row"]∘(Jdk K))(BbL:KCal P w K mg base 9 "Thing" Ad.Thing ["self","parts","gaps"] (Ja7 K Ad))(Bae:2∘"parts"∘(JaH Ad)∘["self"]∘(JaC K Ad))(BaZ:2∘"gaps"∘(JaH Ad)∘["self"]∘(Ja0 K Ad)):11∘["thing","name","size"]∘(Jcc K Ad):=by
 show F.okx Jde (λvs H Q E h=>?_) (λa8 A R s H vs Q E r h=>?_)
 .let(x,z,w,s,ls,J,rfl,_):=h;rfl
 let(x,z,w,s,ls,J,rfl,h):=h;show(_,(Jab (Jaj 3 Jde.nd (BbU.ev r ⋯ rfl pass1 %[pv 0,pv 1|0])) (Jab (ps_if (Jbc (Bc3.ev r ⋯ rfl pass1 %[pv 3,pv 2|0])) (Jag (Jd7 PySem.F.excBase_ValueError T.x_Off rfl T.m_Off %[Jbe|0]))
   Jav) (Jab (Jaj 4 Jde.nd (JaF %[!3,!3,!3,pv 2,Jbh (v:=.ref _) rfl T.Bcn T.Bco,!3|0])) (Jag (Jap (BbL.ev r ⋯ rfl pass1 %[Bcg.ev r ⋯ rfl pass1 %[Bae.m0 r ⋯ pass1 (pv 0),pv 4|0],BaZ.m0 r ⋯ pass1 (pv 0)|0])))))),?_)
 let(M,hw,fs,a,I,G,N,o,U,tr,a1,kE,k):=h;have sl:(1000:Nat)<=sizeLine:=by decide
 show tSeq _ _ _ [some (.ref x),some (.str z),some w,none,none] H;cbv;show(x,z,ls,J,rfl,M,a,kE,λp hp hz v H1 S1 pv=>?_);let(a0,W):=k p hp hz;have d:=G p hp
 mframe;show(v,w,p,s,rfl,pv,hw.same S1,d.z,d.m,fs,λH2 S2=>?_);let(b,vz,vm,rfl,B,_,_):=pv;have B:=B.same S2;have D:=S1.trans S2;cbv;by_cases c:offB p s=true
 .rw[if_pos c];cbv;cbv;show(by show 1<=sizeLine;ac_nf,a0 c H2 D)
 replace W:=W (Bool.eq_false_iff.mpr c);rw[if_neg c];cbv;cbv;show ixT (i:=0) B rfl ?_;show ixT (i:=1) B rfl ?_;show ixT (i:=2) B rfl ?_;show ixT (i:=5) B rfl ?_;cbv;show(by show 6<=sizeLine;ac_nf,?_);rename_i q a4 a6 H2 H3 S3 e3;cbv
 mframe;have l:=D.trans S3;let(dx,d1,d2,d3,k1,a7,k3,hx,_):=id M;show(x,_,dx,_,rfl,l _ _ hx,rfl,rfl,?_);cbv;show(x,ls,J,rfl,M.same l,a,λpl px H4 S4 a2 ep hP=>?_);have L:=l.trans S4;cbv;have hq:PDV K H4 ⟨p.nm,p.st,p.en,s,(0,1),p.wt⟩ (.ref q):=⟨q,w, .ref Ad.ZERO,rfl,SqT.of (S4 _ _ e3),hw.same L,⟨Ad.ZERO,rfl,T.Bcp _⟩⟩;show(pl,q,ls,⟨p.nm,p.st,p.en,s,(0,1),p.wt⟩,px,rfl,ep,hP,a,hq,λrl rx H5 S5 er hR=>?_);have j:=L.trans S5;cbv;show(x,_,dx,_,rfl,j _ _ hx,rfl,rfl,?_);cbv;show(x,ls,J,rfl,M.same j,I,λgl gx V Z a3 eg hG=>?_);have S:=j.trans Z;cbv;let(m1,m2,m3):=JkY (n:=(⟨p.nm,p.st,p.en,s,(0,1),p.wt⟩:PD)) (ls:=ls) o hp rfl rfl rfl;intro y Y hy O a5;have Sm:Same V (upd (upd V Y (.own y)) y (.ins Ad.Thing Y [])):=λb u q=>by rw[Jah (Jai q hy),Jah (Jai q O)];show q
 have C:=by rw[<- m1]at o;show o
 show(y,Y,rl,gl,rx,gx,_,J,V,rfl,Jak,hy,Sm,SqL.of (Z _ _ er),hR.mono (λ_ _ z=>z.sameT Z.t),SqL.of eg,hG,by rw[length_map];show a,I,λu hu=>?_,N,C,U,Jhn (Jhp m2 tr) C,λg hg=>JgL m3 (a1 g hg),λH7 S7 tk=>⟨rfl,W y H7 (S.trans S7) tk⟩);let(u',X,rfl):=mem_map.mp hu;by_cases e:u'.nm=p.nm
 .rw[if_pos e];cbv;show(d.n1,d.n2,d.n3,d.ne,fs,fok0,Int.le_refl 0,d.w,d.ws)
 .rw[if_neg e];cbv;show G u' X
abbrev Bbg:Stmt:=top 60
theorem Jcz:Jan ["_law_script","_law_k","_law_total","_law_j"] ["_law_script","_law_k"] (Jaf Bbg):=by bv_decide
def Jca(K:W.Frag):Sp:=λvs H Q E=>∃(a:Addr)(ns:List Int)(k:Int),vs=[.ref a, .int k]/\SqL K H a (ns.map V.int)/\ns.length<=63/\0<=k/\k<=1000/\∀ v:Int,Q (.int v) H
theorem Jg1(F:"_law_cell"∘Bbg)(T:Txt K mg Ad)  : 1∘["_law_script","_law_k"]∘(Jca K):=by
 show F.okn Jcz (by subst_eqs) (λm A b s H o Q E p h=>?_)
 let(a,g,k,rfl,h):=h;show(_,(Jab (Jaj 2 Jcz.nd Jad) (Jab (JaV PassesOwn.never rfl (Jjh rfl T.Bcr %[pv 1,Jau (Jiz rfl) rfl T.Beg Jmv %[Jau Ja4 rfl T.BbH Jbs %[pv 0|0],Jad|0],Jad|0]) (Jaq 3 Jcz.nd) (Jag (Jaj 2 Jcz.nd (pe_op JaQ (pv 2) (pe_op JaE (pe_ix ix_U (pv 0) (pv 3)) (pe_op JaQ Jad (pv 3))))))) (Jag (Jap (pv 2))))),?_)
 let(e,u,n,r,q):=h;let(k,rfl):=Int.eq_ofNat_of_zero_le n;show tSeq _ _ _ [some (.ref a),some (.int (k:Int)),none,none] H;cbv;show(_, .inl e,?_);simpa only[length_map];show(_,_,_,rfl,⟨by ac_nf,by ac_nf,by split <;> ac_nf,by split <;> ac_nf,by decide,by decide⟩,?_);show ForQ.by (λi σ d=>∃(t:Int)(v:Option V),σ=[some (.ref a),some (.int (k:Int)),some (.int t),v]/\d=H) ⟨0,none,rfl,rfl⟩ ?_ ?_
 .rintro i σ d c ⟨t,v,rfl,rfl⟩;have l:k+i*32<g.length:=by
   unfold rsz at c;split at c <;> split at c <;> ac_nf
  have j:(k:Int)+(i:Int)*32=((k+i*32:Nat):Int):=by ac_nf
  rw[j];cbv;show ixL e (by rw[List.getElem?_map,List.getElem?_eq_getElem l];rfl) ?_;cbv;show(Ji3 (.lit ∅ ∅),_,_,rfl,trivial)
 .rintro σ d ⟨t,v,rfl,rfl⟩;cbv;show q t
abbrev BaU:Stmt:=top 61
theorem JfQ:Jan ["_law_cell_here","_law_most"] ["_law_cell_here","_law_most"] (Jaf BaU):=by bv_decide
def JcI  : Sp:=λvs H Q E=>∃(c m:Int),vs=[.int c, .int m]/\1<=m/\m<=10 ^ 40/\∀ r:Int, -m<r->r<m->Q (.int r) H
theorem JfB(F:"_law_signed"∘BaU)(T:Txt K mg Ad)  : 1∘["_law_cell_here","_law_most"]∘(JcI):=by
 show F.okn JfQ (by subst_eqs) (λd A a s H e Q E g h=>?_)
 let(c,m,rfl,h):=h;show(_,(Jab (ps_if (Jat Jgs (pv 0) Jad (Jay _)) (Jag (Jap (pe_op Jey Jad (pe_op JaB (pe_op Jey Jad (pv 0)) (pv 1)))))
   Jav) (Jag (Jap (pe_op JaB (pv 0) (pv 1))))),?_)
 let(i,b,k):=h;have b:m<=10000000000000000000000000000000000000000:=b;show tSeq _ _ _ [some (.int c),some (.int m)] H;cbv;by_cases z:c<0
 .rw[if_pos (by simpa using z)];cbv;cbv;have q:=Mth.fm (x:=0-c) (y:=m) (by omega);show(by omega,?_);cbv;show k _ (by omega) (by omega)
 .rw[if_neg (by simpa using z)];cbv;cbv;have q:=Mth.fm (x:=c) (y:=m) (by omega);show(by omega,?_);cbv;show k _ (by omega) (by omega)
abbrev BbG:Stmt:=top 62
theorem Jb2:Jan ["_law_top","_law_bottom","_law_one","_law_other","_law_rest"] ["_law_top","_law_bottom"] (Jaf BbG):=by bv_decide
def Jb3  : Sp:=λvs H Q E=>∃(t b:Int),vs=[.int t, .int b]/\1<=b/\Mth.Sz 8000 b/\∀ p H',Same H H'->H' p=some (.tup [.int (Mth.top t b), .int (Mth.bot t b)])->Q (.ref p) H'
theorem Jig(F:"_law_low"∘BbG)(T:Txt K mg Ad)  : 1∘["_law_top","_law_bottom"]∘(Jb3):=by
 show F.okn Jb2 (by subst_eqs) (λD A j s H G Q E v h=>?_)
 let(t,b,rfl,h):=h;have u:=v.units;show(_,(Jab (Jaj 2 Jb2.nd (pv 0)) (Jab (Jaj 3 Jb2.nd (pv 1)) (Jab (Jd8 PassesOwn.never (Jat (Jbr u) (pv 3) Jad (Jay _)) (Jab (Jaj 4 Jb2.nd (pe_op JaB (pv 2) (pv 3))) (Jab (Jaj 2 Jb2.nd (pv 3)) (Jag (Jaj 3 Jb2.nd (pv 4)))))) (Jag (Jap (JaF %[pe_op Jas (pv 0) (Jau Jdn rfl T.BdZ Jhx %[pv 2|0]),pe_op Jas (pv 1) (Jau Jdn rfl T.BdZ Jhx %[pv 2|0])|0])))))),?_)
 clear u;let(N,B,k):=h;show tSeq _ _ _ [some (.int t),some (.int b),none,none,none] H;cbv;show(λm σ r=>∃(x y:Int)(z:Option V),σ=[some (.int t),some (.int b),some (.int x),some (.int y),z]/\r=H/\0<=y/\Mth.g x y=Mth.g t b/\y.toNat=m,⟨_,_,_,none,rfl,rfl,by ac_nf,rfl,rfl⟩,?_);intro m σ r z_;let(x,y,z,rfl,rfl,M,o,rfl):=z_;cbv;by_cases c:y=0
 .subst c;rw[if_neg (by simp)];cbv;have L:=Mth.g_pos (a:=t) (b:=b) ∅;have J:=Mth.g_le (a:=t) (b:=b) ∅;have l:DivOk (Mth.g t b):=divOk (n:=8000) ∅ (Nat.lt_of_le_of_lt (by ac_nf:(Mth.g t b).natAbs<=b.natAbs) B);have e:(if x<0 then -x else x)=Mth.g t b:=by
   rw[<- o,Mth.JkU];split <;> ac_nf
  cbv;rw[e];show(l,l,len2,?_);show Jeq λp C S I=>k p C S ?_;rw[I];unfold Mth.top Mth.bot Mth.by_;rw[if_neg ∅];cbv
 .rw[if_pos (by simp[c])];cbv;have f:=Mth.fm (x:=x) (y:=y) ∅;show(_,λ_ _ q=>q,?_);cbv;have d:Mth.g y (x.fmod y)=Mth.g t b:=by rw[Mth.JiQ ∅];show o
  show(c,?_);cbv;first
   | show((x.fmod y).toNat,by ac_nf,y,x.fmod y,_,rfl,f.1,d,rfl)
   | show((x.fmod y).toNat,by ac_nf,y,x.fmod y,_,rfl,rfl,f.1,d,rfl)
abbrev Bbh:Stmt:=top 63
theorem Jhj:Jan ["_law_one","_law_other","_law_sign"] ["_law_one","_law_other","_law_sign"] (Jaf Bbh):=by bv_decide
def Jcb(K:W.Frag):Sp:=λvs H Q E=>∃(x y:V)(g:Int)(a c:Fr2),vs=[x,y, .int g]/\Mth.Sz 4 g/\FrV K H x a.1 a.2/\FrV K H y c.1 c.2/\FW 3000 3000 a/\FW 3000 3000 c/\∀ p H',Same H H'->H' p=some (.tup [.int (addF a (sI g c)).1, .int (addF a (sI g c)).2])->Q (.ref p) H'
theorem Jg4(F:"_law_plus"∘Bbh)(T:Txt K mg Ad)(Bal:1∘"_law_low"∘["_law_top","_law_bottom"]∘(Jb3)):2∘["_law_one","_law_other","_law_sign"]∘(Jcb K):=by
 show F.okn Jhj (by subst_eqs) (λq A l s H r Q E n h=>?_)
 let(x,y,g,a,c,rfl,h):=h;show(_,(Jag (Jap (Bal.ev n ⋯ rfl passF %[pe_op JaQ (pe_op JaE (!0) (!1)) (pe_op JaE (pe_op JaE (pv 2) (!1)) (!0)),pe_op JaE (!0) (!1)|0]))),?_);let(i,j,m,d,b,k):=h;show tRet _ _ [some x,some y,some (.int g)] H;cbv;show ixF0 j (ixF1 m ?_);cbv;show(mulOk d.s1 b.s2,ixF0 m ?_);cbv;show(mulOk i b.s1,ixF1 j ?_);cbv;show(mulOk (i.mul b.s1) d.s2,ixF1 j (ixF1 m ?_));cbv;show(mulOk d.s2 b.s2,_,_,rfl,?_,(d.s2.mul b.s2).mono ⋯,λp o S e=>k p o S e);have:=Int.mul_pos (show 0<a.2 by have:=d.b1;ac_nf) (show 0<c.2 by have:=b.b1;ac_nf);ac_nf
abbrev Bbi:Stmt:=top 64
theorem Jhi:Jan ["_law_k","_law_sign","_law_style"] ["_law_k","_law_sign","_law_style"] (Jaf Bbi):=by bv_decide
def JcG  : Sp:=λvs H Q E=>∃(i:Int)(z:Str)(st:Int)(s m:Nat),vs=[.int i, .str z, .int st]/\z.cps=#[s]/\i=(m:Int)/\m<=16/\0<=st/\st<=3/\Q (.str (nmK s st.toNat m)) H
theorem Jg3(F:"_law_name"∘Bbi)(T:Txt K mg Ad)  : 1∘["_law_k","_law_sign","_law_style"]∘(JcG):=by
 show F.okn Jhi (by subst_eqs) (λt A k s H x Q E y h=>?_)
 let(i,z,a,s,m,rfl,h):=h;show(_,(Jag (Jap (pe_op JaQ (pe_op JaQ (pe_op JaE (pv 1) (pv 2)) (pe_ix ix_U Jbe (pv 0))) (pe_op JaE (pv 1) (pe_op Jey Jad (pv 2)))))),?_);let(r,rfl,G,u,J,q):=h;have o:z.cps.toList=[s]:=by rw[r]
 have L:z.length=1:=by rw[Jd5,o];rfl
 have I:(1000:Nat)<=sizeLine:=by decide
 show tRet _ _ [some (.int (m:Int)),some (.str z),some (.int a)] H;cbv;show(u,by ac_nf,by ac_nf,λb n=>?_);have g:b.cps.toList=List.replicate a.toNat s:=by
  rw[n,o];simp
 have l:(Str.ofString "abcdefghijklmnopq").cps.toList=List.range' 97 17:=by decide
 show(97+m,by decide,by rw[l];show Jeb (by rw[List.getElem?_range' ∅,Nat.one_mul]),?_);cbv;have B:b.length=a.toNat:=by rw[Jd5,g,List.length_replicate]
 have c:(b++(⟨#[97+m]⟩:Str)).cps.toList=List.replicate a.toNat s++[97+m]:=by rw[Jhw,g]
 have p:(b++(⟨#[97+m]⟩:Str)).length=a.toNat+1:=by rw[Jd5,c];simp
 have D:(⟨#[97+m]⟩:Str).length=1:=rfl;show(by ac_nf,?_);cbv;show(by ac_nf,by ac_nf,by ac_nf,λd j=>?_);have e:d.cps.toList=List.replicate (3-a.toNat) s:=by
  rw[j,o];have : (3-a).toNat=3-a.toNat:=by ac_nf
  rw[this];simp
 have C:d.length=3-a.toNat:=by rw[Jd5,e,List.length_replicate]
 cbv;show(by ac_nf,?_);have v:b++(⟨#[97+m]⟩:Str)++d=nmK s a.toNat m:=by
  have : (b++(⟨#[97+m]⟩:Str)++d).cps=(nmK s a.toNat m).cps:=by
   apply Array.toList_inj.mp;rw[Jhw,c,e];unfold nmK;simp
  cases h1:b++(⟨#[97+m]⟩:Str)++d;cases h2:nmK s a.toNat m;rw[h1,h2]at this
  congr
 rw[v];show q
abbrev Ba6:Stmt:=top 65
theorem JaA:Jan ["_law_script","_law_style","_law_parts_here","_law_spots","_law_k","_law_cell_here","_law_mixed","_law_here","_law_there","_law_other","_law_size","_law_most","_law_ends","_law_name_here","_law_sign"] ["_law_script","_law_style"] (Jaf Ba6):=by bv_decide
def Jc0(K:W.Frag):Sp:=λvs H Q E=>∃(a:Addr)(ns:List Int)(st:Nat),vs=[.ref a, .int (st:Int)]/\SqL K H a (ns.map V.int)/\ns.length<=63/\st<=3/\∀ q pl sd px kv ls xs H',Same H H'->H' q=some (.tup [.ref pl, .ref sd])->H' pl=some (.lst px)->All2 (PDV K H') ls px->H' sd=some (.dK kv)->BG (·.1.f) (SGN K pl sd H') xs kv->Grn st ls (xs.map (·.1))->SgO ls xs->Two (xs.map (·.1))->1<=ls.length->ls.length<=8->xs.length<=16->(∀ p∈ls,Mth.Sz 21 p.wt)->xs≠[]->Q (.ref q) H'
theorem Jgr(F:"_law_parts"∘Ba6)(T:Txt K mg Ad)(Bag:1∘"_law_cell"∘["_law_script","_law_k"]∘(Jca K))(BaV:1∘"_law_name"∘["_law_k","_law_sign","_law_style"]∘(JcG))(Bal:1∘"_law_low"∘["_law_top","_law_bottom"]∘(Jb3))(Bai:2∘"_law_plus"∘["_law_one","_law_other","_law_sign"]∘(Jcb K))(BbV:1∘"_law_signed"∘["_law_cell_here","_law_most"]∘(JcI)):3∘["_law_script","_law_style"]∘(Jc0 K):=by
 show F.okn JaA (by subst_eqs) (λr4 A l1 s H vs Q E hr h=>?_)
 let(a,ns,g,rfl,h):=h;have hu:=hr.units;show(_,(Jab (Jaj 2 JaA.nd (Jbd Jac)) (Jab (Jaj 3 JaA.nd Jbt) (Jab (JaV PassesOwn.never rfl (Jdw rfl T.Bcr %[pe_op JaQ Jad (pe_op JaB (Bag.ev hr ⋯ rfl passF %[pv 0,Jad|0]) Jad)|0]) (Jaq 4 JaA.nd) (Jab (Jaj 5 JaA.nd (Bag.ev hr ⋯ rfl passF %[pv 0,pe_op JaQ Jad (pe_op JaE Jad (pv 4))|0])) (Jab (Jaj 6 JaA.nd (pe_op Jas (pe_op JaB (pe_op JaE (pv 5) Jad) Jad) Jad)) (Jab (ps_if (PW.pt (pw_or (Jat (JcR hu) (Jau Jcp rfl T.BbH Jbs %[pv 3|0]) Jad (Jay _)) (JbZ (Jat (JcR hu) (pe_op JaB (pe_op Jas (pv 6) Jad) Jad) Jad (Jay _))))) (Jab (Jaj 7 JaA.nd (BaV.ev hr ⋯ rfl passF %[Jau Jcp rfl T.BbH Jbs %[pv 3|0],Jbe,pv 1|0])) (Jag (JbC (hu1 hu) (pv 3) (pv 7) (JaF %[pv 7,JaF %[Jad,Jad|0],Jbd Jac|0]) rfl))) (Jag (Jaj 7 JaA.nd (pe_ix ix_U (Jau (Je2 rfl) rfl T.BdN Jf8 %[pv 3|0]) (pe_op JaB (pv 6) (Jau Jcp rfl T.BbH Jbs %[pv 3|0])))))) (Jab (Jaj 8 JaA.nd (BaV.ev hr ⋯ rfl passF %[Jau Jcp rfl T.BbH Jbs %[pv 3|0],Jbe,pv 1|0])) (Jab (Jaj 9 JaA.nd (Bag.ev hr ⋯ rfl passF %[pv 0,pe_op JaQ Jad (pe_op JaE Jad (pv 4))|0])) (Jab (Jaj 10 JaA.nd (Bal.ev hr ⋯ rfl passF %[BbV.ev hr ⋯ rfl passF %[pv 9,pe_ix ix_U (Jbd %[Jad,pe_op JlV Jad Jad|0]) (pe_op JaB (pe_op Jas (pv 6) Jad) Jad)|0],pe_op JaQ Jad (pe_op JaB (pe_op Jas (pv 6) Jad) Jad)|0])) (Jab (Jaj 11 JaA.nd (Bal.ev hr ⋯ rfl passF %[pe_op JaB (pv 9) Jad,pe_op JaQ Jad (pe_op JaB (pe_op Jas (pv 6) Jad) Jad)|0])) (Jab (Jaj 12 JaA.nd (pe_ix ix_U (Jbd %[JaF %[pv 7,pv 8|0],JaF %[pv 8,pv 7|0]|0]) (pe_op JaB (pe_op Jas (pv 6) Jad) Jad))) (Jab (Jaj 13 JaA.nd (BaV.ev hr ⋯ rfl passF %[pv 4,Jbe,pv 1|0])) (Jab (Jbi (pe_bm PySem.F.plainAttrs_list PySem.F.slot_list_append PySem.F.type_list_append Jbb (pv 2) %[JaF %[pv 13,!12,!12,pv 10,pv 11,pe_op JaQ Jad (pe_op JaB (pe_op Jas (pv 6) Jad) Jad)|0]|0] (hs:=by show Jae rfl))) (Jab (Jaj 14 JaA.nd (pe_op Jey Jad (pe_op JaE Jad (pe_op JaB (pe_op Jas (pv 6) Jad) Jad)))) (Jag (JbC (hu1 hu) (pv 3) (pv 8) (JaF %[pe_ix ix_U (Ja9 (hu1 hu) (pv 3) (pv 7) (λ_ _=>rfl)) Jad,Bai.ev hr ⋯ rfl passF %[pe_ix ix_U (Ja9 (hu1 hu) (pv 3) (pv 7) (λ_ _=>rfl)) Jad,pv 10,pv 14|0],pe_op JaQ (pe_ix ix_U (Ja9 (hu1 hu) (pv 3) (pv 7) (λ_ _=>rfl)) Jad) (Jbd %[JaF %[pv 13,pv 14|0]|0])|0]) rfl)))))))))))))) (Jag (Jap (JaF %[pv 2,pv 3|0])))))),?_)
 clear hu;let(hS,hl,d2,k):=h;have sl:(1000:Nat)<=sizeLine:=by decide
 have c4:(Str.ofString "f").cps=#[102]:=by decide
 have h8:(Str.ofString "p").cps=#[112]:=by decide
 show tSeq _ _ _ [some (.ref a),some (.int (g:Int)),none,none,none,none,none,none,none,none,none,none,none,none,none] H;cbv;show(len0,?_);rename_i D g9 p8 H H1 S1 e1;cbv;rename_i l b3 p1 H1 H2 S2 e2;cbv;show(a,ns,0,rfl,(hS.same S1).same S2,hl,by decide,by decide,λc0=>?_);cbv;mpure
 have q0:=Mth.fm (x:=c0) (y:=8) ⋯;show(_,rfl,by ac_nf,by ac_nf,?_);have g5:D≠l:=λz=>by rw[<- z,e1]at b3;cases b3
 have d9:=Jch S1 b3;show ForR.byN (λi σ J=>∃(v4 v5 v6 v7 v8 v9 b7 b4 c5 c7 b1:Option V)(px:List V)(M:List (Key × V))(ls:List PD)(c:List (SgD)),σ=[some (.ref a),some (.int (g:Int)),some (.ref D),some (.ref l),v4,v5,v6,v7,v8,v9,b7,b4,c5,c7,b1]/\Same H J/\J D=some (.lst px)/\All2 (PDV K J) ls px/\J l=some (.dK M)/\BG (·.1.f) (SGN K D l J) c M/\Grn g ls (c.map (·.1))/\SgO ls c/\Two (c.map (·.1))/\ls.length=i/\c.length<=2*i/\(1<=i->c≠[])/\∀ p∈ls,Mth.Sz 21 p.wt) ⟨none,none,none,none,none,none,none,none,none,none,none,[],[],[],[],rfl,S1.trans S2,S2 _ _ e1,rfl,e2,⟨rfl,rfl⟩,Grn.nil,SgO.nil,(λs hs=>by cases hs),rfl,by decide,λz=>absurd z ⋯,(λp hp=>by cases hp)⟩ ?_ ?_
 .intro i σ H3 hi z_ N0 m0;let(v4,v5,v6,v7,v8,v9,b7,b4,c5,c7,b1,px,M,ls,c,rfl,S3,ep,hP,Z,hB,hG,hO,hT,g3,f2,f1,g6):=z_;have i7:i<8:=by ac_nf
  rw[Int.zero_add];simpa only[-y5dy];mpure
  show(a,ns,_,rfl,hS.same S3,hl,by ac_nf,by ac_nf,λc1=>?_);try simpa only[-y5dy]
  mpure
  generalize((c1*48271).fmod 2147483647).fdiv 37=mx;show JmG (λσ' J=>∃(M:List (Key × V))(c:List (SgD))(s0:SgD),σ'=[some (.ref a),some (.int (g:Int)),some (.ref D),some (.ref l),some (.int (i:Int)),some (.int c1),some (.int mx),some (.str s0.1.f),v8,v9,b7,b4,c5,c7,b1]/\Same H J/\J D=some (.lst px)/\All2 (PDV K J) ls px/\J l=some (.dK M)/\BG (·.1.f) (SGN K D l J) c M/\Grn g ls (c.map (·.1))/\SgO ls c/\s0∈c/\(∀ s∈c.map (·.1),s.r=s0.1.r\/∃ t∈c.map (·.1),t.f≠s.f/\t.r=s.r)/\c.length<=2*i+1) ?_ ?_
  .clear hB hG hT hO f2 f1 Z hP ep S3;intro σ' R z_;let(M,c,s0,rfl,B,ep,hP,Z,hB,hG,hO,a0,hT,f2):=z_;have lk:=hB.length;have a8:(c.map (·.1)).length=c.length:=length_map ..;have S:s0.1∈c.map (·.1):=mem_map.mpr ⟨s0,a0,rfl⟩;cbv;show(l,M,rfl,Z,?_);show(_,_,_,102,c.length,rfl,c4,by ac_nf,by ac_nf,by ac_nf,by ac_nf,?_);rw[Int.toNat_natCast];cbv;mpure
   show(a,ns,_,rfl,hS.same B,hl,by ac_nf,by ac_nf,λc2=>?_);cbv;mpure
   rename_i ml q1 p4 R H6 S6 e6;cbv;mpure
   have q5:=Mth.fm (x:=mx.fdiv 64) (y:=2) ⋯;let(n5,k1):=Int.eq_ofNat_of_zero_le q5.1;rw[k1]at q5 ⊢;let(mo,m9,m1,m2):=pick9 (n:=n5) ∅;show ixL (i:=n5) (SqL.of e6) m9 ?_;clear q5 k1;cbv;show(_,_,rfl,m1,by show mo<=10 ^ 40;show m2,λc3 r1 r2=>?_);cbv;mpure
   have qb:1<=1+(mx.fdiv 128).fmod 12:=fm1 ⋯;have s4:Mth.Sz 4 (1+(mx.fdiv 128).fmod 12):=szF ⋯ ⋯ ⋯;show(_,_,rfl,qb,s4.mono ⋯,λfz H7 S7 e7=>?_);have zb:FB 133 4 (Mth.top (c3) (1+(mx.fdiv 128).fmod 12),Mth.bot (c3) (1+(mx.fdiv 128).fmod 12)):=FB.low qb (.lit ∅ ∅) s4;clear s4;obtain⟨sz,g7⟩:∃ sz:Fr2,sz=(Mth.top (c3) (1+(mx.fdiv 128).fmod 12),Mth.bot (c3) (1+(mx.fdiv 128).fmod 12)):=⟨_,rfl⟩;rw[<- g7]at zb;have e7:H7 fz=some (.tup [.int sz.1, .int sz.2]):=by rw[e7,g7]
   cbv;mpure
   have b6:1<=1+(mx.fdiv 16).fmod 6:=fm1 ⋯;have s6:Mth.Sz 6 (1+(mx.fdiv 16).fmod 6):=szF ⋯ ⋯ ⋯;show(_,_,rfl,b6,s6.mono ⋯,λfm j4 n7 f4=>?_);have k9:Mth.Sz 100 (c2.fmod 13):=szG ⋯ ⋯;have mb:=FB.low b6 k9 s6;have mn:=JjP (Mth.fm (x:=c2) (y:=13) ⋯).1 b6;obtain⟨mz,d5⟩:∃ mz:Fr2,mz=(Mth.top (c2.fmod 13) (1+(mx.fdiv 16).fmod 6),Mth.bot (c2.fmod 13) (1+(mx.fdiv 16).fmod 6)):=⟨_,rfl⟩;rw[<- d5]at mb;have mn:0<=mz.1:=by rw[d5];show mn
   have f4:j4 fm=some (.tup [.int mz.1, .int mz.2]):=by rw[f4,d5]
   clear r1 r2 qb m1 m2 g7 d5 b6 s6 k9;cbv;show(len2,?_);rename_i t1 o3 p6 j4 H8 S8 e8;cbv;show(len2,?_);rename_i t2 p9 o8 H8 H9 S9 e9;cbv;show(len2,?_);rename_i el o9 o7 H9 d0 d1 n9;cbv;mpure
   have q6:=Mth.fm (x:=mx.fdiv 32) (y:=2) ⋯;let(n6,j8):=Int.eq_ofNat_of_zero_le q6.1;rw[j8]at q6 ⊢;obtain⟨d,et,u,v,hd,j1,a6,a7,l3⟩:∃(d:Bool)(et:Addr)(u v:Str),[V.ref t1, .ref t2][n6]?=some (.ref et)/\d0 et=some (.tup [.str u, .str v])/\(u=if d then s0.1.f else nmK 102 g c.length)/\(v=if d then nmK 102 g c.length else s0.1.f)/\(1-2*(n6:Int)=if d then 1 else -1):=by
    match n6,q6 with
    | 0,_=>show(true,t1,_,_,rfl,d1 _ _ (S9 _ _ e8),rfl,rfl,rfl)
    | 1,_=>show(false,t2,_,_,rfl,d1 _ _ e9,rfl,rfl,rfl)
    | n+2,q6=>ac_nf
   show ixL (i:=n6) (SqL.of n9) hd ?_;clear q6;cbv;have e0:Same H7 d0:=n7.trans (S8.trans (S9.trans d1));have e3:Same R d0:=S6.trans (S7.trans e0);have h6:=e0 _ _ e7;have i4:=d1 _ _ (S9 _ _ (S8 _ _ f4));have j2:=e3 _ _ ep;show(_,_,_,112,i,rfl,h8,rfl,by ac_nf,by ac_nf,by ac_nf,?_);rw[Int.toNat_natCast];cbv;show(.inl ⟨rfl,_,SqL.of j2⟩,?_);show ixT (i:=0) (SqT.of j1) rfl ?_;show ixT (i:=1) (SqT.of j1) rfl ?_;cbv;mpure
   have qw:=Mth.fm (x:=mx.fdiv 8) (y:=4) ⋯;show(by show 6<=sizeLine;ac_nf,?_);rename_i pt o4 o6 d0 c9 d3 m8;cbv;have C:=e3.trans d3;have lp:=hP.length;show(D,px,_,rfl,rfl,C _ _ ep,by ac_nf,?_);generalize f3:upd c9 D _=b0;cbv;have h7:b0 D=some (.lst (px++[.ref pt])):=putE f3;have g1:SameT c9 b0:=SameT.put f3 (C _ _ ep) rfl;have a3:∀ b u,b≠D->c9 b=some u->b0 b=some u:=λb u hb h=>by rw[<- f3,Jah hb];show h
   have a5:=a3 _ _ (Ne.symm g5) (C _ _ Z);have U:SameT R b0:=C.t.trans g1;let(O,q9,l7,m4,g0,tb,w0,l0,y0,rfl,g2,l6,m5,q7,n3,i3):=hB.some (z:=s0.1.f) (mem_map.mpr ⟨s0,a0,rfl⟩);have es:=Jff hG l7 a0 m4;subst es;cbv;mpure
   mframe;show(l,_,rfl,by rw[<- g0];show DGet.k (k:=Sum.inr O.1.f) a5,?_);show ixT (i:=0) (g2.sameT U) rfl ?_;show(l,_,rfl,by rw[<- g0];show DGet.k (k:=Sum.inr O.1.f) a5,?_);show ixT (i:=1) (g2.sameT U) rfl ?_;cbv;have k3:FrV K b0 (.ref fz) sz.1 sz.2:=FrV.of (g1 _ _ rfl (d3 _ _ h6));have pb:=hG.fb O.1 S
   (rw[j8,l3])
   show(w0, .ref fz,_,O.1.p,sz,rfl,by cases d;show .lit ⋯ ⋯;show .lit ⋯ ⋯,l6.sameT U,k3,pb.w.mono ∅ ∅,zb.w.mono ⋯ ⋯,λnp j0 c8 j6=>?_);rw[JeC]at j6;have d6:=c8 _ _ a5;have k7:SameT R j0:=U.trans c8.t;cbv;show(l,_,rfl,by rw[<- g0];show DGet.k (k:=Sum.inr O.1.f) d6,?_);show ixT (i:=2) (g2.sameT k7) rfl ?_;cbv;show(len2,?_);rename_i n0 o5 p2 j0 k2 W j5;cbv;show(by show 1<=sizeLine;ac_nf,?_);rename_i n1 q2 p0 k2 d8 G k0;cbv;have k6:d8 l0=some (.lst y0):=G _ _ (W _ _ (c8 _ _ (a3 _ _ m5 (C _ _ n3))));have r0:=hO.ln O a0;have r5:=i3.length;show .inl ⟨l0,n1,_,_,rfl,rfl,k6,k0,by simp only[length_cons,length_nil];ac_nf,?_⟩;rename_i n2 I p3 d8 i9 b8 j9;cbv;show(by show 3<=sizeLine;ac_nf,?_);rename_i nt p5 p7 i9 f7 d4 l9;cbv;have m:=c8.trans (W.trans (G.trans (b8.trans d4)));have d7:=m _ _ a5;show(l,_,rfl,DPut.k (k:=Sum.inr (nmK 102 g c.length)) d7 ∅,?_);generalize f9:upd f7 l _=Y;cbv;have o0:=putE f9;have b9:SameT f7 Y:=SameT.put f9 d7 rfl;have a4:∀ b u,b≠l->f7 b=some u->Y b=some u:=λb u hb h=>by rw[<- f9,Jah hb];show h
   have b2:SameT R Y:=U.trans (m.t.trans b9);have a1:SameT c9 Y:=g1.trans (m.t.trans b9);have f0:nameS (nmK 112 g i)=true:=Jd6 ⋯ d2 ∅;have q8:nameS O.1.f=true:=hG.fname d2 ∅ S;have q4:nameS (nmK 102 g c.length)=true:=Jd6 ⋯ d2 ∅;have a9:nmK 102 g c.length∉(c.map (·.1)).map (·.f):=hG.new (by rw[a8];show Nat.le_refl _);have nw:nmK 102 g c.length≠O.1.f:=λz=>a9 (z ▸ mem_map.mpr ⟨O.1,S,rfl⟩);have o2:Mth.Sz 200 (1+(mx.fdiv 8).fmod 4):=.lit ∅ ∅;have j3:Mth.Sz 21 (1+(mx.fdiv 8).fmod 4):=.lit ∅ ∅;have l5:POk ⟨nmK 112 g i,u,v,sz,mz,1+(mx.fdiv 8).fmod 4⟩:=⟨f0,by show nameS u=true;rw[a6];cases d <;> assumption,by show nameS v=true;rw[a7];cases d <;> assumption,by show u≠v;rw[a6,a7];cases d;show nw;show Ne.symm nw,zb.ok ⋯ ⋯,mb.ok ⋯ ⋯,mn,by show(1:Int)<=1+(mx.fdiv 8).fmod 4;ac_nf,o2⟩;rw[<- a8]at a6 a7;have h4:=hG.part d2 S (p:=⟨nmK 112 g i,u,v,sz,mz,1+(mx.fdiv 8).fmod 4⟩) (d:=d) (by rw[g3]) a6 a7 (zb.mono ⋯ ⋯) l5;have nn:nmK 112 g i∉ls.map (·.nm):=λz=>by
    let(q,hq,e):=mem_map.mp z;let(i',h9):=List.getElem?_of_mem hq;have li:=(List.getElem?_eq_some_iff.mp h9).1;have e2:q.nm=nmK 112 g i:=e;rw[hG.nm i' q h9]at e2;have:=JdI e2;ac_nf
   have i8:=JkD hG S hT (z:=addF O.1.p (sgn d sz));rw[a8]at h4 i8 a6 a7;have m3:=hO.part a0 (p:=⟨nmK 112 g i,u,v,sz,mz,1+(mx.fdiv 8).fmod 4⟩) (d:=d) (z:=⟨nmK 102 g c.length,O.1.r,addF O.1.p (sgn d sz)⟩) nn a6 a7 rfl zb mb;obtain⟨X,hX⟩:∃ X:SgD,X=(⟨nmK 102 g c.length,O.1.r,addF O.1.p (sgn d sz)⟩,O.2++[(nmK 112 g i,if d then 1 else -1)]):=⟨_,rfl⟩;have b5:(c++[X]).map (·.1)=c.map (·.1)++[⟨nmK 102 g c.length,O.1.r,addF O.1.p (sgn d sz)⟩]:=by rw[map_append,hX];rfl
   have W416:Same2 D l R Y:=λb u h1 h2 h=>a4 _ _ h2 (m _ _ (a3 _ _ h1 (C _ _ h)));show m0 _ _ ⟨_,_,_,_,_,_,_,_,_,_,_,px++[.ref pt],_,ls++[⟨nmK 112 g i,u,v,sz,mz,1+(mx.fdiv 8).fmod 4⟩],c++[X],rfl,λb w h=>a4 _ _ (Jai h d9) (m _ _ (a3 _ _ (Jai h g9) (C _ _ (B _ _ h)))),a4 _ _ g5 (m _ _ h7),?_,o0,?_,by rw[b5];show h4,by rw[hX];show m3,by rw[b5];show i8,by simp[g3],by simp;ac_nf,(λ_=>by simp),λp hp=>by
    rcases mem_append.mp hp with hp | hp
    .show g6 p hp
    .rw[mem_singleton.mp hp];show j3⟩
   .show(hP.mono (P':=PDV K Y) λ_ _ z=>z.sameT b2).append (.one ⟨pt,_,_,rfl,SqT.of (a1 _ _ rfl m8),FrV.of (a1 _ _ rfl (d3 _ _ h6)),FrV.of (a1 _ _ rfl (d3 _ _ i4))⟩)
   .have g8:=hB.mono (P':=SGN K D l Y) λ_ _ z=>z.keep b2 W416;have ef:X.1.f=nmK 102 g c.length:=by rw[hX]
    have n4:n2≠D:=λz=>by rw[z]at I;rw[G _ _ (W _ _ (c8 _ _ h7))]at I;cases I
    have i5:n2≠l:=λz=>by rw[z]at I;rw[G _ _ (W _ _ d6)]at I;cases I
    have l2:All2 (PrI K Y) (O.2++[(nmK 112 g i,if d then 1 else -1)]) (y0++[.ref n0]):=(i3.mono λ_ _ z=>z.sameT b2).append (.one ⟨n0,rfl,SqT.of (b9 _ _ rfl (d4 _ _ (b8 _ _ (G _ _ j5))))⟩);have nX:(λx:SgD=>x.1.f) X∉c.map (λx=>x.1.f):=by
     show X.1.f∉_;rw[ef];rw[map_map]at a9;show a9
    have:=g8.new (a:=X) (v:=.ref nt) nX ⟨nt, .ref np,n2,y0++[.ref n0],rfl,by rw[hX];show SqT.of (b9 _ _ rfl l9),by rw[hX];show FrV.of (b9 _ _ rfl (d4 _ _ (b8 _ _ (G _ _ (W _ _ j6))))),n4,i5,a4 _ _ i5 (d4 _ _ j9),by rw[hX];show l2⟩;rw[ef]at this;show this
  .intro N hN;have lk:=hB.length;have a8:(c.map (·.1)).length=c.length:=length_map ..;cbv;show(l,M,rfl,Z,?_);cbv;have i6:∀(J:Hp)(tf rf lf:Addr),Same H3 J->H3 lf=none->J lf=some (.lst [])->J rf=some (.tup [.int 0, .int 1])->J tf=some (.tup [.str (nmK 102 g c.length), .ref rf, .ref lf])->∀ L,upd J l (.dK (putK M (Sum.inr (nmK 102 g c.length)) (.ref tf)))=L->N [some (.ref a),some (.int (g:Int)),some (.ref D),some (.ref l),some (.int (i:Int)),some (.int c1),some (.int mx),some (.str (nmK 102 g c.length)),v8,v9,b7,b4,c5,c7,b1] L:=λJ tf rf lf S' o o1 hr ht L u=>by
    have l4:=S' _ _ Z;have l8:=putE u;have T':SameT J L:=SameT.put u l4 rfl;have fr:∀ b w,b≠l->J b=some w->L b=some w:=λb w hb h=>by rw[<- u,Jah hb];show h
    have T3:SameT H3 L:=S'.t.trans T';have W3:Same2 D l H3 L:=λb u _ h2 h=>fr _ _ h2 (S' _ _ h);have np:lf≠D:=λz=>by rw[z,ep]at o;cases o
    have i0:lf≠l:=λz=>by rw[z,Z]at o;cases o
    have k8:=hG.face;rw[a8]at k8;have n8:=hO.face (z:=⟨nmK 102 g c.length,nmK 102 g c.length,(0,1)⟩) rfl;obtain⟨X,hX⟩:∃ X:SgD,X=(⟨nmK 102 g c.length,nmK 102 g c.length,(0,1)⟩,[]):=⟨_,rfl⟩;have b5:(c++[X]).map (·.1)=c.map (·.1)++[⟨nmK 102 g c.length,nmK 102 g c.length,(0,1)⟩]:=by rw[map_append,hX];rfl
    have g4:X.1.f=nmK 102 g c.length:=by rw[hX]
    have m6:X.1.r=nmK 102 g c.length:=by rw[hX]
    show hN _ _ ⟨_,c++[X],X,by rw[g4],λb w h=>fr _ _ (Jai h d9) (S' _ _ (S3 _ _ h)),fr _ _ g5 (S' _ _ ep),hP.mono (P':=PDV K L) (λ_ _ z=>z.sameT T3),l8,?_,by rw[b5];show k8,by rw[hX];show n8,by simp,λs hs=>?_,by simp;ac_nf⟩
    .have g8:=hB.mono (P':=SGN K D l L) λ_ _ z=>z.keep T3 W3;have nX:(λx:SgD=>x.1.f) X∉c.map (λx=>x.1.f):=by
      show X.1.f∉_;rw[g4];have a9:nmK 102 g c.length∉(c.map (·.1)).map (·.f):=hG.new (by rw[a8];show Nat.le_refl _);rw[map_map]at a9;show a9
     have:=g8.new (a:=X) (v:=.ref tf) nX ⟨tf, .ref rf,lf,[],rfl,by rw[hX];show SqT.of (T' _ _ rfl ht),by rw[hX];show FrV.of (T' _ _ rfl hr),np,i0,fr _ _ i0 o1,by rw[hX];rfl⟩;rw[g4]at this;show this
    .rw[b5]at hs ⊢;rcases mem_append.mp hs with hs | hs
     .let(t,h1,h2,h3):=hT s hs;show .inr ⟨t,mem_append.mpr (.inl h1),h2,h3⟩
     .rw[mem_singleton.mp hs,m6];show .inl rfl
   by_cases z0:c.length=0
   .rw[if_pos (by rw[decide_eq_true_iff];ac_nf)];cbv;show(l,M,rfl,Z,?_);show(_,_,_,102,c.length,rfl,c4,by ac_nf,by ac_nf,by ac_nf,by ac_nf,?_);rw[Int.toNat_natCast];cbv;show(len2,?_);rename_i rf h0 k5 H3 R B e4;cbv;show(len0,?_);rename_i lf o i2 R f8 a2 f6;cbv;show(by show 3<=sizeLine;ac_nf,?_);rename_i tf j7 h5 f8 H5 S5 e5;cbv;show(l,_,rfl,DPut.k (k:=Sum.inr (nmK 102 g c.length)) (S5 _ _ (a2 _ _ (B _ _ Z))) ∅,?_);show i6 H5 tf rf lf (B.trans (a2.trans S5)) (Jch B o) (S5 _ _ f6) (S5 _ _ (a2 _ _ e4)) e5 _ rfl
   .rw[if_neg (by rw[decide_eq_true_iff];ac_nf)];cbv;cbv;mpure
    by_cases c6:(mx.fdiv 4096).fmod 6=1
    .rw[if_pos (by simpa using c6)];cbv;show(l,M,rfl,Z,?_);show(_,_,_,102,c.length,rfl,c4,by ac_nf,by ac_nf,by ac_nf,by ac_nf,?_);rw[Int.toNat_natCast];cbv;show(len2,?_);rename_i rf h0 k5 H3 R B e4;cbv;show(len0,?_);rename_i lf o i2 R f8 a2 f6;cbv;show(by show 3<=sizeLine;ac_nf,?_);rename_i tf j7 h5 f8 H5 S5 e5;cbv;show(l,_,rfl,DPut.k (k:=Sum.inr (nmK 102 g c.length)) (S5 _ _ (a2 _ _ (B _ _ Z))) ∅,?_);show i6 H5 tf rf lf (B.trans (a2.trans S5)) (Jch B o) (S5 _ _ f6) (S5 _ _ (a2 _ _ e4)) e5 _ rfl
    .rw[if_neg (by simpa using c6)];cbv;show(l,M,c.map (·.1.f),rfl,Z,by rw[hB.1,map_map];rfl,by rw[length_map];ac_nf,λm7 f5 k4 i1=>?_);generalize u4:upd H3 m7 _=R;cbv;have B:=newS k4 u4;have e4:=newE u4;cbv;show(l,M,rfl,B _ _ Z,?_);cbv;have lo:f5.length=c.length:=by rw[i1.1.length_eq,length_map]
     show(by ac_nf,?_);have qj:=Mth.fm (x:=mx) (y:=(M.length:Int)) ∅;let(j,hj):=Int.eq_ofNat_of_zero_le qj.1;rw[hj]at qj ⊢;have jl:j<f5.length:=by ac_nf
     let(s0,a0,ef):=mem_map.mp (i1.1.mem_iff.mp (List.getElem_mem jl));show ixL (i:=j) (SqL.of e4) (by rw[List.getElem?_map,List.getElem?_eq_getElem jl];rfl) ?_;cbv;have ef:s0.1.f=f5[j]:=ef;rw[<- ef];show hN _ _ ⟨M,c,s0,rfl,S3.trans B,B _ _ ep,hP.mono (P':=PDV K R) (λ_ _ z=>z.sameT B.t),B _ _ Z,hB.mono (P':=SGN K D l R) (λ_ _ z=>z.same B),hG,hO,a0,λs hs=>.inr (hT s hs),by ac_nf⟩
 .intro σ H3 z_;let(v4,v5,v6,v7,v8,v9,b7,b4,c5,c7,b1,px,M,ls,c,rfl,S3,ep,hP,Z,hB,hG,hO,hT,g3,f2,f1,g6):=z_;cbv;show(len2,?_);rename_i q q3 r3 H3 R B e4;cbv;show k q D l px M ls c R (S3.trans B) e4 (B _ _ ep) (hP.mono (P':=PDV K R) λ_ _ z=>z.sameT B.t) (B _ _ Z) (hB.mono (P':=SGN K D l R) λ_ _ z=>z.same B) hG hO hT ∅ ∅ ∅ g6 (f1 ∅)
abbrev Bbj:Stmt:=top 66
theorem Jax:Jan ["_law_script","_law_spots","_law_style","_law_gaps_here","_law_ways","_law_k","_law_cell_here","_law_mixed","_law_faces","_law_one","_law_same","_law_two","_law_middle","_law_other","_law_low_here","_law_high","_law_here","_law_there","_law_signs","_law_pair"] ["_law_script","_law_spots","_law_style"] (Jaf Bbj):=by bv_decide
def Jdj(K:W.Frag):Sp:=λvs H Q E=>∃(a sd pp:Addr)(ns:List Int)(st:Nat)(kv:List (Key × V))(ls:List PD)(xs:List SgD),vs=[.ref a, .ref sd, .int (st:Int)]/\SqL K H a (ns.map V.int)/\ns.length<=63/\st<=3/\H sd=some (.dK kv)/\BG (·.1.f) (SGN K pp sd H) xs kv/\Grn st ls (xs.map (·.1))/\SgO ls xs/\Two (xs.map (·.1))/\ls.length<=8/\xs.length<=16/\xs≠[]/\∀ q gl wl gx wx gs ws H',Same H H'->H' q=some (.tup [.ref gl, .ref wl])->H' gl=some (.lst gx)->All2 (λ(g:GD) x=>TV K H' g.td x) gs gx->H' wl=some (.lst wx)->All2 (WyV K gl wl H') ws wx->(∀(i:Nat) g w,gs[i]?=some g->ws[i]?=some w->GO1 ls xs g w)->(∀(i:Nat)(g:GD),gs[i]?=some g->g.nm=nmK 103 st i)->1<=gs.length->gs.length<=6->ws.length=gs.length->Q (.ref q) H'
theorem Jg2(F:"_law_gaps"∘Bbj)(T:Txt K mg Ad)(Bag:1∘"_law_cell"∘["_law_script","_law_k"]∘(Jca K))(BaV:1∘"_law_name"∘["_law_k","_law_sign","_law_style"]∘(JcG))(Bal:1∘"_law_low"∘["_law_top","_law_bottom"]∘(Jb3))(Bai:2∘"_law_plus"∘["_law_one","_law_other","_law_sign"]∘(Jcb K)):3∘["_law_script","_law_spots","_law_style"]∘(Jdj K):=by
 show F.okn Jax (by subst_eqs) (λq4 A l7 s H vs Q E hr h=>?_)
 let(a,sd,pp,ns,st,kv,ls,xs,rfl,h):=h;have O:=hr.units;show(_,(Jab (Jaj 3 Jax.nd (Jbd Jac)) (Jab (Jaj 4 Jax.nd (Jbd Jac)) (Jab (JaV PassesOwn.never rfl (Jdw rfl T.Bcr %[pe_op JaQ Jad (pe_op JaB (Bag.ev hr ⋯ rfl passF %[pv 0,Jad|0]) Jad)|0]) (Jaq 5 Jax.nd) (Jab (Jaj 6 Jax.nd (Bag.ev hr ⋯ rfl passF %[pv 0,pe_op JaQ Jad (pe_op JaE Jad (pv 5))|0])) (Jab (Jaj 7 Jax.nd (pe_op Jas (pe_op JaB (pe_op JaE (pv 6) Jad) Jad) Jad)) (Jab (Jaj 8 Jax.nd (Jau (Je2 rfl) rfl T.BdN Jf8 %[pv 1|0])) (Jab (Jaj 9 Jax.nd (pe_ix ix_U (pv 8) (pe_op JaB (pv 7) (Jau Ja4 rfl T.BbH Jbs %[pv 8|0]))) rfl (Or.inr rfl)) (Jab (Jb5 (j:=10) (own:=["_law_face"]) (cs:=[(9,"_law_one"),(1,"_law_spots")]) Jax.nd rfl (Or.inl rfl) rfl (pi_U (pv 8)) (λ_ _ _ _=>(Jaq 0 (show[("_law_face" : Str),("_law_one" : Str),("_law_spots" : Str)].Nodup by decide))) (λ_ _ _ _=>JfK (PW.pt (Jm9 (Jat (Jm2 (K:=K) rfl O) (pv 0) (pv 1) (Jay _)) (Jl8 (Jat (JkW (K:=K) rfl O) (pe_ix (ix_UK (K:=K) rfl) (Ja9 (hu1 O) (pv 2) (pv 0) (λ_ _=>rfl)) Jad) (pe_ix (ix_UK (K:=K) rfl) (Ja9 (hu1 O) (pv 2) (pv 1) (λ_ _=>rfl)) Jad) (Jay _)))))) (λ_ _ _ _=>(pv 0)) (JcQ rfl) ⋯ rfl ⋯ (hcs2 rfl rfl rfl rfl rfl rfl)) (Jab (Jaj 11 Jax.nd (pe_ix ix_U (pv 10) (pe_op JaB (pe_op Jas (pv 7) Jad) (Jau Ja4 rfl T.BbH Jbs %[pv 10|0])))) (Jab (Jaj 12 Jax.nd (Bai.ev hr ⋯ rfl passF %[pe_ix ix_U (Ja9 (hu1 O) (pv 1) (pv 11) (λ_ _=>rfl)) Jad,pe_ix ix_U (Ja9 (hu1 O) (pv 1) (pv 9) (λ_ _=>rfl)) Jad,pe_un JgD Jad|0])) (Jab (Jaj 13 Jax.nd (Bag.ev hr ⋯ rfl passF %[pv 0,pe_op JaQ Jad (pe_op JaE Jad (pv 5))|0])) (Jab (Jaj 14 Jax.nd (Bai.ev hr ⋯ rfl passF %[pv 12,Bal.ev hr ⋯ rfl passF %[pe_op JaB (pv 13) Jad,pe_op JaQ Jad (pe_op JaB (pe_op Jas (pv 7) Jad) Jad)|0],pe_un JgD Jad|0])) (Jab (Jaj 15 Jax.nd (Bai.ev hr ⋯ rfl passF %[pv 12,Bal.ev hr ⋯ rfl passF %[pe_op JaB (pe_op Jas (pv 13) Jad) Jad,pe_op JaQ Jad (pe_op JaB (pe_op Jas (pv 7) Jad) Jad)|0],Jad|0])) (Jab (Jbi (pe_bm PySem.F.plainAttrs_list PySem.F.slot_list_append PySem.F.type_list_append Jbb (pv 3) %[JaF %[BaV.ev hr ⋯ rfl passF %[pv 5,Jbe,pv 2|0],pv 9,pv 11,pv 14,pv 15|0]|0] (hs:=by show Jae rfl))) (Jab (Jaj 16 Jax.nd (pe_ix ix_U (Ja9 (hu1 O) (pv 1) (pv 9) (λ_ _=>rfl)) Jad)) (Jab (Jaj 17 Jax.nd (pe_ix ix_U (Ja9 (hu1 O) (pv 1) (pv 11) (λ_ _=>rfl)) Jad)) (Jab (Jaj 18 Jax.nd Jbt) (Jab (JaV PassesOwn.never rfl (pi_U (pv 16)) (Jaq 19 Jax.nd) (Jag (ps_if (Jat (Jjd O) (pv 19) (pv 17) (by with_unfolding_all rfl)) (Jag (JbC (hu1 O) (pv 18) (!19) (pe_op Jey Jad (!19)) rfl))
   Jav))) (Jab (JaV PassesOwn.never rfl (pi_U (pv 17)) (Jaq 19 Jax.nd) (Jag (ps_if (Jat (Jjd O) (pv 19) (pv 16) (by with_unfolding_all rfl)) (Jag (JbC (hu1 O) (pv 18) (!19) (!19) rfl))
   Jav))) (Jag (Jbi (pe_bm PySem.F.plainAttrs_list PySem.F.slot_list_append PySem.F.type_list_append Jbb (pv 4) %[JaF %[pv 12,pv 18|0]|0] (hs:=by show Jae rfl))))))))))))))))))))) (Jag (Jap (JaF %[pv 3,pv 4|0])))))),?_)
 clear O;let(hS,hl,g7,ed,hB,hG,hO,hT,h7,p4,l9,k):=h;have sl:(1000:Nat)<=sizeLine:=by decide
 have l0:(Str.ofString "g").cps=#[103]:=by decide
 have lk:=hB.length;have p6:(xs.map (·.1)).length=xs.length:=length_map ..;have q2:1<=xs.length:=by cases xs with | nil=>show absurd rfl l9 | cons _ _=>simp
 show tSeq _ _ _ [some (.ref a),some (.ref sd),some (.int (st:Int)),none,none,none,none,none,none,none,none,none,none,none,none,none,none,none,none,none] H;cbv;show(len0,?_);rename_i gl i3 o9 H H1 S1 e1;cbv;show(len0,?_);rename_i wl b8 o6 H1 H2 S2 e2;cbv;have j3:=S1.trans S2;have k4:gl≠wl:=λz=>by rw[<- z,e1]at b8;cases b8
 have k8:=Jch S1 b8;cbv;show(a,ns,1,rfl,hS.same j3,hl,by decide,by decide,λc0=>?_);cbv;mpure
 have q0:=Mth.fm (x:=c0) (y:=6) ⋯;show(_,rfl,by ac_nf,by ac_nf,?_);show ForR.byN (λi σ H'=>∃(v5 v6 v7 v8 v9 g3 f7 h5 h8 f1 g4 g9 f8 g8 I:Option V)(gx wx:List V)(gs:List GD)(ws:List ((Int × Int) × (Str->Int))),σ=[some (.ref a),some (.ref sd),some (.int (st:Int)),some (.ref gl),some (.ref wl),v5,v6,v7,v8,v9,g3,f7,h5,h8,f1,g4,g9,f8,g8,I]/\Same H H'/\H' gl=some (.lst gx)/\All2 (λ(g:GD) x=>TV K H' g.td x) gs gx/\H' wl=some (.lst wx)/\All2 (WyV K gl wl H') ws wx/\(∀(i:Nat) g w,gs[i]?=some g->ws[i]?=some w->GO1 ls xs g w)/\(∀(i:Nat)(g:GD),gs[i]?=some g->g.nm=nmK 103 st i)/\gs.length=i/\ws.length=i) ⟨none,none,none,none,none,none,none,none,none,none,none,none,none,none,none,[],[],[],[],rfl,j3,S2 _ _ e1,rfl,e2,rfl,(λi g w h=>by cases h),(λi g h=>by cases h),rfl,rfl⟩ ?_ ?_
 .intro i σ H3 hi z_ N0 m7;let(v5,v6,v7,v8,v9,g3,f7,h5,h8,f1,g4,g9,f8,g8,I,gx,wx,gs,ws,rfl,S3,eg,hX,ew,hW,g0,i0,f2,j0):=z_;have i6:i<6:=by ac_nf
  clear hi q0;have j5:=S3 _ _ ed;rw[Int.zero_add];cbv;mpure
  show(a,ns,_,rfl,hS.same S3,hl,by ac_nf,by ac_nf,λg5=>?_);cbv;mpure
  mspec
  generalize((g5*39373).fmod 2147483629).fdiv 37=mx;show(sd,kv,xs.map (·.1.f),rfl,j5,by rw[hB.1,map_map];rfl,by rw[length_map];ac_nf,λfl M k9 c7=>?_);generalize u4:upd H3 fl _=H4;cbv;have S4:=newS k9 u4;have e4:=newE u4;have g2:=S4 _ _ j5;have a9:=S3.trans S4;have o0:=hB.mono (P':=SGN K pp sd H4) λ_ _ z=>z.same a9;have lo:M.length=xs.length:=by rw[c7.1.length_eq,length_map]
  cbv;show(_, .inl (SqL.of e4),?_);try simpa only[length_map]
  show(by ac_nf,?_);have qj:=Mth.fm (x:=mx) (y:=(M.length:Int)) ∅;let(j,hj):=Int.eq_ofNat_of_zero_le qj.1;rw[hj]at qj ⊢;have jl:j<M.length:=by ac_nf
  let(s1,Y,ef):=mem_map.mp (c7.1.mem_iff.mp (List.getElem_mem jl));show ixL (i:=j) (SqL.of e4) (by rw[List.getElem?_map,List.getElem?_eq_getElem jl];rfl) ?_;have ef:s1.1.f=M[j]:=ef;rw[<- ef];clear qj hj;cbv;let(l,p9,m1,n0,f3,p3,w1,l1,y1,rfl,a3,h0,_,_,o5,l3):=hB.some (z:=s1.1.f) (mem_map.mpr ⟨s1,Y,rfl⟩);have m6:=Jff hG m1 Y n0;have a3:=a3.same a9;have h0:=h0.same a9;subst m6;show(fl,rfl, .inl ⟨⟨_,SqL.of e4⟩,JcO.list (xs:=M.map V.str) (λi ys H'=>H'=H4/\∃ fs:List Str,ys=fs.map V.str/\fs.length<=i/\(∀ f∈fs, ∃ t∈xs,t.1.f=f/\t.1.f≠l.1.f/\t.1.r=l.1.r)/\(∀ t∈xs,t.1.f∈M.take i->t.1.f≠l.1.f->t.1.r=l.1.r->t.1.f∈fs)) ⟨rfl,[],rfl,Nat.zero_le _,(λf hf=>by cases hf),λt _ h=>by simp at h⟩ (λi ys H' hi z=>by
   let(rfl,fs,rfl,hf,_):=z;rw[length_map]at hi ⊢;show(SqL.of e4,by ac_nf)) ?_ ?_⟩)
  .intro m y ys H5 hy z_;let(rfl,fs,rfl,i4,d3,c6):=z_;have lm:=(List.getElem?_eq_some_iff.mp hy).1;rw[length_map]at lm;rw[List.getElem?_map,List.getElem?_eq_getElem lm]at hy;have hy:y=.str M[m]:=(Option.some.inj hy).symm;subst hy;let(t,ht,d2):=mem_map.mp (c7.1.mem_iff.mp (List.getElem_mem lm));have d2:t.1.f=M[m]:=d2;rw[<- d2];let(v,vt,g6,h3,d0,l6,wt,_,_,rfl,Z,c9,_):=o0.some (z:=t.1.f) (mem_map.mpr ⟨t,ht,rfl⟩);have et:=Jff hG g6 ht h3;subst et;have e0:∀(u:SgD),u∈xs->u.1.f∈M.take (m+1)->u.1.f∈M.take m\/u=v:=λu O h=>by
    rw[take_succ,List.getElem?_eq_getElem lm]at h;rcases mem_append.mp h with h | h
    .show .inl h
    .have : u.1.f=M[m]:=by simpa using h
     show .inr (Jff hG O ht (this.trans d2.symm))
   simpa only[length_singleton,length_cons,length_nil,List.replicate,JaM,map_cons,map_nil,Option.join_some];have d8:(¬(v.1.f≠l.1.f/\v.1.r=l.1.r))->∃ fs_1:List Str,fs.map V.str=fs_1.map V.str/\fs_1.length<=m+1/\(∀ f∈fs_1, ∃ t∈xs,t.1.f=f/\t.1.f≠l.1.f/\t.1.r=l.1.r)/\∀ t∈xs,t.1.f∈M.take (m+1)->t.1.f≠l.1.f->t.1.r=l.1.r->t.1.f∈fs_1:=λm2=>⟨fs,rfl,by ac_nf,d3,λu O hk h1 h2=>by
    rcases e0 u O hk with h | rfl
    .show c6 u O h h1 h2
    .show absurd ⟨h1,h2⟩ m2⟩
   by_cases c1:v.1.f=l.1.f
   .rw[if_neg (by simpa using c1)];cbv;show d8 λh=>h.1 c1
   .rw[if_pos (by simpa using c1)];cbv;show(sd,_,rfl,by rw[<- d0];show DGet.k (k:=Sum.inr v.1.f) g2,?_);show ixT (i:=0) Z rfl ?_;show(sd,_,rfl,by rw[<- f3];show DGet.k (k:=Sum.inr l.1.f) g2,?_);show ixT (i:=0) a3 rfl ?_;cbv;by_cases c2:v.1.r=l.1.r
    .rw[if_pos (by simpa using c2)];cbv;show(fs++[v.1.f],by simp,by simp;ac_nf,λf hf=>?_,λu O hk h1 h2=>?_)
     .rcases mem_append.mp hf with h | h
      .show d3 f h
      .rw[mem_singleton.mp h];show(v,ht,rfl,c1,c2)
     .rcases e0 u O hk with h | rfl
      .show mem_append.mpr (.inl (c6 u O h h1 h2))
      .simp
    .rw[if_neg (by simpa using c2)];cbv;show d8 λh=>c2 h.2
  .intro ys H5 z_;let(rfl,fs,rfl,i4,d3,c6):=z_;have p7:1<=fs.length:=by
    let(t0,m4,h1,h2):=hT l.1 (mem_map.mpr ⟨l,Y,rfl⟩);let(t,ht,rfl):=mem_map.mp m4;have:=c6 t ht (by rw[take_of_length_le (by rw[length_map];ac_nf)];show c7.1.mem_iff.mpr (mem_map.mpr ⟨t,ht,rfl⟩)) h1 h2;cases fs with
    | nil=>cases this
    | cons _ _=>simp
   rw[length_map]at i4;rename_i k1 m3 m5 H5 H6 S6 e6;cbv;cbv;mpure
   show(_, .inl (SqL.of e6),?_);try simpa only[length_map]
   show(by ac_nf,?_);have qk:=Mth.fm (x:=mx.fdiv 64) (y:=(fs.length:Int)) ∅;let(j2,o4):=Int.eq_ofNat_of_zero_le qk.1;rw[o4]at qk ⊢;have i9:j2<fs.length:=by ac_nf
   let(t,ht,h3,n6,n5):=d3 _ (List.getElem_mem i9);show ixL (i:=j2) (SqL.of e6) (by rw[List.getElem?_map,List.getElem?_eq_getElem i9];rfl) ?_;rw[<- h3];let(v,vt,g6,k0,d0,l6,wt,l2,y2,rfl,Z,c9,_,_,n7,k7):=hB.some (z:=t.1.f) (mem_map.mpr ⟨t,ht,rfl⟩);have et:=Jff hG g6 ht k0;have Z:=Z.same a9;have c9:=c9.same a9;subst et;cbv;have j8:=S6 _ _ g2;show(sd,_,rfl,by rw[<- d0];show DGet.k (k:=Sum.inr v.1.f) j8,?_);show ixT (i:=1) (Z.same S6) rfl ?_;show(sd,_,rfl,by rw[<- f3];show DGet.k (k:=Sum.inr l.1.f) j8,?_);show ixT (i:=1) (a3.same S6) rfl ?_;cbv;have tb:FB 174 33 v.1.p:=(hO.fb v ht).mono ∅ ∅;have sb:FB 174 33 l.1.p:=(hO.fb l Y).mono ∅ ∅;show(wt,w1,_,v.1.p,l.1.p,rfl, .lit ⋯ ⋯,c9.same S6,h0.same S6,tb.w.mono ∅ ∅,sb.w.mono ∅ ∅,λmp H7 S7 e7=>?_);rw[show sI (-1) l.1.p=sgn false l.1.p from JeC (d:=false)]at e7;have o2:=hG.pl_at (mem_map.mpr ⟨v,ht,rfl⟩);have m9:=hG.pl_at (mem_map.mpr ⟨l,Y,rfl⟩);have mb:FB 208 66 (addF v.1.p (sgn false l.1.p)):=FB.add (n:=207) (m:=66) tb sb.neg ⋯ ⋯ ⋯;have m8:∀(g:GD),g.st=l.1.f->g.en=v.1.f->mid (spOf (xs.map (·.1))) g=addF v.1.p (sgn false l.1.p):=λg h1 h2=>by
    unfold mid;rw[h1,h2,o2,m9];rfl
   generalize addF v.1.p (sgn false l.1.p)=m at *;cbv;mpure
   have f9:=S6.trans S7;show(a,ns,_,rfl,(hS.same a9).same f9,hl,by ac_nf,by ac_nf,λX=>?_);cbv;mpure
   have b5:1<=1+(mx.fdiv 1024).fmod 5:=fm1 ⋯;have s5:Mth.Sz 3 (1+(mx.fdiv 1024).fmod 5):=szF ⋯ ⋯ ⋯;have sx:Mth.Sz 8 (X.fmod 23):=szG ⋯ ⋯;show(_,_,rfl,b5,s5.mono ⋯,λbp H8 S8 e8=>?_);have fB:=FB.low b5 sx s5;have nB:=(vl_nn fB.b1).mpr (JjP (Mth.fm (x:=X) (y:=23) ⋯).1 b5);obtain⟨B,i5⟩:∃ B:Fr2,B=(Mth.top (X.fmod 23) (1+(mx.fdiv 1024).fmod 5),Mth.bot (X.fmod 23) (1+(mx.fdiv 1024).fmod 5)):=⟨_,rfl⟩;rw[<- i5]at fB nB;have eb:H8 bp=some (.tup [.int B.1, .int B.2]):=by rw[e8,i5]
   clear b5 s5 sx;cbv;show(.ref mp, .ref bp,_,m,B,rfl, .lit ⋯ ⋯,FrV.of (S8 _ _ e7),FrV.of eb,mb.w.mono ⋯ ⋯,fB.w.mono ⋯ ⋯,λlp H9 S9 e9=>?_);rw[show sI (-1) B=sgn false B from JeC (d:=false)]at e9;cbv;mpure
   have b5:1<=1+(mx.fdiv 8192).fmod 5:=fm1 ⋯;have s5:Mth.Sz 3 (1+(mx.fdiv 8192).fmod 5):=szF ⋯ ⋯ ⋯;have sx:Mth.Sz 8 ((X.fdiv 23).fmod 23):=szG ⋯ ⋯;show(_,_,rfl,b5,s5.mono ⋯,λap m0 f4 o1=>?_);have fA:=FB.low b5 sx s5;have nA:=(vl_nn fA.b1).mpr (JjP (Mth.fm (x:=X.fdiv 23) (y:=23) ⋯).1 b5);obtain⟨A,i8⟩:∃ A:Fr2,A=(Mth.top ((X.fdiv 23).fmod 23) (1+(mx.fdiv 8192).fmod 5),Mth.bot ((X.fdiv 23).fmod 23) (1+(mx.fdiv 8192).fmod 5)):=⟨_,rfl⟩;rw[<- i8]at fA nA;have ea:m0 ap=some (.tup [.int A.1, .int A.2]):=by rw[o1,i8]
   have l8:0<=vl A+vl B:=by grind
   clear b5 s5 sx nA nB;cbv;show(.ref mp, .ref ap,_,m,A,rfl, .lit ⋯ ⋯,FrV.of (f4 _ _ (S9 _ _ (S8 _ _ e7))),FrV.of ea,mb.w.mono ⋯ ⋯,fA.w.mono ⋯ ⋯,λhp o3 i2 j7=>?_);rw[show sI 1 A=sgn true A from JeC (d:=true)]at j7;have b6:=S8.trans (S9.trans (f4.trans i2));have d6:=S4.trans (f9.trans b6);have p5:=hX.length;have q3:=hW.length;cbv;show(.inl ⟨rfl,_,SqL.of (d6 _ _ eg)⟩,?_);show(_,_,_,103,i,rfl,l0,rfl,by ac_nf,by ac_nf,by ac_nf,?_);rw[Int.toNat_natCast];cbv;show(len5,?_);rename_i gt o8 p0 o3 i1 c3 n4;cbv;have R:=d6.trans c3;show(gl,gx,_,rfl,rfl,R _ _ eg,by ac_nf,?_);generalize a7:upd i1 gl _=L;cbv;have f5:L gl=some (.lst (gx++[.ref gt])):=putE a7;have c8:SameT i1 L:=SameT.put a7 (R _ _ eg) rfl;have i7:SameT H3 L:=R.t.trans c8;have U:Same H L:=λb w h=>by rw[<- a7,Jah (Jai h i3)];show R _ _ (S3 _ _ h)
   have b0:L wl=some (.lst wx):=by rw[<- a7,Jah (Ne.symm k4)];show R _ _ ew
   have e5:SameT H5 L:=(f9.trans (b6.trans c3)).t.trans c8;have a2:=U _ _ o5;have a1:=U _ _ n7;have d5:=l3.mono (P':=PrI K L) λ_ _ z=>z.sameT U.t;have d9:=k7.mono (P':=PrI K L) λ_ _ z=>z.sameT U.t;have p2:=l3.length;have p8:=k7.length;have n1:=hO.ln l Y;have n2:=hO.ln v ht;have d7:=U _ _ ed;cbv;show(sd,_,rfl,by rw[<- f3];show DGet.k (k:=Sum.inr l.1.f) d7,?_);show ixT (i:=2) (a3.sameT e5) rfl ?_;cbv;show(sd,_,rfl,by rw[<- d0];show DGet.k (k:=Sum.inr v.1.f) d7,?_);show ixT (i:=2) (Z.sameT e5) rfl ?_;cbv;rename_i sg o o7 L j1 J d1;cbv;cbv;have j6:l1≠sg:=λz=>by rw[z]at a2;rw[a2]at o;cases o
   have h9:l2≠sg:=λz=>by rw[z]at a1;rw[a1]at o;cases o
   show(l1,rfl,ForA.byLN (xs:=y1) (SqL.of (J _ _ a2)) (λj σ H'=>j<=y1.length/\∃(I:Option V)(kw:List (Key × V)),σ=[some (.ref a),some (.ref sd),some (.int (st:Int)),some (.ref gl),some (.ref wl),some (.int (i:Int)),some (.int g5),some (.int mx),some (.ref fl),some (.str l.1.f),some (.ref k1),some (.str v.1.f),some (.ref mp),some (.int X),some (.ref lp),some (.ref hp),some (.ref l1),some (.ref l2),some (.ref sg),I]/\(∀ b u,b≠sg->j1 b=some u->H' b=some u)/\H' sg=some (.dK kw)/\kw.length<=j/\∀ n,valV kw (Sum.inr n)=foldV (-1) v.2 (l.2.take j) (λ_=>none) n) ⟨Nat.zero_le _,I,[],rfl,(λb u _ h=>h),d1,Nat.le_refl _,λn=>rfl⟩ (λj σ H' q=>by let(_,_,_,_,q,_):=q;show SqL.of (q _ _ j6 (J _ _ a2))) ?_ ?_)
   .intro j y σ N hy z_ N1 b2;let(hj,I,kw,rfl,ho,S,b9,hv):=z_;have lj:=(List.getElem?_eq_some_iff.mp hy).1;let(e,he,pv):=d5.at_ hy;have a0:SameT L N:=J.t.trans (SameT.of_ne ho d1);have pv:=pv.sameT a0;have k6:=d9.mono (P':=PrI K N) λ_ _ z=>z.sameT a0;have tk:l.2.take (j+1)=l.2.take j++[e]:=by rw[take_succ,he];rfl
    cbv;show JhL pv (SqL.of (ho _ _ h9 (J _ _ a1))) k6 ?_;cbv;by_cases c:e∈v.2
    .rw[if_neg (by simpa using c)];cbv;cbv;show b2 _ _ ⟨lj,_,kw,rfl,ho,S,by ac_nf,λn=>?_⟩;rw[tk,Jc5,if_pos c];show hv n
    .rw[if_pos (by simpa using c)];cbv;let(eb,rfl,hb):=pv;cbv;show ixT (i:=1) hb rfl ?_;cbv;show ixT (i:=0) hb rfl ?_;show(sg,_,rfl,DPut.k (k:=Sum.inr e.1) S ∅,?_);generalize b4:upd N sg _=d4;cbv;have c4:=putE b4;cbv;show b2 _ _ ⟨lj,_,_,rfl,λb u b7 h=>by rw[<- b4,Jah b7];show ho b u b7 h,c4,by have:=Jbg kw (Sum.inr e.1) (V.int (0-e.2));ac_nf,λn=>?_⟩;rw[tk,Jc5,if_neg c,Jea,hv n];by_cases z:n=e.1
     .rw[if_pos z,if_pos (by rw[z])];cbv
      congr 2
      ac_nf
     .rw[if_neg z,if_neg (λh=>z (Sum.inr.inj h))];cbv
   .intro σ N z_;let(hj,I,kw,rfl,ho,S,b9,hv):=z_;rw[take_of_length_le ∅]at hv;cbv;show(l2,rfl,ForA.byLN (xs:=y2) (SqL.of (ho _ _ h9 (J _ _ a1))) (λj σ H'=>j<=y2.length/\∃(I:Option V)(kw:List (Key × V)),σ=[some (.ref a),some (.ref sd),some (.int (st:Int)),some (.ref gl),some (.ref wl),some (.int (i:Int)),some (.int g5),some (.int mx),some (.ref fl),some (.str l.1.f),some (.ref k1),some (.str v.1.f),some (.ref mp),some (.int X),some (.ref lp),some (.ref hp),some (.ref l1),some (.ref l2),some (.ref sg),I]/\(∀ b u,b≠sg->j1 b=some u->H' b=some u)/\H' sg=some (.dK kw)/\kw.length<=8+j/\∀ n,valV kw (Sum.inr n)=foldV 1 l.2 (v.2.take j) (foldV (-1) v.2 l.2 λ_=>none) n) ⟨Nat.zero_le _,I,kw,rfl,ho,S,by ac_nf,hv⟩ (λj σ H' q=>by let(_,_,_,_,q,_):=q;show SqL.of (q _ _ h9 (J _ _ a1))) ?_ ?_)
    .clear ho S b9 hv kw;intro j y σ N hy z_ N1 b2;let(hj,I,kw,rfl,ho,S,b9,hv):=z_;have lj:=(List.getElem?_eq_some_iff.mp hy).1;let(e,he,pv):=d9.at_ hy;have a0:SameT L N:=J.t.trans (SameT.of_ne ho d1);have pv:=pv.sameT a0;have k3:=d5.mono (P':=PrI K N) λ_ _ z=>z.sameT a0;have tk:v.2.take (j+1)=v.2.take j++[e]:=by rw[take_succ,he];rfl
     cbv;show JhL pv (SqL.of (ho _ _ j6 (J _ _ a2))) k3 ?_;cbv;by_cases c:e∈l.2
     .rw[if_neg (by simpa using c)];cbv;cbv;show b2 _ _ ⟨lj,_,kw,rfl,ho,S,by ac_nf,λn=>?_⟩;rw[tk,Jc5,if_pos c];show hv n
     .rw[if_pos (by simpa using c)];cbv;let(eb,rfl,hb):=pv;cbv;show ixT (i:=1) hb rfl ?_;cbv;show ixT (i:=0) hb rfl ?_;show(sg,_,rfl,DPut.k (k:=Sum.inr e.1) S ∅,?_);generalize b4:upd N sg _=d4;cbv;have c4:=putE b4;cbv;show b2 _ _ ⟨lj,_,_,rfl,λb u b7 h=>by rw[<- b4,Jah b7];show ho b u b7 h,c4,by have:=Jbg kw (Sum.inr e.1) (V.int e.2);ac_nf,λn=>?_⟩;rw[tk,Jc5,if_neg c,Jea,hv n];by_cases z:n=e.1
      .rw[if_pos z,if_pos (by rw[z]),Int.one_mul];cbv
      .rw[if_neg z,if_neg (λh=>z (Sum.inr.inj h))];cbv
    .clear ho S b9 hv kw;intro σ N z_;let(hj,I,kw,rfl,ho,S,b9,hv):=z_;rw[take_of_length_le ∅]at hv;have a0:SameT L N:=J.t.trans (SameT.of_ne ho d1);have k5:=i7.trans a0;have f6:gl≠sg:=λz=>by rw[z]at f5;rw[f5]at o;cases o
     have j4:wl≠sg:=λz=>by rw[z]at b0;rw[b0]at o;cases o
     have b3:=ho _ _ j4 (J _ _ b0);have k2:Same H N:=λb u h=>ho _ _ (λz=>by rw[z]at h;rw[U _ _ h]at o;cases o) (J _ _ (U _ _ h));cbv;show(.inl ⟨rfl,_,SqL.of b3⟩,?_);show(len2,?_);rename_i l4 l5 n8 N d4 a6 c4;cbv;show(wl,wx,_,rfl,rfl,a6 _ _ b3,by ac_nf,?_);generalize a8:upd d4 wl _=c5;cbv;have n9:=putE a8;have j9:SameT d4 c5:=SameT.put a8 (a6 _ _ b3) rfl;have a5:=a6.t.trans j9;have e3:=k5.trans a5;cbv;have g1:FB 212 69 (addF m (sgn false B)):=FB.add (n:=211) (m:=69) mb fB.neg ⋯ ⋯ ⋯;have h4:FB 212 69 (addF m (sgn true A)):=FB.add (n:=211) (m:=69) mb fA ⋯ ⋯ ⋯;have f0:nameS (nmK 103 st i)=true:=Jd6 ⋯ g7 ∅;obtain⟨G,W⟩:∃ G:GD,G=⟨nmK 103 st i,l.1.f,v.1.f,addF m (sgn false B),addF m (sgn true A)⟩:=⟨_,rfl⟩;have n3:TOk G.td:=by
      rw[W];show(f0,hG.fname g7 ∅ (mem_map.mpr ⟨l,Y,rfl⟩),hG.fname g7 ∅ (mem_map.mpr ⟨v,ht,rfl⟩),Ne.symm n6,λu O=>by cases O;show(g1.mono (C:=600) (D:=600) ⋯ ⋯).ok ⋯ ⋯,λu O=>by cases O;show(h4.mono (C:=600) (D:=600) ⋯ ⋯).ok ⋯ ⋯,hi_lo mb fA fB l8)
     have go:GO1 ls xs G (m,λn=>sgS v.2 n-sgS l.2 n):=by
      show(n3,?_,?_,m8 G (by rw[W]) (by rw[W]),mb,⟨l,Y,v,ht,by rw[W],by rw[W],λn=>rfl⟩,A,B,fA,fB,by rw[W],by rw[W])
      .rw[W];show hG.joined (mem_map.mpr ⟨l,Y,rfl⟩) (mem_map.mpr ⟨v,ht,rfl⟩) n5.symm
      .rw[W];show(⟨g1.b1,g1.s2.mono ⋯⟩,h4.b1,h4.s2.mono ⋯)
     have h6:sg≠gl/\sg≠wl:=⟨Ne.symm f6,Ne.symm j4⟩;have W317:Same2 gl wl H3 c5:=λb u h1 h2 h=>by
      rw[<- a8,Jah h2];show a6 _ _ (ho _ _ (λz=>?_) (J _ _ ?_))
      .rw[z]at h;rw[<- a7,Jah (Ne.symm f6),R _ _ h]at o;cases o
      .rw[<- a7,Jah h1];show R _ _ h
     show m7 _ _ ⟨_,_,_,_,_,_,_,_,_,_,_,_,_,_,_,gx++[.ref gt],wx++[.ref l4],gs++[G],ws++[(m,λn=>sgS v.2 n-sgS l.2 n)],rfl,λb u h=>by rw[<- a8,Jah (Jai h k8)];show a6 _ _ (k2 _ _ h),by rw[<- a8,Jah k4];show a6 _ _ (ho _ _ f6 (J _ _ f5)),?_,n9,?_,?_,?_,by simp[f2],by simp[j0]⟩
     .show(hX.mono (P':=λ(g:GD) x=>TV K c5 g.td x) λg x (z:TV K H3 g.td x)=>TV.sameT e3 z).append (.one ?_);rw[W];have a4:=c8.trans (a0.trans a5);show(gt, .ref lp, .ref hp,rfl,SqT.of (a4 _ _ rfl n4),FrV.of (a4 _ _ rfl (c3 _ _ (i2 _ _ (f4 _ _ e9)))),FrV.of (a4 _ _ rfl (c3 _ _ j7)))
     .show(hW.mono (P':=WyV K gl wl c5) λ_ _ z=>z.keep e3 W317).append (.one ⟨l4, .ref mp,sg,kw,rfl,SqT.of (j9 _ _ rfl c4),FrV.of ((c8.trans (a0.trans a5)) _ _ rfl (c3 _ _ (b6 _ _ e7))),h6.1,h6.2,by rw[<- a8,Jah h6.2];show a6 _ _ S,λn=>?_⟩);rw[hv n];show Jlv hO Y ht n
     .intro j g w hj hw;rcases Jbf hj with h' | ⟨rfl,rfl⟩
      .rcases Jbf hw with h'' | ⟨rfl,rfl⟩
       .show g0 j g w h' h''
       .have:=(List.getElem?_eq_some_iff.mp h').1;ac_nf
      .rcases Jbf hw with h'' | ⟨_,rfl⟩
       .have:=(List.getElem?_eq_some_iff.mp h'').1;ac_nf
       .show go
     .intro j g hj;rcases Jbf hj with h' | ⟨rfl,rfl⟩
      .show i0 j g h'
      .rw[f2,W]
 .intro σ H3 z_;let(v5,v6,v7,v8,v9,g3,f7,h5,h8,f1,g4,g9,f8,g8,I,gx,wx,gs,ws,rfl,S3,eg,hX,ew,hW,g0,i0,f2,j0):=z_;cbv;show(len2,?_);rename_i q p1 q1 H3 H4 S4 e4;cbv;show k q gl wl gx wx gs ws H4 (S3.trans S4) e4 (S4 _ _ eg) (hX.mono λ_ _ z=>TV.sameT S4.t z) (S4 _ _ ew) (hW.mono λ_ _ z=>z.keep S4.t S4.two) g0 i0 ∅ ∅ ∅
abbrev BaW:Stmt:=top 67
theorem Jbw:Jan ["_law_parts_here","_law_cell_here","_law_left","_law_found","_law_k"] ["_law_parts_here","_law_cell_here"] (Jaf BaW):=by bv_decide
def JcJ(K:W.Frag):Sp:=λvs H Q E=>∃(c:Addr)(n:Int)(px:List V)(ls:List PD),vs=[.ref c, .int n]/\SqL K H c px/\All2 (PDV K H) ls px/\ls.length<=8/\∀ l ys ks H',Same H H'->H' l=some (.lst ys)->All2 (PDV K H') ks ys->ks.Perm ls->Q (.ref l) H'
theorem JfC(F:"_law_turned"∘BaW)(T:Txt K mg Ad)  : 1∘["_law_parts_here","_law_cell_here"]∘(JcJ K):=by
 show F.okn Jbw (by subst_eqs) (λb0 A a0 s H vs Q E hr h=>?_)
 let(c,n,I,ls,rfl,h):=h;show(_,(Jab (Jaj 2 Jbw.nd (Jdu Je1 rfl T.BdP JgJ %[pv 0|0])) (Jab (Jaj 3 Jbw.nd (Jbd Jac)) (Jab (JaV PassesOwn.never rfl (Jdw rfl T.Bcr %[pe_op JaE (Jau Ja4 rfl T.BbH Jbs %[pv 0|0]) (pe_op JaB (pv 1) Jad)|0]) (Jaq 4 Jbw.nd) (Jab (Jaj 1 Jbw.nd (pe_op JaB (pe_op JaQ (pe_op JaE (pv 1) Jad) Jad) Jad)) (Jag (Jbi (pe_bm PySem.F.plainAttrs_list PySem.F.slot_list_append PySem.F.type_list_append Jbb (pv 3) %[pe_bm PySem.F.plainAttrs_list PySem.F.slot_list_pop PySem.F.type_list_pop Jkd (pv 2) %[pe_op JaB (pe_op Jas (pv 1) Jad) (Jau Ja4 rfl T.BbH Jbs %[pv 2|0])|0]|0] (hs:=by show Jae rfl)))))) (Jag (Jap (pe_op JaQ (pv 3) (pv 2))))))),?_)
 let(hC,hP,h8,k):=h;have sl:(1000:Nat)<=sizeLine:=by decide
 have lp:=hP.length;show tSeq _ _ _ [some (.ref c),some (.int n),none,none,none] H;cbv;show(c,I,rfl, .inl hC,?_);rename_i J U a5 H H1 S1 e1;cbv;cbv;show(len0,?_);rename_i fd g a6 H1 H2 S2 e2;cbv;cbv;have S:J≠fd:=λz=>by rw[z]at e1;rw[e1]at g;cases g
 have X:=Jch S1 g;show(_, .inl ((hC.same S1).same S2),?_);cbv;mpure
 have q2:=Mth.fm (x:=n) (y:=2) ⋯;show(Ji3 (.lit ∅ ∅),?_);obtain⟨tn,N,a9⟩:∃ tn:Nat,(I.length:Int)*n.fmod 2=(tn:Int)/\tn<=I.length:=by
  rcases(by ac_nf:n.fmod 2=0\/n.fmod 2=1)with h | h
  .show(0,by rw[h];simp,Nat.zero_le _)
  .show(I.length,by rw[h];simp,Nat.le_refl _)
 rw[N];clear N q2;show(_,rfl,by ac_nf,by ac_nf,?_);show ForR.byN (λi σ L=>∃(m:Int)(v4:Option V)(e o:List V)(d r:List PD),σ=[some (.ref c),some (.int m),some (.ref J),some (.ref fd),v4]/\Same H L/\L J=some (.lst e)/\L fd=some (.lst o)/\All2 (PDV K L) d e/\All2 (PDV K L) r o/\(r++d).Perm ls/\r.length=i) ⟨n,none,I,[],ls,[],rfl,S1.trans S2,S2 _ _ e1,e2,hP.mono (λ_ _ z=>z.sameT (S1.trans S2).t),rfl,List.Perm.refl _,rfl⟩ ?_ ?_
 .intro i σ H3 hi z_ N0 a2;let(m,v4,e,o,d,r,rfl,S3,D,ef,G,Z,Y,R):=z_;have lX:=G.length;have lY:=Z.length;have C:=Y.length_eq;rw[length_append]at C;have x1:1<=e.length:=by ac_nf
  cbv;mpure
  mspec
  show(.inl ⟨rfl,_,SqL.of ef⟩,?_);show(.inl ⟨rfl,_,SqL.of D⟩,?_);cbv;mpure
  show(_, .inl (SqL.of D),?_);cbv;show(by ac_nf,?_);generalize(((m*48271+11).fmod 2147483647).fdiv 37)=z;have qz:=Mth.fm (x:=z) (y:=(e.length:Int)) ∅;let(j,hj):=Int.eq_ofNat_of_zero_le qz.1;rw[hj]at qz ⊢;have jl:j<e.length:=by ac_nf
  let(p,M,pv):=G.at_ (List.getElem?_eq_getElem jl);cbv;show(J,e,(j:Int),j,e[j],rfl,rfl,D,by ac_nf,by ac_nf,Jnn jl,List.getElem?_eq_getElem jl,?_);generalize u4:upd H3 J _=v;cbv;have e4:=putE u4;have T4:SameT H3 v:=SameT.put u4 D rfl;have O:v fd=some (.lst o):=by rw[<- u4,Jah (Ne.symm S)];show ef
  cbv;show(fd,o,_,rfl,rfl,O,by ac_nf,?_);generalize u5:upd v fd _=H5;cbv;have e5:=putE u5;have T5:SameT v H5:=SameT.put u5 O rfl;have B:=T4.trans T5;have W:All2 (PDV K H5) d e:=G.mono λ_ _ z=>z.sameT B;have a1:All2 (PDV K H5) r o:=Z.mono λ_ _ z=>z.sameT B;cbv;show a2 _ _ ⟨_,_,e.eraseIdx j,o++[e[j]],d.eraseIdx j,r++[p],rfl,λb u h=>by rw[<- u5,Jah (Jai h X), <- u4,Jah (Jai h U)];show S3 _ _ h,by rw[<- u5,Jah S];show e4,e5,?_,a1.append (.one (pv.sameT B)),?_,by simp[R]⟩
  .rw[List.eraseIdx_eq_take_drop_succ,List.eraseIdx_eq_take_drop_succ];show(W.take j).append (W.drop (j+1))
  .show List.Perm.trans ?_ Y;rw[List.append_assoc,List.eraseIdx_eq_take_drop_succ];show List.Perm.append_left r ?_;have jk:j<d.length:=by ac_nf
   have a4:d[j]=p:=by rw[List.getElem?_eq_getElem jk]at M;show Option.some.inj M
   have a3:d=d.take j++p::d.drop (j+1):=by rw[<- a4,List.getElem_cons_drop jk,List.take_append_drop]
   have:=(List.perm_middle (a:=p) (l₁:=d.take j) (l₂:=d.drop (j+1))).symm;show this.trans (by rw[<- a3])
 .intro σ H3 z_;let(m,v4,e,o,d,r,rfl,S3,D,ef,G,Z,Y,R):=z_;have lX:=G.length;have lY:=Z.length;have C:=Y.length_eq;rw[length_append]at C;cbv;show .inl ⟨fd,J,o,e,rfl,rfl,ef,D,by ac_nf,?_⟩;rename_i q a7 a8 H3 v S4 e4;cbv;cbv;show k q (o++e) (r++d) v (S3.trans S4) e4 ((Z.mono (P':=PDV K v) λ_ _ z=>z.sameT S4.t).append (G.mono (P':=PDV K v) λ_ _ z=>z.sameT S4.t)) Y
abbrev BaX:Stmt:=top 68
theorem Jbv:Jan ["_law_thing","_law_told","_law_tight","e"] ["_law_thing"] (Jaf BaX):=by bv_decide
def JcH(K:W.Frag)(Ad:Adr):Sp:=λvs H Q E=>∃(x:Addr)(ls:List PD)(es:List (GD × List Str))(pl:Str->Fr2),vs=[.ref x]/\TK K Ad H x ls (es.map (·.1))/\SHC ls es pl/\((∀ e∈es,0<=vl (roomF pl e.1))->∀(q tl:Addr) (zs:List V) (rs:List ShD) H',Same H H'->H' q=some (.tup [.ref tl, .non])->H' tl=some (.lst zs)->All2 (ShV K H') rs zs->ShR ls es pl rs->Q (.ref q) H')/\(∀ z,(∃(i:Nat)(e:GD × List Str),es[i]?=some e/\vl (roomF pl e.1)<0/\(∀ e'∈es.take i,0<=vl (roomF pl e'.1))/\e.1.nm=z)->∀ q H',Same H H'->H' q=some (.tup [.non, .str z])->Q (.ref q) H')
theorem JfA(F:"_law_shared"∘BaX)(T:Txt K mg Ad)(Bdw:9∘"share"∘["thing"]∘(JfY K Ad)):10∘["_law_thing"]∘(JcH K Ad):=by
 show F.okn Jbv (by subst_eqs) (λa0 A n s H vs Q E g h=>?_)
 let(x,r,u,D,rfl,h):=h;show(_,(Jab (Jaj 1 Jbv.nd JcX) (Jab (Jaj 2 Jbv.nd JcX) (Jab (Jjo (i:=3) (k:=1) Jbv.nd rfl rfl rfl (Or.inl rfl) (Bdw.tr g ⋯ rfl %[pv 0|0]) rfl T.m_Tight (λ_=>
   (Jag (Jaj 2 Jbv.nd (Jkm (K:=K) rfl (pv 3) rfl))))) (Jag (Jap (JaF %[pv 1,pv 2|0])))))),?_)
 let(ht,hc,k,kT):=h;show tSeq _ _ _ [some (.ref x),none,none,none] H;cbv
 mframe
 mframe;rename_i N hN;have key:∀(m j:V)(d:Hp),(∀ q a,Same d a->a q=some (.tup [m,j])->Q (.ref q) a)->N [some (.ref x),some m,some j,none] d:=by
  intro m j d I
  mframe;show(len2,?_);rename_i q R L d J Z e1;cbv;show I q J Z e1
 rw[y92y];cbv;show(x,r,u,D,rfl,ht,hc,λY y W O o l v e3 X g=>?_,λi e S h2 v U o l h4 C=>?_)
 .show key (.ref y) .non o λq a c p=>k Y q y W O a (l.trans c) p (c _ _ e3) (X.mono λ_ _ z=>ShV.sameT c.t z) g
 .show(_,rfl,T.xc,λB b=>?_);cbv;show(B,_,U,_, .str e.1.nm,rfl,Jak,T.xl,by rw[Jah (Jai C b)];show C,rfl,?_);generalize qe:upd o B _=M;have G:=newS b qe;show key .non (.str e.1.nm) M λq a c p=>kT _ ⟨i,e,S,h2,v,rfl⟩ q a (l.trans (G.trans c)) p
abbrev Bat:Stmt:=top 69
theorem Jbp:Jan ["_law_found","_law_gaps_here","_law_anew","_law_gap","_law_slacks"] ["_law_found","_law_gaps_here"] (Jaf Bat):=by bv_decide
def JbU(K:W.Frag)(Ad:Adr):Sp:=λvs H Q E=>∃(x gl:Addr)(gx:List V)(ls:List PD)(gs:List GD)(pl:Str->Fr2),vs=[.ref x, .ref gl]/\TK K Ad H x ls gs/\H gl=some (.lst gx)/\All2 (λ(g:GD) v=>TV K H g.td v) gs gx/\ThO ls gs pl/\∀ H',Same H H'->Q (.bl true) H'
theorem Jd0(F:"_law_like_anew"∘Bat)(T:Txt K mg Ad)(BbL:KCal P w K mg base 9 "Thing" Ad.Thing ["self","parts","gaps"] (Ja7 K Ad))(Bae:2∘"parts"∘(JaH Ad)∘["self"]∘(JaC K Ad))(BaZ:2∘"gaps"∘(JaH Ad)∘["self"]∘(Ja0 K Ad))(Bb7:5∘"room"∘(JaH Ad)∘["self","name"]∘(JbA K Ad))(BcS:1∘"way"∘(JaH Ad)∘["self","name"]∘(JbQ K Ad))(Bbs:7∘"is_sharing"∘["thing","slacks"]∘(JcE K Ad))(Bbt:10∘"_law_shared"∘["_law_thing"]∘(JcH K Ad)):11∘["_law_found","_law_gaps_here"]∘(JbU K Ad):=by
 show F.okn Jbp (by subst_eqs) (λg9 A c4 s H vs Q E I h=>?_)
 let(x,gl,gx,o,r,pl,rfl,h):=h;have O:=I.units;show(_,(Jab (Jaj 2 Jbp.nd (BbL.ev I ⋯ rfl passF %[Bae.m0 I ⋯ passF (pv 0),BaZ.m0 I ⋯ passF (pv 0)|0])) (Jab (JaV PassesOwn.never rfl (pi_U (pv 1)) (Jaq 3 Jbp.nd) (Jag (ps_if (PW.pt (pw_or (Jat (Jbr O) (Bb7.m I ⋯ passF (pv 0) %[!3|0]) (Bb7.m I ⋯ passF (pv 2) %[!3|0]) (Jay _)) (JbZ (Jat (Jbr O) (BcS.m I ⋯ passF (pv 0) %[!3|0]) (BcS.m I ⋯ passF (pv 2) %[!3|0]) (Jay _))))) (Jag (Jap pe_bl))
   Jav))) (Jab (JkZ (Jb5 (j:=4) (own:=["_law_part"]) (cs:=[]) Jbp.nd rfl (Or.inl rfl) rfl (pi_U (Bae.m0 I ⋯ passF (pv 0))) (λ_ _ _ _=>(Jaq 0 (show[("_law_part" : Str)].Nodup by decide))) (λ_ _ _ _=>JcY) (λ_ _ _ _=>(pe_ix (ix_UK (K:=K) rfl) (pv 0) Jad)) (JcQ rfl) ⋯ rfl ⋯ hcs0)) (Jab (ps_if (Jat (Jbr O) (Bbs.ev I ⋯ rfl passF %[pv 0,pv 4|0]) (Bbs.ev I ⋯ rfl passF %[pv 2,pv 4|0]) (Jay _)) (Jag (Jap pe_bl))
   Jav) (Jag (Jap (JbR (JcR O) (Bbt.ev I ⋯ rfl passF %[pv 0|0]) (Bbt.ev I ⋯ rfl passF %[pv 2|0]) (Jay _)))))))),?_)
 clear O;let(ht,eg,hX,d,k):=h;have sl:(1000:Nat)<=sizeLine:=by decide
 have l8:=d.l8;have g6:=d.g6;have lX:=hX.length;have b6:∀ p∈o, ∀ q∈o,p.nm=q.nm->p=q:=λp W q hq e=>Jcx d.nd W hq e;let(dx,_,_,_,_,_,_,hx,_):=id ht;show tSeq _ _ _ [some (.ref x),some (.ref gl),none,none,none] H;cbv;show(x,_,dx,_,rfl,hx,rfl,rfl,?_);cbv;show(x,o,r,rfl,ht,by ac_nf,λf4 px H1 S1 f6 e1 d1=>?_);cbv;show(x,_,dx,_,rfl,S1 _ _ hx,rfl,rfl,?_);cbv;show(x,o,r,rfl,ht.same S1,by ac_nf,λql qx H2 S2 f7 e2 f0=>?_);cbv;have c6:=S1.trans S2;intro y dy hy c1 g1;have Sm:Same H2 (upd (upd H2 dy (.own y)) y (.ins Ad.Thing dy [])):=λb u q=>by rw[Jah (Jai q hy),Jah (Jai q c1)];show q
 show(y,dy,f4,ql,px,qx,o,r,H2,rfl,Jak,hy,Sm,SqL.of (S2 _ _ e1),d1.mono (λ_ _ z=>z.sameT S2.t),SqL.of e2,f0,by ac_nf,by ac_nf,d.pok,d.tok,d.nd,d.gnd,Jhn d.tr d.nd,d.con,λH3 S3 S=>⟨rfl,?_⟩)
 mframe;have U:=c6.trans S3;show(gl,rfl,ForA.byLN (xs:=gx) (SqL.of (U _ _ eg)) (λi σ L=>i<=gx.length/\∃ v3:Option V,σ=[some (.ref x),some (.ref gl),some (.ref y),v3,none]/\Same H3 L) ⟨Nat.zero_le _,none,rfl,Same.refl _⟩ (λi σ L q=>by let(_,_,_,q):=q;show SqL.of (q _ _ (U _ _ eg))) ?_ ?_)
 .rintro i v σ H4 hv ⟨hi,v3,rfl,S4⟩ N0 c7;have li:=(List.getElem?_eq_some_iff.mp hv).1;let(g,hg,b,vo,vp,rfl,hb,_,_):=hX.at_ hv;have gm:=List.mem_of_getElem? hg;have D:=U.trans S4;have X:g.nm∉r.map (·.nm)->False:=λh=>h (mem_map.mpr ⟨g,gm,rfl⟩);have C:∀ u∈r,u.nm=g.nm->u=g:=λu O e=>Jd4 d.gnd O gm e;let(a8,_,_,_,_,_,_,b4,_):=id S;cbv;show(x,_,dx,_,rfl,D _ _ hx,rfl,rfl,?_);show ixT (i:=0) (hb.same D) rfl ?_;show(x,g.nm,o,r,rfl,ht.same D,λh=>(X h).elim,λg' a3 e'=>⟨pl,λu O e=>(C u O e).trans (C g' a3 e').symm,b6,d.pok,d.plb,d.pls,d.tok g' a3,λv1 H5 S5 f1=>?_⟩);obtain rfl:=C g' a3 e';have a9:=D.trans S5;have a7:=S4.trans S5;cbv;show(y,_,a8,_,rfl,a7 _ _ b4,rfl,rfl,?_);show ixT (i:=0) (hb.same a9) rfl ?_;show(y,g'.nm,o,r,rfl,S.same a7,λh=>(X h).elim,λg2 a0 e2=>⟨pl,λu O e=>(C u O e).trans (C g2 a0 e2).symm,b6,d.pok,d.plb,d.pls,d.tok g2 a0,λv2 H6 Y f2=>?_⟩);obtain rfl:=C g2 a0 e2;have B:=a9.trans Y;have a4:=a7.trans Y;cbv;show neF (f1.same Y) f2 ?_;simp only[decide_true,Bool.and_self,Bool.not_true];cbv;show(x,_,dx,_,rfl,B _ _ hx,rfl,rfl,?_);show ixT (i:=0) (hb.same B) rfl ?_;show(x,g2.nm,o,r,rfl,ht.same B,λh=>(X h).elim,λg3 c2 e3 l7 x7 w7 H7 S7 _ e7 d5 c3 d4=>?_);obtain rfl:=C g3 c2 e3;have d7:=B.trans S7;have Z:=a4.trans S7;cbv;show(y,_,a8,_,rfl,Z _ _ b4,rfl,rfl,?_);show ixT (i:=0) (hb.same d7) rfl ?_;show(y,g3.nm,o,r,rfl,S.same Z,λh=>(X h).elim,λg4 b9 e4 g7 x8 w8 H8 S8 _ e8 d6 c0 e9=>?_);obtain rfl:=C g4 b9 e4;have ew:=JjQ d.tr (λp W=>(d.pok p W).ne) d.nd w7 c3 d4 c0 e9;subst ew;cbv;show neWs (SqL.of (S8 _ _ e7)) (d5.mono λ_ _ z=>z.sameT S8.t) (SqL.of e8) d6 ?_;cbv;show c7 _ _ ⟨li,_,rfl,Z.trans S8⟩
 rintro σ H4 ⟨hi,v3,rfl,S4⟩;have D:=U.trans S4;cbv;show(x,_,dx,_,rfl,D _ _ hx,rfl,rfl,?_);cbv;show(x,o,r,rfl,ht.same D,by ac_nf,λkl kx H5 S5 g0 e5 b5=>?_);have lK:=b5.length;cbv;show(kl,rfl, .inl ⟨⟨_,SqL.of e5⟩,CompJ.list (xs:=kx) (λi ys L=>L=H5/\All2 (FLV K H5) ((o.take i).map (·.mo)) ys) ⟨rfl,rfl⟩ (λi ys L hi z=>⟨by rw[z.1];show SqL.of e5,by have:=z.2.length;rw[length_map,length_take]at this;ac_nf⟩) ?_ ?_⟩)
 .rintro i yv ys L c8 ⟨rfl,hA⟩;simpa only[length_singleton,length_cons,length_nil,List.replicate,JaM,map_cons,map_nil,Option.join_some];let(p,W,b_,g8,g5,rfl,b8,_,d3):=b5.at_ c8;show ixT (i:=4) b8 rfl ?_;rw[take_succ,W,Option.toList_some,map_append];show(rfl,hA.append (All2.one d3))
 rintro sy L ⟨rfl,a1⟩;rw[take_of_length_le ∅]at a1;rename_i sk f8 f9 L H6 Y e6;cbv;have B:=D.trans (S5.trans Y);have a4:=S4.trans (S5.trans Y);have b7:=ht.same B;have N:=S.same a4;have J:∀{ks:List PD}{r:List GD}{L:Hp}{x:Addr},TK K Ad L x ks r->TK K Ad L x ks ((esN ks r).map (·.1)):=λh=>by rw[JiM];show h
 have b0:∀ s∈o.map (·.mo),FB 200 56 s:=λs hs=>by
  let(p,W,rfl):=mem_map.mp hs;show(d.zb p W).2.mono ⋯ ⋯
 mframe;show(x,sk,o,esN o r,sy,o.map (·.mo),_,rfl,J b7,SqL.of e6,a1.mono (λ_ _ z=>FLV.sameT Y.t z),length_map _,b0,d.isc l8,λb1 H7 S7 e0=>?_);cbv;show(y,sk,o,esN o r,sy,o.map (·.mo),_,rfl,J (N.same S7),SqL.of (S7 _ _ e6),a1.mono (λ_ _ z=>FLV.sameT (Y.trans S7).t z),length_map _,b0,d.isc l8,λb2 H8 S8 d8=>?_);have h5:=e0.trans d8.symm;have : b1=b2:=by cases b1 <;> cases b2 <;> simp_all
 subst this;have M:=S7.trans S8;cbv;try rw[if_neg (by simp)]
 mframe;show(x,o,esN o r,_,rfl,J (b7.same M),d.shc,λr1 q1 t1 z1 a5 H9 S9 a6 c9 c5 d2=>?_,λz1 b3 q1 H9 S9 a6=>?_)
 .show(y,o,esN o r,_,rfl,J (N.same (M.trans S9)),d.shc,λ_ q2 t2 z2 h0 R G a2 d9 d0 f5=>?_,λz2 ⟨i,e,h1,h2,_⟩=>absurd h2 (Rat.not_lt.mpr (r1 e (List.mem_of_getElem? h1))));obtain rfl:=ShR.uniq d.nd (λp W=>(d.pok p W).w) d2 f5;show(.tup [.lst (a5.map shD), .non], .tup [.lst (a5.map shD), .non],?_,?_,?_,rfl,?_)
  .simp only[Rep,RepL];show(q1,_,rfl,SqT.of (G _ _ a6),_,_,rfl,⟨t1,z1,rfl,SqL.of (G _ _ c9),(c5.mono (P':=ShV K R) λ_ _ z=>z.sameT G.t).repL λ_ _ z=>z.rep⟩,_,_,rfl,rfl,rfl)
  .simp only[Rep,RepL];show(q2,_,rfl,SqT.of a2,_,_,rfl,⟨t2,z2,rfl,SqL.of d9,d0.repL λ_ _ z=>z.rep⟩,_,_,rfl,rfl,rfl)
  .have:=Jdp (n:=10) (f:=shD) (λa=>by unfold shD;cases a.sp <;> simp[frD,depD,depL]) a5;simp[depD,depL];ac_nf
  .rw[Jcf];show k R (B.trans (M.trans (S9.trans G)))
 .show(y,o,esN o r,_,rfl,J (N.same (M.trans S9)),d.shc,λr1=>?_,λz2 f3 q2 R G a2=>?_)
  .let(i,e,h1,h2,_):=b3;show absurd h2 (Rat.not_lt.mpr (r1 e (List.mem_of_getElem? h1)))
  .obtain rfl:z1=z2:=by
    let(i,e,h1,h2,h3,h4):=b3;let(i',e',k1,k2,k3,k4):=f3;have mt:∀{l:List (GD × List Str)}{i j:Nat}{e:GD × List Str},l[i]?=some e->i<j->e∈l.take j:=λ{l i j e} h hl=>List.mem_of_getElem? (i:=i) (by rw[List.getElem?_take_of_lt hl];show h);rcases Nat.lt_trichotomy i i' with c | c | c
    .show absurd h2 (Rat.not_lt.mpr (k3 e (mt h1 c)))
    .subst c;rw[h1]at k1;cases k1;rw[<- h4, <- k4]
    .show absurd k2 (Rat.not_lt.mpr (h3 e' (mt k1 c)))
   show(.tup [.non, .str z1], .tup [.non, .str z1],?_,?_,by simp[depD,depL],rfl,?_)
   .simp only[Rep,RepL];show(q1,_,rfl,SqT.of (G _ _ a6),_,_,rfl,rfl,_,_,rfl,rfl,rfl)
   .simp only[Rep,RepL];show(q2,_,rfl,SqT.of a2,_,_,rfl,rfl,_,_,rfl,rfl,rfl)
   .rw[Jcf];show k R (B.trans (M.trans (S9.trans G)))
abbrev BaI:Stmt:=top 70
theorem JbJ:Jan ["_law_thing","_law_name_here","_law_size","_law_caught","e"] ["_law_thing","_law_name_here","_law_size"] (Jaf BaI):=by bv_decide
def JbN(K:W.Frag)(Ad:Adr):Sp:=λvs H Q E=>∃(x:Addr)(z:Str)(w:V)(s:Fr2)(ls:List PD)(gs:List GD)(j:Nat),vs=[.ref x, .str z,w]/\TK K Ad H x ls gs/\FrV K H w s.1 s.2/\FOk 200 s/\ls.length<=20/\gs.length<=20/\(∀ p∈ls,POk p)/\(∀ g∈gs,TOk g.td)/\(ls.map (·.nm)).Nodup/\(gs.map (·.nm)).Nodup/\Tree ls/\(∀ g∈gs,Conn ls g.st g.en)/\((j=1/\∀ p∈ls,p.nm≠z)\/(j=0/\∃ p∈ls,p.nm=z/\offB p s=true))/\∀ H',Same H H'->Q (.str (if j=0 then Str.ofString "off" else Str.ofString "name")) H'
theorem JeW(F:"_law_refused"∘BaI)(T:Txt K mg Ad)(Bbk:11∘"measured"∘["thing","name","size"]∘(Jcc K Ad)):12∘["_law_thing","_law_name_here","_law_size"]∘(JbN K Ad):=by
 show F.okn JbJ (by subst_eqs) (λa5 A u s H vs Q E hr h=>?_)
 let(x,z,w,s,ls,gs,j,rfl,h):=h;have hu:=hr.units;show(_,(Jab (Jaj 3 JbJ.nd JcX) (Jab (Jks (i:=4) JbJ.nd rfl rfl (Bbk.tr hr ⋯ rfl %[pv 0,pv 1,pv 2|0]) rfl T.m_SlackError (λ_=>
   (Jag (Jaj 3 JbJ.nd (Jbd %[JcW (K:=K) rfl rfl T.Bad Jaz %[pv 4,Jdc (v:=.ty "ValueError") rfl T.n_ValueError Jfi rfl|0],JcW (K:=K) rfl rfl T.Bad Jaz %[pv 4,Jbh (v:=.ref _) rfl T.m_Off rfl|0],JcW (K:=K) rfl rfl T.Bad Jaz %[pv 4,Jbh (v:=.ref _) rfl T.BcY rfl|0],JcW (K:=K) rfl rfl T.Bad Jaz %[pv 4,Jbh (v:=.ref _) rfl T.Bd4 rfl|0],JcW (K:=K) rfl rfl T.Bad Jaz %[pv 4,Jbh (v:=.ref _) rfl T.Bd0 rfl|0],JcW (K:=K) rfl rfl T.Bad Jaz %[pv 4,Jbh (v:=.ref _) rfl T.m_NoRow rfl|0],JcW (K:=K) rfl rfl T.Bad Jaz %[pv 4,Jbh (v:=.ref _) rfl T.m_Tight rfl|0],JcW (K:=K) rfl rfl T.Bad Jaz %[pv 4,Jbh (v:=.ref _) rfl T.Bd5 rfl|0]|0]))))) (Jab (ps_if (PW.pt (pw_or (Jat Jex (pv 3) JcX (Jay _)) (pw_or (JbP (Jbc (!3))) (JbZ (Jat (Jbr hu) (pe_bm PySem.F.plainAttrs_list PySem.F.slot_list_count PySem.F.type_list_count Jkc (pv 3) %[pe_bl|0]) Jad (Jay _)))))) (Jag (Jap Jbe))
   Jav) (Jag (Jap (pe_ix ix_U (Jbd %[Jbe,Jbe,Jbe,Jbe,Jbe,Jbe,Jbe|0]) (pe_bm PySem.F.plainAttrs_list PySem.F.slot_list_index PySem.F.type_list_index Ji2 (JfJ sl_V (pv 3) (Jhc Jad) Jhb) %[pe_bl|0]))))))),?_)
 clear hu;let(ht,hw,fs,J,R,M,t,o,B,tr,S,hj,k):=h;have sl:(1000:Nat)<=sizeLine:=by decide
 have x0:X2 K Ad Ad.Off 0:=⟨T.xs_Off,T.ex_Off,T.k_Off_Off,T.k_Off_NoName,T.k_Off_NoGap,T.k_Off_NoPart,T.k_Off_NoRow,T.k_Off_Tight,T.k_Off_Twice,T.k_Off_V,by decide⟩;have x1:X2 K Ad Ad.NoName 1:=⟨T.xs_NoName,T.ex_NoName,T.k_NoName_Off,T.k_NoName_NoName,T.k_NoName_NoGap,T.k_NoName_NoPart,T.k_NoName_NoRow,T.k_NoName_Tight,T.k_NoName_Twice,T.k_NoName_V,by decide⟩;have I:∀(Q':VK)(E':XK),(∀ C e,X2 K Ad C j->Same H e->E' (.ref C) none e)->Jcc K Ad [.ref x, .str z,w] H Q' E':=λQ' E' hE=>⟨x,z,w,s,ls,gs,rfl,ht,hw,fs,J,R,M,t,o,B,tr,S,λN e y=>by
  rcases hj with⟨rfl,_⟩ | ⟨_,p,r,q,_⟩
  .show hE _ e x1 y
  .show absurd q (N p r),λp r q=>by
  rcases hj with⟨_,N⟩ | ⟨rfl,p',hp',hz',ho⟩
  .show absurd q (N p r)
  .have:=Jcx o r hp' (q.trans hz'.symm);subst this;show(λ_ e y=>hE _ e x0 y,λg=>by rw[ho]at g;cases g)⟩
 show tSeq _ _ _ [some (.ref x),some (.str z),some w,none,none] H;cbv
 mframe;show I _ _ λC H3 a S3=>⟨C,rfl,a.cat,λea D=>?_⟩;generalize qe:upd H3 ea _=HE;have SE:=newS D qe;have d:=newE qe;show isiXt d a.xc a.kv ?_;cbv;show isiXr d a.xc a.k0 ?_;cbv;show isiXr d a.xc a.k1 ?_;cbv;show isiXr d a.xc a.z0 ?_;cbv;show isiXr d a.xc a.z1 ?_;cbv;show isiXr d a.xc a.z2 ?_;cbv;show isiXr d a.xc a.z3 ?_;cbv;show isiXr d a.xc a.z4 ?_;cbv;show(by show 8<=sizeLine;ac_nf,?_);rename_i G a3 X HE H4 S4 e4;cbv;obtain⟨b,l,W,U,L⟩:∃ b:List Bool,[true,decide (j=0),decide (j=1),false,false,false,false,false]=true::b/\(true::b).count true=2/\b[j]?=some true/\∀ m,m<j->b[m]?≠some true:=by
  show(_,rfl,?_);rcases a.lt with rfl | rfl
  .show(by decide,rfl,λm hm=>absurd hm (Nat.not_lt_zero m))
  .show(by decide,rfl,by decide)
 have c:H4 G=some (.lst ((true::b).map V.bl)):=by rw[e4, <- l];rfl
 have a4:b.length=7:=by
  have:=congrArg List.length l;simpa using this.symm
 mframe;show ixL (i:=0) (SqL.of c) rfl ?_;cbv;show(.inl ⟨rfl,_,SqL.of c⟩,?_);show(G,true::b,true,rfl,rfl,c,?_)
 (rw[W])
 cbv;rw[if_neg ⋯];cbv
 mframe;show(by show 7<=sizeLine;ac_nf,?_);rename_i wl Y a0 H4 H5 S5 e5;cbv;cbv;show .inl (.inl ⟨G,_,rfl,SqL.of (S5 _ _ c),?_⟩);rw[show cutV ((true::b).map V.bl) (some 1) none=((true::b).map V.bl).drop 1 from Jhz (j:=1) (by simp)];rename_i cl a2 a1 H5 Z S6 e6;cbv;have n:Z cl=some (.lst (b.map V.bl)):=by rw[e6];rfl
 show(.inl ⟨rfl,_,SqL.of n⟩,?_);show(cl,b,true,j,rfl,rfl,n,U,L,?_);have O:[V.str (Str.ofString "off"), .str (Str.ofString "name"), .str (Str.ofString "gap"), .str (Str.ofString "part"), .str (Str.ofString "row"), .str (Str.ofString "tight"), .str (Str.ofString "twice")][j]?=some (.str (if j=0 then Str.ofString "off" else Str.ofString "name")):=by
  rcases a.lt with rfl | rfl <;> rfl
 show ixL (i:=j) (SqL.of (S6 _ _ e5)) O ?_;show k Z (S3.trans (SE.trans (S4.trans (S5.trans S6))))
abbrev Bc4:Stmt:=top 71
theorem Jbm:Jan ["_law_script","_law_style","_law_parts_here","_law_spots","_law_gaps_here","_law_ways","_law_thing","_law_cell_here","_law_at","_law_sign","_law_part","_law_eighths","_law_off","_law_more","_law_size","_law_found","_law_due","_law_k","_law_middle","_law_signs","_law_moved"] ["_law_script"] (Jaf Bc4):=by bv_decide
def Bds(K:W.Frag):Sp:=λvs H Q E=>∃(a:Addr)(ns:List Int),vs=[.ref a]/\SqL K H a (ns.map V.int)/\ns.length<=63/\∀ H',Q (.bl true) H'
theorem JmW(F:"law"∘Bc4)(T:Txt K mg Ad)(Bag:1∘"_law_cell"∘["_law_script","_law_k"]∘(Jca K))(Bb8:3∘"_law_parts"∘["_law_script","_law_style"]∘(Jc0 K))(Bch:3∘"_law_gaps"∘["_law_script","_law_spots","_law_style"]∘(Jdj K))(BbW:1∘"_law_turned"∘["_law_parts_here","_law_cell_here"]∘(JcJ K))(BbL:KCal P w K mg base 9 "Thing" Ad.Thing ["self","parts","gaps"] (Ja7 K Ad))(Bal:1∘"_law_low"∘["_law_top","_law_bottom"]∘(Jb3))(Bai:2∘"_law_plus"∘["_law_one","_law_other","_law_sign"]∘(Jcb K))(Ba0:12∘"_law_refused"∘["_law_thing","_law_name_here","_law_size"]∘(JbN K Ad))(Bbk:11∘"measured"∘["thing","name","size"]∘(Jcc K Ad))(Bae:2∘"parts"∘(JaH Ad)∘["self"]∘(JaC K Ad))(BaZ:2∘"gaps"∘(JaH Ad)∘["self"]∘(Ja0 K Ad))(BbI:4∘"middle"∘(JaH Ad)∘["self","name"]∘(Jbz K Ad))(Bbm:11∘"_law_like_anew"∘["_law_found","_law_gaps_here"]∘(JbU K Ad)):13∘["_law_script"]∘(Bds K):=by
 show F.okn Jbm (by subst_eqs) (λv0 A l7 s H vs Q E G h=>?_)
 let(a,ns,rfl,h):=h;have D:=G.units;show(_,(Jab (Jaj 1 Jbm.nd (pe_op JaB (Bag.ev G ⋯ rfl passF %[pv 0,Jad|0]) Jad)) (Jab (Jjm (Bb8.ev G ⋯ rfl passF %[pv 0,pv 1|0]) (Jfc rfl (Jbo (Jaq 2 Jbm.nd) (Jbo (Jaq 3 Jbm.nd) JdO)))) (Jab (Jjm (Bch.ev G ⋯ rfl passF %[pv 0,pv 3,pv 1|0]) (Jfc rfl (Jbo (Jaq 4 Jbm.nd) (Jbo (Jaq 5 Jbm.nd) JdO)))) (Jab (Jaj 2 Jbm.nd (BbW.ev G ⋯ rfl passF %[pv 2,pe_op Jas (Bag.ev G ⋯ rfl passF %[pv 0,Jad|0]) Jad|0])) (Jab (Jaj 6 Jbm.nd (BbL.ev G ⋯ rfl passF %[pv 2,pv 4|0])) (Jab (Jaj 7 Jbm.nd (pe_op Jas (Bag.ev G ⋯ rfl passF %[pv 0,Jad|0]) Jad)) (Jab (Jaj 8 Jbm.nd (pe_op JaB (pv 7) (Jau Ja4 rfl T.BbH Jbs %[pv 2|0]))) (Jab (Jaj 9 Jbm.nd (pe_op Jey Jad (pe_op JaE Jad (pe_op JaB (pe_op Jas (pv 7) Jad) Jad)))) (Jab (Jaj 10 Jbm.nd (pe_ix ix_U (pv 2) (pv 8))) (Jab (Jaj 11 Jbm.nd (pe_op JaB (pe_op Jas (pv 7) Jad) Jad)) (Jab (Jaj 12 Jbm.nd (Bal.ev G ⋯ rfl passF %[pe_op JaE (pe_op JaE (pv 9) (pe_ix ix_U (!10) Jad)) (pv 11),pe_op JaE (pe_ix ix_U (!10) Jad) Jad|0])) (Jab (Jaj 13 Jbm.nd (Bai.ev G ⋯ rfl passF %[!10,Bal.ev G ⋯ rfl passF %[Jad,pe_op JaQ Jad (pe_op JaB (pe_op Jas (pv 7) Jad) Jad)|0],Jad|0])) (Jab (ps_if (Jat (Jbr D) (Ba0.ev G ⋯ rfl passF %[pv 6,!10,Bai.ev G ⋯ rfl passF %[!10,pv 13,pv 9|0]|0]) Jbe (Jay _)) (Jag (Jap pe_bl))
   Jav) (Jab (ps_if (PW.pt (pw_or (Jat (Jbr D) (Ba0.ev G ⋯ rfl passF %[pv 6,Jbe,!10|0]) Jbe (Jay _)) (JbZ (Jat (Jbr D) (Ba0.ev G ⋯ rfl passF %[pv 6,pe_ix ix_U (!4) Jad,!10|0]) Jbe (Jay _))))) (Jag (Jap pe_bl))
   Jav) (Jab (Jaj 14 Jbm.nd (Bai.ev G ⋯ rfl passF %[!10,pv 12,Jad|0])) (Jab (Jaj 15 Jbm.nd (Bbk.ev G ⋯ rfl passF %[pv 6,!10,pv 14|0])) (Jab (Jaj 16 Jbm.nd (pe_op JaQ (pe_op JaQ (JfJ sl_V (pv 2) Jhb (Jhc (pv 8))) (Jbd %[JaF %[!10,!10,!10,pv 14,JaF %[Jad,Jad|0],!10|0]|0])) (JfJ sl_V (pv 2) (Jhc (pe_op JaQ (pv 8) Jad)) Jhb))) (Jab (ps_if (PW.pt (pw_or (Jat (Jbr D) (Bae.m0 G ⋯ passF (pv 15)) (pv 16) (Jay _)) (pw_or (Jat (Jbr D) (BaZ.m0 G ⋯ passF (pv 15)) (pv 4) (Jay _)) (pw_or (Jat (Jbr D) (Bae.m0 G ⋯ passF (pv 6)) (pv 2) (Jay _)) (JbZ (Jat (Jbr D) (BaZ.m0 G ⋯ passF (pv 6)) (pv 4) (Jay _))))))) (Jag (Jap pe_bl))
   Jav) (Jab (JaV PassesOwn.never rfl (Jdw rfl T.Bcr %[Jau Ja4 rfl T.BbH Jbs %[pv 4|0]|0]) (Jaq 17 Jbm.nd) (Jab (Jjm (pe_ix ix_U (pv 5) (pv 17)) (Jfc rfl (Jbo (Jaq 18 Jbm.nd) (Jbo (Jaq 19 Jbm.nd) JdO)))) (Jab (Jaj 20 Jbm.nd (Bai.ev G ⋯ rfl passF %[pv 18,pv 12,JhP (hu1 D) (pv 19) (!10) Jad ⟨rfl,rfl,rfl,rfl⟩|0])) (Jag (ps_if (PW.pt (pw_or (Jat (Jbr D) (BbI.m G ⋯ passF (pv 15) %[pe_ix ix_U (pe_ix ix_U (pv 4) (pv 17)) Jad|0]) (pv 20) (Jay _)) (JbZ (Jat (Jbr D) (BbI.m G ⋯ passF (pv 6) %[pe_ix ix_U (pe_ix ix_U (pv 4) (pv 17)) Jad|0]) (pv 18) (Jay _))))) (Jag (Jap pe_bl))
   Jav))))) (Jag (Jap (Bbm.ev G ⋯ rfl passF %[pv 15,pv 4|0])))))))))))))))))))))),?_)
 clear D;let(hS,hl,k):=h;have sl:(1000:Nat)<=sizeLine:=by decide
 show tSeq _ _ _ [some (.ref a),none,none,none,none,none,none,none,none,none,none,none,none,none,none,none,none,none,none,none,none] H;cbv;show(a,ns,2,rfl,hS,hl,by decide,by decide,λc0=>?_);cbv;mpure
 have q0:=Mth.fm (x:=c0) (y:=4) ⋯;let(st,j6):=Int.eq_ofNat_of_zero_le q0.1;rw[j6]at q0 ⊢
 mframe;have d4:st<=3:=by ac_nf
 clear q0 j6;show(a,ns,st,rfl,hS,hl,d4,λq pp sd px kv ls xs H1 S1 eq ep hP ed hB hG hO hT h1 h7 n6 h9 m5=>?_);cbv;show(q,_,rfl,SqT.of eq,rfl,?_);cbv;show(a,sd,pp,ns,st,kv,ls,xs,rfl,hS.same S1,hl,d4,ed,hB,hG,hO,hT,h7,n6,m5,λq2 gl wl gx wx gs ws H2 S2 p7 eg hX ew hW f3 l1 u0 r0 k2=>?_);cbv;show(q2,_,rfl,SqT.of p7,rfl,?_);cbv;show(a,ns,0,rfl,(hS.same S1).same S2,hl,by decide,by decide,λc1=>?_);cbv;mpure
 show(pp,_,px,ls,rfl,SqL.of (S2 _ _ ep),hP.mono (P':=PDV K H2) (λ_ _ z=>z.sameT S2.t),by ac_nf,λkl kx ks H3 S3 ek hK O=>?_)
 mframe;have m2:(gs.map (·.nm)).Nodup:=Jgn l1;have l:=tho_a hG hO h7 O h9 r0 m2 k2 f3;have u9:ks.length=ls.length:=O.length_eq;have lK:=hK.length;have lX:=hX.length;have lW:=hW.length;have i9:All2 (λ(g:GD) v=>TV K H3 g.td v) gs gx:=hX.mono λ_ _ z=>TV.sameT S3.t z;intro x1 f5 i3 l0 t0;have Sm:Same H3 (upd (upd H3 f5 (.own x1)) x1 (.ins Ad.Thing f5 [])):=λb u q=>by rw[Jah (Jai q i3),Jah (Jai q l0)];show q
 show(x1,f5,kl,gl,kx,gx,ks,gs,H3,rfl,Jak,i3,Sm,SqL.of ek,hK,SqL.of (S3 _ _ eg),i9,by ac_nf,by ac_nf,l.pok,l.tok,l.nd,l.gnd,Jhn l.tr l.nd,l.con,λH4 S4 g4=>⟨rfl,?_⟩)
 mframe;have r1:=S2.trans (S3.trans S4);have q5:=S1.trans r1;have c6:=S4 _ _ ek;have a1:=S4 _ _ (S3 _ _ eg);have n3:=S4 _ _ (S3 _ _ ew);have g6:All2 (PDV K H4) ks kx:=hK.mono λ_ _ z=>z.sameT S4.t;have a7:All2 (λ(g:GD) v=>TV K H4 g.td v) gs gx:=i9.mono λ_ _ z=>TV.sameT S4.t z;have n0:All2 (WyV K gl wl H4) ws wx:=hW.mono λ_ _ z=>z.keep (S3.trans S4).t (S3.trans S4).two;show(a,ns,2,rfl,hS.same q5,hl,by decide,by decide,λc2=>?_);cbv;mpure
 mspec
 generalize c2.fdiv 4=cc;cbv;show(_, .inl (SqL.of c6),?_);cbv;show(by ac_nf,?_);have qa:=Mth.fm (x:=cc) (y:=(kx.length:Int)) ∅;let(B,k3):=Int.eq_ofNat_of_zero_le qa.1;rw[k3]at qa ⊢;have al:B<kx.length:=by ac_nf
 clear qa k3
 mframe;mpure
 obtain⟨d,hd⟩:∃ d:Bool,1-2*(cc.fdiv 8).fmod 2=if d then 1 else -1:=by
  have:=Mth.fm (x:=cc.fdiv 8) (y:=2) ⋯;rcases(by ac_nf:(cc.fdiv 8).fmod 2=0\/(cc.fdiv 8).fmod 2=1)with h | h
  .show(true,by rw[h];rfl)
  .show(false,by rw[h];rfl)
 (rw[hd])
 generalize qd:(if d then(1:Int)else -1)=sg;have d0:Mth.Sz 2 sg:=by rw[<- qd];cases d;show .lit ⋯ ⋯;show .lit ⋯ ⋯
 clear hd;obtain⟨vp,l3⟩:∃ vp,kx[B]?=some vp:=⟨_,List.getElem?_eq_getElem al⟩;let(p,hp,b,vz,vm,rfl,hb,hz,hm):=g6.at_ l3;have pm:=List.mem_of_getElem? hp;have p5:=O.mem_iff.mp pm;have po:=l.pok p pm;have X:=hO.pb p p5
 mframe;show ixL (i:=B) (SqL.of c6) l3 ?_
 mframe;mpure
 have e9:Mth.Sz 4 ((cc.fdiv 16).fmod 9):=szG ⋯ ⋯;have q9:=Mth.fm (x:=cc.fdiv 16) (y:=9) ⋯;generalize(cc.fdiv 16).fmod 9=e8_ at e9 q9 ⊢
 mframe;show ixT (i:=4) hb rfl ?_;cbv;show ixF0 hm ?_;cbv;show(mulOk d0 X.2.s1,?_);cbv;show(mulOk (d0.mul X.2.s1) e9,?_);cbv;show ixT (i:=4) hb rfl ?_;cbv;show ixF1 hm ?_;cbv;show(mulOk X.2.s2 (.lit ⋯ ⋯:Mth.Sz 4 (8:Int)),?_);have m8:1<=p.mo.2*8:=by have:=X.2.b1;ac_nf
 have fo:=FB.low m8 ((d0.mul X.2.s1).mul e9) (sz8 X.2.s2);cbv;show(_,_,rfl,m8,(sz8 X.2.s2).mono ⋯,λoa H5 S5 e5=>?_);have f8:=JmU (g:=sg) X.2.b1 po.m0 (by rw[<- qd];cases d;show .inr rfl;show .inl rfl) q9;generalize qo:(Mth.top (sg*p.mo.1*e8_) (p.mo.2*8),Mth.bot (sg*p.mo.1*e8_) (p.mo.2*8))=o at fo f8;have i5:H5 oa=some (.tup [.int o.1, .int o.2]):=by rw[e5, <- qo]
 clear e5 qo
 mframe;have m1:=hb.same S5;show ixT (i:=4) m1 rfl ?_;cbv;mpure
 obtain⟨bd,c9⟩:∃ bd:Int,bd=1+(cc.fdiv 144).fmod 1000:=⟨_,rfl⟩
 (rw[<- c9])
 have g9:1<=bd:=c9 ▸ fm1 ⋯;have i2:Mth.Sz 10 bd:=c9 ▸ szF ⋯ ⋯ ⋯;show(1,bd,rfl,g9,i2.mono ⋯,λob H6 S6 e6=>?_);have fb:=FB.low g9 (.lit ⋯ ⋯:Mth.Sz 2 (1:Int)) i2;have o0:0<vl (Mth.top 1 bd,Mth.bot 1 bd):=by
  rw[JgH g9];have : (0:Rat)<(bd:Rat):=Rat.intCast_pos.mpr ∅;rw[Rat.div_def,Rat.intCast_one,Rat.one_mul];show Rat.inv_pos.mpr this
 obtain⟨u,D⟩:∃ u:Fr2,u=(Mth.top 1 bd,Mth.bot 1 bd):=⟨_,rfl⟩;rw[<- D]at fb o0;have e6:H6 ob=some (.tup [.int u.1, .int u.2]):=by rw[e6,D]
 clear D c9;cbv;have i6:=S5.trans S6;show(vm, .ref ob,_,p.mo,u,rfl, .lit ⋯ ⋯,hm.same i6,FrV.of e6,X.2.w.mono ⋯ ⋯,fb.w.mono ⋯ ⋯,λom H7 S7 e7=>?_);rw[show sI 1 u=u from JeC (d:=true)]at e7;have Z:=FB.add (n:=112) (m:=16) X.2 fb ⋯ ⋯ ⋯
 mframe;have b5:=i6.trans S7;have e1:vl p.mo<vl (addF p.mo u):=by rw[X.2.vadd fb];grind
 have t2:=b5;show ixT (i:=0) (hb.same b5) rfl ?_;show ixT (i:=3) (hb.same b5) rfl ?_;show(vz, .ref om,_,p.sz,addF p.mo u,rfl,d0.mono ⋯,hz.same b5,FrV.of e7,X.1.w.mono ⋯ ⋯,Z.w.mono ⋯ ⋯,λoz H8 S8 e8=>?_);rw[<- qd,JeC]at e8;have fn:FB 113 16 (sgn d (addF p.mo u)):=by
  cases d
  .show Z.neg
  .show Z
 have n7:=FB.add (n:=150) (m:=20) X.1 fn ⋯ ⋯ ⋯;have rf:∀(z:Str)(va:V)(s:Fr2)(j:Nat)(Hx:Hp)(Q':VK)(E':XK),Same H4 Hx->FrV K Hx va s.1 s.2->FOk 200 s->((j=1/\∀ p∈ks,p.nm≠z)\/(j=0/\∃ p∈ks,p.nm=z/\offB p s=true))->(∀ H',Same Hx H'->Q' (.str (if j=0 then Str.ofString "off" else Str.ofString "name")) H')->JbN K Ad [.ref x1, .str z,va] Hx Q' E':=λz va s j Hx Q' E' S hv fs hj kk=>⟨x1,z,va,s,ks,gs,j,rfl,g4.same S,hv,fs,by ac_nf,by ac_nf,l.pok,l.tok,l.nd,l.gnd,l.tr,l.con,hj,kk⟩;have j4:=b5.trans S8;show rf p.nm _ _ 0 H8 _ _ j4 (FrV.of e8) (n7.ok ⋯ ⋯) (.inr ⟨rfl,p,pm,rfl,JlM X.1 X.2 Z e1 rfl⟩) λH9 S9=>?_;have c7:=j4.trans S9;try simpa only[decide_true,Bool.not_true]
 mframe;have k5:∀ u∈ks, ∃ i,i<8/\u.nm=nmK 112 st i:=λu D=>by
  let(i,hi):=List.getElem?_of_mem (O.mem_iff.mp D);have:=(List.getElem?_eq_some_iff.mp hi).1;show(i,by ac_nf,hG.nm i u hi)
 show ixT (i:=3) (hb.same c7) rfl ?_;show rf (Str.ofString "nobody") _ p.sz 1 H9 _ _ c7 (hz.same c7) po.z (.inl ⟨rfl,λu D z=>by let(i,hi,e):=k5 u D;show JmT st d4 i hi (e.symm.trans z)⟩) λm7 i4=>?_;have U:=c7.trans i4;try simpa only[decide_true,Bool.not_true]
 obtain⟨i0,e0⟩:∃ i0,gx[0]?=some i0:=⟨_,List.getElem?_eq_getElem ∅⟩;let(g0,l6,b3,_,_,rfl,o4,_,_):=a7.at_ e0;show ixL (i:=0) (SqL.of (U _ _ a1)) e0 ?_;show ixT (i:=0) (o4.same U) rfl ?_;show ixT (i:=3) (hb.same U) rfl ?_;show rf g0.nm _ p.sz 1 m7 _ _ U (hz.same U) po.z (.inl ⟨rfl,λu D z=>by let(i,hi,e):=k5 u D;show nm_gp st d4 i hi ((l1 0 g0 l6).symm.trans (z.symm.trans e))⟩) λu7 h6=>?_;have a6:=U.trans h6;try simpa only[decide_true,Bool.not_true]
 mframe;show ixT (i:=3) (hb.same a6) rfl ?_;have d6:=S6.trans (S7.trans (S8.trans (S9.trans (i4.trans h6))));show(vz, .ref oa,_,p.sz,o,rfl, .lit ⋯ ⋯,hz.same a6,FrV.of (d6 _ _ i5),X.1.w.mono ⋯ ⋯,fo.w.mono ⋯ ⋯,λos t1 k4 g1=>?_);rw[show sI 1 o=o from JeC (d:=true)]at g1;have c3:=a6.trans k4;have q1:=FB.add (n:=142) (m:=13) X.1 fo ⋯ ⋯ ⋯;have b2:FOk 200 (addF p.sz o):=q1.ok ⋯ ⋯;have l9:=JmV X.1 X.2 fo f8.1 f8.2 (s:=addF p.sz o) rfl;have I:=tho_b hG hO h7 O l k2 f3 pm fo (s:=addF p.sz o) rfl b2
 mframe;show ixT (i:=0) (hb.same c3) rfl ?_;show(x1,p.nm, .ref os,addF p.sz o,ks,gs,rfl,g4.same c3,FrV.of g1,b2,by ac_nf,by ac_nf,l.pok,l.tok,l.nd,l.gnd,l.tr,l.con,λhn=>absurd rfl (hn p pm),λp' o1 e'=>?_);obtain rfl:=Jcx l.nd o1 pm e';show(λc=>(by rw[l9]at c;cases c),λ_ y l5 f4 h8=>?_);have a9:=c3.trans f4
 mframe;have d8:=a9 _ _ c6;have a3:=hb.same a9;show .inl (.inl ⟨kl,kx,rfl,SqL.of d8,?_⟩);rw[Jmz (j:=B) ∅];rename_i s1 r6 r8 l5 o9 a0 p6;cbv;cbv;show ixT (i:=0) (a3.same a0) rfl ?_;show ixT (i:=1) (a3.same a0) rfl ?_;show ixT (i:=2) (a3.same a0) rfl ?_;show(len2,?_);rename_i zt s5 s7 o9 n1 k9 n8;cbv;show ixT (i:=5) (a3.same (a0.trans k9)) rfl ?_;show(by show 6<=sizeLine;ac_nf,?_);rename_i nt s0 s8 n1 r3 j8 q4;cbv;show(by show 1<=sizeLine;ac_nf,?_);rename_i r2 o8 o5 r3 m3 j0 p2;cbv;have a8:=k9.trans (j8.trans j0);show .inl ⟨s1,r2,_,_,rfl,rfl,a8 _ _ p6,p2,by rw[length_take];simp;ac_nf,?_⟩;rename_i s3 r7 r5 m3 p3 h3 m9;cbv;cbv;have b0:=a0.trans (a8.trans h3);rw[show(B:Int)+1=((B+1:Nat):Int)from rfl];show .inl (.inl ⟨kl,kx,rfl,SqL.of (b0 _ _ d8),?_⟩);rw[Jhz (j:=B+1) ∅];rename_i s4 r4 s9 p3 n5 f7 n2;cbv;show .inl ⟨s3,s4,_,_,rfl,rfl,f7 _ _ m9,n2,by simp;ac_nf,?_⟩;obtain⟨pn,k7⟩:∃ pn:PD,pn=⟨p'.nm,p'.st,p'.en,addF p'.sz o,(0,1),p'.wt⟩:=⟨_,rfl⟩;obtain⟨R,d7⟩:∃ R,R=ks.take B++[pn]++ks.drop (B+1):=⟨_,rfl⟩;have q8:(ks.map λw=>if w.nm=p'.nm then(⟨p'.nm,p'.st,p'.en,addF p'.sz o,(0,1),p'.wt⟩:PD)else w)=R:=by rw[d7,k7];show Ji0 l.nd hp
 rw[q8]at h8 I;rename_i du r9 s6 n5 e4 h4 p4;cbv;have Y:=b0.trans (f7.trans h4);have C:=a9.trans Y;have d5:All2 (PDV K e4) ks kx:=g6.mono λ_ _ z=>z.sameT C.t;have c5:=j0.trans (h3.trans (f7.trans h4));have m4:PDV K e4 pn (.ref nt):=by
  rw[k7];show(nt,_,_,rfl,SqT.of (c5 _ _ q4),FrV.of ((f4.trans Y) _ _ g1),FrV.of ((j8.trans c5) _ _ n8))
 have p8:All2 (PDV K e4) R (kx.take B++[.ref nt]++kx.drop (B+1)):=by
  rw[d7];show((d5.take B).append (All2.one m4)).append (d5.drop (B+1))
 have t4:=I.l8;have M:=h8.same Y;let(dy,y1,y2,y3,w1,w2,w3,hy,_):=id M;have W:=g4.same C;let(f9,_,_,_,_,_,_,g3,_):=id W
 mframe;show(y,_,dy,_,rfl,hy,rfl,rfl,?_);cbv;show(y,R,gs,rfl,M,by ac_nf,λt7 u6 v3 b6 _ o2 i8=>?_);cbv;show nePs (SqL.of o2) i8 (SqL.of (b6 _ _ p4)) (p8.mono λ_ _ z=>z.sameT b6.t) ?_;cbv;show(y,_,dy,_,rfl,b6 _ _ hy,rfl,rfl,?_);cbv;show(y,R,gs,rfl,M.same b6,by ac_nf,λu4 u1 t6 p9 _ o3 l4=>?_);have N:=b6.trans p9;cbv;show neGs (SqL.of o3) l4 (SqL.of ((C.trans N) _ _ a1)) (a7.mono λ_ _ z=>TV.sameT (C.trans N).t z) ?_;cbv;show(x1,_,f9,_,rfl,N _ _ g3,rfl,rfl,?_);cbv;show(x1,ks,gs,rfl,W.same N,by ac_nf,λt8 t9 u3 p0 _ p1 j5=>?_);have L:=N.trans p0;cbv;show nePs (SqL.of p1) j5 (SqL.of ((C.trans L) _ _ c6)) (g6.mono λ_ _ z=>z.sameT (C.trans L).t) ?_;cbv;show(x1,_,f9,_,rfl,L _ _ g3,rfl,rfl,?_);cbv;show(x1,ks,gs,rfl,W.same L,by ac_nf,λu2 u8 o6 q3 _ o7 k6=>?_);have J:=L.trans q3;cbv;show neGs (SqL.of o7) k6 (SqL.of ((C.trans J) _ _ a1)) (a7.mono λ_ _ z=>TV.sameT (C.trans J).t z) ?_;cbv
 mframe;have b8:=C.trans J;show(_, .inl (SqL.of (b8 _ _ a1)),?_);cbv;show(_,rfl,by ac_nf,by ac_nf,?_);rw[Int.toNat_natCast];have q6:∀ p∈ks, ∀ q∈ks,p.nm=q.nm->p=q:=λp hp q hq e=>Jcx l.nd hp hq e;have h0:∀ p∈R, ∀ q∈R,p.nm=q.nm->p=q:=λp hp q hq e=>Jcx I.nd hp hq e;show ForR.byN (λi σ H'=>Same o6 H'/\∃(f0 g5 f6 e3:Option V),σ=[some (.ref a),some (.int (st:Int)),some (.ref kl),some (.ref sd),some (.ref gl),some (.ref wl),some (.ref x1),some (.int cc),some (.int (B:Int)),some (.int sg),some (.ref b),some (.int e8_),some (.ref oa),some (.ref om),some (.ref os),some (.ref y),some (.ref du),f0,g5,f6,e3]) ⟨Same.refl _,none,none,none,none,rfl⟩ ?_ ?_
 .intro i σ i7 hi z_ N0 n9;let(a5,f0,g5,f6,e3,rfl):=z_;obtain⟨vg,g7⟩:∃ vg,gx[i]?=some vg:=⟨_,List.getElem?_eq_getElem hi⟩;let(g,hg,bg,vo,vq,rfl,j9,_,_):=a7.at_ g7;obtain⟨vw,j3⟩:∃ vw,wx[i]?=some vw:=⟨_,List.getElem?_eq_getElem ∅⟩;let(w,hw,bw,k0,q7,m6,rfl,n4,d9,_,_,k1,j7):=n0.at_ j3;have gm:=List.mem_of_getElem? hg;have go:=f3 i g w hg hw;let(d1,d2,d3):=mid_b hG hO h7 fo p'.nm go;have fI:=FB.addI (n:=217) (m:=75) go.mb fo d1 ⋯ ⋯ ⋯;have j2:addF w.1 (sI (w.2 p'.nm) o)=mid (plM xs p'.nm o) g:=FB.inj fI.1 d3 (by rw[fI.2,d2]);have l2:g.nm∉gs.map (·.nm)->False:=λh=>h (mem_map.mpr ⟨g,gm,rfl⟩);have a4:∀ u∈gs,u.nm=g.nm->u=g:=λu D e=>Jd4 l.gnd D gm e;have r:=b8.trans a5;have c4:=J.trans a5;have j1:Same H5 i7:=d6.trans (k4.trans (f4.trans (Y.trans c4)));rw[Int.zero_add];cbv;show ixL (i:=i) (SqL.of (r _ _ n3)) j3 ?_;cbv;show(bw,_,rfl,n4.same r,rfl,?_)
  mframe;show(q7,rfl, .inl ⟨m6, .inl (r _ _ k1)⟩,?_);show ixT (i:=0) (hb.same r) rfl ?_;cbv;show(_,DGet.k (k:=Sum.inr p'.nm) (r _ _ k1),?_)
  (rw[j7 p'.nm])
  show(k0, .ref oa,_,w.1,o,rfl,by rcases d1 with h | h | h <;> rw[h] <;> show .lit ⋯ ⋯,d9.same r,FrV.of (j1 _ _ i5),go.mb.w.mono ⋯ ⋯,fo.w.mono ⋯ ⋯,λov u5 g8 h2=>?_);rw[j2]at h2;have b9:=r.trans g8;have a2:=c4.trans g8
  mframe;show(y,_,dy,_,rfl,a2 _ _ hy,rfl,rfl,?_);show ixL (i:=i) (SqL.of (b9 _ _ a1)) g7 ?_;show ixT (i:=0) (j9.same b9) rfl ?_;show(y,g.nm,R,gs,rfl,M.same a2,λh=>(l2 h).elim,λg' k8 e'=>⟨plM xs p'.nm o,λu D e=>(a4 u D e).trans (a4 g' k8 e').symm,h0,I.pok,I.plb,I.pls,λv1 t5 c8 f1=>?_⟩);obtain rfl:=a4 g' k8 e';have b4:=b9.trans c8;have b7:=a2.trans c8;cbv;show neF f1 (FrV.of (c8 _ _ h2)) ?_;simp only[decide_true,Bool.and_self,Bool.not_true];cbv;show(x1,_,f9,_,rfl,b7 _ _ g3,rfl,rfl,?_);show ixL (i:=i) (SqL.of (b4 _ _ a1)) g7 ?_;show ixT (i:=0) (j9.same b4) rfl ?_;show(x1,g'.nm,ks,gs,rfl,W.same b7,λh=>(l2 h).elim,λg2 h5 e2=>⟨spOf (xs.map (·.1)),λu D e=>(a4 u D e).trans (a4 g2 h5 e2).symm,q6,l.pok,l.plb,l.pls,λv2 t3 i1 f2=>?_⟩);obtain rfl:=a4 g2 h5 e2;rw[go.md]at f2;cbv;show neF f2 (d9.same (b4.trans i1)) ?_;simp only[decide_true,Bool.and_self,Bool.not_true];cbv;show n9 _ _ ⟨a5.trans (g8.trans (c8.trans i1)),_,_,_,_,rfl⟩
 .intro σ i7 z_;let(a5,f0,g5,f6,e3,rfl):=z_;have r:=b8.trans a5;cbv;show(y,gl,gx,R,gs,plM xs p'.nm o,rfl,M.same (J.trans a5),r _ _ a1,a7.mono (λ_ _ z=>TV.sameT r.t z),I,λH' _=>k H')
end
theorem lenE1{α}{P:List α->Prop}(h:∀ a,P [a]):∀ us:List α,us.length=1->P us|[a],_=>h a
theorem lenE2{α}{P:List α->Prop}(h:∀ a b,P [a,b]):∀ us:List α,us.length=2->P us|[a,b],_=>h a b
theorem lenE3{α}{P:List α->Prop}(h:∀ a b c,P [a,b,c]):∀ us:List α,us.length=3->P us|[a,b,c],_=>h a b c
theorem lenE4{α}{P:List α->Prop}(h:∀ a b c d,P [a,b,c,d]):∀ us:List α,us.length=4->P us|[a,b,c,d],_=>h a b c d
theorem lenD3{α}{P:List α->Prop}{ds:List α}(h:∀ a b c,P [a,b,c])(e:ds.length+3=n)(us:List α)(k:(us++ds).length=n):P us:=lenE3 h us (by rw[length_append]at k;ac_nf)
def FnG(K:W.Frag)(f:Addr)(n q:Str)(s:Stmt)(d:Value):Prop:=∃ fd,FunD K n q s d f fd/\W.keepIn K (.ref f)=true
def FnA(K:W.Frag)(f:Addr)(n:Str)(s:Stmt):Prop:=∃ fd,FunD K n n s .none f fd/\W.keepIn K (.ref f)=true/\W.nsIn K mainGlobals n=some (some (.ref f))
def FnM(K:W.Frag)(C f:Addr)(n q:Str)(s:Stmt):Prop:=FnG K f n q s .none/\W.findIn K (.ref C) n=some (some (.ref f))/\W.isFn K (.ref f)=true
variable{x:Str}{st:Stmt}{oc dc pm cd ct:Value}{od an:Option Addr}{sl:Array (Option Value)}
theorem fnG{K:W.Frag}{f:Addr}{q:Str}{d:Value}{kV:Value}(l:K.lookup f=some ⟨oc,od, .func (W.fnOf x q (Jam st) (Jal st) (Jaf st) d kV dc pm an cd ct),sl⟩)(c:W.codeIn K cd q=true)(k:W.keepIn K (.ref f)=true):FnG K f x q st d:=⟨_,Jao l c k,k⟩
theorem fnA{K:W.Frag}{f:Addr}{kV:Value}(a:W.nsIn K mainGlobals x=some (some (.ref f)))(l:K.lookup f=some ⟨oc,od, .func (W.fnOf x x (Jam st) (Jal st) (Jaf st) .none kV dc pm an cd ct),sl⟩)(c:W.codeIn K cd x=true)(k:W.keepIn K (.ref f)=true):FnA K f x st:=⟨_,Jao l c k,k,a⟩
theorem fnM{K:W.Frag}{C f:Addr}{q:Str}(a:W.findIn K (.ref C) x=some (some (.ref f)))(i:W.isFn K (.ref f)=true)(h:FnG K f x q st .none):FnM K C f x q st:=⟨h,a,i⟩
local macro_rules|`($f:ident∘$n:str)=>`(W.nsIn $(Lean.mkIdent `K) mainGlobals $n=some (some (.ref $f)))|`($i:num∘$n:str∘$t:ident)=>`(FnA $(Lean.mkIdent `K) $(Lean.mkIdent (.mkSimple s!"f{i.getNat}")) $n $t)|`($i:num∘$n:str∘$q:str∘$t:ident)=>`(FnG $(Lean.mkIdent `K) $(Lean.mkIdent (.mkSimple s!"f{i.getNat}")) $n $q $t .none)
local macro_rules|`($c:ident∣$n:str)=>`(W.codeIn $(Lean.mkIdent `K) $c $n=true)
local macro_rules|`(-$f)=>`(W.keepIn $(Lean.mkIdent `K) (.ref $f)=true)
local macro_rules|`($f:ident/$n:str)=>`(W.findIn $(Lean.mkIdent `K) (.ref $f) $n=some none)|`($f:ident/$n:str/$g:ident)=>`(W.findIn $(Lean.mkIdent `K) (.ref $f) $n=some (some (.ref $g)))
local macro_rules|`(!$f:ident)=>`(FunD.binds $f (by bv_omega))
local macro_rules|`(tactic|bv_omega)=>`(tactic|first|exact fun _ _ _ _ _ _=>lenE1 fun _=>rfl|exact fun _ _ _ _ _ _=>lenE2 fun _ _=>rfl|exact fun _ _ _ _ _ _=>lenE3 fun _ _ _=>rfl|exact fun _ _ _ _ _ _=>lenE4 fun _ _ _ _=>rfl)
local macro_rules|`($n:str∘0)=>`(W.nsIn $(Lean.mkIdent `K) mainGlobals $n=some none)|`($c:ident∘$d:ident∘0)=>`(W.kitOne $(Lean.mkIdent `K) (.ref $c) (.ref $d)=some false)|`($c:ident∘$d:ident∘1)=>`(W.kitOne $(Lean.mkIdent `K) (.ref $c) (.ref $d)=some true)|`($c:ident∘$d:ident∘2)=>`(W.mroIn $(Lean.mkIdent `K) $c (.ref $d)=some true)|`($c:ident∘$d:str∘2)=>`(W.mroIn $(Lean.mkIdent `K) $c (.type $d)=some true)|`($c:ident∘0)=>`(W.isFn $(Lean.mkIdent `K) (.ref $c)=true)|`($c:ident∘1)=>`(W.hasDictIn $(Lean.mkIdent `K) $c=true)|`($c:ident∘2)=>`(W.excIn $(Lean.mkIdent `K) $c [.type "ValueError",.type "Exception",.type "BaseException",.type "object"] "ValueError.__new__"=true)|`($c:ident∘$n:str∘$b:str)=>`(W.findIn $(Lean.mkIdent `K) (.ref $c) $n=some (some (.builtin $b)))|`($c:ident∘$i:num∘$n:str∘$q:str∘$t:ident)=>`(FnM $(Lean.mkIdent `K) $c $(Lean.mkIdent (.mkSimple s!"f{i.getNat}")) $n $q $t)|`(!$l:ident*$g)=>`($(Lean.mkIdent `cC) $l $g (by bv_omega))
theorem all_mk{l:W.OpenLaw}{w:World}{K:W.Frag}{h:Heap}{mg:Str->Option Value}{fa:Addr}{SlackError NoNumber NoName Off Apart InRing NoPart NoGap NoRow Twice Tight Part Gap Joints Thing Scale Lid f1 f2 f3 f4 f5 f6 f7 f8 f9 f10 f11 f12 f13 f14 f15 f16 f17 f18 f19 f20 f21 f22 f23 f24 f25 f26 f27 f28 f29 f30 f31 f32 f33 f34 f35 f36 f37 f38 f39 f40 T40 f41 f42 f43 f44 f45 f46 f47 f48 f49 f50 f51 f52 f53 f54 f55 f56 f57 f58 f59 f60 f61 f62 f63 f64 f65 f66 ZERO xN_Tight:Addr}{tc40:Value}{td40:Option Addr}{tn40:Nat}{ts40:Array (Option Value)}{tk40a tk40b:Tok}{od66 an66:Option Addr}{sl66:Array (Option Value)}{oc66 kV66 dc66 pm66 cd66 ct66:Value}{Baa:Tok}{Bab:Tok}{Bd7:Option Addr}{Bd8:Nat}{Bd9:Array (Option Value)}{Bd1 Bd2:Tok}{xd_Tight:Option Addr}{xnm_Tight xq_Tight:Str}{xbs_Tight xsub_Tight:List Value}{xsn_Tight:List Str}{xab_Tight:Bool}{xcol_Tight:Option Bool}{xk0_Tight xk1_Tight xk2_Tight xk3_Tight xk5_Tight:Option Value}(X:K.In h)(G:h.Ns mainGlobals mg)(hfa:mg "law"=some (.ref fa))
 (aa:SlackError∘"SlackError") (ab:NoNumber∘"NoNumber") (ac:NoName∘"NoName") (ad:Off∘"Off") (ae:Apart∘"Apart") (af:InRing∘"InRing") (ag:NoPart∘"NoPart") (ah:NoGap∘"NoGap") (ai:NoRow∘"NoRow") (aj:Twice∘"Twice") (ak:Tight∘"Tight") (al:Part∘"Part") (am:Gap∘"Gap") (an:Joints∘"Joints") (ao:Thing∘"Thing") (ap:Scale∘"Scale") (aq:Lid∘"Lid") (l1:1∘"common_divisor"∘Bam) (l2:2∘"plus"∘BcU) (l3:3∘"minus"∘Bcb) (l4:4∘"times"∘Bcc) (l5:5∘"over"∘BcV) (l6:6∘"under"∘Bcd) (l7:7∘"is_name"∘BbC) (l8:8∘"is_whole"∘Ba9) (l9:9∘"is_fraction"∘BaD) (l10:10∘"is_bound"∘Bba) (l11:11∘"are_faces"∘Ba2) (l12:12∘"are_bounds"∘BaK) (l13:13∘"is_tie"∘Bb3) (a14:Part/"__init__"/f14) (l14:14∘"__init__"∘"Part.__init__"∘Bar) (l15:Part∘15∘"plain"∘"Part.plain"∘BaL) (a16:Gap/"__init__"/f16) (l16:16∘"__init__"∘"Gap.__init__"∘Bav) (l17:Gap∘17∘"plain"∘"Gap.plain"∘Ba4) (l18:18∘"is_part"∘BbD) (l19:19∘"is_gap"∘Bb4) (l20:20∘"part_of"∘BbE) (l21:21∘"gap_of"∘Bb5) (a22:Joints/"__init__"/f22) (l22:22∘"__init__"∘"Joints.__init__"∘Baj) (l23:Joints∘23∘"link"∘"Joints.link"∘BaE) (l24:Joints∘24∘"way_between"∘"Joints.way_between"∘Baf) (a25:Thing/"__init__"/f25) (l25:25∘"__init__"∘"Thing.__init__"∘Ban) (l26:Thing∘26∘"parts"∘"Thing.parts"∘BaF) (l27:Thing∘27∘"gaps"∘"Thing.gaps"∘BaM) (l28:Thing∘28∘"way"∘"Thing.way"∘Ba5) (l29:Thing∘29∘"middle"∘"Thing.middle"∘Baw) (l30:Thing∘30∘"room"∘"Thing.room"∘BaN) (a31:Scale/"__init__"/f31) (l31:31∘"__init__"∘"Scale.__init__"∘Bao) (l32:Scale∘32∘"lifted"∘"Scale.lifted"∘Bax) (l33:Scale∘33∘"lowered"∘"Scale.lowered"∘Bas) (l34:34∘"scale_of"∘Bbb) (l35:35∘"part_names"∘BaO) (a36:Lid/"__init__"/f36) (l36:36∘"__init__"∘"Lid.__init__"∘Bay) (l37:Lid∘37∘"full_level"∘"Lid.full_level"∘Bap) (l38:Lid∘38∘"settle"∘"Lid.settle"∘BaP) (l39:Lid∘39∘"has_stopped"∘"Lid.has_stopped"∘Bak) (a40:Tight/"__init__"/f40) (l40:FnG K f40 "__init__" "Tight.__init__" Baq (.ref T40)) (t40:K.lookup T40=some ⟨tc40,td40, .seq #[.str "" tk40a, .str "" tk40b] tn40,ts40⟩) (l41:41∘"lids_of"∘BbF) (l42:42∘"most_levels"∘BaG) (l43:43∘"coming_stops"∘Baz) (l44:44∘"first_level"∘BaH) (l45:45∘"stopped_at"∘BaR) (l46:46∘"risen_levels"∘BaA) (l47:47∘"gap_stop"∘Bbc) (l48:48∘"share"∘Bce) (l49:49∘"fits"∘BcX) (l50:50∘"is_sharing"∘BaS) (l51:51∘"part_named"∘BaT) (l52:52∘"with_row"∘Bbe) (l53:53∘"is_off"∘Bb6) (l54:54∘"measured"∘Bbf) (l55:55∘"_law_cell"∘Bbg) (l56:56∘"_law_signed"∘BaU) (l57:57∘"_law_low"∘BbG) (l58:58∘"_law_plus"∘Bbh) (l59:59∘"_law_name"∘Bbi) (l60:60∘"_law_parts"∘Ba6) (l61:61∘"_law_gaps"∘Bbj) (l62:62∘"_law_turned"∘BaW) (l63:63∘"_law_shared"∘BaX) (l64:64∘"_law_like_anew"∘Bat) (l65:65∘"_law_refused"∘BaI) (a66:f66∘"law") (l66:K.lookup f66=some ⟨oc66,od66, .func (W.fnOf "law" "law" (Jam Bc4) (Jal Bc4) (Jaf Bc4) .none kV66 dc66 pm66 an66 cd66 ct66),sl66⟩) (c66:cd66∣"law") (k66:-f66) (ar:"abs"∘0) (au:"isinstance"∘0) (av:"len"∘0) (aw:"int"∘0) (ax:"bool"∘0) (ay:"tuple"∘0) (az:"str"∘0) (aA:"range"∘0) (aB:"list"∘0) (aC:"min"∘0) (aD:"sorted"∘0) (aE:"all"∘0) (aF:"sum"∘0) (aG:"dict"∘0) (aH:"zip"∘0) (aI:"ValueError"∘0) (aJ:W.nsIn K mainGlobals "SMALL_LETTERS"=some (some (.str "abcdefghijklmnopqrstuvwxyz" Baa))) (aK:W.nsIn K mainGlobals "LONGEST_NAME"=some (some (.int 8 Bab))) (aL:ZERO∘"ZERO") (aM:K.lookup ZERO=some ⟨.type "tuple",Bd7, .seq #[.int 0 Bd1, .int 1 Bd2] Bd8,Bd9⟩) (aN:SlackError∘2) (aO:NoNumber∘2) (aP:NoName∘2) (aQ:Off∘2) (aR:K.lookup Tight=some (excClassObj xnm_Tight xq_Tight Tight xN_Tight xbs_Tight (.ref SlackError::BMV) true xsn_Tight xsub_Tight xab_Tight xcol_Tight xd_Tight xk0_Tight xk1_Tight xk2_Tight xk3_Tight xk5_Tight "ValueError.__new__")) (aS:Mk K Part f14) (aT:Mk K Gap f16) (aU:Mk K Joints f22) (aV:Mk K Thing f25) (aW:Mk K Scale f31) (aX:Mk K Lid f36) (bl:f40∘0) (bm:-Tight) (bn:PartC K Part) (bo:GapC K Gap) (bp:Jlg K Joints) (bq:Jmr K Thing) (br:Jmq K Scale) (bs:LidC K Lid) (bt:Tight∘"__setattr__"∘"object.__setattr__") (bu:Tight/"tight_gap") (bv:Tight∘1) (bw:Tight∘"__getattribute__"∘"BaseException.__getattribute__") (bx:Tight/"__getattr__") (bz:Tight∘"BaseException"∘2) (bA:W.specialIn K (.ref SlackError) "__getattribute__"=some (some (.builtin "type.__getattribute__"))) (bB:W.readsIn K SlackError (.type "type")=true) (bC:W.findCls K (.ref SlackError) (.type "type") "__init__"=some (.val (.builtin "ValueError.__init__"))) (bD:W.typeIn K (.ref Tight)=some (.type "type")) (bE:Tight∘Tight∘2) (bF:SlackError∘1) (bG:W.typeIn K (.ref SlackError)=some (.type "type")) (bH:SlackError∘"BaseException"∘2) (bI:W.specialIn K (.builtin "object.__class__") "__get__"=some (some (.builtin "getset_descriptor.__get__"))) (bJ:W.takesIn K (.builtin "object.__class__")=some true) (bK:Off∘SlackError∘2) (bL:Off∘1) (bM:Off∘"__getattribute__"∘"BaseException.__getattribute__") (bN:Off/"__getattr__") (bO:Off∘"__class__"∘"object.__class__") (bP:Off∘"object"∘2) (bQ:Off∘"BaseException"∘2) (bR:W.kitOne K (.ref Off) (.type "ValueError")=some true) (bS:Off∘Off∘1) (bT:Off∘NoName∘0) (bU:Off∘NoGap∘0) (bV:Off∘NoPart∘0) (bW:Off∘NoRow∘0) (bX:Off∘Tight∘0) (bY:Off∘Twice∘0) (bZ:NoName∘SlackError∘2) (b0:NoName∘1) (ca:NoName∘"__getattribute__"∘"BaseException.__getattribute__") (cb:NoName/"__getattr__") (cc:NoName∘"__class__"∘"object.__class__") (cd:NoName∘"object"∘2) (ce:NoName∘"BaseException"∘2) (cf:W.kitOne K (.ref NoName) (.type "ValueError")=some true) (cg:NoName∘Off∘0) (ch:NoName∘NoName∘1) (ci:NoName∘NoGap∘0) (cj:NoName∘NoPart∘0) (ck:NoName∘NoRow∘0) (cl:NoName∘Tight∘0) (cm:NoName∘Twice∘0)
  : ∃ fd:FuncData,(∀(s:Shared)(v:Value),BindsTo s fd ⟨[v],[]⟩ [("_law_script",v)])/\∀ base:Heap,K.In base->base.Ns mainGlobals mg->FnOk l.prog w K mg base (CX1 l.prog w) 13 fa fd ["_law_script"] (Bds K):=by
 have e:=hfa.symm.trans (W.mg_of X G a66);cases e;have o:∀{x:Str}{v:Value},W.nsIn K mainGlobals x=some (some v)->mg x=some v:=λh=>W.mg_of X G h;have n:∀{x:Str},W.nsIn K mainGlobals x=some none->mg x=none:=λh=>W.mg_none_of X G h;have T:Txt K mg ⟨SlackError,NoNumber,NoName,Off,Apart,InRing,NoPart,NoGap,NoRow,Twice,Tight,Part,Gap,Joints,Thing,Scale,Lid,(.str "abcdefghijklmnopqrstuvwxyz" Baa),(.int 8 Bab),ZERO⟩:=⟨n ar,n au,n av,n aw,n ax,n ay,n az,n aA,n aB,n aC,n aD,n aE,n aF,n aG,n aH,n aI,o aa,o ab,o ac,o ad,o ae,o af,o ag,o ah,o ai,o aj,o ak,o al,o am,o an,o ao,o ap,o aq,o aJ,⟨_,rfl⟩,o aK,⟨_,rfl⟩,o aL,rfl,λH=>.inr ⟨_,_,_,aM,rfl,rfl,by show 2<=sizeLine;decide, .cons ⟨_,rfl⟩ (.cons ⟨_,rfl⟩ (.nil))⟩,aN,aO,aP,aQ,(λC hC=>by cases hC;show bn),(λC hC=>by cases hC;show bo),(λC hC=>by cases hC;show bp),(λC hC=>by cases hC;show bq),(λC hC=>by cases hC;show br),(λC hC=>by cases hC;show bs),⟨bt,bu⟩,⟨bv,bw,bx,bu,bz⟩,⟨bA,bB,bC⟩,⟨bv,bD,bz,bE⟩,⟨bF,bG,bH,bK⟩,⟨bL,bM,bN,bO,bI,bJ,bP,bQ⟩,bR,bS,bT,bU,bV,bW,bX,bY,⟨bF,bG,bH,bZ⟩,⟨b0,ca,cb,cc,bI,bJ,cd,ce⟩,cf,cg,ch,ci,cj,ck,cl,cm⟩;let(_,F40,k40):=l40;have b40:=F40.bindsD (ps:=["self","words","tight_gap"]) t40 rfl [] λ_ _ _ _ _ _=>lenD3 (λ_ _ _=>⟨_,rfl,rfl⟩) rfl;have F66:=Jao l66 c66 k66;show(W.fnOf "law" "law" (Jam Bc4) (Jal Bc4) (Jaf Bc4) .none kV66 dc66 pm66 an66 cd66 ct66,λs v=>.of_eq rfl,λbase _ _=>?_);have cC:∀{ps:List Str}{sp:Sp}{k:Nat}{x:Str}{f:Addr}{st:Stmt},FnA K f x st->(∀{fd:FuncData},FunD K x x st .none f fd->FnOk l.prog w K mg base (CX1 l.prog w) k f fd ps sp)->(∀(kV dc pm:Value)(an:Option Addr)(cd ct:Value)(us:List Value),us.length=ps.length->bindArgs (W.fnOf x x (Jam st) (Jal st) (Jaf st) .none kV dc pm an cd ct) ⟨us,[]⟩=pure (ps.zip us))->Cal l.prog w K mg base k x ps [] sp:=λ⟨_,F,c,a⟩ g b=>⟨_,_,[],g F,o a,c,F.binds b, .nil⟩;have cK:∀{ps:List Str}{sp:Sp}{k:Nat}{x y q:Str}{f C:Addr}{st:Stmt},FnG K f x q st .none->(∀{fd:FuncData},FunD K x q st .none f fd->FnOk l.prog w K mg base (CX1 l.prog w) k f fd ps sp)->W.nsIn K mainGlobals y=some (some (.ref C))->Mk K C f->(∀(kV dc pm:Value)(an:Option Addr)(cd ct:Value)(us:List Value),us.length=ps.length->bindArgs (W.fnOf x q (Jam st) (Jal st) (Jaf st) .none kV dc pm an cd ct) ⟨us,[]⟩=pure (ps.zip us))->KCal l.prog w K mg base k y C ps sp:=λ⟨_,F,_⟩ g a c b=>⟨_,_,g F,o a,c,F.binds b⟩;have cM:∀{ps:List Str}{sp:Sp}{k:Nat}{x q:Str}{f C:Addr}{st:Stmt},FnM K C f x q st->(∀{fd:FuncData},FunD K x q st .none f fd->FnOk l.prog w K mg base (CX1 l.prog w) k f fd ps sp)->Cls K C->(∀(kV dc pm:Value)(an:Option Addr)(cd ct:Value)(us:List Value),us.length=ps.length->bindArgs (W.fnOf x q (Jam st) (Jal st) (Jaf st) .none kV dc pm an cd ct) ⟨us,[]⟩=pure (ps.zip us))->MCal l.prog w K mg base k x (·=C) ps sp:=λ⟨⟨_,F,c⟩,a,i⟩ g d b=>⟨_,_,g F,(λD e=>by cases e;show(d,a,i,c)),c,F.binds b⟩;have cn:=!l1*(JdN · T);have co:=!l2*(JlP · T cn);have cp:=!l3*(Jkf · T co);have cq:=!l4*(Jkh · T cn);have cr:=!l5*(JlO · T cq);have cs:=!l6*(Jki · T);have ct:=!l7*(Jie · T);have cu:=!l8*(Jg0 · T);have cv:=!l9*(JeV · T cu cn);have cw:=!l10*(JgZ · T cv);have cx:=!l11*(Jgq · T ct);have cy:=!l12*(Jfy · T cw cs);have cz:=!l13*(Ji9 · T ct cx cy);have cA:=cK l14 (JdY · T) al aS (by bv_omega);have cD:=cM l15 (Jfv · T) bn.cls (by bv_omega);have cE:=cK l16 (Jer · T) am aT (by bv_omega);have cF:=cM l17 (Jgo · T) bo.cls (by bv_omega);have cG:=!l18*(Jif · T ct cx cv cu cs);have cH:=!l19*(Ji7 · T cz);have cI:=!l20*(Jii · T cG cA);have cJ:=!l21*(Ji6 · T cH cE);have cL:=cK l22 (Jdr · T) an aU (by bv_omega);have cN:=cM l23 (JeS · T) bp.cls (by bv_omega);have cO:=cM l24 (JcU · T) bp.cls (by bv_omega);have cP:=cK l25 (JdL · T cL cI cJ cO cN) ao aV (by bv_omega);have cQ:=cM l26 (JeT · T cD) bq.cls (by bv_omega);have cR:=cM l27 (Jfw · T cF) bq.cls (by bv_omega);have cS:=cM l28 (Jgp · T) bq.cls (by bv_omega);have cT:=cM l29 (Jeu · T cS co cp) bq.cls (by bv_omega);have cU:=cM l30 (Jfx · T cT cp cs) bq.cls (by bv_omega);have cV:=cK l31 (JdK · T cn) ap aW (by bv_omega);have cW:=cM l32 (Jet · T cn) br.cls (by bv_omega);have cX:=cM l33 (JdZ · T cn) br.cls (by bv_omega);have cY:=!l34*(Jg6 · T cQ cR cV);have cZ:=!l35*(JfE · T cS);have c0:=cK l36 (Jes · T) aq aX (by bv_omega);have c1:=cM l37 (JdJ · T cr) bs.cls (by bv_omega);have c2:=cM l38 (Jfu · T cp cq) bs.cls (by bv_omega);have c3:=cM l39 (Jds · T) bs.cls (by bv_omega);have K40:=JdM (P:=l.prog) (w:=w) (base:=base) F40 T;have c4:XCal l.prog w K mg base 1 "Tight" Tight SlackError ["self","words","tight_gap"] (JbH K _):=⟨f40,_,K40,W.mg_of X G ak,⟨aN,⟨_,_,_,_,_,_,_,_,_,_,_,_,_,_,aR⟩,a40,bl,bm⟩,b40⟩;have c5:=!l41*(Jih · T cQ cR cU cs cZ c0 cW c4);have c6:=!l42*(JeX · T cQ cW cr);have c7:=!l43*(Jev · T c1);have c8:=!l44*(JeU · T cs);have c9:=!l45*(JfF · T);have da:=!l46*(Jew · T c7 c8 c9 c2);have db:=!l47*(JgY · T c3);have dc:=!l48*(Jkg · T cY c5 c6 da cQ cX cq db);have dd:=!l49*(JlN · T co cs);have de:=!l50*(Jfz · T cY cQ cR cs cW cZ dd cU);have df:=!l51*(JfD · T cQ);have dg:=!l52*(Jg7 · T);have dh:=!l53*(Ji8 · T cp cs);have di:=!l54*(Jg5 · T df dh dg cP cQ cR);have dj:=!l55*(Jg1 · T);have dk:=!l56*(JfB · T);have dl:=!l57*(Jig · T);have dm:=!l58*(Jg4 · T dl);have dn:=!l59*(Jg3 · T);have dp:=!l60*(Jgr · T dj dn dl dm dk);have dq:=!l61*(Jg2 · T dj dn dl dm);have dr:=!l62*(JfC · T);have ds:=!l63*(JfA · T dc);have dt:=!l64*(Jd0 · T cP cQ cR cU cS de ds);have du:=!l65*(JeW · T di);show JmW F66 T dj dp dq dr cP dl dm du di cQ cR cT dt
theorem walk{l:PySem.W.OpenLaw}{q:Program}{loose:List Str}{XP:(Str->Option Value)->Heap->Prop}{YP:World->Heap->Prop}{d:DefRec}{K:Params->PySem.W.Frag}(hn:l.most=some 63)(hdf:d.params.defaults=[])
  (hY:∀(w:World)(h:Heap),YP w h->(K w.params).In h)
  (F:∀(w:World)(mg:Str->Option Value)(fa:Addr)(h:Heap),(K w.params).In h->h.Ns mainGlobals mg->mg d.name=some (.ref fa) ->
   ∃ fd:FuncData,(∀(s:Shared)(u:Value),BindsTo s fd ⟨[u],[]⟩ [("_law_script",u)])/\∀ base:Heap,(K w.params).In base->base.Ns mainGlobals mg->FnOk l.prog w (K w.params) mg base (CX1 l.prog w) 13 fa fd ["_law_script"] (Bds (K w.params))) :
  PySem.W.WalkO q loose XP YP l.row.toRowW d [] (λf vs=>PySem.call f vs) :=
 L2.JjX (n:=63) (k:=13) (x:="_law_script") (CX:=λw=>CX1 l.prog w) (sp:=λw=>Bds (K w.params)) hn (by decide) hdf ⟨rfl,by decide,by decide⟩ hY F (λ_ _ a ns hl _ hS=>⟨a,ns,rfl,hS,hl,λ_=>rfl⟩) λ_ _ _ _ _ z=>by
  let(_,_,_,_,_,_,_,_,_,_,_,_,z):=z;show z
end Prg
open PySem PySem.W PyProof.Rows
local macro_rules|`(command|universe $x)=>do return Lean.mkNullNode (<-(((List.range 717).map (fun i=>s!"o_{i+43}")++"tree_93 view_39 tree_595 sts_192 sts_515 sts_307 tree_306 sts_169 sts_64 tree_168 tree_153 sts_257 env_41 sts_49 sts_419 tree_759 tree_78 heap_46 tree_514 sts_650 tree_108 sts_79 tree_63 tree_362 sts_124 tree_558 tree_484 sts_732 tree_649 sts_94 sts_207 tree_47 sts_139 sts_559 sts_154 tree_731 heap_39 sts_485 tree_418 sts_363 sts_109 sts_596 tree_206 heap_760 tree_256 tree_191 tree_138 tree_123".splitOn " ").map ((`PySem.Challenge.cw_slackchain_k61_a_part_measured_holds).str ·)++[`PySem.Challenge.pw_slackchain_k61_a_part_measured]).toArray.mapM fun x=>`(command|noncomputable def $(Lean.mkIdent (.str `PySem.W.Fast s!"tw{x.hash}")):ident:Nat:=0))
universe x
set_option maxRecDepth 100000 in
set_option maxHeartbeats 0 in
theorem PySem.Challenge.cw_slackchain_k61_a_part_measured_holds : PySem.Challenge.rw_slackchain_k61_a_part_measured.Holds := by
 w_on;o_law;k_head;(case hw=>w_witness2)
 k_fill
 refine Prg.walk (l:=PySem.Challenge.rw_slackchain_k61_a_part_measured) rfl rfl (fun w h Y=>PySem.W.kIn_of Y) ?F;case F=>
  intro w mg fa h KX G hmg;refine' Prg.all_mk KX G hmg ..;all_goals try repeat' first|with_reducible refine' Prg.fnM ..|with_reducible refine' Prg.fnA ..|with_reducible refine' Prg.fnG ..|with_reducible apply Prg.PartC.mk|with_reducible apply Prg.GapC.mk|with_reducible apply Prg.Jlg.mk|with_reducible apply Prg.Jmr.mk|with_reducible apply Prg.Jmq.mk|with_reducible apply Prg.LidC.mk|with_reducible apply L2.Cls.mk|with_reducible apply L2.Mk.mk|k_is|k_exc|(show _=_;k_is)|kit_is
