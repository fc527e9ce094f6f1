import PyProof.Rows.All
import Wide.FinOn
import KE.KDictList
import KE.KDictOf
import KE.KRevIter
import KE.KIntText
import KE.RegKIsAll
import Open.Fors
import KE.KItem
import KE.KTabLook
import PySem.Challenge.RW_slackchain_k82_whole_rings_at_the_desk
set_option Elab.async false
set_option linter.all false
set_option maxRecDepth 100000
local macro_rules|`(command|universe $x)=>do return Lean.mkNullNode (<-(((List.range 1387).map (fun i=>s!"o_{i+43}")++"tree_1034 sts_214 sts_131 view_39 sts_1035 tree_368 tree_316 tree_599 sts_1072 tree_960 sts_551 sts_1194 sts_991 tree_461 sts_169 tree_168 tree_183 sts_600 tree_491 sts_507 tree_550 sts_101 env_41 tree_213 sts_1126 sts_1245 tree_1071 sts_49 sts_146 tree_228 tree_1193 tree_145 tree_1242 tree_894 tree_1429 heap_46 tree_476 tree_506 sts_418 sts_644 tree_70 sts_116 sts_961 sts_71 tree_251 sts_184 tree_990 sts_86 sts_229 tree_521 tree_47 sts_369 tree_1125 sts_1385 tree_100 sts_317 heap_39 sts_1299 tree_417 tree_266 heap_1430 sts_839 sts_199 tree_1384 tree_1298 tree_835 sts_522 sts_462 tree_754 sts_492 tree_115 sts_267 sts_252 tree_643 tree_130 sts_477 tree_85 tree_198 sts_895".splitOn " ").map ((`HDk).str ·)++[`PySem.Challenge.pw_slackchain_k82_whole_rings_at_the_desk]).toArray.mapM fun x=>`(command|noncomputable def $(Lean.mkIdent (.str `PySem.W.Fast s!"tw{x.hash}")):ident:Nat:=0))
universe x
set_option maxHeartbeats 0 in
open_top HDk for PySem.Challenge.rw_slackchain_k82_whole_rings_at_the_desk
open List (mem_cons_self mem_cons_of_mem mem_cons mem_append mem_append_left mem_append_right length_cons map_cons length_map append_nil nodup_cons length_take length_append size_toArray any_cons length_singleton map_nil length_nil not_mem_nil mem_singleton all_eq_true range' mem_map take_of_length_le map_append foldl_append nodup_append eq_nil_of_length_eq_zero map_map take_succ mem_map_of_mem foldl_cons cons_append mem_flatMap take_zero)
local macro_rules(kind:=Lean.Parser.Command.declaration)|s=>do
  let m:=s[0]
  if m.getArgs.all (·.getNumArgs==0)&&(s[1].isOfKind `Lean.Parser.Command.definition||s[1].isOfKind `Lean.Parser.Command.abbrev)&&s.getHeadInfo matches .original .. then return s.setArg 0 (m.setArg 4 (Lean.mkNullNode #[Lean.mkNode `Lean.Parser.Command.noncomputable #[Lean.mkAtom "noncomputable"]])) else Lean.Macro.throwUnsupported
local macro_rules(kind:=Lean.Parser.Tactic.tacticLet__)|s=>do
  let m x:=Lean.mkNode `Lean.Parser.Tactic.rcasesPatMed #[Lean.mkNullNode #[x]]
  let g(r:Lean.Syntax->Lean.Syntax)(x:Lean.Syntax):Lean.Syntax:=if x.isIdent then Lean.mkNode `Lean.Parser.Tactic.rcasesPat.one #[x] else if x.isOfKind `Lean.Parser.Term.tuple then Lean.mkNode `Lean.Parser.Tactic.rcasesPat.tuple #[Lean.mkAtom "⟨",Lean.mkNullNode ((#[x[1][0],x[1][1]]++x[1][2].getArgs).map λy=>if y.isAtom then y else Lean.mkNode `Lean.Parser.Tactic.rcasesPatLo #[m (r y),Lean.mkNullNode]),Lean.mkAtom "⟩"] else Lean.mkNode `Lean.Parser.Tactic.rcasesPat.ignore #[x[0]]
  let d:=s[2][0]
  if !d[0].isOfKind `Lean.Parser.Term.tuple then Lean.Macro.throwUnsupported
  let h p v:Lean.TSyntax `tactic:=⟨Lean.mkNode `Lean.Parser.Tactic.obtain #[Lean.mkAtom "obtain",Lean.mkNullNode #[m (g (g (g (g id))) p)],Lean.mkNullNode,Lean.mkNullNode #[Lean.mkAtom ":=",Lean.mkNullNode #[v]]]⟩
  let o:=h d[0] d[4]
  let e:Array Lean.Term:=((#[d[0][1][0]]++d[0][1][2].getArgs).filter (!·.isAtom)).map (⟨·⟩)
  let i(x:Lean.Term):=x.raw.isIdent&&x.raw.getId != `rfl||x.raw.isOfKind `Lean.Parser.Term.hole
  let w:=(e.takeWhile i).size
  if e.size<4 then return o
  let f(c:Lean.Name)(k:Nat):Lean.MacroM (Lean.TSyntax `tactic):=do
    if w<k&&k != 1||e.size<=k||e.size==k+1&&w<=k then return<-`(tactic|fail)
    let mut b:=e.extract 0 k
    let mut u:Lean.TSyntax `tactic<-`(tactic|skip)
    if w==0 then
      let x<-`(x)
      u:=h b[0]! x
      b:=#[x]
    let(r,t):Lean.Term×Lean.TSyntax `tactic<-if e.size==k+1 then pure (e[k]!,<-`(tactic|skip)) else pure (<-`(r),<-`(tactic|let ($(e[k]!),$(e.extract (k+1) e.size),*):=r))
    let v:Lean.Term:=⟨d[4]⟩
    if v.raw.isIdent then `(tactic|(revert $(⟨v.raw⟩):ident;refine fun q=>$(Lean.mkIdent c) q fun $b* $r=>?_;clear q;$u;$t)) else `(tactic|(refine $(Lean.mkIdent c) $v fun $b* $r=>?_;$u;$t))
  `(tactic|first|($(<-f `L2.ex6 6):tactic)|($(<-f `L2.an6 6):tactic)|($(<-f `L2.ex3 3):tactic)|($(<-f `L2.an3 3):tactic)|($(<-f `Exists.elim 1):tactic)|($(<-f `L2.an1 1):tactic)|($o:tactic))
local macro_rules|`(tactic|show $t:term)=>do
  let x:=t.raw
  if !x.isOfKind `Lean.Parser.Term.tuple then return<-`(tactic|first|refine $t|change $t)
  let a:=#[x[1][0],x[1][1]]++x[1][2].getArgs
  let c(a:Array Lean.Syntax):Lean.Term:=⟨Lean.mkNode `Lean.Parser.Term.anonymousCtor #[Lean.mkAtom "⟨",Lean.mkNullNode a,Lean.mkAtom "⟩"]⟩
  let f(n:Lean.Name)(k:Nat):Lean.MacroM (Lean.TSyntax `tactic):=if a.size<2*k+1 then `(tactic|fail) else
    let e:Array Lean.Term:=((Array.range k).map λi=>⟨a[2*i]!⟩).push (if a.size==2*k+1 then ⟨a[2*k]!⟩ else c (a.extract (2*k) a.size))
    `(tactic|refine $(Lean.mkIdent n) $e*)
  if a.size<6 then `(tactic|first|refine $(c a)|change $t) else `(tactic|first|($(<-f `L2.xi6 6):tactic)|($(<-f `L2.xi3 3):tactic)|refine $(c a)|change $t)
local macro_rules|`(tactic|ac_nf)=>`(tactic|first|lia|omega)
local macro_rules|`(⋯)=>`(by decide)
local macro_rules|`(∅)=>`(by ac_nf)
local macro_rules|`(tactic|subst_eqs)=>`(tactic|(intro _ _ _ _ h;(repeat obtain ⟨_,h⟩:=h);all_goals(subst_vars;rfl)))
local macro_rules|`(tactic|decreasing_tactic)=>`(tactic|first|exact $(Lean.mkIdent `L2.Jag) rfl|rfl|exact .inl rfl|exact .inr rfl|exact .inr (.inl rfl)|exact .inr (.inr rfl)|exact fun _=>rfl|exact fun _ _=>rfl|assumption|decide)
namespace L2
theorem xi3{α β γ:Sort _}{p:α->β->γ->Prop}(a b c)(h:p a b c):∃ a b c,p a b c:=⟨a,b,c,h⟩
theorem xi6{α β γ δ ε ζ:Sort _}{p:α->β->γ->δ->ε->ζ->Prop}(a b c d e f)(h:p a b c d e f):∃ a b c d e f,p a b c d e f:=⟨a,b,c,d,e,f,h⟩
theorem Au0(_:True:=by decreasing_tactic):True:=⟨⟩
@[reducible]def Au:=Au0._auto_1
theorem ex3{α β γ:Sort _}{p:α->β->γ->Prop}{r:Prop}:(∃ a b c,p a b c)->(∀ a b c,p a b c->r)->r:=λ⟨a,b,c,h⟩ k=>k a b c h
theorem ex6{α β γ δ ε ζ:Sort _}{p:α->β->γ->δ->ε->ζ->Prop}{r:Prop}:(∃ a b c d e f,p a b c d e f)->(∀ a b c d e f,p a b c d e f->r)->r:=λ⟨a,b,c,d,e,f,h⟩ k=>k a b c d e f h
theorem an1{a b r:Prop}(h:a/\b)(k:a->b->r):r:=k h.1 h.2
theorem an3{a b c d r:Prop}:a/\b/\c/\d->(a->b->c->d->r)->r:=λh k=>k h.1 h.2.1 h.2.2.1 h.2.2.2
theorem an6{a b c d e f g r:Prop}:a/\b/\c/\d/\e/\f/\g->(a->b->c->d->e->f->g->r)->r:=λh k=>an3 h λx y z h=>an3 h (k x y z)
open PySem PySem.Spec PyProof.Rows
abbrev Key:=Sum Bool Str
def isBoolOf:Bool->Value->Bool
 | b, .bool c=>b == c
 | _,_=>false
variable{b:Bool}
theorem Jfj{v:Value}(h:isBoolOf b v=true):v=.bool b:=by
 cases v <;> simp_all [isBoolOf]
def keyIs:Key->Value->Bool
 | .inl k,v=>isBoolOf k v
 | .inr x,v=>Value.isStrOf x v
def keyH(w:World):Key->Int
 | .inl k=>hashInt (if k then 1 else 0)
 | .inr x=>hashStr w x
theorem JaR:∀{k:Key}{v:Value},keyIs k v=true->(∃ i,k=Sum.inl i/\v=Value.bool i)\/(∃ x t,k=Sum.inr x/\v=Value.str x t)
 | .inl i,v,h=>.inl ⟨i,rfl,Jfj h⟩
 | .inr x,v,h=>by
  let(t,e):=Value.isStrOf_shape (x:=x) (v:=v) h;show .inr ⟨x,t,rfl,e⟩
theorem Ji0(i:Bool):keyIs (.inl i) (.bool i)=true:=by simp[keyIs,isBoolOf]
theorem Jj0(x:Str)(t:Tok):keyIs (.inr x) (.str x t)=true:=by simp[keyIs,Value.isStrOf]
theorem JnD(a b:Bool):decide ((Sum.inl a:Key)=Sum.inl b)=(a == b):=by cases a <;> cases b <;> rfl
theorem JnG(a b:Str):decide ((Sum.inr a:Key)=Sum.inr b)=decide (a=b):=by
 by_cases e:a=b
 .subst e;simp
 .have h:¬(Sum.inr a:Key)=Sum.inr b:=λq=>e (Sum.inr.inj q);rw[decide_eq_false h,decide_eq_false e]
theorem JnE(a:Bool)(b:Str):decide ((Sum.inl a:Key)=Sum.inr b)=false:=decide_eq_false (λq=>nomatch q)
theorem JnF(a:Str)(b:Bool):decide ((Sum.inr a:Key)=Sum.inl b)=false:=decide_eq_false (λq=>nomatch q)
variable{prog:Program}{A:Around}{E:Value->Shared->Prop}{s:Shared}
theorem Jh0{w:World}{Q:Int->Shared->Prop}(h:Q (hashInt (if b then 1 else 0)) { s with toks:=s.toks+1 }) :
  wpAny (model prog w) A (pyHash (.bool b)) Q E s:=by
 have c:=rawHash_range (if b then 1 else 0);have a:s.TypeIs (.bool b) "bool":=rfl;unfold pyHash;have d:[Value.bool b].any Value.onHeap=false:=rfl;show wpAny_bind ?_;rw[cRoomFor,if_neg (by rw[d];show Bool.false_ne_true)];show wpAny_pure ?_;show wpAny_bind (wpAny_specialOf a F.slot_bool_hash.lookup ?_);show wpAny _ _ (if(some (Value.builtin "int.__hash__") == some Value.none)=true then _ else _) Q E s;rw[if_neg (by rw[beq_builtin_none];show Bool.false_ne_true)];show wpAny_bind (wpAny_specialOf a F.slot_bool_hash.lookup ?_);show wpAny _ _ (callSpecialIfBoundUnlessNone? (.bool b) "__hash__" _ >>= _) Q E s;show wpAny_bind (wpAny_callSpecialIfBoundUnlessNone?_slot a F.slot_bool_hash
  (wpAny_call_entry F.slot_bool_hash a entry_int_hash
   (show wpAny _ _ (do ret (<- mkInt (rawHash (if b then 1 else 0)))) _ _ s from wpAny_ret_mkInt ?_) (args_int_hash _)))
 show wpAny _ _ (if(decide (-(2:Int) ^ 63<=rawHash (if b then 1 else 0))&&decide (rawHash (if b then 1 else 0)<2 ^ 63))=true then _ else _) Q E _;rw[if_pos (by rw[decide_eq_true c.1,decide_eq_true c.2];rfl)];show wpAny_pure h
def JaG(prog:Program)(w:World):PySem.KeyKind prog w Key where
 is:=keyIs
 hash:=keyH w
 inj:=λv a b ha hb=>by
  rcases JaR ha with⟨i,rfl,rfl⟩ | ⟨x,t,rfl,rfl⟩
  .rcases JaR hb with⟨j,rfl,e⟩ | ⟨y,u,rfl,e⟩
   .injection e with e1;rw[e1]
   .show nomatch e
  .rcases JaR hb with⟨j,rfl,e⟩ | ⟨y,u,rfl,e⟩
   .show nomatch e
   .injection e with e1 _;rw[e1]
 byValue:=λk v h=>by
  rcases JaR h with⟨i,rfl,rfl⟩ | ⟨x,t,rfl,rfl⟩ <;> rfl
 pyHash:=λhv h=>by
  rcases JaR hv with⟨i,rfl,rfl⟩ | ⟨x,t,rfl,rfl⟩
  .show Jh0 h
  .show wpAny_pyHash_str h
 eqBool:=λhu hv h=>by
  rcases JaR hu with⟨i,rfl,rfl⟩ | ⟨x,t,rfl,rfl⟩
  .rcases JaR hv with⟨j,rfl,rfl⟩ | ⟨y,u,rfl,rfl⟩
   .rw[JnD]at h;show SeqAt.EqAt.bool_bool i j _ _ _ _ h
   .rw[JnE]at h;show SeqAt.EqAt.bool_str i y u _ _ _ _ h
  .rcases JaR hv with⟨j,rfl,rfl⟩ | ⟨y,u,rfl,rfl⟩
   .rw[JnF]at h;show SeqAt.EqAt.str_bool x t j _ _ _ _ h
   .rw[JnG]at h;show wpAny_eqBool_str h
 «strs»:=λk x t v h=>by
  rcases JaR h with⟨i,rfl,e⟩ | ⟨y,u,rfl,e⟩
  .show nomatch e
  .injection e with e1 _
   subst e1;cases v <;> rfl
theorem JgP(prog:Program)(w:World)(i:Bool):(JaG prog w).is (.inl i) (.bool i)=true:=Ji0 i
theorem JhF(prog:Program)(w:World)(x:Str)(t:Tok):(JaG prog w).is (.inr x) (.str x t)=true:=Jj0 x t
inductive V where
 | non | bl (b:Bool) | int (i:Int) | str (x:Str) | byt (b:Array UInt8) | flt (b:UInt64) | ref (a:Addr) | ty (n:String)
 deriving DecidableEq
def RelV:V->Value->Prop
 | .non,u=>u=Value.none
 | .bl b,u=>u=Value.bool b
 | .int i,u=>∃ t,u=Value.int i t
 | .str x,u=>∃ t,u=Value.str x t
 | .byt b,u=>∃ t,u=Value.bytes b t
 | .flt b,u=>∃ t,u=Value.float b t
 | .ref a,u=>u=Value.ref a
 | .ty n,u=>u=Value.type n
abbrev Vals:List V->List Value->Prop:=Paired RelV
variable{xs:List V}{us:List Value}
theorem Vals.length(r:Vals xs us):xs.length=us.length:=Paired.length r
variable{i:Nat}{x:V}
theorem Vals.get(h:Vals xs us):xs[i]?=some x->∃ u,us[i]?=some u/\RelV x u:=by
 induction h generalizing i with
 | nil=>showλe=>by cases e
 | cons r _ ih=>
  cases i with
  | zero=>showλe=>by cases e;show(_,rfl,r)
  | succ i=>showλe=>ih e
theorem Vals.set{u:Value}(r:RelV x u):∀{xs:List V}{us:List Value}(i:Nat),Vals xs us->Vals (xs.set i x) (us.set i u)
 | _,_,_, .nil=>.nil
 | _,_,0, .cons _ t=>.cons r t
 | _,_,i+1, .cons q t=>.cons q (Vals.set r i t)
variable{ys:List V}
theorem Vals.append{ws:List Value}(h:Vals xs us)(s:Vals ys ws):Vals (xs++ys) (us++ws):=by
 induction h with
 | nil=>show s
 | cons r _ ih=>show .cons r ih
theorem Vals.take(n:Nat)(h:Vals xs us):Vals (xs.take n) (us.take n):=by
 induction h generalizing n with
 | nil=>cases n <;> show .nil
 | cons r _ ih=>
  cases n with
  | zero=>show .nil
  | succ n=>show .cons r (ih n)
theorem Vals.drop:∀{xs:List V}{us:List Value}(n:Nat),Vals xs us->Vals (xs.drop n) (us.drop n)
 | _,_,0,r=>r
 | _,_,_+1, .nil=>.nil
 | _,_,n+1, .cons _ t=>Vals.drop n t
def RelO:Option V->Option Value->Prop
 | some v,some u=>RelV v u
 | none,none=>True
 | _,_=>False
def KV{κ:Type}:List (κ × V)->List (κ × Value)->Prop:=Paired λ(p : κ × V)(q : κ × Value)=>p.1=q.1/\RelV p.2 q.2
def kV:Key->V
 | .inl i=>.bl i
 | .inr x=>.str x
inductive HO where
 | lst (xs:List V)
 | tup (xs:List V)
 | dK (kvs:List (Key × V)) | dT (kvs:List (List Key × V))
 | set (S:Int->Bool) (n:Nat)
 | ins (C dx:Addr) (fs:List (Str × V))
 | own (x:Addr)
 | xd (fs:List (Str × V))
 | met (f x:Addr)
 | rng (lo hi:Int)
 | frz (o:Obj) (u:HO)
 | tbl (ps:Array Value)
 | ext (φ : Heap->Prop)
abbrev Hp:=Addr->Option HO
def upd(H:Hp)(a:Addr)(o:HO):Hp:=λb=>if b=a then some o else H b
variable{H:Hp}{a:Addr}{o:HO}
theorem Jat:upd H a o a=some o:=by unfold upd;rw[if_pos rfl]
variable{b:Addr}
theorem Jai(h:b≠a):upd H a o b=H b:=by unfold upd;rw[if_neg h]
variable{u:HO}
theorem ne_of(h:H a=some o)(h':H b=some u)(d:o≠u):a≠b:=by
 intro e;subst e;rw[h]at h';show d (Option.some.inj h')
theorem Jah(h:H a=some o)(h':H b=none):a≠b:=by
 intro e;subst e;rw[h]at h';cases h'
section
variable(P:Program)(w:World)
def ObjOk(H:Hp)(h:Heap)(a:Addr):HO->Prop
 | .lst xs=>xs.length<=sizeLine/\∃(its:List Value)(n:Nat),Vals xs its/\h.get? a=some { cls:=.type "list",data:=.seq its.toArray n }
 | .tup xs=>xs.length<=sizeLine/\∃ its:List Value,Vals xs its/\IsTup h a its.toArray
 | .dK kvs=>kvs.length<=sizeLine/\(a == sysModules)=false/\∃ vs,KV kvs vs/\h.DictOf (JaG P w) a vs
 | .dT kvs=>kvs.length<=sizeLine/\(a == sysModules)=false/\∃ xs:List (List Key × Addr × Value),
   Paired (λ(p:List Key × V)(q:List Key × Addr × Value)=>p.1=q.1/\H q.2.1=some (.tup (p.1.map kV))/\RelV p.2 q.2.2) kvs xs /\
   ∃ o es ep,h.get? a=some o/\o.ExactDict/\o.data=.dict es ep/\es.toList=xs.map (entryOfKey (tupleKind (JaG P w)))/\(xs.map (·.1)).Nodup
 | .set S n=>h.SetOf (intKind P w) a S n
 | .ins C dx fs=>H dx=some (.own a)/\fs.length<=1000/\dx≠a/\h.get? a=some (W.instObj C dx) /\
   ∃ mA,h.Ns1 dx mA/\(∀ f,RelO (fs.lookup f) (mA f))/\PySem.Within mA (fs.map (·.1))
 | .own _=>∃ o,h.get? a=some o
 | .xd fs=>∃ mA,h.Ns1 a mA/\∀ f,RelO (fs.lookup f) (mA f)
 | .rng lo hi=>∃ t u v,h.get? a=some { cls:=.type "range",data:=.fields #[.int lo t, .int hi u, .int 1 v] }
 | .frz o u=>h.get? a=some o/\ObjOk H h a u
 | .tbl ps=>h.get? a=some { cls:=.none,data:=.fields ps }
 | .met f x=>h.get? a=some (W.methodObj (.ref f) (.ref x))
 | .ext φ=>φ h/\(∃ o,h.get? a=some o)/\∀ h1 h2:Heap,φ h1->(∀ o,h1.get? a=some o->h2.get? a=some o)->φ h2
def HOk(H:Hp)(h:Heap):Prop:=∀ a o,H a=some o->ObjOk P w H h a o
end
section
variable{P:Program}{H':Hp}{h h':Heap}{w:World}
theorem ObjOk.lt(x:ObjOk P w H h a o):a<h.objs.size:=by
 cases o with
 | lst xs=>let(_,_,_,_,e):=x;show Heap.lt_size e
 | tup xs=>let(_,_,_,p):=x;show p.lt
 | dK kvs=>let(_,_,_,_,o,_,_,e,_):=x;show Heap.lt_size e
 | dT kvs=>let(_,_,_,_,o,_,_,e,_):=x;show Heap.lt_size e
 | set S n=>let(o,_,_,_,e,_):=x;show Heap.lt_size e
 | ins C dx fs=>let(_,_,_,e,_):=x;show Heap.lt_size e
 | own y=>let(_,e):=x;show Heap.lt_size e
 | xd fs=>let(_,(_,_,_,e,_),_):=x;show Heap.lt_size e
 | rng lo hi=>let(_,_,_,e):=x;show Heap.lt_size e
 | frz ob u=>let(e,_):=x;show Heap.lt_size e
 | tbl ps=>show Heap.lt_size (show h.get? a=some _ from x)
 | met f y=>show Heap.lt_size (show h.get? a=some _ from x)
 | ext φ=>let(_,(_,e),_):=x;show Heap.lt_size e
variable{α:Type}
theorem Paired.mapP{β:Type}{F G : α->β->Prop}{l₁ : List α}{l₂ : List β}(h:Paired F l₁ l₂)(f:∀ a b,F a b->G a b):Paired G l₁ l₂:=by
 induction h with
 | nil=>show .nil
 | cons r _ ih=>show .cons (f _ _ r) ih
theorem ObjOk.stay(x:ObjOk P w H h a o)(k:∀ b u,(b=a\/H b=some (.own a))->h.get? b=some u->h'.get? b=some u)
  (ho:∀ b,H b=some (.own a)->H' b=some (.own a)) (ht:∀ b xs,H b=some (.tup xs)->H' b=some (.tup xs)):ObjOk P w H' h' a o:=by
 induction o with
 | lst xs=>let(z,l,n,r,e):=x;show(z,l,n,r,k _ _ (.inl rfl) e)
 | tup xs=>let(z,l,r,g,e,c):=x;show(z,l,r,g,k _ _ (.inl rfl) e,c)
 | dK kvs=>let(z,y,D,r,g,j,i,e,c):=x;show(z,y,D,r,g,j,i,k _ _ (.inl rfl) e,c)
 | dT kvs=>
  let(z,y,xs,r,g,j,i,e,c):=x;show(z,y,xs,Paired.mapP r λp q z=>⟨z.1,ht _ _ z.2.1,z.2.2⟩,g,j,i,k _ _ (.inl rfl) e,c)
 | set S n=>let(g,j,i,t,e,c):=x;show(g,j,i,t,k _ _ (.inl rfl) e,c)
 | ins C dx fs=>
  let(d,z,B,e,s,(m,j,i,E,c),r):=x;show(ho _ d,z,B,k _ _ (.inl rfl) e,s,⟨m,j,i,k _ _ (.inr d) E,c⟩,r)
 | own y=>let(g,e):=x;show(g,k _ _ (.inl rfl) e)
 | xd fs=>let(s,(m,j,i,e,c),r):=x;show(s,⟨m,j,i,k _ _ (.inl rfl) e,c⟩,r)
 | rng lo hi=>let(t,u,v,e):=x;show(t,u,v,k _ _ (.inl rfl) e)
 | frz g u ih=>let(e,q):=x;show(k _ _ (.inl rfl) e,ih q)
 | tbl ps=>
  have e:h.get? a=some { cls:=.none,data:=.fields ps }:=x;show h'.get? a=some { cls:=.none,data:=.fields ps };show k a _ (.inl rfl) e
 | met f y=>
  have e:h.get? a=some (W.methodObj (.ref f) (.ref y)):=x;show h'.get? a=some (W.methodObj (.ref f) (.ref y));show k a _ (.inl rfl) e
 | ext φ=>let(p,(o,e),A):=x;show(A _ _ p λo q=>k _ _ (.inl rfl) q,⟨o,k _ _ (.inl rfl) e⟩,A)
theorem HOk.lt(x:HOk P w H h)(e:H a=some o):a<h.objs.size:=(x a o e).lt
theorem HOk.fresh(x:HOk P w H h)(e:h.objs.size<=a):H a=none:=by
 cases q:H a with
 | none=>rfl
 | some u=>show absurd (Nat.lt_of_lt_of_le (x.lt q) e) (Nat.lt_irrefl _)
theorem HOk.kept(x:HOk P w H h)(k:∀ b u,h.get? b=some u->h'.get? b=some u):HOk P w H h':=λa o e=>
 (x a o e).stay (λb u _ q=>k b u q) (λ_ q=>q) λ_ _ q=>q
theorem HOk.laid(x:HOk P w H h)(k:∀ b u,h.get? b=some u->h'.get? b=some u)(hp:h.objs.size<=a)(new:ObjOk P w (upd H a o) h' a o):HOk P w (upd H a o) h':=λb u e=>by
 have f:=x.fresh hp;by_cases d:b=a
 .subst d;rw[Jat]at e;cases e;show new
 .rw[Jai d]at e;show(x b u e).stay (λc v _ q=>k c v q) (λc q=>by rw[Jai (Jah q f)];show q) λc g q=>by rw[Jai (Jah q f)];show q
end
def Rd(H:Hp)(a:Addr)(u:HO):Prop:=H a=some u\/∃ o,H a=some (.frz o u)
variable{P:Program}{h:Heap}
theorem Rd.ok{w:World}(r:Rd H a u)(x:HOk P w H h):ObjOk P w H h a u:=by
 rcases r with r | ⟨o,r⟩
 .show x a u r
 .let(_,q):=x a _ r;show q
def Mut:Option HO->Prop
 | some (.lst _)=>True
 | some (.dK _)=>True
 | some (.dT _)=>True
 | some (.set _ _)=>True
 | some (.ins _ _ _)=>True
 | some (.ext _)=>True
 | _=>False
section
variable{h':Heap}{x e:Addr}{o':HO}{w:World}
theorem HOk.write(ok:HOk P w H h)(mu:Mut (H x))(he:e=x\/H e=some (.own x))(k:∀ b u,b≠e->h.get? b=some u->h'.get? b=some u)(heo:∃ u,h'.get? e=some u)
  (new:ObjOk P w (upd H x o') h' x o'):HOk P w (upd H x o') h':=λb u q=>by
 have d:∀ c y,H c=some (.own y)->c≠x:=λc y r z=>by subst z;rw[r]at mu;show mu
 have f:∀ c j,H c=some (.tup j)->c≠x:=λc j r z=>by subst z;rw[r]at mu;show mu
 by_cases g:b=x
 .subst g;rw[Jat]at q;cases q;show new
 .rw[Jai g]at q;by_cases a:b=e
  .have l:H b=some (.own x):=by
    rcases he with z | z
    .show absurd (a.trans z) g
    .rw[a];show z
   rw[q]at l;cases l;let(v,m):=heo;show(v,by rw[a];show m)
  .show(ok b u q).stay (λc v i r=>k c v ?_ r) (λc r=>by rw[Jai (d c b r)];show r) λc j r=>by rw[Jai (f c j r)];show r
   rcases i with rfl | i
   .show a
   .rintro rfl;rcases he with z | z
    .show d c b i z
    .rw[i]at z;cases z;show g rfl
end
structure Un(fs ex:List Addr)(H H':Hp)(h h':Heap):Prop where
 keep:∀ b o,h.get? b=some o->H b=none->b∉fs->b∉ex->h'.get? b=some o
 slot:∀ b o,h.get? b=some o->H b=none->b∈fs->b∉ex->∃ sl,h'.get? b=some { o with slots:=sl }
 free:∀ b o,h.get? b=some o->H b=none->b∉ex->H' b=none
 there:∀ b o,h.get? b=some o->b∉ex->∃ o',h'.get? b=some o'
 tups:∀ b xs,H b=some (.tup xs)->H' b=some (.tup xs)
 frzs:∀ b o u,H b=some (.frz o u)->H' b=some (.frz o u)
 tbls:∀ b ps,H b=some (.tbl ps)->∃ more,H' b=some (.tbl (ps++more))
section
variable{fs' ex ex':List Addr}{H1 H2:Hp}{h1 h2 h':Heap}{x e:Addr}{fs:List Addr}
theorem Un.any(u:Un fs ex H H1 h h1){b:Addr}{ob:Obj}(q:h.get? b=some ob)(n:H b=none)(hx:b∉ex):∃ sl,h1.get? b=some { ob with slots:=sl }:=by
 by_cases a:b∈fs
 .show u.slot b ob q n a hx
 .show(ob.slots,u.keep b ob q n a hx)
theorem Un.kept(k:∀ b u,h.get? b=some u->h'.get? b=some u):Un fs ex H H h h' :=
 ⟨λb a q _ _ _=>k b a q,λb a q _ _ _=>⟨a.slots,k b a q⟩,λ_ _ _ n _=>n,λb a q _=>⟨a,k b a q⟩,λ_ _ q=>q,λ_ _ _ q=>q,λ_ c q=>⟨#[],by rw[q];simp⟩⟩
theorem Un.refl:Un fs ex H H h h:=Un.kept λ_ _ q=>q
theorem Un.laid(k:∀ b u,h.get? b=some u->h'.get? b=some u)(hp:h.objs.size<=a)(hn:H a=none):Un fs ex H (upd H a o) h h' where
 keep:=λb u q _ _ _=>k b u q
 slot:=λb u q _ _ _=>⟨u.slots,k b u q⟩
 free:=λb u q n _=>by rw[Jai (Nat.ne_of_lt (Nat.lt_of_lt_of_le (Heap.lt_size q) hp))];show n
 there:=λb u q _=>⟨u,k b u q⟩
 tups:=λb c q=>by rw[Jai (Jah q hn)];show q
 frzs:=λb u c q=>by rw[Jai (Jah q hn)];show q
 tbls:=λb d q=>⟨#[],by rw[Jai (Jah q hn),q];simp⟩
theorem Un.write(mu:Mut (H x))(he:e=x\/H e=some (.own x))(k:∀ b u,b≠e->h.get? b=some u->h'.get? b=some u)(heo:∃ u,h'.get? e=some u):Un fs ex H (upd H x o) h h':=by
 have f:∀ b,H b=none->b≠x:=λb n z=>by subst z;rw[n]at mu;show mu
 have d:∀ b,H b=none->b≠e:=λb n z=>by
  subst z;rcases he with r | r
  .show f b n r
  .rw[n]at r;cases r
 have c:∀ b u,H b=some u->¬ Mut (some u)->b≠x:=λb u q g z=>by subst z;rw[q]at mu;show g mu
 show(λb u q n _ _=>k b u (d b n) q,λb u q n _ _=>⟨u.slots,k b u (d b n) q⟩,λb u q n _=>by rw[Jai (f b n)];show n,λb u q _=>?_,
  λb i q=>by rw[Jai (c b _ q λz=>z)];show q,λb u i q=>by rw[Jai (c b _ q λz=>z)];show q,λb j q=>⟨#[],by rw[Jai (c b _ q λz=>z),q];simp⟩)
 by_cases a:b=e
 .subst a;show heo
 .show(u,k b u a q)
end
def trk(h:Heap)(H:Hp):List Addr:=(List.range h.objs.size).filter λa=>(H a).isSome
def hidT(h:Heap)(H:Hp):Heap:=W.hideAll h (trk h H)
theorem JjV(h:Heap)(H:Hp):(hidT h H).objs.size=h.objs.size:=W.hideAll_size _ _
variable{o:Obj}
theorem Jk5(e:h.get? b=some o)(n:H b=none):(hidT h H).get? b=some o :=
 W.hideAll_get _ e λa=>by
  have q:(H b).isSome=true:=(List.mem_filter.mp a).2;rw[n]at q;simp at q
theorem JmL(e:(hidT h H).get? b=some o):h.get? b=some o/\H b=none:=by
 have a:h.get? b=some o:=W.of_hideAll (trk h H) e;show(a,?_);cases q:H b with
 | none=>rfl
 | some x=>
  have c:b∈trk h H:=List.mem_filter.mpr ⟨List.mem_range.mpr (Heap.lt_size a),by simp[q]⟩;have z:(hidT h H).get? b=none:=W.hideAll_none (trk h H) c;rw[z]at e;cases e
def Jml(g h:Heap)(L:Addr):List (Addr × Obj):=(List.range h.objs.size).filterMap λa=>if a=L\/(g.get? a).isSome=true then none else(h.get? a).map λo=>(a,o)
def rest(g h:Heap)(L d:Addr):List (Addr × Obj):=(Jml g h L).filter λp=>decide (p.1≠d)
structure Mod(K:W.Frag)(mg:Str->Option Value)(base:Heap):Prop where
 kin:K.In base
 glob:base.Ns mainGlobals mg
 blt:∃ mb,base.Ns builtinsNs mb/\∀ x:Str,x≠"__name__"->mb x=bootBuiltins x
 nolimit:base.NoLimit
set_option genInjectivity false in
structure Cx where
 prog:Program
 w:World
 K:W.Frag
 mg:Str->Option Value
 base:Heap
 A:Around
 N:List Str
 s₀ : Shared
 H₀ : Hp
 env:Env
 outer:List Env
 stack:List Env
 ex:List Addr
 fn:Str->Bool
 calm:Bool
 pn:List (Addr × Obj)
 xe:Value->Shared->Prop
def frs(l:List Env):List Addr:=l.filterMap (·.frame)
abbrev Cx.fs(X:Cx):List Addr:=frs X.outer
def Vis(sc:Scope)(x:Str):Prop:=sc.names.lookup x=some .local\/sc.names.lookup x=some .cell\/sc.names.lookup x=some .free
def Loc(sc:Scope)(x:Str):Prop:=sc.names.lookup x=some .local\/sc.names.lookup x=some .cell
def Look(env:Env)(h:Heap)(m:Str->Option Value)(x:Str)(u:Value):Prop :=
 (env.kindOf x=some .local/\m x=some u)\/((env.kindOf x=some .cell\/env.kindOf x=some .free)/\∃ c,env.cells.lookup x=some c/\h.IsCell c (some u))
structure Cx.Ok(X:Cx):Prop where
 mod:Mod X.K X.mg X.base
 kind:X.env.scope.kind=.function
 glob:X.env.globals=mainGlobals
 blt:X.env.builtins=builtinsNs
 above:X.s₀.heap.objs.size<=X.env.locals
 inj:∀ x y c,X.env.cells.lookup x=some c->X.env.cells.lookup y=some c->x=y
 has:∀ x,(X.env.kindOf x=some .cell\/X.env.kindOf x=some .free)->∃ c,X.env.cells.lookup x=some c
 cab:∀ x c,X.fn x=true->X.env.cells.lookup x=some c->X.s₀.heap.objs.size<=c
 hd:X.calm=true->X.A.handled=none
 frames:X.A.frames=some X.stack
 stk:X.stack=X.outer\/(X.stack=X.env::X.outer/\X.env.frame=some X.env.locals)
 exf:∀ b∈X.ex,b≠X.env.locals/\∀ x c,X.env.cells.lookup x=some c->c≠b
 bs:∀ b o,X.base.get? b=some o->X.s₀.heap.get? b=some o/\X.H₀ b=none
 bsz:X.base.objs.size<=X.s₀.heap.objs.size
 noex:∀ b o,X.base.get? b=some o->b∉X.ex
 exfs:∀ b∈X.ex,b∉X.fs
 funs:X.s₀.heap.FunFrames X.base X.outer
 frf:∀ b∈X.fs,X.H₀ b=none
structure Inv(X:Cx)(pins:List (Addr × Obj))(σ : List (Option V))(H:Hp)(s:Shared):Prop where
 ok:X.Ok
 os:s.os=X.s₀.os
 bare:AllBare s.gens
 base:Un X.fs X.ex X.H₀ H X.s₀.heap s.heap
 loc:∃ m,s.heap.Ns X.env.locals m/\∀(i:Nat)(x:Str)(v:V),X.N[i]?=some x->σ[i]?=some (some v)->Vis X.env.scope x->∃ u,RelV v u/\Look X.env s.heap m x u
 cell:∀ x c,X.env.cells.lookup x=some c->∃ v,s.heap.IsCell c v
 free:H X.env.locals=none
 freeC:∀ x c,X.env.cells.lookup x=some c->H c=none
 pin:∀ p∈X.pn++pins,s.heap.get? p.1=some p.2/\H p.1=none/\p.1≠X.env.locals/\p.1∉X.fs/\∀ v,p.2.data≠.cell v
 hok:HOk X.prog X.w H s.heap
 len : σ.length=X.N.length
variable{X:Cx}{pins:List (Addr × Obj)}{σ:List (Option V)}{H':Hp}{h':Heap}
theorem Cx.Ok.nofr(ok:X.Ok){b:Addr}{o:Obj}(e:X.base.get? b=some o):b∉X.fs:=λa=>by
 have:=(ok.funs.mem a).1;rw[e]at this;cases this
theorem Inv.bs(I:Inv X pins σ H s):∀ b o,X.base.get? b=some o->s.heap.get? b=some o/\H b=none:=λb o e=>
 ⟨I.base.keep b o (I.ok.bs b o e).1 (I.ok.bs b o e).2 (I.ok.nofr e) (I.ok.noex b o e),I.base.free b o (I.ok.bs b o e).1 (I.ok.bs b o e).2 (I.ok.noex b o e)⟩
theorem Inv.bk(I:Inv X pins σ H s):∀ b o,X.base.get? b=some o->s.heap.get? b=some o:=λb o e=>(I.bs b o e).1
theorem Inv.mod(I:Inv X pins σ H s):Mod X.K X.mg X.base:=I.ok.mod
theorem Inv.kIn(I:Inv X pins σ H s):X.K.In s.heap:=I.ok.mod.kin.keeps I.bk
theorem Inv.lt(I:Inv X pins σ H s):X.env.locals<s.heap.objs.size:=let⟨_,hn,_⟩:=I.loc;hn.lt
theorem Inv.sz(I:Inv X pins σ H s):X.s₀.heap.objs.size<=s.heap.objs.size:=Nat.le_trans I.ok.above (Nat.le_of_lt I.lt)
theorem Inv.nofs(I:Inv X pins σ H s){a:Addr}(h:s.heap.objs.size<=a):a∉X.fs:=λc=>by
 let(_,o,b,_):=I.ok.funs.mem c;show absurd (Nat.lt_of_lt_of_le (Heap.lt_size b) (Nat.le_trans I.sz h)) (Nat.lt_irrefl _)
theorem Inv.cne(I:Inv X pins σ H s):∀ x c,X.env.cells.lookup x=some c->c≠X.env.locals:=λx c e z=>by
 let(v,o,d,f):=I.cell x c e;let(m,(g,h,i,a,b,_),_):=I.loc;rw[z,a]at d;cases d;rw[b]at f;cases f
theorem Inv.funs(I:Inv X pins σ H s):s.heap.FunFrames X.base X.outer:=by
 have all:∀(l:List Env),(∀ b∈frs l,b∈X.fs)->X.s₀.heap.FunFrames X.base l->s.heap.FunFrames X.base l:=by
  intro l;induction l with
  | nil=>intro _ _;trivial
  | cons env r ih=>
   intro f j;let(h,(L,o,c,m,g,i),k):=j;have d:L∈X.fs:=f L (by unfold frs;rw[List.filterMap_cons,c];show mem_cons_self);let(n,e):=I.base.slot L o g (I.ok.frf L d) d λz=>I.ok.exfs L z d;show(h,⟨L,_,c,m,e,i⟩,ih (λb a=>f b (by unfold frs;rw[List.filterMap_cons,c];show mem_cons_of_mem _ a)) k)
 show all X.outer (λ_ a=>a) I.ok.funs
theorem Inv.stack(I:Inv X pins σ H s):s.heap.FunFrames X.base X.stack:=by
 rcases I.ok.stk with e | ⟨e,hf⟩
 .rw[e];show I.funs
 .rw[e];let(m,a,_):=I.loc;show .cons (by rw[I.ok.kind];decide) hf a ?_ I.funs;show Heap.get?_none_of_le (Nat.le_trans I.ok.bsz I.ok.above)
theorem Inv.stkSub(I:Inv X pins σ H s):∀ b∈frs X.stack,b∈X.env.locals::X.fs:=λb a=>by
 rcases I.ok.stk with e | ⟨e,hf⟩
 .rw[e]at a;show mem_cons_of_mem _ a
 .rw[e]at a;unfold frs at a;rw[List.filterMap_cons,hf]at a;show a
theorem Inv.stkFree(I:Inv X pins σ H s):∀ b∈frs X.stack,H b=none:=λb a=>by
 rcases mem_cons.mp (I.stkSub b a)with e | a
 .rw[e];show I.free
 .let(_,o,c,_):=I.ok.funs.mem a;show I.base.free b o c (I.ok.frf b a) λz=>I.ok.exfs b z a
variable{g':Array GenState}{t':Nat}{d':Drawn}{ch:List Addr}
theorem Inv.step(I:Inv X pins σ H s)
  (hch:∀ b∈ch,(b∈X.ex\/X.s₀.heap.objs.size<=b)/\b≠X.env.locals/\(∀ x c,X.env.cells.lookup x=some c->c≠b)/\∀ p∈X.pn++pins,p.1≠b)
  (keep:∀ b o,b≠X.env.locals->b∉X.fs->b∉ch->s.heap.get? b=some o->H b=none->h'.get? b=some o)
  (slot:∀ b o,b≠X.env.locals->b∈X.fs->b∉ch->s.heap.get? b=some o->H b=none->∃ sl,h'.get? b=some { o with slots:=sl }) (free:∀ b o,b∉ch->s.heap.get? b=some o->H b=none->H' b=none)
  (there:∀ b o,b∉ch->s.heap.get? b=some o->∃ o',h'.get? b=some o')
  (tups:∀ b xs,H b=some (.tup xs)->H' b=some (.tup xs)) (frzs:∀ b o u,H b=some (.frz o u)->H' b=some (.frz o u)) (tbls:∀ b ps,H b=some (.tbl ps)->∃ more,H' b=some (.tbl (ps++more)))
  (ns:∀ m,s.heap.Ns X.env.locals m->h'.Ns X.env.locals m) (hok:HOk X.prog X.w H' h') (hg:AllBare g') :
  Inv X pins σ H' { s with heap:=h',gens:=g',drawn:=d',toks:=t' }:=by
 have A:∀ b o,X.s₀.heap.get? b=some o->b≠X.env.locals:=λb o e=>Nat.ne_of_lt (Nat.lt_of_lt_of_le (Heap.lt_size e) I.ok.above);have j:∀ b o,X.s₀.heap.get? b=some o->b∉X.ex->b∉ch:=λb o e a t=>by
  rcases(hch b t).1 with z | z
  .show a z
  .show absurd (Nat.lt_of_lt_of_le (Heap.lt_size e) z) (Nat.lt_irrefl _)
 have f:∀ x c,X.env.cells.lookup x=some c->∀ v,s.heap.IsCell c v->h'.IsCell c v:=λx c e v ⟨o,y,C⟩=>by
  have g:c∉ch:=λz=>(hch c z).2.2.1 x c e rfl;by_cases F:c∈X.fs
  .let(sl,q):=slot c o (I.cne x c e) F g y (I.freeC x c e);show(_,q,C)
  .show(o,keep c o (I.cne x c e) F g y (I.freeC x c e),C)
 show(I.ok,I.os,hg,⟨λb o e n t a=>?_,λb o e n t a=>?_,λb o e n a=>?_,λb o e a=>?_,λb xs e=>tups b xs (I.base.tups b xs e),λb o xs e=>frzs b o xs (I.base.frzs b o xs e),λb ps e=>?_⟩,?_,λx c e=>?_,?_,λx c e=>?_,λp G=>?_,hok,I.len)
 .show keep b o (A b o e) t (j b o e a) (I.base.keep b o e n t a) (I.base.free b o e n a)
 .let(sl,h):=I.base.slot b o e n t a;let(D,B):=slot b _ (A b o e) t (j b o e a) h (I.base.free b o e n a);show(D,B)
 .let(o',h):=I.base.there b o e a;show free b o' (j b o e a) h (I.base.free b o e n a)
 .let(o',h):=I.base.there b o e a;show there b o' (j b o e a) h
 .let(N,h):=I.base.tbls b ps e;let(L,B):=tbls b _ h;show(N++L,by rw[B,Array.append_assoc])
 .let(m,O,K):=I.loc;show(m,ns m O,λi x v h B M=>?_);let(u,r,l):=K i x v h B M;show(u,r,?_);rcases l with l | ⟨k,c,e,z⟩
  .show .inl l
  .show .inr ⟨k,c,e,f x c e _ z⟩
 .let(v,z):=I.cell x c e;show(v,f x c e v z)
 .let(m,(o,_,_,y,_),_):=I.loc;show free _ o (λz=>(hch _ z).2.1 rfl) y I.free
 .let(v,o,y,C):=I.cell x c e;show free c o (λz=>(hch c z).2.2.1 x c e rfl) y (I.freeC x c e)
 .let(e,n,E,J,d):=I.pin p G;have g:p.1∉ch:=λz=>(hch p.1 z).2.2.2 p G rfl;show(keep p.1 p.2 E J g e n,free p.1 p.2 g e n,E,J,d)
theorem Inv.un(I:Inv X pins σ H s)(u:Un X.fs [] H H' s.heap h')(hok:HOk X.prog X.w H' h'):Inv X pins σ H' { s with heap:=h',toks:=t' }:=by
 let(m,(o,l,k,g,r),_):=id I.loc;let(p,j):=u.any g I.free (by simp);show I.step (g':=s.gens) (d':=s.drawn) (ch:=[]) (λ_ z=>nomatch z) (λb o _ c _ e n=>u.keep b o e n c (by simp)) (λb o _ c _ e n=>u.slot b o e n c (by simp)) (λb o _ e n=>u.free b o e n (by simp)) (λb o _ e=>u.there b o e (by simp)) u.tups u.frzs u.tbls (λq h=>by
  let(t,d,f,a,i):=h;rw[g]at a;cases a;show(_,d,f,j,i)) hok I.bare
theorem Inv.call(I:Inv X pins σ H s)(u:Un (frs X.stack) ch H H' s.heap h')(hok:HOk X.prog X.w H' h')(hg:AllBare g')
  (hch:∀ b∈ch,(b∈X.ex\/X.s₀.heap.objs.size<=b)/\b≠X.env.locals/\(∀ x c,X.env.cells.lookup x=some c->c≠b)/\∀ p∈X.pn++pins,p.1≠b) :
  Inv X pins σ H' { s with heap:=h',gens:=g',drawn:=d',toks:=t' }:=by
 let(m,(o,t,q,i,r),_):=id I.loc;let(v,g):=u.any i I.free λz=>(hch _ z).2.1 rfl;show I.step (ch:=ch) hch (λb o g j a e n=>u.keep b o e n (λz=>(mem_cons.mp (I.stkSub b z)).elim g j) a) (λb o _ _ a e n=>u.any e n a) (λb o a e n=>u.free b o e n a) (λb o a e=>u.there b o e a) u.tups u.frzs u.tbls (λy k=>by
  let(A,f,h,d,l):=k;rw[i]at d;cases d;show(_,f,h,g,l)) hok hg
variable{it:Addr}
theorem Inv.turned(I:Inv X pins σ H s)(k:∀ b o,b≠it->s.heap.get? b=some o->h'.get? b=some o)(hn:H it=none)(hL:it≠X.env.locals)
  (h1:it∈X.ex\/X.s₀.heap.objs.size<=it) (h2:∀ x c,X.env.cells.lookup x=some c->c≠it) (h3:∀ p∈X.pn++pins,p.1≠it):Inv X pins σ H { s with heap:=h',toks:=t' }:=by
 have d:∀ b u,H b=some u->b≠it:=λb u e z=>by rw[z,hn]at e;cases e
 show I.step (g':=s.gens) (d':=s.drawn) (ch:=[it]) (λb f=>?_) (λb o _ _ a e _=>k b o (λz=>a (by simp[z])) e) (λb o _ _ a e _=>⟨o.slots,k b o (λz=>a (by simp[z])) e⟩) (λ_ _ _ _ n=>n)
  (λb o a e=>⟨o,k b o (λz=>a (by simp[z])) e⟩) (λ_ _ e=>e) (λ_ _ _ e=>e) (λb l e=>⟨#[],by rw[e];simp⟩) (λm g=>?_) (λb u e=>?_) I.bare
 .have e:b=it:=by simpa using f
  subst e;show(h1,hL,h2,h3)
 .let(o,j,h,i,r):=g;show(o,j,h,k _ o (Ne.symm hL) i,r)
 .show(I.hok b u e).stay (λc v a q=>k c v ?_ q) (λ_ q=>q) λ_ _ q=>q;rcases a with z | z
  .rw[z];show d b u e
  .show d c _ z
theorem Inv.tok(I:Inv X pins σ H s)(t:Nat):Inv X pins σ H { s with toks:=t }:=I.un (h':=s.heap) (t':=t) Un.refl I.hok
theorem Inv.kept(I:Inv X pins σ H s)(k:∀ b u,s.heap.get? b=some u->h'.get? b=some u):Inv X pins σ H { s with heap:=h',toks:=t' }:=I.un (Un.kept k) (I.hok.kept k)
variable{o:HO}
theorem Inv.laid(I:Inv X pins σ H s)(k:∀ b u,s.heap.get? b=some u->h'.get? b=some u)(hp:s.heap.objs.size<=a)(new:ObjOk X.prog X.w (upd H a o) h' a o) :
  Inv X pins σ (upd H a o) { s with heap:=h',toks:=t' }:=I.un (Un.laid k hp (I.hok.fresh hp)) (I.hok.laid k hp new)
theorem Inv.write{x e:Addr}(I:Inv X pins σ H s)(mu:Mut (H x))(he:e=x\/H e=some (.own x))(k:∀ b u,b≠e->s.heap.get? b=some u->h'.get? b=some u)(heo:∃ u,h'.get? e=some u)
  (new:ObjOk X.prog X.w (upd H x o) h' x o):Inv X pins σ (upd H x o) { s with heap:=h',toks:=t' }:=I.un (Un.write mu he k heo) (I.hok.write mu he k heo new)
theorem Inv.pins_of{pins':List (Addr × Obj)}(I:Inv X pins σ H s)(h:∀ p∈pins',s.heap.get? p.1=some p.2/\H p.1=none/\p.1≠X.env.locals/\p.1∉X.fs/\∀ v,p.2.data≠.cell v):Inv X pins' σ H s :=
 ⟨I.ok,I.os,I.bare,I.base,I.loc,I.cell,I.free,I.freeC,λp a=>(mem_append.mp a).elim (λz=>I.pin p (mem_append_left _ z)) (h p),I.hok,I.len⟩
variable{N:List Str}
theorem Jf4(hN:N.Nodup){i j:Nat}{x:Str}(a:N[i]?=some x)(b:N[j]?=some x):i=j:=by
 let(e,c):=List.getElem?_eq_some_iff.mp a;let(f,d):=List.getElem?_eq_some_iff.mp b;show(List.getElem_inj hN).mp (c.trans d.symm)
variable{M:Model}{x:Str}{v:V}{u:Value}{Q:Unit->Shared->Prop}
theorem Jhg(I:Inv X pins σ H s)(hN:X.N.Nodup)(hi:X.N[i]?=some x)(hx:Loc X.env.scope x)(r:RelV v u)
  (h:∀ s',Inv X pins (σ.set i (some v)) H s'->(∃ a,Heap.SameBut a s.heap s'.heap/\(a=X.env.locals\/X.env.cells.lookup x=some a))->Q () s') (hf:autoParam (X.fn x=true\/X.env.scope.names.lookup x=some .local) Au):wpAny M A (storeName X.env x u) Q E s:=by
 let(m,hn,hl):=id I.loc;have L:(X.env.scope.kind == .class||(X.env.scope.kind == .module&&X.env.locals != X.env.globals))=false:=by rw[I.ok.kind];rfl
 have hiσ : i<σ.length:=by rw[I.len];show(List.getElem?_eq_some_iff.mp hi).1
 have J:=I.cne;have l:∀{a:Addr}{K:Heap},(∃ o,s.heap.get? a=some o/\H a=none)->Heap.SameBut a s.heap K->HOk X.prog X.w H K:=λ{a K} ha f b ob e=>by
  let(_,_,B):=ha;show(I.hok b ob e).stay (λc U t q=>(f.2 c ?_).trans q) (λ_ q=>q) λ_ _ q=>q;rintro rfl;rcases t with rfl | t
  .rw[B]at e;cases e
  .rw[B]at t;cases t
 rcases hx with hk | hk
 .show wpAny_storeName_local hk hn (λK a1 f=>?_) L;let(oL,_,_,a0,_):=id hn;show h _ ⟨I.ok,I.os,I.bare,⟨λb o e n D hx=>?_,λb o e n D hx=>?_,I.base.free,λb o e hx=>?_,I.base.tups,I.base.frzs,I.base.tbls⟩,⟨_,a1,λj y v' g C Y=>?_⟩,λy c e=>?_,I.free,I.freeC,λp hp=>?_,l ⟨oL,a0,I.free⟩ f,by simpa using I.len⟩ ⟨_,f, .inl rfl⟩
  .show(f.2 b (Nat.ne_of_lt (Nat.lt_of_lt_of_le (Heap.lt_size e) I.ok.above))).trans (I.base.keep b o e n D hx)
  .let(sl,g):=I.base.slot b o e n D hx;show(sl,(f.2 b (Nat.ne_of_lt (Nat.lt_of_lt_of_le (Heap.lt_size e) I.ok.above))).trans g)
  .let(o',g):=I.base.there b o e hx;show(o',(f.2 b (Nat.ne_of_lt (Nat.lt_of_lt_of_le (Heap.lt_size e) I.ok.above))).trans g)
  .by_cases G:j=i
   .subst G;rw[hi]at g;cases g;rw[List.getElem?_set_self hiσ]at C;cases C;show(u,r, .inl ⟨hk,by simp⟩)
   .rw[List.getElem?_set_ne (Ne.symm G)]at C;let(u',Z,q):=hl j y v' g C Y;show(u',Z,?_);rcases q with⟨k,e⟩ | ⟨k,c,e,z⟩
    .show .inl ⟨k,?_⟩;have : y≠x:=λe=>G (Jf4 hN g (e ▸ hi));simp[this,e]
    .show .inr ⟨k,c,e,z.sameBut f (J y c e)⟩
  .let(U,z):=I.cell y c e;show(U,z.sameBut f (J y c e))
  .let(e,n,T,nf,d):=I.pin p hp;show((f.2 p.1 T).trans e,n,T,nf,d)
 .have F:X.fn x=true:=by
   rcases hf with z | z
   .show z
   .rw[z]at hk;cases hk
  let(c,t):=I.ok.has x (.inl hk);let(U,z):=I.cell x c t;show wpAny_storeName_cell I.ok.kind hk t z (λK O f=>?_);let(oc,P,S):=id z;show h { s with heap:=K } ⟨I.ok,I.os,I.bare,⟨λb o e n D hx=>?_,λb o e n D hx=>?_,I.base.free,λb o e hx=>?_,I.base.tups,I.base.frzs,I.base.tbls⟩,⟨m,hn.sameBut f (Ne.symm (J x c t)),λj y v' g C Y=>?_⟩,λy W e=>?_,I.free,I.freeC,λp hp=>?_,l ⟨oc,P,I.freeC x c t⟩ f,by simpa using I.len⟩ ⟨c,f, .inr t⟩
  .show(f.2 b (Nat.ne_of_lt (Nat.lt_of_lt_of_le (Heap.lt_size e) (I.ok.cab x c F t)))).trans (I.base.keep b o e n D hx)
  .let(sl,g):=I.base.slot b o e n D hx;show(sl,(f.2 b (Nat.ne_of_lt (Nat.lt_of_lt_of_le (Heap.lt_size e) (I.ok.cab x c F t)))).trans g)
  .let(o',g):=I.base.there b o e hx;show(o',(f.2 b (Nat.ne_of_lt (Nat.lt_of_lt_of_le (Heap.lt_size e) (I.ok.cab x c F t)))).trans g)
  .by_cases G:j=i
   .subst G;rw[hi]at g;cases g;rw[List.getElem?_set_self hiσ]at C;cases C;show(u,r, .inr ⟨.inl hk,c,t,O⟩)
   .rw[List.getElem?_set_ne (Ne.symm G)]at C;let(u',Z,q):=hl j y v' g C Y;show(u',Z,?_);rcases q with q | ⟨k,W,e,z'⟩
    .show .inl q
    .show .inr ⟨k,W,e,z'.sameBut f ?_⟩;rintro rfl;show G (Jf4 hN g (I.ok.inj _ _ _ e t ▸ hi))
  .by_cases R:W=c
   .subst R;show(_,O)
   .let(w2,z2):=I.cell y W e;show(w2,z2.sameBut f R)
  .let(e,n,T,nf,d):=I.pin p hp;show((f.2 p.1 ?_).trans e,n,T,nf,d);intro q;rw[q,P]at e;have q':oc=p.2:=Option.some.inj e;show d U (by rw[<- q'];show S)
theorem Jd2(I:Inv X pins σ H s)(hN:X.N.Nodup)(hi:X.N[i]?=some x)(hx:Loc X.env.scope x)(r:RelV v u)
  (h:∀ s',Inv X pins (σ.set i (some v)) H s'->Q () s') (hf:autoParam (X.fn x=true\/X.env.scope.names.lookup x=some .local) Au):wpAny M A (storeName X.env x u) Q E s :=
 Jhg I hN hi hx r (λs' I' _=>h s' I') hf
variable{s':Shared}
theorem Inv.call'(I:Inv X pins σ H s)(ho:s'.os=s.os)(u:Un (frs X.stack) ch H H' s.heap s'.heap)(hok:HOk X.prog X.w H' s'.heap)(hg:AllBare s'.gens)
  (hch:∀ b∈ch,(b∈X.ex\/X.s₀.heap.objs.size<=b)/\b≠X.env.locals/\(∀ x c,X.env.cells.lookup x=some c->c≠b)/\∀ p∈X.pn++pins,p.1≠b):Inv X pins σ H' s':=by
 let(d,g',d',t',a):=s';have e:a=s.os:=ho;subst e;show I.call (g':=g') (t':=t') (d':=d') u hok hg hch
abbrev XK:=Value->Option Addr->Hp->Prop
abbrev St:=List (Option V)
abbrev VK:=V->Hp->Prop
abbrev TE:=St->Hp->VK->Prop
abbrev TT:=St->Hp->(Bool->Hp->Prop)->Prop
abbrev TA:=St->Hp->(List V->Hp->Prop)->Prop
structure Ends where
 nx:St->Hp->Prop
 rt:VK
 bk:St->Hp->Prop:=λ_ _=>False
 ct:St->Hp->Prop:=λ_ _=>False
abbrev TS:=Ends->St->Hp->Prop
def EP(X:Cx)(pins:List (Addr × Obj))(σ : St)(Q:VK)(u:Value)(s':Shared):Prop:=∃ v H',Inv X pins σ H' s'/\RelV v u/\Q v H'
def TP(X:Cx)(pins:List (Addr × Obj))(σ : St)(Q:Bool->Hp->Prop)(b:Bool)(s':Shared):Prop:=∃ H',Inv X pins σ H' s'/\Q b H'
def AP(X:Cx)(pins:List (Addr × Obj))(σ : St)(Q:List V->Hp->Prop)(us:List Value)(s':Shared):Prop:=∃ vs H',Inv X pins σ H' s'/\Vals vs us/\Q vs H'
def SP(X:Cx)(pins:List (Addr × Obj))(D:Ends)(f:Flow)(s':Shared):Prop :=
 match f with
 | .next=>∃ σ' H',Inv X pins σ' H' s'/\D.nx σ' H'
 | .brk=>∃ σ' H',Inv X pins σ' H' s'/\D.bk σ' H'
 | .cont=>∃ σ' H',Inv X pins σ' H' s'/\D.ct σ' H'
 | .ret u=>∃ v σ' H',Inv X pins σ' H' s'/\RelV v u/\D.rt v H'
def PE(X:Cx)(e:Expr)(t:TE):Prop :=
 ∀(pins:List (Addr × Obj))(s:Shared)(σ : St)(H:Hp)(Q:VK),Inv X pins σ H s->t σ H Q->wpAny (model X.prog X.w) X.A (eval e X.env) (EP X pins σ Q) X.xe s
def PT(X:Cx)(e:Expr)(t:TT):Prop :=
 ∀(pins:List (Addr × Obj))(s:Shared)(σ : St)(H:Hp)(Q:Bool->Hp->Prop),Inv X pins σ H s->t σ H Q->wpAny (model X.prog X.w) X.A (isTrue e X.env (eval e X.env)) (TP X pins σ Q) X.xe s
def PW(X:Cx)(e:Expr)(t:TT):Prop :=
 ∀(whole:Sem Value)(pins:List (Addr × Obj))(s:Shared)(σ : St)(H:Hp)(Q:Bool->Hp->Prop),Inv X pins σ H s->t σ H Q->wpAny (model X.prog X.w) X.A (isTrue e X.env whole) (TP X pins σ Q) X.xe s
variable{e:Expr}
theorem PW.pt{t:TT}(h:PW X e t):PT X e t:=h _
def PA(X:Cx)(es:List Expr)(t:TA):Prop :=
 ∀(pos:Pos)(pins:List (Addr × Obj))(s:Shared)(σ : St)(H:Hp)(Q:List V->Hp->Prop),Inv X pins σ H s->t σ H Q->wpAny (model X.prog X.w) X.A (spliced (backTo pos (starEach es X.env))) (AP X pins σ Q) X.xe s
def PS(X:Cx)(st:Stmt)(t:TS):Prop :=
 ∀(pins:List (Addr × Obj))(s:Shared)(σ : St)(H:Hp)(D:Ends),Inv X pins σ H s->t D σ H->wpAny (model X.prog X.w) X.A (exec st X.env) (SP X pins D) X.xe s
def PSs(X:Cx)(st:List Stmt)(t:TS):Prop :=
 ∀(pins:List (Addr × Obj))(s:Shared)(σ : St)(H:Hp)(D:Ends),Inv X pins σ H s->t D σ H->wpAny (model X.prog X.w) X.A (execs st X.env) (SP X pins D) X.xe s
theorem thn{α:Type}{t:Sem α}{Q Q' : α->Shared->Prop}(h:wpAny M A t Q E s)(hQ:∀ a s,Q a s->Q' a s):wpAny M A t Q' E s:=wpAny_mono h hQ λ_ _ x=>x
section
def tVar(i:Nat):TE:=λσ H Q=>∃ v,σ[i]?=some (some v)/\Q v H
def tC(v:V):TE:=λ_ H Q=>Q v H
variable{pos:Pos}
theorem JnW(hN:X.N[i]?=some x)(hv:Vis X.env.scope x)(hd:autoParam ((x == ("__debug__" : Str))=false) Au)(hcd:autoParam ((x == ("__classdict__" : Str))=false) Au):PE X (.Name x pos) (tVar i):=by
 intro b s σ H Q I h;let(v,e,h):=h;let(m,f,d):=I.loc;let(u,r,l):=d i x v hN e hv;have a:EP X b σ Q u s:=⟨v,H,I,r,h⟩;rcases l with⟨hk,hm⟩ | ⟨hk,c,hc,hcell⟩
 .show wpAny_Name (wpAny_loadName_local I.ok.kind hk f hm a) hd
 .rcases hk with hk | hk
  .show wpAny_Name (wpAny_loadName_cell I.ok.kind hk hc hcell a) hd
  .show wpAny_Name (wpAny_loadName_free I.ok.kind hk hc hcell a hcd) hd
theorem Jaf{i j pos}:PE X (.Constant (.int i) j pos) (tC (.int i)):=λ_ _ _ H _ I h=>wpAny_Constant_int ⟨.int i,H,I.tok _,⟨_,rfl⟩,h⟩
theorem pe_bl{b j pos}:PE X (.Constant (.bool b) j pos) (tC (.bl b)):=λ_ _ _ H _ I h=>Constant_bool ⟨.bl b,H,I,rfl,h⟩
theorem Jaz{j pos}:PE X (.Constant .none j pos) (tC .non):=λ_ _ _ H _ I h=>Constant_none ⟨.non,H,I,rfl,h⟩
theorem Jay{x j pos}:PE X (.Constant (.str x) j pos) (tC (.str x)):=λ_ _ _ H _ I h=>Calls.Constant_str ⟨.str x,H,I.tok _,⟨_,rfl⟩,h⟩
def Gl(X:Cx)(x:Str):Prop:=X.env.kindOf x=some .globalImplicit
variable{σ:St}{Q:Value->Shared->Prop}
theorem Jdq(I:Inv X pins σ H s)(hg:Gl X x)(hm:X.mg x=some u)(h:Q u s)
  (hd:autoParam ((x == ("__debug__" : Str))=false) Au):wpAny (model X.prog X.w) X.A (eval (.Name x pos) X.env) Q E s :=
 Calls.Name_function_global I.ok.kind hg (Calls.loadGlobal_global (by rw[I.ok.glob];show I.mod.glob.keeps I.bk) hm h) hd
theorem JcV(I:Inv X pins σ H s)(hg:Gl X x)(hm:X.mg x=none)(hv:bootBuiltins x=some u)(h:Q u s)
  (hn:autoParam (x≠"__name__") Au) (hd:autoParam ((x == ("__debug__" : Str))=false) Au):wpAny (model X.prog X.w) X.A (eval (.Name x pos) X.env) Q E s:=by
 let(c,a,b):=I.mod.blt;show Calls.Name_function_global I.ok.kind hg (Calls.loadGlobal_builtin (by rw[I.ok.glob];show I.mod.glob.keeps I.bk) hm (by rw[I.ok.blt];show a.keeps I.bk) ((b x hn).trans hv) h) hd
theorem Jb0(hg:Gl X x)(hm:X.mg x=some u)(r:RelV v u)(hd:autoParam ((x == ("__debug__" : Str))=false) Au):PE X (.Name x pos) (tC v) :=
 λ_ _ _ H _ I h=>Jdq I hg hm ⟨v,H,I,r,h⟩ hd
theorem JcZ(hg:Gl X x)(hm:X.mg x=none)(hv:bootBuiltins x=some u)(r:RelV v u)(hn:autoParam (x≠"__name__") Au)(hd:autoParam ((x == ("__debug__" : Str))=false) Au):PE X (.Name x pos) (tC v) :=
 λ_ _ _ H _ I h=>JcV I hg hm hv ⟨v,H,I,r,h⟩ hn hd
variable{a b:Expr}{ta tb:TE}
def PC(X:Cx)(op:CmpOp)(a b:Expr)(t:TE):Prop :=
 ∀(pins:List (Addr × Obj))(s:Shared)(σ : St)(H:Hp)(Q:VK),Inv X pins σ H s->t σ H Q ->
  wpAny (model X.prog X.w) X.A (eval a X.env) (λv s₁=>wpAny (model X.prog X.w) X.A (eval b X.env) (λu s₂=>wpAny (model X.prog X.w) X.A (compareOp op v u) (EP X pins σ Q) X.xe s₂) X.xe s₁) X.xe s
def tB(t:TE):TT:=λσ H Q=>t σ H λx H1=>∃ c,x=.bl c/\Q c H1
theorem JcG{op:CmpOp}{t:TE}(h:PC X op a b t)(h1:autoParam (behindInMarks op b=false) Au):PT X (.Compare a [op] [b] pos) (tB t):=by
 intro e s σ H Q I g;show wpAny_isTrue_Compare1 (thn (h e s σ H _ I g) λv n h1=>thn h1 λu l k=>thn k λc m ζ=>?_) h1;let(x,j,I1,f,i):=ζ;let(d,rfl,q):=i;cases f;show wpAny_truthy_bool ⟨j,I1,q⟩
theorem Ja8{t:TE}(h:PE X e t)(he:autoParam (∀ whole,isTrue e X.env whole=(do let v <- whole;standAt e.pos;holding [v] (truthy v))) Au):PT X e (tB t):=by
 intro a s σ H Q I c;show isTrue_plain (thn (h a s σ H _ I c) λv i ζ=>?_) (he _);let(x,g,I1,b,f):=ζ;let(d,rfl,q):=f;cases b;show wpAny_truthy_bool ⟨g,I1,q⟩
variable{tA tB':TT}{rest:List Expr}
def tAnd(t u:TT):TT:=λσ H Q=>t σ H λc H1=>if c=true then u σ H1 Q else Q false H1
def tOr(t u:TT):TT:=λσ H Q=>t σ H λc H1=>if c=true then Q true H1 else u σ H1 Q
def tNot(t:TT):TT:=λσ H Q=>t σ H λc H1=>Q (!c) H1
theorem JbR(ha:PT X a tA):PW X (.BoolOp .And [a] pos) tA:=by
 intro d b s σ H Q I h;show isTrue_and (thn (ha b s σ H Q I h) λc f e=>?_);cases c with
 | true=>show isTrue_and_nil e
 | false=>show e
theorem JbP(ha:PT X a tA):PW X (.BoolOp .Or [a] pos) tA:=by
 intro d b s σ H Q I h;show isTrue_or (thn (ha b s σ H Q I h) λc f e=>?_);cases c with
 | false=>show isTrue_or_nil e
 | true=>show e
theorem Jci(ha:PT X a tA)(hb:PW X (.BoolOp .And (b::rest) pos) tB'):PW X (.BoolOp .And (a::b::rest) pos) (tAnd tA tB'):=by
 intro g d s σ H Q I h;show isTrue_and (thn (ha d s σ H _ I h) λc i ζ=>?_);let(f,I1,e):=ζ;cases c with
 | true=>show hb g d i σ f Q I1 e
 | false=>show(f,I1,e)
theorem pw_or(ha:PT X a tA)(hb:PW X (.BoolOp .Or (b::rest) pos) tB'):PW X (.BoolOp .Or (a::b::rest) pos) (tOr tA tB'):=by
 intro g d s σ H Q I h;show isTrue_or (thn (ha d s σ H _ I h) λc i ζ=>?_);let(f,I1,e):=ζ;cases c with
 | true=>show(f,I1,e)
 | false=>show hb g d i σ f Q I1 e
theorem JbH(ha:PT X a tA):PT X (.UnaryOp .Not a pos) (tNot tA):=by
 intro b s σ H Q I h;show isTrue_not (ha b s σ H (λc d=>Q (!c) d) I h)
def tAndV(ta tb:TE):TE:=λσ H Q=>ta σ H λx H1=>∃ c,x=.bl c/\if c=true then tb σ H1 Q else Q (.bl false) H1
def tOrV(ta tb:TE):TE:=λσ H Q=>ta σ H λx H1=>∃ c,x=.bl c/\if c=true then Q (.bl true) H1 else tb σ H1 Q
def tNotV(ta:TE):TE:=λσ H Q=>ta σ H λx H1=>∃ c,x=.bl c/\Q (.bl (!c)) H1
theorem Jer{op}{t:TE}(h:PE X a t):PE X (.BoolOp op [a] pos) t:=λb s σ H Q I c=>BoolOp_one (h b s σ H Q I c)
theorem JdQ(ha:PE X a ta)(hb:PE X (.BoolOp .And (b::rest) pos) tb):PE X (.BoolOp .And (a::b::rest) pos) (tAndV ta tb):=by
 intro d s σ H Q I h;show BoolOp_and (thn (ha d s σ H _ I h) λv i ζ=>?_);let(x,f,I1,g,e):=ζ;let(c,rfl,e):=e;cases g;show wpAny_truthy_bool ?_;cases c with
 | true=>show hb d i σ f Q I1 e
 | false=>show(.bl false,f,I1,rfl,e)
theorem pe_or(ha:PE X a ta)(hb:PE X (.BoolOp .Or (b::rest) pos) tb):PE X (.BoolOp .Or (a::b::rest) pos) (tOrV ta tb):=by
 intro d s σ H Q I h;show BoolOp_or (thn (ha d s σ H _ I h) λv i ζ=>?_);let(x,f,I1,g,e):=ζ;let(c,rfl,e):=e;cases g;show wpAny_truthy_bool ?_;cases c with
 | false=>show hb d i σ f Q I1 e
 | true=>show(.bl true,f,I1,rfl,e)
theorem JiG(ha:PE X a ta):PE X (.UnaryOp .Not a pos) (tNotV ta):=by
 intro b s σ H Q I h;show UnaryOp_ (thn (ha b s σ H _ I h) λv g ζ=>?_);let(x,f,I1,e,d):=ζ;let(c,rfl,d):=d;cases e;show not_of (wpAny_truthy_bool ⟨.bl (!c),f,I1,rfl,d⟩)
def tIf(t:TT)(ta tb:TE):TE:=λσ H Q=>t σ H λc H1=>if c=true then ta σ H1 Q else tb σ H1 Q
variable{c:Expr}
theorem JcK(hc:PT X c tA)(ha:PE X a ta)(hb:PE X b tb):PE X (.IfExp c a b pos) (tIf tA ta tb):=by
 intro e s σ H Q I h;show wpAny_IfExp (thn (hc e s σ H _ I h) λd g ζ=>?_);let(i,I1,f):=ζ;cases d with
 | true=>show ha e g σ i Q I1 f
 | false=>show hb e g σ i Q I1 f
end
def SqL(K:W.Frag)(H:Hp)(a:Addr)(xs:List V):Prop :=
 Rd H a (.lst xs) \/
  ∃(o:Obj)(its:Array Value)(n:Nat),K.lookup a=some o/\o.cls=.type "list"/\o.dict=none/\o.data=.seq its n/\its.size<=sizeLine/\Vals xs its.toList
def SqT(K:W.Frag)(H:Hp)(a:Addr)(xs:List V):Prop :=
 Rd H a (.tup xs) \/
  ∃(o:Obj)(its:Array Value)(n:Nat),K.lookup a=some o/\o.cls=.type "tuple"/\o.data=.seq its n/\its.size<=sizeLine/\Vals xs its.toList
def absV:Value->Option V
 | .none=>some .non
 | .bool b=>some (.bl b)
 | .int i _=>some (.int i)
 | .str x _=>some (.str x)
 | .bytes b _=>some (.byt b)
 | .float b _=>some (.flt b)
 | .ref a=>some (.ref a)
 | .type n=>some (.ty n)
 | _=>none
variable{x:V}
theorem RelV.abs(r:RelV x u):absV u=some x:=by
 cases x with
 | non=>cases r;rfl
 | bl _=>cases r;rfl
 | int _=>let(t,rfl):=r;rfl
 | str _=>let(t,rfl):=r;rfl
 | byt _=>let(t,rfl):=r;rfl
 | flt _=>let(t,rfl):=r;rfl
 | ref _=>cases r;rfl
 | ty _=>cases r;rfl
theorem RelV.inj{y:V}(r:RelV x u)(q:RelV y u):x=y:=Option.some.inj (r.abs.symm.trans q.abs)
theorem Vals.inj(h:Vals xs us)(k:Vals ys us):xs=ys:=by
 induction h generalizing ys with
 | nil=>cases k;rfl
 | cons r _ ih=>
  cases k with
  | cons q s=>rw[r.inj q,ih s]
variable{σ:St}
theorem SqL.of{K:W.Frag}(h:H a=some (.lst xs)):SqL K H a xs:=.inl (.inl h)
theorem SqT.of{K:W.Frag}(h:H a=some (.tup xs)):SqT K H a xs:=.inl (.inl h)
theorem Inv.list(I:Inv X pins σ H s)(h:SqL X.K H a xs):∃ its:List Value,Vals xs its/\PlainL s.heap a its.toArray/\xs.length<=sizeLine:=by
 rcases h with h | ⟨o,its,n,hk,hc,hd,hs,hz,r⟩
 .let(z,its,n,r,e):=h.ok I.hok;show(its,r,⟨_,n,e,rfl,rfl,rfl⟩,z)
 .show(its.toList,r,⟨o,n,I.kIn a o hk,hc,hd,by simpa using hs⟩,?_);have e:=r.length;simp only[Array.length_toList]at e;ac_nf
theorem Inv.tuple(I:Inv X pins σ H s)(h:SqT X.K H a xs):∃ its:List Value,Vals xs its/\IsTup s.heap a its.toArray/\xs.length<=sizeLine:=by
 rcases h with h | ⟨o,its,n,hk,hc,hs,hz,r⟩
 .let(z,its,r,p):=h.ok I.hok;show(its,r,p,z)
 .show(its.toList,r,⟨o,I.kIn a o hk,hc,n,by simpa using hs⟩,?_);have e:=r.length;simp only[Array.length_toList]at e;ac_nf
theorem Inv.list_inj(I:Inv X pins σ H s)(h:SqL X.K H a xs)(h':SqL X.K H a ys):xs=ys:=by
 let(c,r,(o,n,e,_,_,d),_):=I.list h;let(b,i,(j,k,f,_,_,g),_):=I.list h';rw[e]at f;cases f;rw[d]at g;injection g with d1 _
 have : c=b:=by simpa using congrArg Array.toList d1
 subst this;show r.inj i
theorem Inv.tuple_inj(I:Inv X pins σ H s)(h:SqT X.K H a xs)(h':SqT X.K H a ys):xs=ys:=by
 let(c,r,(o,e,_,n,d),_):=I.tuple h;let(b,i,(j,f,_,k,g),_):=I.tuple h';rw[e]at f;cases f;rw[d]at g;injection g with d1 _
 have : c=b:=by simpa using congrArg Array.toList d1
 subst this;show r.inj i
abbrev Cx.wish(X:Cx)(E:Value->Shared->Prop):Cx:={ X with xe:=E }
abbrev Cx.nox(X:Cx):Cx:=X.wish λ_ _=>False
theorem Cx.Ok.wish(ok:X.Ok)(E:Value->Shared->Prop):(X.wish E).Ok :=
 ⟨ok.mod,ok.kind,ok.glob,ok.blt,ok.above,ok.inj,ok.has,ok.cab,ok.hd,ok.frames,ok.stk,ok.exf,ok.bs,ok.bsz,ok.noex,ok.exfs,ok.funs,ok.frf⟩
theorem Cx.Ok.unwish(ok:(X.wish E).Ok):X.Ok :=
 ⟨ok.mod,ok.kind,ok.glob,ok.blt,ok.above,ok.inj,ok.has,ok.cab,ok.hd,ok.frames,ok.stk,ok.exf,ok.bs,ok.bsz,ok.noex,ok.exfs,ok.funs,ok.frf⟩
theorem Inv.wish(I:Inv X pins σ H s)(E:Value->Shared->Prop):Inv (X.wish E) pins σ H s:=⟨I.ok.wish E,I.os,I.bare,I.base,I.loc,I.cell,I.free,I.freeC,I.pin,I.hok,I.len⟩
theorem Inv.unwish(I:Inv (X.wish E) pins σ H s):Inv X pins σ H s:=⟨I.ok.unwish,I.os,I.bare,I.base,I.loc,I.cell,I.free,I.freeC,I.pin,I.hok,I.len⟩
theorem SP.unwish{D:Ends}{f:Flow}(h:SP (X.wish E) pins D f s'):SP X pins D f s':=by
 cases f with
 | next=>let(σ',a,I,q):=h;show(σ',a,I.unwish,q)
 | brk=>let(σ',a,I,q):=h;show(σ',a,I.unwish,q)
 | cont=>let(σ',a,I,q):=h;show(σ',a,I.unwish,q)
 | ret u=>let(v,σ',a,I,r,q):=h;show(v,σ',a,I.unwish,r,q)
theorem PSs.nox{st:List Stmt}{t:TS}(h:PSs X.nox st t):PSs X st t:=λa s σ H D I b=>
 wpAny_mono (h a s σ H D (I.wish _) b) (λ_ _ q=>q.unwish) λ_ _ z=>False.elim z
section
variable{st:Stmt}{u:TS}{te:TE}{pos:Pos}{rest:List Stmt}{t:TS}
def tNext:TS:=λD σ H=>D.nx σ H
def tSeq(t u:TS):TS:=λD σ H=>t { D with nx:=u D } σ H
theorem Jap:PSs X [] tNext:=λ_ _ σ H _ I h=>wpAny_execs_nil ⟨σ,H,I,h⟩
theorem Jab(h1:PS X st t)(h2:PSs X rest u):PSs X (st::rest) (tSeq t u):=by
 intro a s σ H D I h;show wpAny_execs_cons (thn (h1 a s σ H { D with nx:=u D } I h) λf c q=>?_);cases f with
 | next=>
  let(σ',b,I',q):=q;show h2 a c σ' b D I' q
 | ret v=>show q
 | brk=>show q
 | cont=>show q
theorem Jae(h1:PS X st t):PSs X [st] t:=by
 intro a s σ H D I h;show wpAny_execs_cons (thn (h1 a s σ H D I h) λf b q=>?_);cases f with
 | next=>show wpAny_execs_nil q
 | ret v=>show q
 | brk=>show q
 | cont=>show q
theorem Inv.quiet(I:Inv X pins σ H s):interactive X.env=false:=by simp[interactive,I.ok.kind]
def tDrop(te:TE):TS:=λD σ H=>te σ H λ_ H1=>D.nx σ H1
theorem JaU(he:PE X e te)(hs:autoParam (swapsWith e none pos.line X.env=pure false) Au):PS X (.Expr e pos) (tDrop te):=by
 intro a s σ H D I h;show wpAny_Expr_any (thn (he a s σ H _ I h) λv f ζ=>by let(x,c,I1,d,b):=ζ;show(σ,c,I1,b)) I.quiet hs
def tRet(te:TE):TS:=λD σ H=>te σ H D.rt
theorem Jam(he:PE X e te):PS X (.Return (some e) pos) (tRet te):=by
 intro a s σ H D I h;show wpAny_Return_some (thn (he a s σ H _ I h) λv f ζ=>by let(x,d,I1,b,c):=ζ;show(x,σ,d,I1,b,c))
def tRetN:TS:=λD _ H=>D.rt .non H
def tIfS(c:TT)(t u:TS):TS:=λD σ H=>c σ H λb H1=>if b=true then t D σ H1 else u D σ H1
variable{c:Expr}{tc:TT}
theorem ps_if{a b:List Stmt}(hc:PT X c tc)(ha:PSs X a t)(hb:PSs X b u):PS X (.If c a b pos) (tIfS tc t u):=by
 intro e s σ H D I h;show wpAny_If (thn (hc e s σ H _ I h) λd g ζ=>?_);let(i,I1,f):=ζ;cases d with
 | true=>show ha e g σ i D I1 f
 | false=>show hb e g σ i D I1 f
end
abbrev TG:=V->St->Hp->(St->Hp->Prop)->Prop
abbrev TGs:=List V->St->Hp->(St->Hp->Prop)->Prop
def PG(X:Cx)(target:Expr)(t:TG):Prop :=
 ∀(pins:List (Addr × Obj))(s:Shared)(σ : St)(H:Hp)(v:V)(u:Value)(Q:St->Hp->Prop),Inv X pins σ H s->RelV v u->t v σ H Q ->
  wpAny (model X.prog X.w) X.A (assign target X.env u) (λ_ s'=>∃ σ' H',Inv X pins σ' H' s'/\Q σ' H') X.xe s
def PGs(X:Cx)(ts:List Expr)(t:TGs):Prop :=
 ∀(pins:List (Addr × Obj))(s:Shared)(σ : St)(H:Hp)(vs:List V)(us:List Value)(Q:St->Hp->Prop),Inv X pins σ H s->Vals vs us->t vs σ H Q ->
  wpAny (model X.prog X.w) X.A (assignInOrder ((assignEach ts X.env).map (·.2)) us) (λ_ s'=>∃ σ' H',Inv X pins σ' H' s'/\Q σ' H') X.xe s
abbrev TSet:=V->V->V->Hp->(Hp->Prop)->Prop
def PSet(X:Cx)(t:TSet):Prop :=
 ∀(pins:List (Addr × Obj))(s:Shared)(σ : St)(H:Hp)(o i v:V)(ov iv u:Value)(Q:Hp->Prop),Inv X pins σ H s->RelV o ov->RelV i iv->RelV v u->t o i v H Q ->
  wpAny (model X.prog X.w) X.A (setItem ov iv u) (λ_ s'=>∃ H',Inv X pins σ H' s'/\Q H') X.xe s
variable{pos:Pos}
def gName(i:Nat):TG:=λv σ H Q=>Q (σ.set i (some v)) H
variable{x:Str}
theorem Jas(i:Nat)(hN:X.N.Nodup)(hi:autoParam (X.N[i]?=some x) Au)(hx:autoParam (Loc X.env.scope x) Au)(hf:autoParam (X.fn x=true\/X.env.scope.names.lookup x=some .local) Au):PG X (.Name x pos) (gName i):=by
 intro a s σ H v u Q I r h;show wpAny_assign_Name (Jd2 I hN hi hx r (λb I'=>⟨_,H,I',h⟩) hf)
def gNil:TGs:=λvs σ H Q=>vs=[]/\Q σ H
def gCons(t:TG)(u:TGs):TGs:=λvs σ H Q=>∃ v r,vs=v::r/\t v σ H λσ' H'=>u r σ' H' Q
theorem JcL:PGs X [] gNil:=by
 intro a s σ H b c Q I r h;let(e,h):=h;subst e;cases r;show assignInOrder_nil ⟨σ,H,I,h⟩
variable{es:List Expr}
theorem JaA{t:TG}{u:TGs}(h1:PG X e t)(h2:PGs X es u)
  (hs:autoParam ((assignEach (e::es) X.env).map (·.2)=assign e X.env::(assignEach es X.env).map (·.2)) Au):PGs X (e::es) (gCons t u):=by
 intro a s σ H g j Q I r h;let(v,i,c,h):=h;subst c;cases r with
 | cons r rr=>
  rw[hs];show assignInOrder_cons (thn (h1 a s σ H _ _ _ I r h) λ_ d ζ=>?_);let(σ1,f,I1,b):=ζ;show h2 a d σ1 f _ _ Q I1 rr b
def gTup(K:W.Frag)(n:Nat)(t:TGs):TG:=λv σ H Q=>∃ a xs,v=.ref a/\SqT K H a xs/\xs.length=n/\t xs σ H Q
theorem Je6{k:Nat}{t:TGs}{n:Nat}(hc:X.calm=true)(h:PGs X es t)
  (hn:autoParam ((assignEach es X.env).length=n) Au) (hst:autoParam ((assignEach es X.env).findIdx? (·.1)=none) Au):PG X (.Tuple es k pos) (gTup X.K n t):=by
 intro c s σ H v u Q I r d;let(a,j,m,g,i,d):=d;subst m;cases r;let(p,f,w,x):=I.tuple g;show assign_Tuple_tuple (I.ok.hd hc) w (by simp[hn, <- i,f.length]) hst λq l=>?_;have I1:Inv X c σ H { s with heap:=q }:=I.kept (t':=s.toks) λb o e=>l b o (Nat.ne_of_lt (Heap.lt_size e)) e;show h c _ σ H j _ Q I1 (by simpa using f) d
def gSub(to ti:TE)(t:TSet):TG:=λv σ H Q=>to σ H λo H1=>ti σ H1 λi H2=>t o i v H2 λH3=>Q σ H3
theorem Jl4{o i:Expr}{to ti:TE}{t:TSet}(ho:PE X o to)(hi:PE X i ti)(hs:PSet X t)
  (ha:autoParam (∀ v,assign (.Subscript o i pos) X.env v=(do
   let ov <- holding [v] (eval o X.env)
   let iv <- holding [v,ov] (eval i X.env)
   standAt pos
   holding [v,ov,iv] (setItem ov iv v)
   release [v,ov,iv] [])) Au):PG X (.Subscript o i pos) (gSub to ti t):=by
 intro a s σ H v u Q I r h;rw[ha];show wpAny_bind (wpAny_holding (thn (ho a s σ H _ I h) λov m ζ=>?_));let(x,k,I1,b,f):=ζ;show wpAny_bind (wpAny_holding (thn (hi a m σ k _ I1 f) λiv c ζ=>?_));let(y,e,I2,l,d):=ζ;show wpAny_bind (wpAny_standAt (wpAny_bind (wpAny_holding (thn (hs a c σ e x y v ov iv u _ I2 b l r d) λ_ n ⟨j,I3,g⟩=>?_))));show wpAny_release ⟨σ,j,I3,g⟩
def tAsg(te:TE)(g:TG):TS:=λD σ H=>te σ H λx H1=>g x σ H1 D.nx
variable{tg:Expr}{te:TE}
theorem Jkp{g:TG}(he:PE X e te)(hg:PG X tg g)(hs:autoParam (swapsWithSole [tg] e pos.line X.env=pure false) Au)(hw:autoParam (swappedStores [tg] e X.env=pure none) Au)
  (h1:autoParam ((assignEach [tg] X.env).map (·.2)=[assign tg X.env]) Au):PS X (.Assign [tg] e pos) (tAsg te g):=by
 intro a s σ H D I h;show wpAny_Assign_stores (thn (he a s σ H _ I h) λv d ζ=>?_) hs hw;let(x,f,I1,b,c):=ζ;rw[h1];show thn (hg a d σ f x v _ I1 b c) λ_ i q=>q
variable{pos':Pos}
theorem Jaj(i:Nat)(hN:X.N.Nodup)(he:PE X e te)(hi:autoParam (X.N[i]?=some x) Au)(hx:autoParam (Loc X.env.scope x) Au)(hs:autoParam (swapsWith e (some (.Name x pos')) pos.line X.env=pure false) Au)(hf:autoParam (X.fn x=true\/X.env.scope.names.lookup x=some .local) Au) :
  PS X (.Assign [.Name x pos'] e pos) (tAsg te (gName i)):=by
 intro a s σ H D I h;show wpAny_Assign_Name (thn (he a s σ H _ I h) λv g ζ=>?_) hs;let(y,d,I1,b,c):=ζ;show Jd2 I1 hN hi hx b (λf I2=>⟨_,d,I2,c⟩) hf
def tPar(i j:Nat)(ta:TA):TS:=λD σ H=>ta σ H λvs H1=>∃ v w,vs=[v,w]/\D.nx ((σ.set i (some v)).set j (some w)) H1
variable{a:Expr}{ta:TA}
theorem JnY{j:Nat}{y:Str}{b:Expr}{px py pt:Pos}{kt k2 pt2}(hc:X.calm=true)(hN:X.N.Nodup)(hi:X.N[i]?=some x)(hj:X.N[j]?=some y)(hij:i≠j)
  (hx:X.env.scope.names.lookup x=some .local) (hy:X.env.scope.names.lookup y=some .local) (ha:PA X [a,b] ta)
  (hw:swappedStores [.Tuple [.Name x px, .Name y py] kt pt] (.Tuple [a,b] k2 pt2) X.env=pure (some [x,y]))
  (hs:autoParam (swapsWithSole [.Tuple [.Name x px, .Name y py] kt pt] (.Tuple [a,b] k2 pt2) pos.line X.env=pure false) Au) :
  PS X (.Assign [.Tuple [.Name x px, .Name y py] kt pt] (.Tuple [a,b] k2 pt2) pos) (tPar i j ta):=by
 intro c s σ H D I h;rw[exec_Assign_arm];show wpAny_bind (wpAny_standAt ?_);rw[hs];show wpAny_bind (wpAny_pure ?_);rw[if_neg ⋯];show wpAny_bind (Tuple_ (thn (ha _ c s σ H _ I h) λz f ζ=>?_));let(E,n,I1,r,l):=ζ;let(v,w,t,l):=l;subst t;obtain⟨d,g,rfl,u,k⟩:∃ d g,z=[d,g]/\RelV v d/\RelV w g:=by
  cases r with
  | cons p q=>
   cases q with
   | cons p' q'=>
    cases q';show(_,_,rfl,p,p')
 show wpAny_newObj_type ?_ (by show 2<=sizeLine;decide);have I2:Inv X c σ n { f with heap:=f.heap.push { cls:=.type "tuple",data:=.seq [d,g].toArray } }:=I1.kept (t':=f.toks) λb o e=>Heap.get?_push_of_some _ e;rw[hw];show wpAny_bind (wpAny_pure ?_);show wpAny (model X.prog X.w) X.A (do rule "assign.swapped-stores";let items <- unpackItems (.ref f.heap.objs.size) 2 none;assignInOrder [λv=>bindName X.env y v,λv=>bindName X.env x v] items.reverse;pure Flow.next) _ _ _;show wpAny_bind (wpAny_rule (wpAny_bind (unpackItems_tuple (items:=#[d,g]) (I.ok.hd hc) (IsTup.new f.heap _) λh' m=>?_)));have I3:=I2.kept (h':=h') (t':=f.toks) λb o e=>m b o (Nat.ne_of_lt (Heap.lt_size e)) e;show wpAny _ _ (assignInOrder [λv=>bindName X.env y v,λv=>bindName X.env x v] [g,d] >>= λ_=>pure Flow.next) _ _ _;show wpAny_bind (assignInOrder_cons (wpAny_bindName (Jd2 I3 hN hj (.inl hy) k (λB I4=>?_) (.inr hy))));show assignInOrder_cons (wpAny_bindName (Jd2 I4 hN hi (.inl hx) u (λC I5=>assignInOrder_nil (wpAny_pure ?_)) (.inr hx)));rw[List.set_comm _ _ (Ne.symm hij)]at I5;show(_,n,I5,l)
def Joe(c:TT)(tb:TS):TS:=λD σ H=>∃ W:Nat->St->Hp->Prop,(∃ m,W m σ H)/\∀ m σ H,W m σ H ->
 c σ H λb H1=>if b=true then∃ N:St->Hp->Prop,(∀ σ' H',N σ' H'->∃ m',m'<m/\W m' σ' H')/\tb { D with nx:=N,ct:=N,bk:=D.nx } σ H1 else D.nx σ H1
variable{c:Expr}{body:List Stmt}{tb:TS}
theorem JdV{tc:TT}(hp:PassesOwn (model X.prog X.w) X.A X.env X.xe)(hc:PT X c tc)(hb:PSs X body tb):PS X (.While c body [] pos) (Joe tc tb):=by
 intro a s σ H D I h;let(W,(y,u),d):=h;show wpAny_While (codeAny_whileLoop (λn t=>∃ σ' H',Inv X a σ' H' t/\W n σ' H') ?_ y ⟨σ,H,I,u⟩);rintro n z ⟨σ1,p,I1,x⟩;show wpAny_passesOwn hp (thn (hc a z σ1 p _ I1 (d n σ1 p x)) λb r ζ=>?_);let(o,I2,g):=ζ;cases b with
 | true=>
  let(N,q,g):=g;rw[if_pos rfl];show wpAny_passesOwn hp (thn (hb a r σ1 o _ I2 g) λf B i=>?_);cases f with
  | next=>
   let(σ3,e,I3,m):=i;let(l,j,k):=q σ3 e m;show(l,j,σ3,e,I3,k)
  | cont=>
   let(σ3,e,I3,m):=i;let(l,j,k):=q σ3 e m;show(l,j,σ3,e,I3,k)
  | brk=>show i
  | ret v=>show i
 | false=>
  rw[if_neg Bool.false_ne_true];show wpAny_execs_nil ⟨σ1,o,I2,g⟩
structure It where
 go:Nat->Hp->Prop
 yld:Nat->Hp->V->Hp->Prop
 stop:Nat->Hp->Prop
def FpOk(X:Cx)(pins:List (Addr × Obj))(H:Hp)(b:Addr):Prop :=
 H b=none/\b≠X.env.locals/\b∉X.fs/\(b∈X.ex\/X.s₀.heap.objs.size<=b)/\(∀ x c,X.env.cells.lookup x=some c->c≠b)/\∀ p∈X.pn++pins,p.1≠b
theorem Inv.fpOk(I:Inv X pins σ H s)(hb:s.heap.objs.size<=b)(hn:H' b=none):FpOk X pins H' b:=by
 show(hn,Nat.ne_of_gt (Nat.lt_of_lt_of_le I.lt hb),I.nofs hb, .inr (Nat.le_trans I.sz hb),λx c e z=>?_,λp a z=>?_)
 .let(v,q):=I.cell x c e;show absurd (Nat.lt_of_lt_of_le q.lt (by rw[z];show hb)) (Nat.lt_irrefl _)
 .show absurd (Nat.lt_of_lt_of_le (Heap.lt_size (I.pin p a).1) (by rw[z];show hb)) (Nat.lt_irrefl _)
structure Turn(P:Program)(w:World)(K:W.Frag)(tg:Expr)(J:It)(fp:List Addr)(it:Addr)(tn:Nat->Heap->Prop):Prop where
 mem:it∈fp
 obj:∀ i h,tn i h->∀ b∈fp, ∃ o,h.get? b=some o/\∀ v,o.data≠.cell v
 keep:∀ i h h',tn i h->(∀ b∈fp, ∀ o,h.get? b=some o->h'.get? b=some o)->tn i h'
 item:∀(X:Cx),X.prog=P->X.w=w->X.K=K->X.calm=true->∀(i:Nat)(pins:List (Addr × Obj))(s:Shared)(σ : St)(H:Hp)(E:Value->Shared->Prop),Inv X pins σ H s->(∀ b∈fp,FpOk X pins H b)->tn i s.heap->J.go i H ->
  wpAny (model P w) X.A (pyNext (.ref it)) (λr s1=>∃ u,r=some u /\
   wpAny (model P w) X.A (letOwnedTupleGo tg (.ref it) u) (λ_ s2=>∃ x H',Inv X pins σ H' s2/\RelV x u/\J.yld i H x H'/\tn (i+1) s2.heap/\∀ b∈fp,H' b=none) E s1) E s
 done:∀(X:Cx),X.prog=P->X.w=w->X.K=K->X.calm=true->∀(i:Nat)(pins:List (Addr × Obj))(s:Shared)(σ : St)(H:Hp)(E:Value->Shared->Prop),Inv X pins σ H s->(∀ b∈fp,FpOk X pins H b)->tn i s.heap->J.stop i H ->
  wpAny (model P w) X.A (pyNext (.ref it)) (λr s1=>r=none/\Inv X pins σ H s1) E s
 self:∀(A:Around)(i:Nat)(s:Shared)(Q:Value->Shared->Prop)(E:Value->Shared->Prop),tn i s.heap->Q (.ref it) s->wpAny (model P w) A (pyIter (.ref it)) Q E s
abbrev TI:=St->Hp->(It->Hp->Prop)->Prop
def PIE(X:Cx)(pins:List (Addr × Obj))(σ : St)(tg:Expr)(R:It->Hp->Prop)(itv:Value)(s2:Shared):Prop :=
 ∃(it:Addr)(fp:List Addr)(tn:Nat->Heap->Prop)(J:It)(H':Hp),itv=.ref it/\Inv X pins σ H' s2/\Turn X.prog X.w X.K tg J fp it tn/\tn 0 s2.heap/\(∀ b∈fp,FpOk X pins H' b)/\R J H'
def PI(X:Cx)(tg iter:Expr)(wi:TI):Prop :=
 ∀(pins:List (Addr × Obj))(s:Shared)(σ : St)(H:Hp)(R:It->Hp->Prop),Inv X pins σ H s->wi σ H R ->
  wpAny (model X.prog X.w) X.A (eval iter X.env) (λv s1=>wpAny (model X.prog X.w) X.A (pyIter v) (PIE X pins σ tg R) X.xe s1) X.xe s
variable{o:Obj}
theorem go_of{n:String}{vs:Array Value}(ho:s.heap.get? it=some o)(hc:o.cls=.type n)(hd:o.data=.fields vs)
    (hn:["enumerate","zip","dict_itemiterator","dict_reverseitemiterator","odict_iterator","itertools.zip_longest","itertools.pairwise"].contains n=false) (hQ:Q () s):wpAny M A (letOwnedTupleGo tg (.ref it) u) Q E s:=by
  unfold letOwnedTupleGo;cases tg <;> first
    | show wpAny_pure hQ
    | (cases u <;> first
        | show wpAny_pure hQ
        | (show wpAny_bind (wpAny_load ho ?_)
           rw[hc,hd];show wpAny M A (if(["enumerate","zip","dict_itemiterator","dict_reverseitemiterator","odict_iterator","itertools.zip_longest","itertools.pairwise"].contains n&&vs[0]? == some (rawInt _))=true then _ else _) Q E s;rw[if_neg (by intro h;rw[hn,Bool.false_and]at h;cases h)];show wpAny_pure hQ))
def Itl(K:W.Frag)(a:Addr):It :=
 ⟨λi H=>∃ xs x,SqL K H a xs/\xs[i]?=some x,λi H x H'=>H'=H/\∀ xs,SqL K H a xs->xs[i]?=some x,λi H=>∃ xs,SqL K H a xs/\xs.length<=i⟩
def Itt(K:W.Frag)(a:Addr):It :=
 ⟨λi H=>∃ xs x,SqT K H a xs/\xs[i]?=some x,λi H x H'=>H'=H/\∀ xs,SqT K H a xs->xs[i]?=some x,λi H=>∃ xs,SqT K H a xs/\xs.length<=i⟩
def Itr(lo:Int)(n:Nat):It:=⟨λi _=>i<n,λi H x H'=>H'=H/\x=.int (lo+i),λi _=>n<=i⟩
theorem JkJ{w:World}{K:W.Frag}(a it:Addr):Turn P w K tg (Itl K a) [it] it (λi h=>h.IsListIter it a i) where
 mem:=by simp
 obj:=λi h f b j=>by
  have e:b=it:=by simpa using j
  subst e;let(o,e,c,d):=f;show(o,e,λv z=>by rw[d]at z;cases z)
 keep:=λi h q f k=>f.at λo e=>k it (by simp) o e
 item:=by
  intro X t y hK M i g s σ H E I n f r;subst t y hK;let(Q,x,m,B):=r;let(J,G,p,O):=I.list m;let(u,R,V):=G.get B;let(A,D,S,F,C,L):=n it (by simp);show wpAny_pyNext_list_item f p.isList (x:=u) (by simpa using R) λq l N=>?_;have I1:Inv X g σ H { s with heap:=q }:=I.turned (t':=s.toks) (λb o j e=>(N.2 b j).trans e) A D F C L;let(o,e,c,d):=id l;show(u,rfl,go_of (s:={ s with heap:=q }) e c d ⋯ ⟨x,H,I1,V,⟨rfl,λY U=>by rw[I.list_inj U m];show B⟩,l,λb j=>(n b j).1⟩)
 done:=by
  intro X t y hK M i g s σ H E I n f r;subst t y hK;let(Q,m,B):=r;let(J,G,p,O):=I.list m;let(A,D,S,F,C,L):=n it (by simp);have Z:=G.length;show wpAny_pyNext_list_end (I.ok.hd M) f p.isList (by simp;ac_nf) λq T=>⟨rfl,I.turned (t':=s.toks) (λb o j e=>T b o j e) A D F C L⟩
 self:=λ_ _ _ _ _ f h=>wpAny_pyIter_listiter f h
theorem Jjl{w:World}{K:W.Frag}(a it:Addr):Turn P w K tg (Itt K a) [it] it (λi h=>h.IsTupleIter it a i) where
 mem:=by simp
 obj:=λi h f b j=>by
  have e:b=it:=by simpa using j
  subst e;let(o,e,c,d):=f;show(o,e,λv z=>by rw[d]at z;cases z)
 keep:=λi h r f k=>f.at λo e=>k it (by simp) o e
 item:=by
  intro X y A hK M i g s σ H E I q f t;subst y A hK;let(Q,x,n,C):=t;let(l,J,p,O):=I.tuple n;let(u,R,V):=J.get C;let(B,F,S,G,D,L):=q it (by simp);show wpAny_pyNext_tuple_item f (show s.heap.IsTuple a l.toArray from p) (x:=u) (by simpa using R) λr m N=>?_;have I1:Inv X g σ H { s with heap:=r }:=I.turned (t':=s.toks) (λb o j e=>(N.2 b j).trans e) B F G D L;let(o,e,c,d):=id m;show(u,rfl,go_of (s:={ s with heap:=r }) e c d ⋯ ⟨x,H,I1,V,⟨rfl,λY U=>by rw[I.tuple_inj U n];show C⟩,m,λb j=>(q b j).1⟩)
 done:=by
  intro X y A hK M i g s σ H E I q f t;subst y A hK;let(Q,n,C):=t;let(l,J,p,O):=I.tuple n;let(B,F,S,G,D,L):=q it (by simp);have Z:=J.length;show wpAny_pyNext_tuple_end (I.ok.hd M) f (show s.heap.IsTuple a l.toArray from p) (by simp;ac_nf) λr T=>⟨rfl,I.turned (t':=s.toks) (λb o j e=>T b o j e) B F G D L⟩
 self:=λ_ _ _ _ _ f h=>wpAny_pyIter_tupleiter f h
theorem Jjk{w:World}{K:W.Frag}(it:Addr)(lo:Int)(n:Nat):Turn P w K tg (Itr lo n) [it] it (λi h=>IsRangeIter h it (lo+(i:Nat)*1) ((n:Int)-(i:Nat)) 1) where
 mem:=by simp
 obj:=λi h a b d=>by
  have e:b=it:=by simpa using d
  subst e;show(_,a,λv z=>by
   have C:Data.fields _=Data.cell v:=z;cases C)
 keep:=λi h j a k=>k it (by simp) _ a
 item:=by
  intro X m q hK p i c s σ H E I g a l;subst m q hK;let(r,x,G,y,u,A):=g it (by simp);have W:=Walks.range (prog:=X.prog) (w:=X.w) (I.ok.hd p) it lo 1 n;show W.item i s _ _ l a λv j B F f D=>?_;let(t,rfl):=F;have I1:Inv X c σ H { s with heap:=j,toks:=B }:=I.turned (λb o d e=>D b o (by simpa using d) e) r x y u A;show(_,rfl,go_of (s:={ s with heap:=j,toks:=B }) (n:="range_iterator") f rfl rfl ⋯ ⟨.int (lo+i),H,I1,⟨t,?_⟩,⟨rfl,rfl⟩,f,λb d=>(g b d).1⟩);rw[Int.mul_one]
 done:=by
  intro X m q hK p i c s σ H E I g a l;subst m q hK;let(r,x,G,y,u,A):=g it (by simp);show wpAny_pyNext_range_end (I.ok.hd p) a (by have : n<=i:=l;ac_nf) λj J=>⟨rfl,I.turned (t':=s.toks) (λb o d e=>J b o d e) r x y u A⟩
 self:=λ_ _ _ _ _ a h=>wpAny_pyIter_rangeiter a h
theorem Jlv{R:It->Hp->Prop}{lo hi:Int}{t u v:Tok}{tk:Nat}(I:Inv X pins σ H s)(h1 : -(2 ^ 62)<=lo)(h2:lo<2 ^ 62)(h3 : -(2 ^ 62)<=hi)(h4:hi<2 ^ 62)
  (q:R (Itr lo (hi-lo).toNat) H):wpAny (model X.prog X.w) X.A (pyIter (.ref s.heap.objs.size)) (PIE X pins σ tg R) E { s with heap:=s.heap.push { cls:=.type "range",data:=.fields #[.int lo t, .int hi u, .int 1 v] },toks:=tk }:=by
 show wpAny_pyIter_range (IsRange.new ..) (small_one h1 h2 h3 h4) ?_;have I1:Inv X pins σ H { s with heap:=s.heap.push { cls:=.type "range",data:=.fields #[.int lo t, .int hi u, .int 1 v] },toks:=tk }:=I.kept λb o e=>Heap.get?_push_of_some _ e;show((s.heap.push { cls:=.type "range",data:=.fields #[.int lo t, .int hi u, .int 1 v] }).objs.size,[(s.heap.push { cls:=.type "range",data:=.fields #[.int lo t, .int hi u, .int 1 v] }).objs.size],_,_,H,rfl,
  I1.kept (t':=tk) λb o e=>Heap.get?_push_of_some _ e,Jjk _ lo (hi-lo).toNat,?_,λb a=>?_,q)
 .have d:lo+((0:Nat):Int)*1=lo:=by simp
  have c:(((hi-lo).toNat:Nat):Int)-((0:Nat):Int)=Builtin.Range.rangeSize lo hi 1:=by rw[rangeSize_one];split <;> ac_nf
  show IsRangeIter _ _ (lo+((0:Nat):Int)*1) ((((hi-lo).toNat:Nat):Int)-((0:Nat):Int)) 1;rw[d,c];show Heap.get?_push_size _ rfl
 .have e:b=(s.heap.push { cls:=.type "range",data:=.fields #[.int lo t, .int hi u, .int 1 v] }).objs.size:=by simpa using a
  subst e;show I1.fpOk (Nat.le_refl _) (I1.hok.fresh (Nat.le_refl _))
def iRng1(ta:TA):TI:=λσ H R=>ta σ H λvs H1=>∃ j:Int,vs=[.int j]/\-(2 ^ 62)<=j/\j<2 ^ 62/\R (Itr 0 j.toNat) H1
def iRng2(ta:TA):TI:=λσ H R=>ta σ H λvs H1=>∃ i j:Int,vs=[.int i, .int j]/\(-(2 ^ 62)<=i/\i<2 ^ 62/\-(2 ^ 62)<=j/\j<2 ^ 62)/\R (Itr i (j-i).toNat) H1
theorem JdS{p:Pos}(hg:Gl X "range")(hm:X.mg "range"=none)(ha:PA X [a] ta)(hs:autoParam (starEach [a] X.env=[(false,eval a X.env)]) Au):PI X tg (.Call (.Name "range" p) [a] [] pos) (iRng1 ta):=by
 intro b s σ H R I h;show Call_ (JcV I hg hm boot_range (PyProof.Rows.callWith_type1 (thn (ha pos b s σ H _ I h) λl i ζ=>?_) hs rfl));let(g,k,I1,d,c):=ζ;let(j,e,c,f,q):=c;subst e;cases d with
 | cons r rr=>
  cases rr;let(t,rfl):=r;show call_range_1 (Jlv I1 ∅ ∅ c f (by simpa using q))
def tFor(wi:TI)(g:TG)(tb:TS):TS:=λD σ H=>wi σ H λJ H1=>∃ W:Nat->Nat->St->Hp->Prop,(∃ m,W 0 m σ H1)/\∀ i m σ H,W i m σ H ->
 (J.stop i H/\D.nx σ H)\/(J.go i H/\∃ N:St->Hp->Prop,(∀ σ' H',N σ' H'->∃ m',m'<m/\W (i+1) m' σ' H')/\∀ x H',J.yld i H x H'->g x σ H' λσ2 H2=>tb { D with nx:=N,ct:=N,bk:=D.nx } σ2 H2)
def JiH(fp:List Addr)(h:Heap):List (Addr × Obj):=fp.filterMap λb=>(h.get? b).map λo=>(b,o)
variable{fp:List Addr}
theorem Jdf(hb:b∈fp)(e:h.get? b=some o):(b,o)∈JiH fp h:=List.mem_filterMap.mpr ⟨b,hb,by rw[e];rfl⟩
theorem Jkc{p:Addr × Obj}(hp:p∈JiH fp h):p.1∈fp/\h.get? p.1=some p.2:=by
 let(b,c,e):=List.mem_filterMap.mp hp;cases q:h.get? b with
 | none=>rw[q]at e;cases e
 | some o=>
  rw[q]at e;have a:(b,o)=p:=Option.some.inj e;subst a;show(c,q)
theorem Inv.pinned(I:Inv X pins σ H s)(hf:∀ b∈fp,FpOk X pins H b)(ho:∀ b∈fp, ∃ o,s.heap.get? b=some o/\∀ v,o.data≠.cell v):Inv X (pins++JiH fp s.heap) σ H s :=
 I.pins_of λp g=>(mem_append.mp g).elim (λz=>I.pin p (mem_append_right _ z)) λz=>by
  let(a,e):=Jkc z;let(i,f,h,_):=hf p.1 a;let(o,c,d):=ho p.1 a;rw[e]at c;cases c;show(e,i,f,h,d)
theorem Inv.unpinned{pl:List (Addr × Obj)}(I:Inv X (pins++pl) σ H s):Inv X pins σ H s:=I.pins_of λp a=>I.pin p (mem_append_right _ (mem_append_left _ a))
theorem Ja7{iter:Expr}{wi:TI}{g:TG}(hp:PassesOwn (model X.prog X.w) X.A X.env X.xe)(hc:X.calm=true)(hi:PI X tg iter wi)(hg:PG X tg g)(hb:PSs X body tb)
  (hs:autoParam (∀ x,foldedSetIterable iter X.env x=pure x) Au):PS X (.For tg iter body [] pos) (tFor wi g tb):=by
 intro a s σ H D I h;show wpAny_For (thn (hi a s σ H _ I h) λv s1 h1=>thn h1 λa0 s2 h2=>?_) hs;let(it,B,P,J,Y,e,I2,T,E,R,W,(m0,Z),q):=h2;subst e;have j:∀{H':Hp},(∀ b∈B,H' b=none)->∀ b∈B,FpOk X a H' b:=λhn b hb=>⟨hn b hb,(R b hb).2⟩;show codeAny_forLoop_any (λn M=>∃ i σ' H',Inv X a σ' H' M/\P i M.heap/\(∀ b∈B,H' b=none)/\W i n σ' H') ?_ m0 ⟨0,σ,Y,I2,E,λb hb=>(R b hb).1,Z⟩;intro n L z_;let(i,σ3,C,I3,y,z,w3):=z_;rcases q i n σ3 C w3 with⟨stop,qn⟩ | ⟨go,N,hN,step⟩
 .show wpAny_passesOwn hp (thn (T.done X rfl rfl rfl hc i a L σ3 C X.xe I3 (j z) y stop) λr S ⟨K,I4⟩=>?_);subst K;show wpAny_execs_nil ⟨σ3,C,I4,qn⟩
 .show wpAny_passesOwn hp (thn (T.item X rfl rfl rfl hc i a L σ3 C X.xe I3 (j z) y go) λr S ζ=>?_);let(u,K,h4):=ζ;subst K;show wpAny_passesOwn hp (thn h4 λ_ Q ζ=>?_);let(x,O,I5,r5,V,p,F):=ζ;have I5':=I5.pinned (j F) (T.obj _ _ p);show wpAny_passesOwn hp (thn (hg _ Q σ3 O x u _ I5' r5 (step x O V)) λ_ s6 ζ=>?_);let(σ6,H6,I6,q6):=ζ;show wpAny_passesOwn hp (thn (hb _ s6 σ6 H6 _ I6 q6) λf G l=>?_);have k:∀{σ7:St}{c:Hp},Inv X (a++JiH B Q.heap) σ7 c G->N σ7 c->∃ m,m<n/\∃ i σ' H',Inv X a σ' H' G/\P i G.heap/\(∀ b∈B,H' b=none)/\W i m σ' H':=λ{σ7 c} I7 t=>by
   let(m',U,w7):=hN σ7 c t;show(m',U,i+1,σ7,c,I7.unpinned,T.keep _ _ _ p λb hb o e=>(I7.pin (b,o) (mem_append_right _ (mem_append_right _ (Jdf hb e)))).1,λb hb=>?_,w7);let(o,e,d):=T.obj _ _ p b hb;show(I7.pin (b,o) (mem_append_right _ (mem_append_right _ (Jdf hb e)))).2.1
  cases f with
  | next=>let(σ7,c,I7,t):=l;show k I7 t
  | cont=>let(σ7,c,I7,t):=l;show k I7 t
  | brk=>let(σ7,c,I7,l):=l;show(σ7,c,I7.unpinned,l)
  | ret v=>let(x7,σ7,c,I7,r7,l):=l;show(x7,σ7,c,I7.unpinned,r7,l)
variable{n:Nat}
theorem JjS{lo:Int}{g:TG}{D:Ends}(Pv:Nat->St->Hp->Prop)(h0:Pv 0 σ H)
  (hs:∀ i σ H,i<n->Pv i σ H->g (.int (lo+i)) σ H λσ2 H2=>tb { D with nx:=Pv (i+1),ct:=Pv (i+1),bk:=D.nx } σ2 H2) (hd:∀ σ H,Pv n σ H->D.nx σ H) :
  ∃ W:Nat->Nat->St->Hp->Prop,(∃ m,W 0 m σ H)/\∀ i m σ H,W i m σ H ->
   ((Itr lo n).stop i H/\D.nx σ H)\/((Itr lo n).go i H/\∃ N:St->Hp->Prop,(∀ σ' H',N σ' H'->∃ m',m'<m/\W (i+1) m' σ' H')/\∀ x H',(Itr lo n).yld i H x H'->g x σ H' λσ2 H2=>tb { D with nx:=N,ct:=N,bk:=D.nx } σ2 H2):=by
 show(λi m σ H=>m=n-i/\i<=n/\Pv i σ H,⟨n,by simp,Nat.zero_le _,h0⟩,?_);rintro i m σ H ⟨rfl,c,p⟩;by_cases a:i<n
 .show .inr ⟨a,Pv (i+1),λσ' H' b=>⟨n-(i+1),by ac_nf,rfl,a,b⟩,λx H' y=>?_⟩;let(e,y):=y;subst e y;show hs i σ _ a p
 .have e:i=n:=by ac_nf
  subst e;show .inl ⟨Nat.le_refl _,hd σ H p⟩
abbrev R2:=V->V->Hp->VK->Prop
def OpR(X:Cx)(f:Value->Value->Sem Value)(r:R2):Prop :=
 ∀(pins:List (Addr × Obj))(s:Shared)(σ : St)(H:Hp)(x y:V)(v u:Value)(Q:VK),Inv X pins σ H s->RelV x v->RelV y u->r x y H Q ->
  wpAny (model X.prog X.w) X.A (f v u) (EP X pins σ Q) X.xe s
def UnR(X:Cx)(f:Value->Sem Value)(r:V->Hp->VK->Prop):Prop :=
 ∀(pins:List (Addr × Obj))(s:Shared)(σ : St)(H:Hp)(x:V)(v:Value)(Q:VK),Inv X pins σ H s->RelV x v->r x H Q ->
  wpAny (model X.prog X.w) X.A (f v) (EP X pins σ Q) X.xe s
def CallR(X:Cx)(f:Value)(r:List V->Hp->VK->Prop):Prop :=
 ∀(pins:List (Addr × Obj))(s:Shared)(σ : St)(H:Hp)(xs:List V)(us:List Value)(Q:VK),Inv X pins σ H s->Vals xs us->r xs H Q ->
  wpAny (model X.prog X.w) X.A (call f us) (EP X pins σ Q) X.xe s
def tOp(r:R2)(ta tb:TE):TE:=λσ H Q=>ta σ H λx H1=>tb σ H1 λy H2=>r x y H2 Q
def tUn(r:V->Hp->VK->Prop)(ta:TE):TE:=λσ H Q=>ta σ H λx H1=>r x H1 Q
def rI(C:Int->Int->Prop)(g:Int->Int->V):R2:=λx y H Q=>∃ i j,x=.int i/\y=.int j/\C i j/\Q (g i j) H
def rI0(g:Int->Int->V):R2:=λx y H Q=>∃ i j,x=.int i/\y=.int j/\Q (g i j) H
def rU(g:Int->V):V->Hp->VK->Prop:=λx H Q=>∃ i,x=.int i/\Q (g i) H
variable{b:Expr}{ta tb tc:TE}
theorem binT(ha:PE X a ta)(hb:PE X b tb){pins:List (Addr × Obj)}{s:Shared}{σ : St}{H:Hp}{R:V->V->Hp->Prop}(I:Inv X pins σ H s)
  (h:ta σ H λx H1=>tb σ H1 λy H2=>R x y H2) {Q:Value->Shared->Prop} {f:Value->Value->Sem Value}
  (hf:∀ v u s2 x y H2,Inv X pins σ H2 s2->RelV x v->RelV y u->R x y H2->wpAny (model X.prog X.w) X.A (f v u) Q X.xe s2) :
  wpAny (model X.prog X.w) X.A (eval a X.env) (λv s₁=>wpAny (model X.prog X.w) X.A (eval b X.env) (λu s₂=>wpAny (model X.prog X.w) X.A (f v u) Q X.xe s₂) X.xe s₁) X.xe s:=by
 show thn (ha pins s σ H _ I h) λv i ζ=>?_;let(x,H1,I1,c,e):=ζ;show thn (hb pins i σ H1 _ I1 e) λu s2 ζ=>?_;let(y,H2,I2,d,g):=ζ;show hf v u s2 x y H2 I2 c d g
theorem pe_op{op:Operator}{r:R2}(ho:OpR X (binaryOp op) r)(ha:PE X a ta)(hb:PE X b tb):PE X (.BinOp a op b pos) (tOp r ta tb):=by
 intro c s σ H Q I h;show wpAny_BinOp (binT ha hb I h λv u e x y f I2 g d q=>ho c e σ f x y v u Q I2 g d q)
theorem pe_un{op:UnaryOp}{r:V->Hp->VK->Prop}(ho:UnR X (unaryOp op) r)(ha:PE X a ta):PE X (.UnaryOp op a pos) (tUn r ta):=by
 intro b s σ H Q I h;show UnaryOp_ (thn (ha b s σ H _ I h) λv e ζ=>by let(x,f,I1,c,d):=ζ;show ho b e σ f x v Q I1 c d)
theorem opI{f:Value->Value->Sem Value}{C:Int->Int->Prop}{g:Int->Int->Int}
  (rule:∀(i j:Int)(t u:Tok)(s:Shared)(Q:Value->Shared->Prop)(E:Value->Shared->Prop),C i j->Q (.int (g i j) s.toks) { s with toks:=s.toks+1 }->wpAny (model X.prog X.w) X.A (f (.int i t) (.int j u)) Q E s) :
  OpR X f (rI C λi j=>.int (g i j)):=by
 intro a s σ H x y v u Q I e b h;let(i,j,rfl,rfl,c,q):=h;let(t,rfl):=e;let(d,rfl):=b;show rule i j t d s _ _ c ⟨.int (g i j),H,I.tok _,⟨_,rfl⟩,q⟩
theorem opI0{f:Value->Value->Sem Value}{g:Int->Int->Int}
  (rule:∀(i j:Int)(t u:Tok)(s:Shared)(Q:Value->Shared->Prop)(E:Value->Shared->Prop),Q (.int (g i j) s.toks) { s with toks:=s.toks+1 }->wpAny (model X.prog X.w) X.A (f (.int i t) (.int j u)) Q E s) :
  OpR X f (rI0 λi j=>.int (g i j)):=by
 intro a s σ H x y v u Q I d b h;let(i,j,rfl,rfl,q):=h;let(t,rfl):=d;let(c,rfl):=b;show rule i j t c s _ _ ⟨.int (g i j),H,I.tok _,⟨_,rfl⟩,q⟩
theorem opB0{f:Value->Value->Sem Value}{g:Int->Int->Bool}
  (rule:∀(i j:Int)(t u:Tok)(s:Shared)(Q:Value->Shared->Prop)(E:Value->Shared->Prop),Q (.bool (g i j)) s->wpAny (model X.prog X.w) X.A (f (.int i t) (.int j u)) Q E s) :
  OpR X f (rI0 λi j=>.bl (g i j)):=by
 intro a s σ H x y v u Q I d b h;let(i,j,rfl,rfl,q):=h;let(t,rfl):=d;let(c,rfl):=b;show rule i j t c s _ _ ⟨.bl (g i j),H,I,rfl,q⟩
def CPow(i j:Int):Prop:=0<=j/\j<=1000000/\i.natAbs<2 ^ 64
theorem JnR:OpR X (binaryOp .Add) (rI0 λi j=>.int (i+j)):=opI0 λ_ _ _ _ _ _ _ q=>add_int q
theorem JfL:OpR X (binaryOp .Sub) (rI0 λi j=>.int (i-j)):=opI0 λ_ _ _ _ _ _ _ q=>sub_int q
theorem JmO:OpR X (binaryOp .Mod) (rI (λ_ j=>j≠0) λi j=>.int (i.fmod j)):=opI λ_ _ _ _ _ _ _ a q=>mod_int' a q
theorem JnV:OpR X (binaryOp .Pow) (rI CPow λi j=>.int (i ^ j.toNat)):=opI λ_ _ _ _ _ _ _ a q=>pow_int_small a.1 a.2.1 a.2.2 q
theorem unI{f:Value->Sem Value}{g:Int->Int}
  (rule:∀(i:Int)(t:Tok)(s:Shared)(Q:Value->Shared->Prop)(E:Value->Shared->Prop),Q (.int (g i) s.toks) { s with toks:=s.toks+1 }->wpAny (model X.prog X.w) X.A (f (.int i t)) Q E s) :
  UnR X f (rU λi=>.int (g i)):=by
 intro a s σ H x v Q I b h;let(i,rfl,q):=h;let(t,rfl):=b;show rule i t s _ _ ⟨.int (g i),H,I.tok _,⟨_,rfl⟩,q⟩
theorem Jdm:UnR X (unaryOp .USub) (rU λi=>.int (-i)):=unI λ_ _ _ _ _ q=>neg_int q
def scal:V->V->Bool
 | .non, .non=>true | .non, .int _=>true | .int _, .non=>true | .non, .bl _=>true | .bl _, .non=>true | .non, .str _=>true | .str _, .non=>true
 | .int _, .int _=>true | .bl _, .bl _=>true | .str _, .str _=>true | .byt _, .byt _=>true
 | .int _, .str _=>true | .str _, .int _=>true | .bl _, .str _=>true | .str _, .bl _=>true
 | _,_=>false
def rEq:R2:=λx y H Q=>scal x y=true/\Q (.bl (decide (x=y))) H
def rNe:R2:=λx y H Q=>scal x y=true/\Q (.bl (!decide (x=y))) H
theorem JjG{i j:Int}:decide (V.int i=V.int j)=(i == j):=by
 rw[Bool.eq_iff_iff];simp
theorem JlN{i j:Bool}:decide (V.bl i=V.bl j)=(i == j):=by
 rw[Bool.eq_iff_iff];simp
theorem JjH{i j:Str}:decide (V.str i=V.str j)=(i == j):=by
 rw[Bool.eq_iff_iff];simp
theorem JjF{i j:Array UInt8}:decide (V.byt i=V.byt j)=(i.toList == j.toList):=by
 rw[Bool.eq_iff_iff];cases i;cases j;simp
theorem JaO{Q:VK}{k k':Bool}(I:Inv X pins σ H s)(q:Q (.bl k) H)(e:k=k'):EP X pins σ Q (.bool k') s:=by
 subst e;show(.bl k,H,I,rfl,q)
theorem op_eq:OpR X (compareOp .Eq) rEq:=by
 intro e s σ H x y v u Q I d a h;let(c,q):=h;cases x with
 | non=>
  cases d;cases y with
  | non=>cases a;show PySem.EqNone.eq_none_none (JaO I q (by simp))
  | bl j=>cases a;show PySem.EqNone.eq_none_bool (JaO I q (by simp))
  | int j=>let(b,rfl):=a;show PySem.EqNone.eq_none_int (JaO I q (by simp))
  | str j=>let(b,rfl):=a;show PySem.EqNone.eq_none_str (JaO I q (by simp))
  | _=>show absurd (show false=true from c) Bool.false_ne_true
 | bl i=>
  cases d;cases y with
  | non=>cases a;show PySem.EqNone.eq_bool_none (JaO I q (by simp))
  | bl j=>cases a;show eq_bool (JaO I q JlN)
  | str j=>let(b,rfl):=a;show PySem.EqMixed.eq_bool_str (JaO I q (by simp))
  | _=>show absurd (show false=true from c) Bool.false_ne_true
 | int i=>
  let(t,rfl):=d;cases y with
  | non=>cases a;show PySem.EqNone.eq_int_none (JaO I q (by simp))
  | int j=>let(b,rfl):=a;show eq_int (JaO I q JjG)
  | str j=>let(b,rfl):=a;show PySem.EqMixed.eq_int_str (JaO I q (by simp))
  | _=>show absurd (show false=true from c) Bool.false_ne_true
 | str i=>
  let(t,rfl):=d;cases y with
  | non=>cases a;show PySem.EqNone.eq_str_none (JaO I q (by simp))
  | bl j=>cases a;show PySem.EqMixed.eq_str_bool (JaO I q (by simp))
  | int j=>let(b,rfl):=a;show PySem.EqMixed.eq_str_int (JaO I q (by simp))
  | str j=>let(b,rfl):=a;show eq_str (JaO I q JjH)
  | _=>show absurd (show false=true from c) Bool.false_ne_true
 | byt i=>
  let(t,rfl):=d;cases y with
  | byt j=>let(b,rfl):=a;show W.eq_bytes (JaO I q JjF)
  | _=>show absurd (show false=true from c) Bool.false_ne_true
 | _=>cases y <;> show absurd (show false=true from c) Bool.false_ne_true
theorem op_ne:OpR X (compareOp .NotEq) rNe:=by
 intro e s σ H x y v u Q I d a h;let(c,q):=h;cases x with
 | non=>
  cases d;cases y with
  | non=>cases a;show PySem.EqNone.ne_none_none (JaO I q (by simp))
  | bl j=>cases a;show PySem.EqNone.ne_none_bool (JaO I q (by simp))
  | int j=>let(b,rfl):=a;show PySem.EqNone.ne_none_int (JaO I q (by simp))
  | str j=>let(b,rfl):=a;show PySem.EqNone.ne_none_str (JaO I q (by simp))
  | _=>show absurd (show false=true from c) Bool.false_ne_true
 | bl i=>
  cases d;cases y with
  | non=>cases a;show PySem.EqNone.ne_bool_none (JaO I q (by simp))
  | bl j=>cases a;show ne_bool (JaO I q (congrArg not JlN))
  | str j=>let(b,rfl):=a;show PySem.EqMixed.ne_bool_str (JaO I q (by simp))
  | _=>show absurd (show false=true from c) Bool.false_ne_true
 | int i=>
  let(t,rfl):=d;cases y with
  | non=>cases a;show PySem.EqNone.ne_int_none (JaO I q (by simp))
  | int j=>let(b,rfl):=a;show ne_int (JaO I q (congrArg not JjG))
  | str j=>let(b,rfl):=a;show PySem.EqMixed.ne_int_str (JaO I q (by simp))
  | _=>show absurd (show false=true from c) Bool.false_ne_true
 | str i=>
  let(t,rfl):=d;cases y with
  | non=>cases a;show PySem.EqNone.ne_str_none (JaO I q (by simp))
  | bl j=>cases a;show PySem.EqMixed.ne_str_bool (JaO I q (by simp))
  | int j=>let(b,rfl):=a;show PySem.EqMixed.ne_str_int (JaO I q (by simp))
  | str j=>let(b,rfl):=a;show ne_str (JaO I q (congrArg not JjH))
  | _=>show absurd (show false=true from c) Bool.false_ne_true
 | byt i=>
  let(t,rfl):=d;cases y with
  | byt j=>let(b,rfl):=a;show W.ne_bytes (JaO I q (congrArg not JjF))
  | _=>show absurd (show false=true from c) Bool.false_ne_true
 | _=>cases y <;> show absurd (show false=true from c) Bool.false_ne_true
theorem op_lt:OpR X (compareOp .Lt) (rI0 λi j=>.bl (decide (i<j))):=opB0 λ_ _ _ _ _ _ _ q=>lt_int q
theorem op_gt:OpR X (compareOp .Gt) (rI0 λi j=>.bl (decide (j<i))):=opB0 λ_ _ _ _ _ _ _ q=>gt_int q
theorem op_ge:OpR X (compareOp .GtE) (rI0 λi j=>.bl (decide (j<=i))):=opB0 λ_ _ _ _ _ _ _ q=>ge_int q
theorem Jkg:OpR X (compareOp .In) (λx y H Q=>∃ i j,x=.str i/\y=.str j/\Q (.bl (!(Builtin.Str.occurrences j i 0 j.length 1).isEmpty)) H):=by
 intro a s σ H x y v u Q I c b h;let(i,j,rfl,rfl,q):=h;let(t,rfl):=c;let(d,rfl):=b;show in_str (JaO I q rfl)
theorem JnU:OpR X (compareOp .Is) (λx y H Q=>y=.non/\Q (.bl (decide (x=.non))) H):=by
 intro a s σ H x y v u Q I b c h;let(rfl,q):=h;cases c;show is_none_gen (JaO I q ?_);cases x <;> first
  | (cases b;rfl)
  | (let(t,rfl):=b;rfl)
theorem JmQ:OpR X (compareOp .IsNot) (λx y H Q=>y=.non/\Q (.bl (!decide (x=.non))) H):=by
 intro a s σ H x y v u Q I b c h;let(rfl,q):=h;cases c;show isnot_none_gen (JaO I q ?_);cases x <;> first
  | (cases b;rfl)
  | (let(t,rfl):=b;rfl)
theorem Jar(b:Expr){op:CmpOp}(h:autoParam (op≠.In) Au)(h2:autoParam (op≠.NotIn) Au):behindInMarks op b=false:=by
 have a:(op == CmpOp.In)=false:=by cases op <;> first | rfl | show absurd rfl h
 have c:(op == CmpOp.NotIn)=false:=by cases op <;> first | rfl | show absurd rfl h2
 cases b <;> simp[behindInMarks,a,c]
variable{op:CmpOp}{r:R2}
theorem Jbc(ho:OpR X (compareOp op) r)(ha:PE X a ta)(hb:PE X b tb)(hm:behindInMarks op b=false):PE X (.Compare a [op] [b] pos) (tOp r ta tb):=by
 intro c s σ H Q I h;show wpAny_Compare1 (binT ha hb I h λv u e x y f I2 g d q=>ho c e σ f x y v u Q I2 g d q) hm
def tTest(t:TE):TT:=λσ H Q=>t σ H λx H'=>∃ k,x=.bl k/\Q k H'
theorem Jak(ho:OpR X (compareOp op) r)(ha:PE X a ta)(hb:PE X b tb)(hm:behindInMarks op b=false):PT X (.Compare a [op] [b] pos) (tTest (tOp r ta tb)):=by
 intro d s σ H Q I h;show wpAny_isTrue_Compare1 (thn (ha d s σ H _ I h) λv t ζ=>?_) hm;let(x,o,I1,f,l):=ζ;show thn (hb d t σ o _ I1 l) λu g ζ=>?_;let(y,j,I2,q,i):=ζ;show thn (ho d g σ j x y v u _ I2 f q i) λc w ζ=>?_;let(z,n,I3,p,k,e,m):=ζ
 subst e;cases p;show wpAny_truthy_bool ⟨n,I3,m⟩
def Joc(r r':R2)(ta tb tc:TE):TE:=λσ H Q=>ta σ H λx H1=>tb σ H1 λy H2=>r x y H2 λz H3=>∃ k,z=.bl k /\
 (if k=true then tc σ H3 λw' H4=>r' y w' H4 Q else Q (.bl false) H3)
theorem JfK:(sizeLine:Nat)<2 ^ 63:=by rw[sizeLine_eq];decide
theorem Jje:OpR X (binaryOp .Add) (λx y H Q=>∃ i j,x=.str i/\y=.str j/\i.length+j.length<=sizeLine/\Q (.str (i++j)) H):=by
 intro a s σ H x y v u Q I d e h;let(i,j,rfl,rfl,c,q):=h;let(t,rfl):=d;let(b,rfl):=e;show add_str (λb f=>⟨.str (i++j),H,I.tok _,⟨_,rfl⟩,q⟩) c
variable{x:V}
theorem vals1(r:Vals [x] us):∃ u,us=[u]/\RelV x u:=by
 cases r with
 | cons r1 r2=>cases r2;show(_,rfl,r1)
variable{y:V}
theorem vals2(r:Vals [x,y] us):∃ u w',us=[u,w']/\RelV x u/\RelV y w':=by
 cases r with
 | cons r1 r2=>
  cases r2 with
  | cons r3 r4=>cases r4;show(_,_,rfl,r1,r3)
theorem JkU:CallR X (.builtin "abs") (λxs H Q=>∃ i,xs=[.int i]/\Q (.int (if i<0 then -i else i)) H):=by
 intro a s σ H xs c Q I r h;let(i,rfl,q):=h;let(u,rfl,t,rfl):=vals1 r;show call_abs_int λu b=>⟨.int (if i<0 then -i else i),H,I.tok _,⟨_,rfl⟩,q⟩
theorem Jjt:CallR X (.type "int") (λxs H Q=>(∃ i,xs=[.int i]/\Q (.int i) H)\/∃ k,xs=[.bl k]/\Q (.int (if k then 1 else 0)) H):=by
 intro a s σ H xs c Q I r h;rcases h with⟨i,rfl,q⟩ | ⟨k,rfl,q⟩
 .let(u,rfl,t,rfl):=vals1 r;show call_int_int ⟨.int i,H,I,⟨_,rfl⟩,q⟩
 .let(u,rfl,b):=vals1 r;cases b;show call_int_bool ⟨.int (if k then 1 else 0),H,I.tok _,⟨_,rfl⟩,q⟩
theorem JgE:CallR X (.type "str") (λxs H Q=>∃ i,xs=[.int i]/\i.natAbs.log2<1920/\Q (.str (toString i)) H):=by
 intro a s σ H xs c Q I r h;let(i,rfl,b,q):=h;let(u,rfl,t,rfl):=vals1 r;show PySem.P.str_of_int b ⟨.str _,H,I.tok _,⟨_,rfl⟩,q⟩
structure ObjM(h:Heap)(x dx C:Addr)(mA:Str->Option Value):Prop where
 obj:h.get? x=some (W.instObj C dx)
 ns:h.Ns1 dx mA
 ne:dx≠x
variable{dx:Addr}{mA:Str->Option Value}
theorem JeY(n:h.Ns1 dx mA):∃ od,h.get? dx=some od/\∀ name,W.lookIn name od=some (mA name):=by
 let(o,c,l,d,k,i,_,g):=n;show(o,d,λname=>?_);have e:=g name;unfold nsFind findBy at e;rw[<- Array.find?_toList]at e;unfold W.lookIn;rw[k];dsimp only;split
 .rename_i y q;rw[q]at e;show congrArg some e
 .rename_i q;rw[q]at e;have a:c.toList.any (·.refKey)=false:=by
   rw[List.any_eq_false];intro y f;let(z,t,b):=i y (Array.mem_toList_iff.mp f);simp[DictEntry.refKey,b]
  have j:¬ c.toList.any (·.refKey)=true:=by rw[a];show Bool.false_ne_true
  rw[if_neg j];show congrArg some e
variable{x C:Addr}
theorem ObjM.look(I:ObjM h x dx C mA):∃ od,W.InstAt h x (W.instObj C dx) C (some od)/\∀ name,W.lookIn name od=some (mA name) :=
 let⟨od,ho,hl⟩:=JeY I.ns
 ⟨od,⟨I.obj,rfl,rfl,ho⟩,hl⟩
section
variable{name:Str}{v:Value}{w:World}{K:W.Frag}{f:Addr}
theorem get_map{expr:Bool}{Q:Value->Shared->Prop}(X:K.In s.heap)(I:ObjM s.heap x dx C mA)(hg:W.plainGet K C name=true)(hh:W.hasDictIn K C=true)
  (ha:W.findIn K (.ref C) name=some none) (hv:mA name=some v) (hv':W.handedIn v=true) (h:Q v { s with toks:=s.toks+1 }) :
  wpAny (model prog w) A (getAttr (.ref x) name expr) Q E s:=by
 let(b,J,a):=I.look;show W.get_value X J (W.plainGet_of hg).1 (W.findObj_own hh ha rfl (by rw[a,hv])) hv' h
variable{pl:Sem Bool}
theorem Jk4{Q:Value × List Value->Shared->Prop}(X:K.In s.heap)(I:ObjM s.heap x dx C mA)(hg:W.plainGet K C name=true)
  (hf:W.findIn K (.ref C) name=some (some (.ref f))) (ht:W.isFn K (.ref f)=true) (hv:mA name=none) (h:Q (.ref f,[.ref x]) s) :
  wpAny (model prog w) A (getMethod (.ref x) name pl) Q E s:=by
 let(b,J,a):=I.look;show W.method_fn X J (W.plainGet_of hg).1 (W.plainGet_of hg).2 hf (beq_iff_eq.mp ht) (by show(W.lookIn name b).map (·.isSome)=some false;rw[a,hv];rfl) h
theorem Jnd{ns:List Str}(X:K.In s.heap)(I:ObjM s.heap x dx C mA)
  (hs:W.findIn K (.ref C) "__setattr__"=some (some (.builtin "object.__setattr__"))) (hp:W.plainOver K C=true) (ht:W.takerIn K C name=some none) (hh:W.hasDictIn K C=true)
  (hw:PySem.Within mA ns) (hsz:ns.length<=sizeLine)
  (h:∀ h',ObjM h' x dx C (λy=>if y=name then some v else mA y)->Heap.SameBut dx s.heap h'->Q () { s with heap:=h',toks:=s.toks+2 }) :
  wpAny (model prog w) A (setAttr (.ref x) name v) Q E s:=by
 let(p,J,q):=I.look;show W.set_plain X J hs (W.osa_open (s:={ s with toks:=s.toks+1 }) (r:=none) X J hp ht λb=>?_);let(n,j,i):=W.any_some hh;have l:s.heap.get? x=some ⟨.ref C,some dx, .plain, #[]⟩:=I.obj;show wpAny_bind (wpAny_pure (wpAny_bind (wpAny_bind (wpAny_loadPart l (wpAny_bind (W.Looks.here (s:={ s with toks:=s.toks+1 }) (W.looks_clsIn X j) ?_))))));rw[i];show wpAny_pure (a:=some dx) (wpAny_bind (wpAny_pure (wpAny_bind ?_)));show wpAny_nsSet1 (s:={ s with toks:=s.toks+1 }) I.ns λh' d c=>?_;let(o,m,k,f,e,g):=d.count (PySem.Within.cons name v hw);show wpAny_bind (wpAny_lookBehind f (by rw[e];show pastItsLine_dict (Nat.le_trans g (by rw[length_cons];ac_nf))) ?_);show wpAny_pure (h _ ⟨(c.2 _ (Ne.symm I.ne)).trans I.obj,d,I.ne⟩ c)
variable{kw:List (Str × Value)}
theorem Jlc{R:Result->Shared->Prop}{vs:List Value}(X:K.In s.heap)(hm:W.makesIn K C=true)
  (hi:W.findIn K (.ref C) "__init__"=some (some (.ref f))) (hf:W.typeIn K (.ref f)=some (.type "function"))
  (h:codeAny (model prog w) (A.under (.builtin "type.__call__" ⟨.ref C::vs,kw⟩)) (.call (.ref f) ⟨.ref (s.heap.objs.size+1)::vs,kw⟩) (W.InitBack (s.heap.objs.size+1) R)
   { s with heap:=(s.heap.push W.emptyDict).push (W.instObj C s.heap.objs.size) }) :
  codeAny (model prog w) A (.call (.ref C) ⟨vs,kw⟩) R s:=by
 let(b,g,d,t,c):=s;show W.make_core (W.makes_of X hm) (W.looks_findIn X hi) (λa=>W.bind_fn X a hf) (.inl rfl) h
end
def putF(f:Str)(v:V):List (Str × V)->List (Str × V)
 | []=>[(f,v)]
 | (g,x)::r=>if g=f then(g,v)::r else(g,x)::putF f v r
theorem JeZ(f g:Str)(v:V):∀ fs:List (Str × V),(putF f v fs).lookup g=if g=f then some v else fs.lookup g
 | []=>by
  show List.lookup g [(f,v)]=_;by_cases h:g=f
  .have hb:(g == f)=true:=beq_iff_eq.mpr h;simp only[List.lookup,hb,if_pos h]
  .have hb:(g == f)=false:=beq_eq_false_iff_ne.mpr h;simp only[List.lookup,hb,if_neg h]
 | (k,x)::r=>by
  have ih:=JeZ f g v r;rw[show putF f v ((k,x)::r)=(if k=f then(k,v)::r else(k,x)::putF f v r)from rfl];by_cases hk:k=f
  .rw[if_pos hk];by_cases h:g=k
   .have hb:(g == k)=true:=beq_iff_eq.mpr h;simp only[List.lookup,hb,if_pos (h.trans hk)]
   .have hb:(g == k)=false:=beq_eq_false_iff_ne.mpr h;simp only[List.lookup,hb,if_neg (λe:g=f=>h (e.trans hk.symm))]
  .rw[if_neg hk];by_cases h:g=k
   .have hb:(g == k)=true:=beq_iff_eq.mpr h;simp only[List.lookup,hb,if_neg (λe:g=f=>hk (h.symm.trans e))]
   .have hb:(g == k)=false:=beq_eq_false_iff_ne.mpr h;simp only[List.lookup,hb];show ih
theorem JeV(f:Str)(v:V):∀ fs:List (Str × V),f∈(putF f v fs).map (·.1)/\∀ g,g∈fs.map (·.1)->g∈(putF f v fs).map (·.1)
 | []=>⟨by simp[putF],λg h=>by simp at h⟩
 | (k,x)::r=>by
  let(i1,i2):=JeV f v r;rw[show putF f v ((k,x)::r)=(if k=f then(k,v)::r else(k,x)::putF f v r)from rfl];by_cases hk:k=f
  .rw[if_pos hk];subst hk;show(by simp,λg h=>by simpa using h)
  .rw[if_neg hk];show(?_,λg h=>?_)
   .rw[map_cons];show mem_cons_of_mem _ i1
   .rw[map_cons]at h ⊢;rcases mem_cons.mp h with e | e
    .show mem_cons.mpr (.inl e)
    .show mem_cons_of_mem _ (i2 g e)
theorem JeW(f:Str)(v:V):∀ fs:List (Str × V),(putF f v fs).length<=fs.length+1
 | []=>by simp[putF]
 | (k,x)::r=>by
  have ih:=JeW f v r;rw[show putF f v ((k,x)::r)=(if k=f then(k,v)::r else(k,x)::putF f v r)from rfl];by_cases hk:k=f
  .rw[if_pos hk,length_cons,length_cons];ac_nf
  .rw[if_neg hk,length_cons,length_cons];ac_nf
variable{o:Option Value}
theorem RelO.some_of(r:RelO (some v) o):∃ u,o=some u/\RelV v u:=by
 cases o with
 | none=>show(show False from r).elim
 | some u=>show(u,rfl,r)
theorem RelO.none_of(r:RelO none o):o=none:=by
 cases o with
 | none=>rfl
 | some u=>show(show False from r).elim
theorem JgJ(r:RelV v u):W.handedIn u=true:=by
 cases v with
 | non=>cases(show u=Value.none from r);rfl
 | bl b=>cases(show u=Value.bool b from r);rfl
 | int i=>let(t,e):=(show∃ t,u=Value.int i t from r);cases e;rfl
 | str x=>let(t,e):=(show∃ t,u=Value.str x t from r);cases e;rfl
 | byt b=>let(t,e):=(show∃ t,u=Value.bytes b t from r);cases e;rfl
 | flt b=>let(t,e):=(show∃ t,u=Value.float b t from r);cases e;rfl
 | ref a=>cases(show u=Value.ref a from r);rfl
 | ty n=>cases(show u=Value.type n from r);rfl
section
variable{a:Addr}{fs':List (Str × V)}{w:World}{fs:List (Str × V)}
theorem JhB(hok:HOk P w H h)(e:H a=some (.ins C dx fs)):∃ mA,ObjM h a dx C mA/\(∀ f,RelO (fs.lookup f) (mA f))/\PySem.Within mA (fs.map (·.1))/\fs.length<=1000/\H dx=some (.own a):=by
 let(d,z,b,c,mA,n,r,q):=(show ObjOk P w H h a (.ins C dx fs)from hok a _ e);show(mA,⟨c,n,b⟩,r,q,z,d)
end
structure Cls(K:W.Frag)(C:Addr):Prop where
 pg:W.plainGet K C Str.empty=true
 hd:W.hasDictIn K C=true
 po:W.plainOver K C=true
 sa:W.findIn K (.ref C) "__setattr__"=some (some (.builtin "object.__setattr__"))
theorem Cls.get{K:W.Frag}(c:Cls K C)(f:Str):W.plainGet K C f=true:=c.pg
def Ja2(K:W.Frag)(C:Addr)(f:Str):Prop:=W.findIn K (.ref C) f=some none
theorem Ja2.taker{K:W.Frag}{f:Str}(n:Ja2 K C f):W.takerIn K C f=some none:=by
 unfold W.takerIn;rw[show W.findIn K (.ref C) f=some none from n];rfl
structure Meth(K:W.Frag)(C:Addr)(m:Str)(f:Addr):Prop where
 at_:W.findIn K (.ref C) m=some (some (.ref f))
 fn:W.isFn K (.ref f)=true
 kp:W.keepIn K (.ref f)=true
section
variable{a:Addr}{fs:List (Str × V)}{f:Str}{b:Bool}
theorem JiX{Q:Value->Shared->Prop}(I:Inv X pins σ H s)(e:H a=some (.ins C dx fs))(c:Cls X.K C)(n:Ja2 X.K C f)(l:fs.lookup f=some v)
  (h:∀ u s',Inv X pins σ H s'->RelV v u->Q u s'):wpAny (model X.prog X.w) A (getAttr (.ref a) f b) Q E s:=by
 let(g,O,r,_,_,_):=JhB I.hok e;let(u,i,d):=RelO.some_of (v:=v) (o:=g f) (by rw[<- l];show r f);show get_map I.kIn O (c.get f) c.hd n i (JgJ d) (h u _ (I.tok _) d)
theorem Jec{m:Str}{g:Addr}{pl:Sem Bool}{Q:Value × List Value->Shared->Prop}(I:Inv X pins σ H s)(e:H a=some (.ins C dx fs))(c:Cls X.K C)(k:Meth X.K C m g)(l:fs.lookup m=none)
  (h:Q (.ref g,[.ref a]) s):wpAny (model X.prog X.w) A (getMethod (.ref a) m pl) Q E s:=by
 let(b,O,r,_,_,_):=JhB I.hok e;have d:b m=none:=RelO.none_of (by rw[<- l];show r m);show Jk4 I.kIn O (c.get m) k.at_ k.fn d h
theorem Jjh(I:Inv X pins σ H s)(e:H a=some (.ins C dx fs))(c:Cls X.K C)(n:Ja2 X.K C f)(hl:fs.length<1000)(ry:RelV y u)
  (h:∀ s',Inv X pins σ (upd H a (.ins C dx (putF f y fs))) s'->Q () s'):wpAny (model X.prog X.w) A (setAttr (.ref a) f u) Q E s:=by
 let(i,O,r,d,_,j):=JhB I.hok e;have p:(fs.map (·.1)).length<=sizeLine:=by rw[length_map,sizeLine_eq];ac_nf
 show Jnd I.kIn O c.sa c.po n.taker c.hd d p λl O' t=>h _ ?_;have v:∃ o,l.get? dx=some o:=let⟨o,_,_,e',_⟩:=O'.ns;⟨o,e'⟩;show I.write (x:=a) (e:=dx) (by rw[e];show True.intro) (.inr j) (λb q k z=>(t.2 b k).trans z) v ?_;show(by rw[Jai O.ne];show j,?_,O.ne,O'.obj,_,O'.ns,λg=>?_,λg m=>?_)
 .have:=JeW f y fs;ac_nf
 .show RelO ((putF f y fs).lookup g) (if g=f then some u else i g);rw[JeZ];by_cases q:g=f
  .rw[if_pos q,if_pos q];show ry
  .rw[if_neg q,if_neg q];show r g
 .by_cases q:g=f
  .rw[q];show(JeV f y fs).1
  .show(JeV f y fs).2 g (d g λz=>m ?_);show(if g=f then some u else i g)=none;rw[if_neg q];show z
theorem Inv.made(I:Inv X pins σ H s):Inv X pins σ (upd (upd H s.heap.objs.size (.own (s.heap.objs.size+1))) (s.heap.objs.size+1) (.ins C s.heap.objs.size []))
  { s with heap:=(s.heap.push W.emptyDict).push (W.instObj C s.heap.objs.size) }:=by
 have d:(s.heap.push W.emptyDict).get? s.heap.objs.size=some W.emptyDict:=Heap.get?_push_size s.heap rfl;have h:((s.heap.push W.emptyDict).push (W.instObj C s.heap.objs.size)).get? (s.heap.objs.size+1)=some (W.instObj C s.heap.objs.size):=by
  have:=Heap.get?_push_size (s.heap.push W.emptyDict) (o:=W.instObj C s.heap.objs.size) rfl
  rwa [Heap.size_push]at this
 have i:(s.heap.push W.emptyDict).Ns s.heap.objs.size (λ_=>none):=⟨W.emptyDict, #[],_,d,rfl,(λe f=>absurd f (by simp)),λ_=>rfl⟩;have I1:=I.laid (a:=s.heap.objs.size) (o:=.own (s.heap.objs.size+1)) (h':=s.heap.push W.emptyDict) (t':=s.toks) (λb u q=>Heap.get?_push_of_some _ q) (Nat.le_refl _) ⟨_,d⟩;show I1.laid (a:=s.heap.objs.size+1) (o:=.ins C s.heap.objs.size []) (t':=s.toks) (λb u q=>Heap.get?_push_of_some _ q) (Nat.le_of_eq (Heap.size_push _ _)) ?_;have c:s.heap.objs.size≠s.heap.objs.size+1:=Nat.ne_of_lt (Nat.lt_succ_self _);show(by rw[Jai c,Jat],Nat.zero_le _,c,h,λ_=>none,(Heap.Ns1.of_empty i).at λo q=>Heap.get?_push_of_some _ q,λ_=>True.intro,λy g=>absurd rfl g)
variable{Q:Value->Shared->Prop}
theorem Jjo{w:World}{env:Env}{f:Str}(hb:attributeBase e f env (eval e env)=eval e env)
  (h:wpAny (model prog w) A (eval e env) (λo s₁=>wpAny (model prog w) A (getAttr o f true) Q E s₁) E s):wpAny (model prog w) A (eval (.Attribute e f pos) env) Q E s :=
 Attribute_any_ h (by rw[arm_eval_Attribute,hb])
end
def tFld(K:W.Frag)(ta:TE)(f:Str):TE:=λσ H Q=>ta σ H λx H1=>∃ a C dx fs v,x=.ref a/\H1 a=some (.ins C dx fs)/\Cls K C/\Ja2 K C f/\fs.lookup f=some v/\Q v H1
def sFld(K:W.Frag)(ta tv:TE)(f:Str):TS:=λD σ H=>tv σ H λy H1=>ta σ H1 λx H2=>∃ a C dx fs,x=.ref a/\H2 a=some (.ins C dx fs)/\Cls K C/\Ja2 K C f/\fs.length<1000 /\
 D.nx σ (upd H2 a (.ins C dx (putF f y fs)))
section
variable{o value:Expr}{tpos:Pos}{tv:TE}{f:Str}
theorem Jaw(he:PE X e ta)(hb:attributeBase e f X.env (eval e X.env)=eval e X.env):PE X (.Attribute e f pos) (tFld X.K ta f):=by
 intro b s σ H Q I h;show Jjo hb (thn (he b s σ H _ I h) λu t ζ=>?_);let(x,j,I1,i,a,C,p,m,v,d,g,c,n,l,q):=ζ;subst d;obtain rfl:u=Value.ref a:=i;show JiX I1 g c n l λr o I2 k=>⟨v,j,I2,k,q⟩
theorem JbG(ha:PE X o ta)(hv:PE X value tv)(hs:swapsWith value (some (.Attribute o f pos')) pos.line X.env=pure false):PS X (.Assign [.Attribute o f pos'] value pos) (sFld X.K ta tv f):=by
 intro b s σ H D I h;show plainObj_wpAny_Assign_Attribute (thn (hv b s σ H _ I h) λu p ζ=>?_) hs;let(y,j,I1,k,q):=ζ;show thn (ha b p σ j _ I1 q) λm t ζ=>?_;let(x,w,I2,i,a,C,z,r,e,g,c,n,l,d):=ζ;subst e;obtain rfl:m=Value.ref a:=i;show Jjh I2 g c n l k λv I3=>⟨σ,_,I3,d⟩
end
variable{Q:Value->Shared->Prop}{c:Value}{b:Bool}
structure Room(k:Nat)(A:Around):Prop where
 hd:A.handled=none
 dp:A.depth+3*k+5<recursionLimit
 un:A.units+16*k+200<cLine
theorem Room.mono{j k:Nat}(r:Room k A)(h:j<=k):Room j A:=⟨r.hd,by have:=r.dp;ac_nf,by have:=r.un;ac_nf⟩
theorem Room.deeper{k:Nat}(r:Room (k+1) A)(env:Env):Room k (A.deeper env) :=
 ⟨r.hd,by have:=r.dp;show A.depth+1+3*k+5<_;ac_nf,by have:=r.un;show A.units+3+16*k+200<_;ac_nf⟩
variable{kw:List (Str × Value)}
theorem Ji5:(A.under (.builtin "type.__call__" ⟨.ref C::us,kw⟩)).depth=A.depth+1:=by
 first | rfl | simp[Around.under,Code.weight,Code.isCreation,Code.isGuard,Code.isCaller,Code.frames,Code.isFrame,guardIds]
theorem Ji6:(A.under (.builtin "type.__call__" ⟨.ref C::us,kw⟩)).units=A.units+1:=by
 first | rfl | simp[Around.under,Code.cUnits,Code.frames,Code.isFrame]
theorem Room.make{k:Nat}(r:Room (k+1) A)(C:Addr)(us:List Value)(kw:List (Str × Value)):Room k (A.under (.builtin "type.__call__" ⟨.ref C::us,kw⟩)) :=
 ⟨r.hd,by have:=r.dp;rw[Ji5];ac_nf,by have:=r.un;rw[Ji6];ac_nf⟩
theorem Room.depth{k:Nat}(r:Room k A):A.depth<recursionLimit:=by have:=r.dp;ac_nf
theorem Room.units{k:Nat}(r:Room k A):A.units+64<cLine:=by have:=r.un;ac_nf
def tNil:TA:=λ_ H Q=>Q [] H
def tCons(ta:TE)(tr:TA):TA:=λσ H Q=>ta σ H λx H1=>tr σ H1 λxs H2=>Q (x::xs) H2
section
variable{t:TA}
theorem Jad:PA X [] tNil:=λ_ _ _ _ H Q I h=>Calls.spliced_nil ⟨[],H,I, .nil,h⟩
theorem JmR(ha:PE X e te)(hr:PA X es t)(hs:autoParam (starEach (e::es) X.env=(false,eval e X.env)::starEach es X.env) Au):PA X (e::es) (tCons te t):=by
 intro b a s σ H Q I h;rw[hs];show wpAny _ _ (spliced ((false,eval e X.env)::backTo b (starEach es X.env))) _ _ s;show Calls.spliced_cons (thn (ha a s σ H _ I h) λu l ζ=>?_);let(x,j,I1,c,g):=ζ;show thn (hr b a l σ j _ I1 g) λn m ζ=>by let(i,f,I2,k,d):=ζ;show(x::i,f,I2, .cons c k,d)
def tTup(t:TA):TE:=λσ H Q=>t σ H λxs H1=>xs.length<=sizeLine/\∀ p,H1 p=none->Q (.ref p) (upd H1 p (.tup xs))
def tLst(t:TA):TE:=λσ H Q=>t σ H λxs H1=>xs.length<=sizeLine/\∀ p,H1 p=none->Q (.ref p) (upd H1 p (.lst xs))
theorem JaN{x1}(h:PA X es t):PE X (.Tuple es x1 pos) (tTup t):=by
 intro a s σ H Q I f;show wpAny_Tuple_spliced (thn (h pos a s σ H _ I f) λj c ζ=>?_);let(i,d,I1,r,z,q):=ζ;show(by rw[<- r.length];show z,?_);have g:d c.heap.objs.size=none:=I1.hok.fresh (Nat.le_refl _);show(.ref c.heap.objs.size,upd d c.heap.objs.size (.tup i),I1.laid (t':=c.toks) (λb u e=>Heap.get?_push_of_some _ e) (Nat.le_refl _) ?_,rfl,q _ g);show(z,j,r,⟨_,Heap.get?_push_size _ rfl,rfl,_,rfl⟩)
theorem Ja6(h:PA X es t):PE X (.List es pos) (tLst t):=by
 intro a s σ H Q I f;show wpAny_List_spliced (thn (h pos a s σ H _ I f) λj c ζ=>?_);let(i,d,I1,r,z,q):=ζ;show(by rw[<- r.length];show z,?_);have g:d c.heap.objs.size=none:=I1.hok.fresh (Nat.le_refl _);show(.ref c.heap.objs.size,upd d c.heap.objs.size (.lst i),I1.laid (t':=c.toks) (λb u e=>Heap.get?_push_of_some _ e) (Nat.le_refl _) ?_,rfl,q _ g);show(z,j,0,r,Heap.get?_push_size _ rfl)
end
abbrev Sp:=List V->Hp->VK->XK->Prop
abbrev CXT:=List Env->Hp->Shared->XK->Value->Shared->Prop
structure Env0(P:Program)(w:World)(K:W.Frag)(mg:Str->Option Value)(base:Heap)(A:Around)(outer:List Env)(s:Shared)(H:Hp):Prop where
 frames:A.frames=some outer
 mod:Mod K mg base
 bs:∀ b o,base.get? b=some o->s.heap.get? b=some o/\H b=none
 bsz:base.objs.size<=s.heap.objs.size
 funs:s.heap.FunFrames base outer
 frf:∀ b∈frs outer,H b=none
 hok:HOk P w H s.heap
 bare:AllBare s.gens
def CE(outer:List Env)(P:Program)(w:World)(H:Hp)(s:Shared)(Q:VK)(u:Value)(s':Shared):Prop :=
 ∃ v H',s'.os=s.os/\AllBare s'.gens/\Un (frs outer) [] H H' s.heap s'.heap/\HOk P w H' s'.heap/\RelV v u/\Q v H'
def CR(CX:CXT)(outer:List Env)(P:Program)(w:World)(H:Hp)(s:Shared)(Q:VK)(E:XK)(r:Result)(s':Shared):Prop :=
 match r with
 | .ok (.ret u)=>CE outer P w H s Q u s'
 | .ok _=>False
 | .error e=>CX outer H s E e s'
structure FnOk(P:Program)(w:World)(K:W.Frag)(mg:Str->Option Value)(base:Heap)(CX:CXT)(k:Nat)(f:Addr)(fd:FuncData)(ps:List Str)(sp:Sp):Prop where
 len:∀ vs H Q E,sp vs H Q E->vs.length=ps.length
 run:∀(A:Around)(outer:List Env)(s:Shared)(H:Hp)(args:Args)(us:List Value)(vs:List V)(Q:VK)(E:XK),Room k A->Env0 P w K mg base A outer s H->BindsTo s fd args (ps.zip us)->Vals vs us->sp vs H Q E ->
  codeAny (model P w) A (.call (.ref f) args) (CR CX outer P w H s Q E) s
variable{mg:Str->Option Value}{outer:List Env}
theorem Env0.make{w:World}{K:W.Frag}{base:Heap}(e:Env0 P w K mg base A outer s H)(C:Addr)(us:List Value)(kw:List (Str × Value)) :
  Env0 P w K mg base (A.under (.builtin "type.__call__" ⟨.ref C::us,kw⟩)) outer s H:=⟨by first | show e.frames | (simpa[Around.under,Code.envs,Code.isFrame,pushEnvs]using e.frames),e.mod,e.bs,e.bsz,e.funs,e.frf,e.hok,e.bare⟩
theorem Inv.env0(I:Inv X pins σ H s):Env0 X.prog X.w X.K X.mg X.base X.A X.stack s H :=
 ⟨I.ok.frames,I.ok.mod,I.bs,Nat.le_trans I.ok.bsz I.sz,I.stack,I.stkFree,I.hok,I.bare⟩
variable{Q:VK}
theorem Inv.after(I:Inv X pins σ H s)(h:CE X.stack X.prog X.w H s Q u s'):EP X pins σ Q u s':=by
 let(v,i,k,a,f,c,r,q):=h;let(j,g,d,t,e):=s';obtain rfl:e=s.os:=k;show(v,i,I.call (h':=j) (g':=g) (d':=d) (t':=t) (ch:=[]) f c a (λb z=>absurd z (by simp)),r,q)
def tCall(sp:Sp)(dvs:List V)(E:XK)(t:TA):TE:=λσ H Q=>t σ H λvs H1=>sp (vs++dvs) H1 Q E
def tMake(C:Addr)(sp:Sp)(dvs:List V)(E:XK)(t:TA):TE:=λσ H Q=>t σ H λvs H1=>∀ x dx,H1 x=none->H1 dx=none->dx≠x ->
 sp (.ref x::(vs++dvs)) (upd (upd H1 dx (.own x)) x (.ins C dx [])) (λv H2=>v=.non/\Q (.ref x) H2) E
def Binds(K:W.Frag)(fd:FuncData)(ps:List Str)(ds:List Value):Prop :=
 ∀(s:Shared)(us:List Value),K.In s.heap->(us++ds).length=ps.length->BindsTo s fd ⟨us,[]⟩ (ps.zip (us++ds))
variable{fd:FuncData}{ps:List Str}
theorem Binds.all{K:W.Frag}(h:∀ us:List Value,us.length=ps.length->bindArgs fd ⟨us,[]⟩=pure (ps.zip us)):Binds K fd ps []:=λs us _ a=>by
 rw[append_nil]at a ⊢;show .of_eq (h us a)
def Jcd(CX:CXT)(X:Cx)(E:XK):Prop:=∀(pins:List (Addr × Obj))(σ : St)(H:Hp)(s:Shared)(e:Value)(s':Shared),Inv X pins σ H s->CX X.stack H s E e s'->X.xe e s'
section
variable{CX:CXT}{sp:Sp}{dvs:List V}{ds:List Value}{E:XK}{x:Str}{p apos:Pos}{o:Expr}{k:Nat}{f:Addr}{m:Str}{t:TA}{vs:List V}
theorem Jkv(F:FnOk X.prog X.w X.K X.mg X.base CX k f fd ps sp)(hr:Room k X.A)(hb:Binds X.K fd ps ds)(hd:Vals dvs ds)(hx:Jcd CX X E)
  (I:Inv X pins σ H s) (r:Vals vs us) (h:sp (vs++dvs) H Q E):wpAny (model X.prog X.w) X.A (call (.ref f) us) (EP X pins σ Q) X.xe s:=by
 have b:Vals (vs++dvs) (us++ds):=r.append hd;have d:(us++ds).length=ps.length:=by rw[<- b.length];show F.len _ _ _ _ h
 show wpAny_call (codeAny_mono (F.run X.A X.stack s H ⟨us,[]⟩ (us++ds) (vs++dvs) Q E hr I.env0 (hb s us I.kIn d) b h) λr c a=>?_);cases r with
 | error e=>show hx pins σ H s e c I a
 | ok fl=>
  cases fl with
  | ret u=>show I.after a
  | next=>show False.elim a
  | brk=>show False.elim a
  | cont=>show False.elim a
theorem JmS(F:FnOk X.prog X.w X.K X.mg X.base CX k f fd ps sp)(hr:Room k X.A)(hg:Gl X x)(hm:X.mg x=some (.ref f))(hk:W.keepIn X.K (.ref f)=true)(hb:Binds X.K fd ps ds)(hd:Vals dvs ds)(hx:Jcd CX X E)
  (ha:PA X (e::es) t) (hdb:autoParam ((x == ("__debug__" : Str))=false) Au) (he:autoParam (starEach (e::es) X.env=(false,eval e X.env)::starEach es X.env) Au) (hpl:autoParam ((backTo pos (starEach es X.env)).any (·.1)=false) Au) :
  PE X (.Call (.Name x p) (e::es) [] pos) (tCall sp dvs E t):=by
 intro a s σ H Q I h;show wpAny_Call_Name_kw (Jdq I hg hm ?_ hdb);show W.callWith_K (h₀:=X.base) I.ok.mod.kin hk (thn (ha pos a s σ H _ I h) λg c ζ=>?_) he hpl;let(b,d,I1,r,q):=ζ;show(I1.kIn,?_);show Jkv F hr hb hd hx I1 r q
structure Mk(K:W.Frag)(C f:Addr):Prop where
 makes:W.makesIn K C=true
 init:W.findIn K (.ref C) "__init__"=some (some (.ref f))
 fn:W.isFn K (.ref f)=true
 kp:W.keepIn K (.ref C)=true
theorem JiL(M:Mk X.K C f)(F:FnOk X.prog X.w X.K X.mg X.base CX k f fd ps sp)(hr:Room (k+1) X.A)(hb:Binds X.K fd ps ds)(hd:Vals dvs ds)
  (hx:Jcd CX X E) (I:Inv X pins σ H s) (r:Vals vs us)
  (h:∀ x dx,H x=none->H dx=none->dx≠x->sp (.ref x::(vs++dvs)) (upd (upd H dx (.own x)) x (.ins C dx [])) (λv H2=>v=.non/\Q (.ref x) H2) E) :
  wpAny (model X.prog X.w) X.A (call (.ref C) us) (EP X pins σ Q) X.xe s:=by
 have b:=h (s.heap.objs.size+1) s.heap.objs.size (I.hok.fresh (Nat.le_succ _)) (I.hok.fresh (Nat.le_refl _)) (Nat.ne_of_lt (Nat.lt_succ_self _));have I2:=Inv.made (C:=C) I;have c:Vals (V.ref (s.heap.objs.size+1)::(vs++dvs)) (Value.ref (s.heap.objs.size+1)::(us++ds)):=.cons rfl (r.append hd);have j:(Value.ref (s.heap.objs.size+1)::us++ds).length=ps.length:=by
  have e:=c.length;rw[F.len _ _ _ _ b]at e;show e.symm
 show wpAny_call (Jlc (f:=f) I.kIn M.makes M.init (beq_iff_eq.mp M.fn) (codeAny_mono (F.run _ X.stack _ _ ⟨Value.ref (s.heap.objs.size+1)::us,[]⟩ (Value.ref (s.heap.objs.size+1)::(us++ds)) _ _ E (hr.make C us [])
  (I2.env0.make C us []) (hb _ (Value.ref (s.heap.objs.size+1)::us) I2.kIn j) c b) λr i a=>?_))
 cases r with
 | error e=>show hx pins σ _ _ e i I2 a
 | ok fl=>
  cases fl with
  | ret u=>
   let(v,l,I3,m,d,g):=I2.after a;subst d;show(m,⟨V.ref (s.heap.objs.size+1),l,I3,rfl,g⟩)
  | next=>show False.elim a
  | brk=>show False.elim a
  | cont=>show False.elim a
theorem JmW(M:Mk X.K C f)(F:FnOk X.prog X.w X.K X.mg X.base CX k f fd ps sp)(hr:Room (k+1) X.A)(hg:Gl X x)(hm:X.mg x=some (.ref C))(hb:Binds X.K fd ps ds)(hd:Vals dvs ds)(hx:Jcd CX X E)
  (ha:PA X (e::es) t) (hdb:autoParam ((x == ("__debug__" : Str))=false) Au) (he:autoParam (starEach (e::es) X.env=(false,eval e X.env)::starEach es X.env) Au) (hpl:autoParam ((backTo pos (starEach es X.env)).any (·.1)=false) Au) :
  PE X (.Call (.Name x p) (e::es) [] pos) (tMake C sp dvs E t):=by
 intro a s σ H Q I h;show wpAny_Call_Name_kw (Jdq I hg hm ?_ hdb);show W.callWith_K (h₀:=X.base) I.ok.mod.kin M.kp (thn (ha pos a s σ H _ I h) λg c ζ=>?_) he hpl;let(b,d,I1,r,q):=ζ;show(I1.kIn,?_);show JiL M F hr hb hd hx I1 r q
theorem Jlo(M:Mk X.K C f)(F:FnOk X.prog X.w X.K X.mg X.base CX k f fd ps sp)(hr:Room (k+1) X.A)(hg:Gl X x)(hm:X.mg x=some (.ref C))(hb:Binds X.K fd ps ds)(hd:Vals dvs ds)(hx:Jcd CX X E)
  (hdb:autoParam ((x == ("__debug__" : Str))=false) Au):PE X (.Call (.Name x p) [] [] pos) (tMake C sp dvs E tNil):=by
 intro a s σ H Q I h;show wpAny_Call_Name_kw (Jdq I hg hm ?_ hdb);show W.callWith_K0 I.kIn M.kp (JiL (us:=[]) M F hr hb hd hx I .nil h)
end
section
variable{CX:CXT}{ks:List Str}{sp:Sp}{E:XK}{x:Str}{p apos kpos:Pos}{o:Expr}{kws:List Keyword}{tk:TA}{nm:Option Str}{k:Nat}{f:Addr}{m:Str}{t:TA}{gV:List V->List V->List V}{g:List Value->List Value->List Value}
end
structure Jao(N P:List Str)(sc:Scope):Prop where
 kind:sc.kind=.function
 co:sc.isCoroutine=false
 gen:sc.isGenerator=false
 nd:N.Nodup
 pre:N.take P.length=P
 par:∀ x∈P,sc.names.lookup x=some .local\/sc.names.lookup x=some .cell
 nofree:∀ y∈sc.names,y.2≠.free
variable{kindOf:Str->Option NameKind}{x:Str}
theorem Jgx:∀{binds:List (Str × Value)}{m:Str->Option Value},(∀ v,(x,v)∉binds)->bindL kindOf binds m x=m x
 | [],_,_=>rfl
 | (n,v)::r,m,h=>by
  unfold bindL;rw[Jgx λw hw=>h w (mem_cons_of_mem _ hw)];split
  .have : x≠n:=by rintro rfl;show h v mem_cons_self
   simp[this]
  .rfl
theorem Jgv:∀{binds:List (Str × Value)}{m:Str->Option Value},(∀ v,(x,v)∉binds)->bindC kindOf binds m x=m x
 | [],_,_=>rfl
 | (n,v)::r,m,h=>by
  unfold bindC;rw[Jgv λw hw=>h w (mem_cons_of_mem _ hw)];split
  .rfl
  .have : x≠n:=by rintro rfl;show h v mem_cons_self
   simp[this]
variable{v:Value}
theorem Jgw:∀{P:List Str}{vs:List Value}{i:Nat}{m:Str->Option Value},P.Nodup->P[i]?=some x->vs[i]?=some v->kindOf x=some .local ->
  bindL kindOf (P.zip vs) m x=some v
 | [],_,_,_,_,h,_,_=>by simp at h
 | _::_,[],_,_,_,_,h,_=>by simp at h
 | p::P,w::vs,0,m,nd,h1,h2,hk=>by
  simp at h1 h2;subst h1;subst h2;show bindL kindOf ((p,w)::P.zip vs) m p=_;unfold bindL;rw[Jgx λv hv=>(nodup_cons.mp nd).1 (List.of_mem_zip hv).1,if_pos hk];simp
 | p::P,w::vs,i+1,m,nd,h1,h2,hk=>by
  show bindL kindOf ((p,w)::P.zip vs) m x=_;unfold bindL;show Jgw (i:=i) (nodup_cons.mp nd).2 (by simpa using h1) (by simpa using h2) hk
theorem Jgu:∀{P:List Str}{vs:List Value}{i:Nat}{m:Str->Option Value},P.Nodup->P[i]?=some x->vs[i]?=some v->kindOf x≠some .local ->
  bindC kindOf (P.zip vs) m x=some v
 | [],_,_,_,_,h,_,_=>by simp at h
 | _::_,[],_,_,_,_,h,_=>by simp at h
 | p::P,w::vs,0,m,nd,h1,h2,hk=>by
  simp at h1 h2;subst h1;subst h2;show bindC kindOf ((p,w)::P.zip vs) m p=_;unfold bindC;rw[Jgv λv hv=>(nodup_cons.mp nd).1 (List.of_mem_zip hv).1,if_neg hk];simp
 | p::P,w::vs,i+1,m,nd,h1,h2,hk=>by
  show bindC kindOf ((p,w)::P.zip vs) m x=_;unfold bindC;show Jgu (i:=i) (nodup_cons.mp nd).2 (by simpa using h1) (by simpa using h2) hk
def start(N:List Str)(vs:List V):St:=vs.map some++List.replicate (N.length-vs.length) none
def cxOf(CX:CXT)(P:Program)(w:World)(K:W.Frag)(mg:Str->Option Value)(base:Heap)(N:List Str)(qual:Str)(scope:Scope)(f:Addr)(cd:Value)(A:Around)(outer:List Env)(s:Shared)(H:Hp)(E:XK):Cx where
 prog:=P
 w:=w
 K:=K
 mg:=mg
 base:=base
 A:=A.deeper (envOfC qual scope s.heap.objs.size f cd)
 N:=N
 s₀:=s
 H₀:=H
 env:=envOfC qual scope s.heap.objs.size f cd
 outer:=outer
 stack:=envOfC qual scope s.heap.objs.size f cd::outer
 ex:=[]
 calm:=true
 fn:=λ_=>true
 pn:=[]
 xe:=λe s'=>wpAny (model P w) (A.deeper (envOfC qual scope s.heap.objs.size f cd)) (leaving (envOfC qual scope s.heap.objs.size f cd) e) (λ_ s''=>CX outer H s E e s'') (λe' s''=>CX outer H s E e' s'') s'
theorem Jik{sc:Scope}(h:sc.names.lookup x=some .cell):∃ c,(cellsFrom n sc.names []).lookup x=some c:=by
 have q:=W.cellsFrom_some sc.names n [] (.inl h);show Option.isSome_iff_exists.mp q
variable{CX:CXT}{qual:Str}{scope:Scope}
theorem JjW{w:World}{K:W.Frag}{base:Heap}{f:Addr}{cd:Value}{s1:Shared}{E:XK}{vs:List V}
  (S:Jao N ps scope) (hd:A.handled=none) (e0:Env0 P w K mg base A outer s H) (hl:vs.length=ps.length) (r:Vals vs us)
  (x:InCallC s s.heap.objs.size (bindL (envOfC qual scope s.heap.objs.size f cd).kindOf (ps.zip us) λ_=>none) (cellsFrom (s.heap.objs.size+1) scope.names []) (bindC (envOfC qual scope s.heap.objs.size f cd).kindOf (ps.zip us) λ_=>none) s1) :
  Inv (cxOf CX P w K mg base N qual scope f cd A outer s H E) [] (start N vs) H s1:=by
 have F:ps.length<=N.length:=by have:=congrArg List.length S.pre;rw[length_take]at this;ac_nf
 let(o,J,rfl,B):=x.done;have g:∀ b:Addr,b∉(cxOf CX P w K mg base N qual scope f cd A outer s H E).ex:=λb z=>absurd (show b∈([]:List Addr)from z) (by simp);show(⟨e0.mod,S.kind,rfl,rfl,Nat.le_refl _,λy z c o d=>?_,λy j=>?_,λy c _ h=>?_,λ_=>hd,Around.frames_deeper e0.frames, .inr ⟨rfl,rfl⟩,λb z=>absurd z (g b),e0.bs,e0.bsz,λb _ _=>g b,λb z=>absurd z (g b),e0.funs,e0.frf⟩,
  rfl,e0.bare,Un.kept B,⟨_,x.toInCall.ns,λi y v o d I=>?_⟩,λy c h=>⟨_,x.cell y c h⟩,e0.hok.fresh (Nat.le_refl _),λy c h=>?_,λp l=>absurd (show p∈([]:List (Addr × Obj))from l) (by simp),e0.hok.kept B,?_)
 .show name_of_addr x.apart (PySem.mem_of_lookup o) (PySem.mem_of_lookup d)
 .have j:scope.names.lookup y=some .cell\/scope.names.lookup y=some .free:=j;rcases j with j | j
  .show Jik j
  .show absurd rfl (S.nofree _ (PySem.mem_of_lookup j))
 .show Nat.le_of_lt (x.above y c (PySem.mem_of_lookup h))
 .have t:i<vs.length:=by
   unfold start at d;by_cases t:i<vs.length
   .show t
   .rw[List.getElem?_append_right (by simpa using t)]at d;rw[List.getElem?_replicate]at d;split at d <;> cases d
  have D:vs[i]?=some v:=by
   unfold start at d;rw[List.getElem?_append_left (by simpa using t),List.getElem?_map]at d;cases e:vs[i]? with
   | none=>rw[e]at d;cases d
   | some a=>rw[e]at d;cases d;rfl
  let(u,C,G):=r.get D;have l:ps[i]?=some y:=by
   rw[<- S.pre,List.getElem?_take_of_lt ∅];show o
  have m:ps.Nodup:=by rw[<- S.pre];show S.nd.sublist (List.take_sublist _ _)
  show(u,G,?_);rcases S.par y (List.mem_of_getElem? l)with k | k
  .show .inl ⟨k,Jgw m l C k⟩
  .let(c,e):=Jik (n:=s.heap.objs.size+1) k;show .inr ⟨.inl k,c,e,?_⟩;have q:=x.cell y c e;rw[Jgu m l C (by show scope.names.lookup y≠_;rw[k];decide)]at q;show q
 .show e0.hok.fresh (Nat.le_of_lt (x.above y c (PySem.mem_of_lookup h)))
 .unfold start;show _=N.length;rw[length_append,length_map,List.length_replicate];ac_nf
theorem fn_of{w:World}{K:W.Frag}{base:Heap}{k:Nat}{f:Addr}{name:Str}{params:Arguments}{dV kV doc pm cdv ct oc:Value}{an od:Option Addr}
  {osl:Array (Option Value)} {N ps:List Str} {sp:Sp} (lk:K.lookup f=some ⟨oc,od, .func (W.fnOf name qual params body scope dV kV doc pm an cdv ct),osl⟩) (hcd:W.codeIn K cdv qual=true) (S:Jao N ps scope)
  (len:∀ vs H Q E,sp vs H Q E->vs.length=ps.length)
  (hbody:∀(A:Around)(outer:List Env)(s:Shared)(H:Hp)(vs:List V)(Q:VK)(E:XK),Room k (A.deeper (envOfC qual scope s.heap.objs.size f cdv))->sp vs H Q E ->
   ∃ t,PSs (cxOf CX P w K mg base N qual scope f cdv A outer s H E) body t/\t { nx:=λ_ H'=>Q .non H',rt:=Q } (start N vs) H) :
  FnOk P w K mg base CX (k+1) f (W.fnOf name qual params body scope dV kV doc pm an cdv ct) ps sp:=by
 show(len,λA outer s H p M vs Q E m g C r h=>?_);have G:=len _ _ _ _ h;have KX:K.In s.heap:=g.mod.kin.keeps λb o e=>(g.bs b o e).1;have j:s.heap.NoLimit:=g.mod.nolimit.keeps λb o e=>(g.bs b o e).1;have a:∀ y∈ps.zip M,scope.names.lookup y.1=some .local\/(scope.names.lookup y.1=some .cell/\((cellsFrom (s.heap.objs.size+1) scope.names []).lookup y.1).isSome=true):=λ⟨n,v⟩ O=>by
  rcases S.par n (List.of_mem_zip O).1 with q | q
  .show .inl q
  .show .inr ⟨q,W.cellsFrom_some _ _ _ (.inl q)⟩
 show codeAny_call_function m.depth (KX _ _ lk) rfl S.co S.gen rfl (W.codeRec_of KX hcd) (C _ _ _ _ ?_);show wpAny_newFunctionEnv_cells S.kind a λF D z x=>?_;subst D;show(j.keeps x.toInCall.keep,codeAny_func ?_);let(t,R,B):=hbody A outer s H vs Q E (m.deeper _) h;have I:Inv (cxOf CX P w K mg base N qual scope f cdv A outer s H E) [] (start N vs) H z:=JjW S m.hd g G r x;show wpAny_mono (R [] z (start N vs) H _ I B) (λL i c=>?_) λe i c=>c;have d:∀{σ':St}{H':Hp}{v:V}{u:Value},Inv (cxOf CX P w K mg base N qual scope f cdv A outer s H E) [] σ' H' i->RelV v u->Q v H'->CE outer P w H s Q u i :=
  λ{σ' H' v u} J l q=>⟨v,H',J.os,J.bare,J.base,J.hok,l,q⟩
 cases L with
 | ret u=>
  let(v,σ',H',J,l,q):=c;show d J l q
 | next=>
  let(σ',H',J,q):=c;show d (v:=V.non) (u:=Value.none) J rfl q
 | brk=>
  let(_,_,_,q):=c;show False.elim q
 | cont=>
  let(_,_,_,q):=c;show False.elim q
section
variable{p:Pos}{id T:String}{r:List V->Hp->VK->Prop}{t:TA}
def tCB(r:List V->Hp->VK->Prop)(t:TA):TE:=λσ H Q=>t σ H λvs H1=>r vs H1 Q
theorem Jau(hc:CallR X (.builtin id) r)(hg:Gl X x)(hm:X.mg x=none)(hv:bootBuiltins x=some (.builtin id))(ha:PA X (e::es) t)(hn:autoParam (x≠"__name__") Au)(hdb:autoParam ((x == ("__debug__" : Str))=false) Au)
  (he:autoParam (starEach (e::es) X.env=(false,eval e X.env)::starEach es X.env) Au) (hpl:autoParam ((backTo pos (starEach es X.env)).any (·.1)=false) Au):PE X (.Call (.Name x p) (e::es) [] pos) (tCB r t):=by
 intro a s σ H Q I h;show wpAny_Call_Name_kw (JcV I hg hm hv ?_ hn hdb);show PyProof.Rows.callWith_builtin1 (thn (ha pos a s σ H _ I h) λi f ζ=>by let(c,g,I1,b,d):=ζ;show hc a f σ g c i Q I1 b d) he hpl
theorem Ja5(hc:CallR X (.type T) r)(hg:Gl X x)(hm:X.mg x=none)(hv:bootBuiltins x=some (.type T))(ha:PA X (e::es) t)(hn:autoParam (x≠"__name__") Au)(hdb:autoParam ((x == ("__debug__" : Str))=false) Au)
  (he:autoParam (starEach (e::es) X.env=(false,eval e X.env)::starEach es X.env) Au) (hpl:autoParam ((backTo pos (starEach es X.env)).any (·.1)=false) Au):PE X (.Call (.Name x p) (e::es) [] pos) (tCB r t):=by
 intro a s σ H Q I h;show wpAny_Call_Name_kw (JcV I hg hm hv ?_ hn hdb);show PyProof.Rows.callWith_type1 (thn (ha pos a s σ H _ I h) λi f ζ=>by let(c,g,I1,b,d):=ζ;show hc a f σ g c i Q I1 b d) he hpl
end
end L2
namespace HT
open PySem PyProof.Rows
section
open PySem.SeqAt
open PySem.AutoSeq1 (wpAny_loadPart')
open PySem.MeetsSeq PySem.MeetsSeq2 PySem.MeetsSeq3
end
section
variable{prog:Program}{A:Around}{E:Value->Shared->Prop}{s:Shared}{w:World}
theorem cat_tup{t b:Addr}{vs ws:List Value}{Q:Value->Shared->Prop}(ht:IsTup s.heap t vs.toArray)(hb:IsTup s.heap b ws.toArray)(hv:vs≠[])
  (h1:ws=[]->Q (.ref t) s) (h2:ws≠[]->Q (.ref s.heap.objs.size) { s with heap:=s.heap.push { cls:=.type "tuple",data:=.seq (vs++ws).toArray } })
  (hsz:vs.length+ws.length<=sizeLine):wpAny (model prog w) A (binaryOp .Add (.ref t) (.ref b)) Q E s:=by
 let((cls,l,data,o),h,m,n,q):=id ht;let((p,d,j,g),a,c,k,f):=id hb;simp only at m q c f;subst m q c f;have e:vs.toArray++ws.toArray=(vs++ws).toArray:=by simp
 by_cases i:ws=[]
 .show concat_meets ⟨_,h,rfl⟩ ⟨_,a,rfl⟩ noFill_tuple_add seq_tuple_add PySem.F.slot_tuple_add PySem.F.entry_tuple_add (PySem.F.args_tuple_add_2 _ _)
   (tuple_addW1 t b vs.toArray ws.toArray n k l d o g (by simpa using hv) (by simp[i])) ⟨h,a,h1 i⟩
 .show concat_meets ⟨_,h,rfl⟩ ⟨_,a,rfl⟩ noFill_tuple_add seq_tuple_add PySem.F.slot_tuple_add PySem.F.entry_tuple_add (PySem.F.args_tuple_add_2 _ _)
   (tuple_addW2 t b vs.toArray ws.toArray n k l d o g (by simpa using hv) (by simpa using i) (by rw[size_toArray,size_toArray];show hsz)) ⟨h,a,?_⟩
  rw[e];show h2 i
def sIx(n d:Nat):Option Int->Nat
 | none=>d
 | some v=>if v<0 then(v+(n:Int)).toNat else min v.toNat n
end
end HT
namespace L2
open PySem PySem.Spec PyProof.Rows
abbrev TO:=St->Hp->(Option Int->Hp->Prop)->Prop
def PO(X:Cx)(e:Option Expr)(t:TO):Prop :=
 ∀(pins:List (Addr × Obj))(s:Shared)(σ : St)(H:Hp)(Q:Option Int->Hp->Prop),Inv X pins σ H s->t σ H Q ->
  wpAny (model X.prog X.w) X.A (evalPart e X.env) (λu s'=>∃ o H',Inv X pins σ H' s'/\IsPart u o/\Q o H') X.xe s
def JkF:TO:=λ_ H Q=>Q none H
def tPart(t:TE):TO:=λσ H Q=>t σ H λx H1=>∃ i,x=.int i/\Q (some i) H1
section
variable{X:Cx}{e:Expr}{te:TE}{hi:Option Expr}{tl th:TO}{pos p2:Pos}{lo:Option Expr}
theorem Jge:PO X none JkF:=by
 intro a s σ H Q I h;rw[evalPart_none];show wpAny_pure ⟨none,H,I, .none,h⟩
theorem Jei(h:PE X e te):PO X (some e) (tPart te):=by
 intro a s σ H Q I c;rw[evalPart_some];show thn (h a s σ H _ I c) λu g ζ=>?_;let(x,f,I1,b,d):=ζ;let(i,rfl,q):=d;let(t,rfl):=b;show(some i,f,I1, .int i t,q)
def SlR(X:Cx)(r:V->Option Int->Option Int->Hp->VK->Prop):Prop :=
 ∀(pins:List (Addr × Obj))(s:Shared)(σ : St)(H:Hp)(x:V)(v vl vu:Value)(lo hi:Option Int)(sl:Addr)(Q:VK),Inv X pins σ H s->RelV x v->s.heap.IsSliceOf sl vl vu .none->IsPart vl lo->IsPart vu hi->r x lo hi H Q ->
  ∃ T id,typeLookup (.type T) "__getitem__"=pure (some (.builtin id))/\s.TypeIs v T/\wpAny (model X.prog X.w) X.A (getItem v (.ref sl)) (EP X pins σ Q) X.xe s
variable{r:V->Option Int->Option Int->Hp->VK->Prop}
theorem SlR.or{r':V->Option Int->Option Int->Hp->VK->Prop}(h:SlR X r)(h':SlR X r'):SlR X (λx lo hi H Q=>r x lo hi H Q\/r' x lo hi H Q):=by
 intro a s σ H x v vl b lo hi c Q I e f d pu q;rcases q with q | q
 .show h a s σ H x v vl b lo hi c Q I e f d pu q
 .show h' a s σ H x v vl b lo hi c Q I e f d pu q
def tSl(r:V->Option Int->Option Int->Hp->VK->Prop)(te:TE)(tl th:TO):TE:=λσ H Q=>te σ H λx H1=>tl σ H1 λl H2=>th σ H2 λu H3=>r x l u H3 Q
theorem JdR(hr:SlR X r)(he:PE X e te)(hl:PO X lo tl)(hu:PO X hi th):PE X (.Subscript e (.Slice lo hi none p2) pos) (tSl r te tl th):=by
 intro a s σ H Q I h;show Subscript_ (thn (he a s σ H _ I h) λv B ζ=>?_);let(x,t,I1,g,n):=ζ;show wpAny_Slice (thn (hl a B σ t _ I1 n) λvl j ζ=>?_);let(l,m,I2,z,k):=ζ;show thn (hu a j σ m _ I2 k) λd c ζ=>?_;let(u,f,I3,pu,p):=ζ;rw[evalPart_none];show wpAny_pure ?_;have I4:Inv X a σ f { c with heap:=c.heap.push { cls:=.type "slice",data:=.fields #[vl,d, .none] } }:=I3.kept (t':=c.toks) λb C q=>Heap.get?_push_of_some _ q;let(T,id,o,y,i):=hr a { c with heap:=c.heap.push { cls:=.type "slice",data:=.fields #[vl,d, .none] } } σ f x v vl d l u c.heap.objs.size Q I4 g (Heap.IsSliceOf.new ..) z pu p;show wpAny (model X.prog X.w) X.A (subscriptTail e (.Slice lo hi none p2) v (.ref c.heap.objs.size)) (EP X a σ Q) X.xe { c with heap:=c.heap.push { cls:=.type "slice",data:=.fields #[vl,d, .none] } };show tail_any (ops:=[.ref c.heap.objs.size,v]) y o i (by with_unfolding_all rfl)
def cutV(xs:List V)(lo hi:Option Int):List V:=(xs.drop (HT.sIx xs.length 0 lo)).take (HT.sIx xs.length xs.length hi-HT.sIx xs.length 0 lo)
theorem Jhs(xs:List V)(lo hi:Option Int):(cutV xs lo hi).length<=xs.length:=by
 unfold cutV;rw[length_take,List.length_drop];ac_nf
def rCatT(K:W.Frag):R2:=λx y H Q=>∃ a b xs ys,x=.ref a/\y=.ref b/\SqT K H a xs/\SqT K H b ys/\xs≠[]/\xs.length+ys.length<=sizeLine /\
 (ys=[]->Q (.ref a) H)/\(ys≠[]->∀ p,H p=none->Q (.ref p) (upd H p (.tup (xs++ys))))
variable{xs:List V}{us:List Value}
theorem Vals.nil_iff(r:Vals xs us):us=[]↔xs=[]:=by
 cases r with
 | nil=>simp
 | cons _ _=>simp
theorem JmN:OpR X (binaryOp .Add) (rCatT X.K):=by
 intro g s σ H x y v u Q I r t h;let(a,b,m,j,rfl,rfl,p,i,n,e,l,k):=h;cases r;cases t;let(A,d,B,_):=I.tuple p;let(f,c,C,_):=I.tuple i;show HT.cat_tup B C (λz=>n (d.nil_iff.mp z)) (λz=>⟨.ref a,H,I,rfl,l (c.nil_iff.mp z)⟩) (λz=>?_) (by rw[<- d.length, <- c.length];show e);show(.ref s.heap.objs.size,_,I.laid (t':=s.toks) (o:=.tup (m++j)) (λb D q=>Heap.get?_push_of_some _ q) (Nat.le_refl _) ?_,rfl,k (λw=>z (c.nil_iff.mpr w)) _ (I.hok.fresh (Nat.le_refl _)));show(by rw[length_append];show e,_,d.append c,IsTup.new _ _)
end
def ixN(n:Nat)(i:Int):Option Nat:=if 0<=i then(if i<n then some i.toNat else none)else if -(n:Int)<=i then some (i+n).toNat else none
variable{α:Type}
def atI(xs:List α)(i:Int):Option α:=(ixN xs.length i).bind λj=>xs[j]?
variable{n j:Nat}{i:Int}
theorem JjZ(h:ixN n i=some j):seqIndex? i n=some j/\j<n/\-(n:Int)<=i/\i<n:=by
 unfold ixN at h;by_cases b:0<=i
 .rw[if_pos b]at h;by_cases a:i<n
  .rw[if_pos a]at h;have e:i.toNat=j:=Option.some.inj h;show(by rw[seqIndex_of b a,e],by ac_nf,by ac_nf,a)
  .rw[if_neg a]at h;cases h
 .rw[if_neg b]at h;by_cases a : -(n:Int)<=i
  .rw[if_pos a]at h;have e:(i+n).toNat=j:=Option.some.inj h;show(by rw[seqIndex_neg ∅ a,e],by ac_nf,a,by ac_nf)
  .rw[if_neg a]at h;cases h
theorem Jhn{xs:List α}{v : α}(h:atI xs i=some v):∃ j,seqIndex? i xs.length=some j/\xs[j]?=some v/\j<xs.length/\-(xs.length:Int)<=i/\i<xs.length:=by
 unfold atI at h;cases e:ixN xs.length i with
 | none=>rw[e]at h;cases h
 | some j=>
  rw[e]at h;let(a,c,b,d):=JjZ e;show(j,a,h,c,b,d)
theorem Jdo{xs:List α}{v : α}(h:xs[j]?=some v):atI xs (j:Int)=some v:=by
 have a:j<xs.length:=(List.getElem?_eq_some_iff.mp h).1;have e:ixN xs.length (j:Int)=some j:=by
  unfold ixN;rw[if_pos ∅,if_pos ∅];simp
 unfold atI;rw[e];show h
def Jmk(b:Expr):Prop:=∀ o i,subscripted b false o i=operate [o,i] (getItem o i)
def IxR(X:Cx)(r:R2):Prop :=
 ∀(value slice:Expr)(pins:List (Addr × Obj))(s:Shared)(σ : St)(H:Hp)(x y:V)(v u:Value)(Q:VK),Inv X pins σ H s->RelV x v->RelV y u->r x y H Q ->
  subscripted slice false v u=operate [v,u] (getItem v u)->wpAny (model X.prog X.w) X.A (subscriptTail value slice v u) (EP X pins σ Q) X.xe s
def MtR(X:Cx)(id:String)(r:V->List V->Hp->VK->Prop):Prop :=
 ∀(pins:List (Addr × Obj))(s:Shared)(σ : St)(H:Hp)(x:V)(xs:List V)(v:Value)(us:List Value)(Q:VK),Inv X pins σ H s->RelV x v->Vals xs us->r x xs H Q ->
  wpAny (model X.prog X.w) X.A (call (.builtin id) (v::us)) (EP X pins σ Q) X.xe s
section
variable{X:Cx}{a b:Expr}{ta tb:TE}{pos:Pos}
theorem pe_ix{r:R2}(hr:IxR X r)(ha:PE X a ta)(hb:PE X b tb)(hs:autoParam (Jmk b) Au):PE X (.Subscript a b pos) (tOp r ta tb):=by
 intro c s σ H Q I h;show Subscript_ (binT ha hb I h λv u e x y f I2 g d q=>hr a b c e σ f x y v u Q I2 g d q (hs _ _))
def rIxL(K:W.Frag):R2:=λx y H Q=>∃ p xs i v,x=.ref p/\y=.int i/\SqL K H p xs/\atI xs i=some v/\Q v H
def rIxT(K:W.Frag):R2:=λx y H Q=>∃ p xs i v,x=.ref p/\y=.int i/\SqT K H p xs/\atI xs i=some v/\Q v H
def rIxS:R2:=λx y H Q=>∃ z i c,x=.str z/\y=.int i/\z.length<=sizeLine/\atI z.cps.toList i=some c/\Q (.str ⟨#[c]⟩) H
theorem Jmy:IxR X (rIxL X.K):=by
 intro g d a s σ H x y v u Q I E F h n;let(p,O,i,z,rfl,rfl,A,B,q):=h;cases E;let(t,rfl):=F;let(k,r,l,N):=I.list A;let(j,c,G,M,J,L):=Jhn B;let(w,o,e):=r.get G;have D:=r.length;have P:=JfK;have b:EP X a σ Q w s:=⟨z,H,I,e,q⟩;by_cases m:0<=i
 .have f:i.toNat=j:=by
   rw[seqIndex_of m L]at c;show Option.some.inj c
  show item_listR l.isList m ∅ (by rw[f];simpa using o) b n
 .have f:(i+(k.toArray.size:Int)).toNat=j:=by
   rw[seqIndex_neg ∅ J]at c;rw[size_toArray, <- D];show Option.some.inj c
  show subscriptTail_builtinR (x:=w) l.isList.typeIs slot_list_getitem.lookup
   (wpAny_getItem_list_neg (Q:=λr C=>r=w/\EP X a σ Q r C) l.isList ∅ (by rw[size_toArray] <;> ac_nf) ∅ (by rw[f];simpa using o) ⟨rfl,b⟩) n
theorem JnC:IxR X (rIxT X.K):=by
 intro e c a s σ H x y v u Q I o B h n;let(p,J,i,z,rfl,rfl,g,k,q):=h;cases o;let(t,rfl):=B;let(D,r,f,G):=I.tuple g;let(j,A,C,F,M,N):=Jhn k;let(w,E,d):=r.get C;have m:=r.length;have L:=JfK;have b:EP X a σ Q w s:=⟨z,H,I,d,q⟩;show subscriptTail_builtinR (x:=w) f.typeIs slot_tuple_getitem.lookup
  (getItem_tuple (j:=j) (Q:=λr l=>r=w/\EP X a σ Q r l) f ∅ ∅ (by rw[size_toArray, <- m];show A) (by simpa using E) ⟨rfl,b⟩) n
theorem JnB:IxR X rIxS:=by
 intro b a e s σ H x y v u Q I m n h k;let(z,i,c,rfl,rfl,C,f,q):=h;let(t,rfl):=m;let(A,rfl):=n;let(j,d,p,B,r,w):=Jhn f;have g:z.cps.toList.length=z.length:=by simp[Str.length]
 rw[g]at d r w;have D:=JfK;show tail_any (typeIs_str s z t) slot_str_getitem.lookup (getItem_str (c:=c) (by
  have l:decide (i < -(2 ^ 63:Int))=false:=decide_eq_false ∅;have o:decide (i ≥ 2 ^ 63)=false:=decide_eq_false ∅;rw[l,o,Bool.or_false]) (by rw[d];simpa using p) ⟨.str ⟨#[c]⟩,H,I.tok _,⟨_,rfl⟩,q⟩) k
theorem Ji7(its:List Value)(n j:Nat)(u:Value):Obj.mapSeq (·.setIfInBounds j u) { cls:=.type "list",data:=.seq its.toArray n }={ cls:=.type "list",data:=.seq (its.set j u).toArray n }:=by
 simp[Obj.mapSeq]
variable{pins:List (Addr × Obj)}{σ:St}{H:Hp}{s:Shared}{p:Addr}{xs:List V}
theorem Inv.lst(I:Inv X pins σ H s)(h:H p=some (.lst xs)) :
  ∃(its:List Value)(n:Nat),Vals xs its/\s.heap.get? p=some { cls:=.type "list",data:=.seq its.toArray n }/\xs.length<=sizeLine:=by
 let(z,its,n,r,e):=I.hok p _ h;show(its,n,r,e,z)
variable{ys:List V}{its its':List Value}
theorem Inv.lstUpd{n':Nat}{f:Obj->Obj}(I:Inv X pins σ H s)(h:H p=some (.lst xs))
  (ho:s.heap.get? p=some { cls:=.type "list",data:=.seq its.toArray n }) (hf:f { cls:=.type "list",data:=.seq its.toArray n }={ cls:=.type "list",data:=.seq its'.toArray n' }) (r:Vals ys its') (hz:ys.length<=sizeLine) (t:Nat) :
  Inv X pins σ (upd H p (.lst ys)) { s with heap:=s.heap.update p f,toks:=t }:=by
 have e:(s.heap.update p f).get? p=some { cls:=.type "list",data:=.seq its'.toArray n' }:=by
  rw[Heap.get?_update_self f ho (by rw[hf] <;> rfl),hf]
 show I.write (x:=p) (e:=p) (by rw[h];trivial) (.inl rfl) (λb u a q=>(Heap.get?_update_other _ _ (Ne.symm a)).trans q) ⟨_,e⟩ ?_;show(hz,its',n',r,e)
def rSetL:V->V->V->Hp->(Hp->Prop)->Prop:=λo i v H Q=>∃ p xs k j,o=.ref p/\i=.int k/\H p=some (.lst xs)/\ixN xs.length k=some j/\Q (upd H p (.lst (xs.set j v)))
theorem set_list:PSet X rSetL:=by
 intro b s σ H o i v G E u Q I y z C h;let(p,B,k,j,rfl,rfl,m,x,q):=h;cases y;let(t,rfl):=z;let(a,n,r,f,A):=I.lst m;let(c,F,l,w):=JjZ x;have e:=r.length;have D:=JfK;have I':Inv X b σ (upd H p (.lst (B.set j v))) { s with heap:=s.heap.update p (Obj.mapSeq (·.setIfInBounds j u)) } :=
  I.lstUpd m f (Ji7 a n j u) (r.set C j) (by rw[List.length_set];show A) s.toks
 by_cases g:0<=k
 .have d:k.toNat=j:=by
   rw[seqIndex_of g w]at c;show Option.some.inj c
  show W.ki_setAt f g ∅ (by rw[size_toArray, <- e];show w) (by rw[d];show(_,I',q))
 .have d:(k+(a.toArray.size:Int)).toNat=j:=by
   rw[seqIndex_neg ∅ l]at c;rw[size_toArray, <- e];show Option.some.inj c
  show W.ki_setBack f ∅ (by rw[size_toArray, <- e];show l) ∅ (by rw[d];show(_,I',q))
theorem Jhd(lo hi:Option Int)(n:Nat):(sliceBounds lo hi none n).1=((HT.sIx n 0 lo:Nat):Int)/\(sliceBounds lo hi none n).2.1=((HT.sIx n n hi:Nat):Int)/\(sliceBounds lo hi none n).2.2=1:=by
 show(?_,?_,rfl)
 .cases lo with
  | none=>simp[sliceBounds,HT.sIx]
  | some i=>
   simp only[sliceBounds,HT.sIx,Option.getD_none,show(1:Int) > 0 by decide,if_true];by_cases h:i<0
   .simp only[h,if_true] <;> ac_nf
   .simp only[h,if_false] <;> ac_nf
 .cases hi with
  | none=>simp[sliceBounds,HT.sIx]
  | some i=>
   simp only[sliceBounds,HT.sIx,Option.getD_none,show(1:Int) > 0 by decide,if_true];by_cases h:i<0
   .simp only[h,if_true] <;> ac_nf
   .simp only[h,if_false] <;> ac_nf
theorem Jgn(its:List Value)(lo hi:Option Int):slicePick its.toArray lo hi none=((its.drop (HT.sIx its.length 0 lo)).take (HT.sIx its.length its.length hi-HT.sIx its.length 0 lo)).toArray:=by
 let(a,c,b):=Jhd lo hi its.toArray.size;unfold slicePick;rw[a,c,b];simp only[sliceRange_one,pick_run,size_toArray] <;> rfl
def rSlL(K:W.Frag):V->Option Int->Option Int->Hp->VK->Prop:=λx lo hi H Q=>∃ a xs,x=.ref a/\SqL K H a xs/\∀ p,H p=none->Q (.ref p) (upd H p (.lst (cutV xs lo hi)))
theorem Jne:SlR X (rSlL X.K):=by
 intro g s σ H x v vl t e f w Q I m j p pu h;let(a,c,rfl,l,q):=h;cases m;let(n,r,i,k):=I.list l;have d:=r.length;show("list",_,slot_list_getitem.lookup,i.isList.typeIs,?_);show wpAny_getItem_list_slice i.isList j p pu .none (by simp) ?_ (by rw[size_toArray] <;> ac_nf);rw[Jgn, <- d];show(.ref s.heap.objs.size,_,I.laid (t':=s.toks) (o:=.lst (cutV c e f)) (λb u q=>Heap.get?_push_of_some _ q) (Nat.le_refl _) ?_,rfl,q _ (I.hok.fresh (Nat.le_refl _)));show(Nat.le_trans (Jhs c e f) k,_,0,(r.drop (HT.sIx c.length 0 e)).take (HT.sIx c.length c.length f-HT.sIx c.length 0 e),Heap.get?_push_size _ rfl)
def flatV:V->Bool
 | .non=>true
 | .bl _=>true
 | .int _=>true
 | .str _=>true
 | _=>false
def eqV:V->V->Bool
 | .non, .non=>true
 | .bl a, .bl b=>a == b
 | .bl a, .int b=>(if a then 1 else 0) == b
 | .int a, .bl b=>a == (if b then 1 else 0)
 | .int a, .int b=>a == b
 | .str a, .str b=>a == b
 | _,_=>false
variable{A:Around}{y x:V}{u v:Value}
theorem JlR(ry:RelV y u)(rx:RelV x v)(fy:flatV y=true)(fx:flatV x=true):SeqAt.EqAt A s u v (eqV y x):=by
 cases y with
 | non=>
  cases ry;cases x with
  | non=>cases rx;show SeqAt.EqAt.same _
  | bl b=>cases rx;show SeqAt.EqAt.none_bool b
  | int b=>let(t,rfl):=rx;show SeqAt.EqAt.none_int b t
  | str b=>let(t,rfl):=rx;show SeqAt.EqAt.none_str b t
  | _=>show absurd (show false=true from fx) Bool.false_ne_true
 | bl a=>
  cases ry;cases x with
  | non=>cases rx;show SeqAt.EqAt.bool_none a
  | bl b=>cases rx;show SeqAt.EqAt.bool_bool a b
  | int b=>let(t,rfl):=rx;show SeqAt.EqAt.bool_int a b t
  | str b=>let(t,rfl):=rx;show SeqAt.EqAt.bool_str a b t
  | _=>show absurd (show false=true from fx) Bool.false_ne_true
 | int a=>
  let(c,rfl):=ry;cases x with
  | non=>cases rx;show SeqAt.EqAt.int_none a c
  | bl b=>cases rx;show SeqAt.EqAt.int_bool a c b
  | int b=>let(t,rfl):=rx;show SeqAt.EqAt.int_int a c b t
  | str b=>let(t,rfl):=rx;show SeqAt.EqAt.int_str a c b t
  | _=>show absurd (show false=true from fx) Bool.false_ne_true
 | str a=>
  let(c,rfl):=ry;cases x with
  | non=>cases rx;show SeqAt.EqAt.str_none a c
  | bl b=>cases rx;show SeqAt.EqAt.str_bool a c b
  | int b=>let(t,rfl):=rx;show SeqAt.EqAt.str_int a c b t
  | str b=>let(t,rfl):=rx;show SeqAt.EqAt.str_str a c b t
  | _=>show absurd (show false=true from fx) Bool.false_ne_true
 | _=>show absurd (show false=true from fy) Bool.false_ne_true
def eqU(x:V)(u:Value):Bool:=match u with
 | .none=>eqV .non x
 | .bool b=>eqV (.bl b) x
 | .int i _=>eqV (.int i) x
 | .str z _=>eqV (.str z) x
 | _=>false
theorem JlS(r:RelV y u)(f:flatV y=true):eqU x u=eqV y x:=by
 cases y with
 | non=>cases r;rfl
 | bl b=>cases r;rfl
 | int i=>let(t,rfl):=r;rfl
 | str z=>let(t,rfl):=r;rfl
 | _=>show absurd (show false=true from f) Bool.false_ne_true
variable{us:List Value}
theorem JfQ(h:Vals xs us):xs.all flatV=true->us.any (eqU x)=xs.any λy=>eqV y x:=by
 induction h with
 | nil=>showλ_=>rfl
 | cons r _ ih=>
  intro f;rw[List.all_cons,Bool.and_eq_true]at f;rw[any_cons,any_cons,JlS r f.1,ih f.2]
theorem JeG(rx:RelV x v)(fx:flatV x=true){xs:List V}{us:List Value}(h:Vals xs us):xs.all flatV=true->∀ u∈us,SeqAt.EqAt A s u v (eqU x u):=by
 induction h with
 | nil=>showλ_ u a=>by cases a
 | cons r _ ih=>
  intro f b a;rw[List.all_cons,Bool.and_eq_true]at f;rcases mem_cons.mp a with rfl | a
  .rw[JlS r f.1];show JlR r rx f.1 fx
  .show ih f.2 b a
def inV(x:V)(xs:List V):Bool:=xs.any λy=>eqV y x
def rIn(K:W.Frag)(neg:Bool):R2:=λx y H Q=>∃ p xs,y=.ref p/\(SqL K H p xs\/SqT K H p xs)/\flatV x=true/\xs.all flatV=true/\Q (.bl (if neg then !inV x xs else inV x xs)) H
theorem Jkf:OpR X (compareOp .In) (rIn X.K false):=by
 intro i s σ H x y v u Q I f k h;let(p,l,rfl,b,g,c,q):=h;cases k;rcases b with b | b
 .let(a,r,e,j):=I.list b;show SeqAt.in_listAt (eqU x) e.isList (λw d=>JeG f g r c w (by simpa using d)) ⟨.bl _,H,I,rfl,?_⟩;rw[show a.toArray.any (eqU x)=a.any (eqU x) by simp,JfQ r c];show q
 .let(a,r,e,j):=I.tuple b;show SeqAt.in_tupleAt (eqU x) e (λw d=>JeG f g r c w (by simpa using d)) ⟨.bl _,H,I,rfl,?_⟩;rw[show a.toArray.any (eqU x)=a.any (eqU x) by simp,JfQ r c];show q
theorem Jg5:OpR X (compareOp .NotIn) (rIn X.K true):=by
 intro i s σ H x y v u Q I f k h;let(p,l,rfl,b,g,c,q):=h;cases k;rcases b with b | b
 .let(a,r,e,j):=I.list b;show SeqAt.notIn_listAt (eqU x) e.isList (λw d=>JeG f g r c w (by simpa using d)) ⟨.bl _,H,I,rfl,?_⟩;rw[show a.toArray.any (eqU x)=a.any (eqU x) by simp,JfQ r c];show q
 .let(a,r,e,j):=I.tuple b;show SeqAt.notIn_tupleAt (eqU x) e (λw d=>JeG f g r c w (by simpa using d)) ⟨.bl _,H,I,rfl,?_⟩;rw[show a.toArray.any (eqU x)=a.any (eqU x) by simp,JfQ r c];show q
theorem JgB:CallR X (.builtin "len") (λxs H Q=>∃ p ys,xs=[.ref p]/\(SqL X.K H p ys\/SqT X.K H p ys)/\Q (.int ys.length) H):=by
 intro f s σ H xs k Q I r h;let(p,ys,rfl,b,q):=h;let(u,rfl,i):=vals1 r;cases i;have j:=JfK;rcases b with b | b
 .let(d,c,e,g):=I.list b;have a:=c.length;show Calls.call_len_list e.isList (by simp only[size_toArray] <;> ac_nf) ⟨.int ys.length,H,I.tok _,⟨s.toks+1,by rw[size_toArray,a]⟩,q⟩
 .let(d,c,e,g):=I.tuple b;have a:=c.length;show len_tuple e (by simp only[size_toArray] <;> ac_nf) ⟨.int ys.length,H,I.tok _,⟨s.toks+1,by rw[size_toArray,a]⟩,q⟩
theorem JgC:CallR X (.builtin "len") (λxs H Q=>∃ z,xs=[.str z]/\z.length<=sizeLine/\Q (.int z.length) H):=by
 intro a s σ H xs d Q I r h;let(z,rfl,b,q):=h;let(u,rfl,t,rfl):=vals1 r;have c:=JfK;show len_str ∅ ⟨.int z.length,H,I.tok _,⟨_,rfl⟩,q⟩
theorem JgD:CallR X (.type "list") (λxs H Q=>∃ p ys,xs=[.ref p]/\(SqL X.K H p ys\/SqT X.K H p ys)/\∀ l,H l=none->Q (.ref l) (upd H l (.lst ys))):=by
 intro t s σ H xs B Q I r h;let(p,ys,rfl,g,q):=h;let(u,rfl,A):=vals1 r;cases A;have i:∀(a:List Value),Vals ys a->ys.length<=sizeLine->∀(c:Heap)(f:Nat),(∀ b o',s.heap.get? b=some o'->c.get? b=some o') ->
   c.get? s.heap.objs.size=some { cls:=.type "list",dict:=none,data:=.seq a.toArray f,slots:=#[] }->EP X t σ Q (.ref s.heap.objs.size) { s with heap:=c }:=λa d k c f m e=>
  ⟨.ref s.heap.objs.size,_,I.laid (t':=s.toks) m (Nat.le_refl _) (show ObjOk X.prog X.w _ c _ (.lst ys)from⟨k,a,f,d,e⟩),rfl,q _ (I.hok.fresh (Nat.le_refl _))⟩
 rcases g with g | g
 .let(a,d,z,k):=I.list g;have j:=d.length;let(o,v,x,n,y):=z.isList;show call_list_seq p (.inl rfl) v x y (λc f m e=>i a d k c f m e) (by simp only[size_toArray] <;> ac_nf)
 .let(a,d,z,k):=I.tuple g;have j:=d.length;let(o,v,x,n,y):=z;show call_list_seq p (.inr rfl) v x y (λc f m e=>i a d k c f m e) (by simp only[size_toArray] <;> ac_nf)
def tyV(K:W.Frag)(T:String)(x:V)(H:Hp):Prop:=match x with
 | .str _=>T="str"
 | .int _=>T="int"
 | .ref p=>(T="list"/\∃ xs,SqL K H p xs)\/(T="tuple"/\∃ o,K.lookup p=some o/\o.cls=.type "tuple"/\o.dict=none) \/
   (T="dict"/\((∃ kvs,H p=some (.dK kvs))\/∃ kvs,H p=some (.dT kvs)))\/(T="set"/\∃ S n,H p=some (.set S n))
 | _=>False
variable{T:String}
theorem Joi(I:Inv X pins σ H s)(r:RelV x v)(ty:tyV X.K T x H) :
  s.TypeIs v T/\∀ a,v=.ref a->∃ ob,s.heap.get? a=some ob/\ob.dict=none:=by
 cases x with
 | str z=>
  let(t,rfl):=r;cases(show T="str" from ty);show(typeIs_str s z t,λ_ e=>nomatch e)
 | int i=>
  let(t,rfl):=r;cases(show T="int" from ty);show(typeIs_int s i t,λ_ e=>nomatch e)
 | ref p=>
  cases r;rcases ty with⟨rfl,xs,hq⟩ | ⟨rfl,o,hk,hc,f⟩ | ⟨rfl,hk⟩ | ⟨rfl,S,n,hk⟩
  .let(h,_,g,_):=I.list hq;show(g.isList.typeIs,λa e=>?_);cases e;let(o,n,e,c,f,_):=g;show(o,e,f)
  .show(⟨o,I.kIn p o hk,hc⟩,λa e=>?_);cases e;show(o,I.kIn _ o hk,f)
  .have z:∃ o,s.heap.get? p=some o/\o.ExactDict:=by
    rcases hk with⟨kvs,hk⟩ | ⟨kvs,hk⟩
    .let(_,_,_,_,o,_,_,e,b,_):=I.hok p _ hk;show(o,e,b)
    .let(_,_,_,_,o,_,_,e,b,_):=I.hok p _ hk;show(o,e,b)
   let(o,e,b):=z;show(⟨o,e,b.1⟩,λa d=>?_);cases d;show(o,e,b.2.1)
  .let(o,_,_,_,e,b,_):=I.hok p _ hk;show(⟨o,e,b.1⟩,λa d=>?_);cases d;show(o,e,b.2.1)
 | _=>show False.elim ty
def tBM(K:W.Frag)(T:String)(r:V->List V->Hp->VK->Prop)(to:TE)(t:TA):TE:=λσ H Q=>to σ H λx H1=>tyV K T x H1/\t σ H1 λxs H2=>r x xs H2 Q
variable{o e:Expr}{es:List Expr}{to:TE}{name:Str}{apos cpos:Pos}{id:String}{r:V->List V->Hp->VK->Prop}{t:TA}
theorem pe_bm(pa:PlainAttrs T)(slot:Slot T name id)(hty:typeOf (.builtin id)=pure (.type "method_descriptor"))(hm:MtR X id r)(ho:PE X o to)(ha:PA X (e::es) t)
  (hbase:autoParam (attributeBase o name X.env (eval o X.env)=eval o X.env) Au)
  (hfew:autoParam (((backTo cpos (starEach (e::es) X.env)).all (λx=>!x.1)&&(backToKw cpos (keywordEach [] X.env)).all (λx=>x.1.isSome)
   && decide ((e::es).length+([]:List Keyword).length+(if([]:List Keyword).isEmpty then 0 else 1)<30))=true) Au)
  (hline:autoParam ((apos.endLine == cpos.line)=true) Au) (hs:autoParam (starEach (e::es) X.env=(false,eval e X.env)::starEach es X.env) Au) (hplain:autoParam ((backTo cpos (starEach es X.env)).any (·.1)=false) Au) :
  PE X (.Call (.Attribute o name apos) (e::es) [] cpos) (tBM X.K T r to t):=by
 intro a s σ H Q I h;show wpAny_Call_method_late hbase hfew hline rfl (thn (ho a s σ H _ I h) λv u ζ=>?_);let(x,l,I1,b,j,k):=ζ;let(m,n):=Joi I1 b j;show(T,id,pa,slot,hty,m,n,?_);have c:=ha cpos a u σ l _ I1 k;rw[hs]at c ⊢;show Calls.callWith_builtin (by show(false||(backTo cpos (starEach es X.env)).any (·.1))=false;rw[hplain] <;> rfl) (Calls.evalArgs_plain ?_);show thn c λp d ζ=>by let(i,g,I2,q,f):=ζ;show hm a d σ g x i v p Q I2 b q f
end
def MtM(X:Cx)(id:String)(r:V->List V->Hp->VK->Prop):Prop :=
 ∀(pins:List (Addr × Obj))(s:Shared)(σ : St)(H:Hp)(x:V)(xs:List V)(v:Value)(us:List Value)(Q:VK),Inv X pins σ H s->RelV x v->Vals xs us->r x xs H Q ->
  wpAny (model X.prog X.w) X.A (call (.builtin id) (v::us)) (EP X pins σ Q) X.xe s
theorem Vals.one{x:V}{us:List Value}(h:Vals [x] us):∃ u,us=[u]/\RelV x u:=by
 cases h with
 | cons r t=>cases t;show(_,rfl,r)
theorem Vals.eraseIdx:∀{xs:List V}{us:List Value}(i:Nat),Vals xs us->Vals (xs.eraseIdx i) (us.eraseIdx i)
 | _,_,_, .nil=>.nil
 | _,_,0, .cons _ t=>t
 | _,_,i+1, .cons r t=>.cons r (Vals.eraseIdx i t)
theorem JgN:∀(l:List α)(i:Nat),(l.eraseIdx i).length<=l.length
 | [],_=>Nat.le_refl _
 | _::_,0=>Nat.le_succ _
 | _::r,i+1=>Nat.succ_le_succ (JgN r i)
variable{X:Cx}{pins:List (Addr × Obj)}{σ:St}{H:Hp}{s:Shared}{l b:Addr}{xs ys zs:List V}{its:List Value}{t':Nat}
theorem Inv.lset{its':List Value}{f:Array Value->Array Value}(I:Inv X pins σ H s)(hH:H l=some (.lst xs))
  (e:s.heap.get? l=some { cls:=.type "list",data:=.seq its.toArray n }) (hf:f its.toArray=its'.toArray) (hv:Vals ys its') (hz:ys.length<=sizeLine) :
  Inv X pins σ (upd H l (.lst ys)) { s with heap:=s.heap.update l (Obj.mapSeq f),toks:=t' }:=by
 have q:=PySem.IsL.update e f;rw[hf]at q;show I.write (x:=l) (e:=l) (by rw[hH];show trivial) (.inl rfl) (λc u a b=>(Heap.get?_update_other s.heap (Obj.mapSeq f) (Ne.symm a)).trans b) ⟨_,q⟩ ?_;show(hz,its',_,hv,q)
theorem Inv.lnew(I:Inv X pins σ H s)(hv:Vals ys its)(hz:ys.length<=sizeLine) :
  Inv X pins σ (upd H s.heap.objs.size (.lst ys)) { s with heap:=s.heap.push { cls:=.type "list",data:=.seq its.toArray },toks:=t' } :=
 I.laid (λ_ _ q=>Heap.get?_push_of_some _ q) (Nat.le_refl _) ⟨hz,its,0,hv,Heap.get?_push_size _ rfl⟩
theorem Inv.fresh(I:Inv X pins σ H s):H s.heap.objs.size=none:=I.hok.fresh (Nat.le_refl _)
theorem Inv.lstM(I:Inv X pins σ H s)(hH:H l=some (.lst xs)):xs.length<=sizeLine/\∃(its:List Value)(n:Nat),Vals xs its/\xs.length=its.length/\s.heap.get? l=some { cls:=.type "list",data:=.seq its.toArray n }:=by
 let(z,its,n,r,e):=I.hok l _ hH;show(z,its,n,r,r.length,e)
theorem Jlf(h:n<=sizeLine):Builtin.List.listTooLong n=false:=by
 unfold Builtin.List.listTooLong;show decide_eq_false ∅
def Jm4:V->List V->Hp->VK->Prop:=λx vs H Q=>∃ l xs y,x=.ref l/\vs=[y]/\H l=some (.lst xs)/\xs.length<sizeLine/\Q .non (upd H l (.lst (xs++[y])))
theorem Jbf:MtM X "list.append" Jm4:=by
 intro c s σ H x j v o Q I d f h;let(l,m,y,rfl,rfl,b,k,q):=h;cases d;let(u,rfl,g):=f.one;let(z,a,n,r,i,e):=I.lstM b;show call_meets F.slot_list_append ⟨_,e,rfl⟩ F.entry_list_append (F.args_list_append_2 _ _) (PySem.list_append l a.toArray n u (by rw[size_toArray];ac_nf)) ⟨e,?_⟩;show(.non,_,I.lset (its':=a++[u]) b e (by simp) (r.append (.cons g .nil)) ?_,rfl,q);rw[length_append,length_singleton];ac_nf
def Jm5:V->List V->Hp->VK->Prop:=λx vs H Q=>∃ l b xs zs,x=.ref l/\vs=[.ref b]/\H l=some (.lst xs)/\H b=some (.lst zs)/\xs.length+zs.length<=sizeLine/\Q .non (upd H l (.lst (xs++zs)))
theorem Jj5:MtM X "list.extend" Jm5:=by
 intro i s σ H x C v G Q I k p h;let(l,b,E,J,rfl,rfl,g,o,D,q):=h;cases k;let(u,rfl,w):=p.one;cases w;let(z,c,n,r,A,e):=I.lstM g;let(B,a,j,t,y,m):=I.lstM o;have f:c.toArray.size+a.toArray.size<=sizeLine:=by rw[size_toArray,size_toArray];ac_nf
 have d:¬(!c.toArray.isEmpty&&Builtin.List.listTooLong (c.toArray.size+a.toArray.size))=true:=by
  rw[Jlf f,Bool.and_false];show Bool.false_ne_true
 show call_meets F.slot_list_extend ⟨_,e,rfl⟩ F.entry_list_extend (F.args_list_extend_2 _ _)
  (AutoSeq1.list_extend_list_list_0 l c.toArray n b a.toArray j d (by rw[size_toArray];ac_nf) ∅) ⟨e,m,?_⟩
 show(.non,_,I.lset (its':=c++a) g e (by simp) (r.append t) ?_,rfl,q);rw[length_append];ac_nf
def Jn2:V->List V->Hp->VK->Prop:=λx vs H Q=>∃ l xs i k y,x=.ref l/\vs=[.int i]/\H l=some (.lst xs)/\-(2 ^ 63)<=i/\i<2 ^ 63/\seqIndex? i xs.length=some k/\xs[k]?=some y/\Q y (upd H l (.lst (xs.eraseIdx k)))
theorem Jld:MtM X "list.pop" Jn2:=by
 intro d s σ H x E v G Q I o A h;let(l,m,i,k,y,rfl,rfl,c,p,B,f,C,q):=h;cases o;let(u,rfl,D):=A.one;let(t,rfl):=D;let(z,a,n,r,g,e):=I.lstM c;let(w,j,b):=r.get C;show call_meets F.slot_list_pop ⟨_,e,rfl⟩ F.entry_list_pop (F.args_list_pop_2 _ _)
  (MeetsSeq.list_pop_at l a.toArray n i t k w (fitsIndex_both p B) (by rw[size_toArray, <- g];show f) (by rw[<- Array.getElem?_toList];show j) (by rw[size_toArray];ac_nf)) ⟨e,?_⟩
 show(y,_,I.lset (its':=a.eraseIdx k) c e ?_ (r.eraseIdx k) ?_,b,q)
 .show a.toArray.eraseIdxIfInBounds k=(a.eraseIdx k).toArray;rw[List.eraseIdxIfInBounds_toArray]
 .have:=JgN m k;ac_nf
def rCat:R2:=λx y H Q=>∃ l b xs zs,x=.ref l/\y=.ref b/\H l=some (.lst xs)/\H b=some (.lst zs)/\xs.length+zs.length<=sizeLine/\∀ p,H p=none->Q (.ref p) (upd H p (.lst (xs++zs)))
theorem JnS:OpR X (binaryOp .Add) rCat:=by
 intro d s σ H x y v u Q I i j h;let(l,b,C,D,rfl,rfl,f,m,B,q):=h;cases i;cases j;let(z,c,n,r,t,e):=I.lstM f;let(w,a,A,o,p,k):=I.lstM m;show PySem.P.add_list e k ?_ (by rw[size_toArray,size_toArray];ac_nf);have g:c.toArray++a.toArray=(c++a).toArray:=by simp
 rw[g];show(.ref _,_,I.lnew (t':=s.toks) (r.append o) (by rw[length_append];ac_nf),rfl,q _ I.fresh)
section
variable{prog:Program}{A:Around}{E:Value->Shared->Prop}{w:World}
end
end L2
namespace Att
open PySem PySem.W PySem.Calls PyProof.Rows
theorem JeU{P:Params}{h:Heap}:∀(ns:List Int)(vs:List Value),WellAll P h vs (ns.map WData.int)->IntsAre vs ns:=by
 intro ns;induction ns with
 | nil=>
  intro vs w;rw[map_nil]at w;cases w;show .nil
 | cons n ns ih=>
  intro vs w;rw[map_cons]at w;cases w with
  | cons a b=>
   cases a;show .cons _ _ (ih _ b)
variable{l:OpenLaw}{n:Nat}
theorem Jky(hn:l.most=some n){P:Params}{h:Heap}{args:List WData}{vals:List Value}
  (hpre:l.row.toRowW.claim.pre args=true) (hwl:WellAll P h vals args) :
  ∃ a vs ns,vals=[Value.ref a]/\args=[WData.list (ns.map WData.int)]/\h.get? a=some { cls:=.type "list",data:=.seq vs.toArray }/\IntsAre vs ns/\ns.length<=n:=by
 have f:WShape.hasAll [] args [.list .int]=true:=(pre_splitW hpre).1;have g:l.pre.holds [] { args:=args }=true:=(pre_splitW hpre).2;let(d,r,rfl,j,m):=hasAllW_cons f;obtain rfl:=hasAllW_nil m;let(o,rfl,i):=hasW_list j;let(ns,rfl):=items_int i;have b:ns.length<=n:=by
  unfold OpenLaw.pre at g;have c:(WTm.not (.lt (.lit (.int (n:Int))) (.len (.arg 0)))).holds [] { args:=[.list (ns.map .int)] }=true:=by
   have c:=(holds_andW g).1;rw[hn]at c;show c
  have e:=condW_of c (w_not (w_lt w_lit (w_len_list (w_arg rfl))));rw[length_map]at e;show Nat.le_of_not_lt λq=>?_;have k:(n:Int)<((ns.length:Nat):Int):=by ac_nf
  first
   | (rw[decide_eq_true k]at e;show absurd e ⋯)
   | (simp at e;ac_nf)
 cases hwl with
 | cons w1 w2=>
  cases w2;cases w1 with
  | list ho hall=>show(_,_,ns,rfl,rfl,ho,JeU ns _ hall,b)
theorem Jkn(l:OpenLaw)(args:List WData):l.row.toRowW.claim.post args (.bool true) args=true :=
 postW_of (r:=l.row.toRowW) (X:=(true == true))
  (show WShape.has [] (.bool true) .bool=true by first | rfl | decide | simp[WShape.has,WShape.arms,WShape.armsAll])
  (show(WTm.eq .res (.lit (.bool true))).value [] { args:=args,res:=some (.bool true),after:=args }=some (.bool (true == true))from w_eq_bool (w_res rfl) w_lit) rfl
theorem attach_call{q:Program}{loose:List Str}{XP:(Str->Option Value)->Heap->Prop}{YP:World->Heap->Prop}{d:DefRec}
  (hn:l.most=some n) (hdf:d.params.defaults=[])
  (call:∀(w:World)(s₀ s₁ : Shared)(mg mb:Str->Option Value)(fa:Addr)(o:Obj)(pm cd doc:Value)(a:Addr)(vs:List Value)(ns:List Int),
   Ground q loose [] XP w s₀ mg mb s₁.heap->YP w s₁.heap ->
   s₁.heap.get? fa=some o->o.data=.func (docDef d.name d.params d.body d.scope pm cd doc)->s₁.heap.CodeRec cd d.name->mg d.name=some (.ref fa) ->
   s₁.heap.get? a=some { cls:=.type "list",data:=.seq vs.toArray }->IntsAre vs ns->ns.length<=n->s₁.gens=#[] ->
   codeAny (model l.prog w) callerA (.call (.ref fa) ⟨[.ref a],[]⟩) (λr s'=>r=.ok (.ret (.bool true))/\OldK s₁.heap s'.heap/\s'.os=s₁.os/\AllBare s'.gens) s₁) :
  WalkO q loose XP YP l.row.toRowW d [] (λf vs=>PySem.call f vs):=by
 intro w s₀ s₁ mg mb G Y fa o pm cd doc B kV z C h p j x t k H e m v i F;obtain rfl:B=.none:=Dflts.none p hdf;obtain rfl:kV=.none:=Dflts.noKw p;let(a,vs,ns,rfl,rfl,g,b,c):=Jky hn e i;show enter_call (codeAny_mono (call w s₀ s₁ mg mb fa o pm cd doc a vs ns G Y z (fd_plain C) h j g b c x) λr s' u=>?_);let(rfl,D,A,E):=u;show(.inl ⟨.bool true, .bool true,[],rfl,λ_=>rfl, .bool true,Jkn l _,λ_=>⟨List.Pairwise.nil,λ_ y=>(nomatch y)⟩⟩,D,A,E)
section
variable{prog:Program}{A:Around}{E:Value->Shared->Prop}{s:Shared}{K:Frag}{w:World}
end
end Att
namespace L2
open PySem PySem.Spec PyProof.Rows
variable{vs:List Value}{ns:List Int}
theorem JkM(h:IntsAre vs ns):Vals (ns.map V.int) vs:=by
 induction h with
 | nil=>show .nil
 | cons n t _ ih=>show .cons ⟨t,rfl⟩ ih
def Only(H:Hp):Prop:=∀ b,H b=none\/∃ o xs,H b=some (.frz o (.lst xs))
variable{P:Program}{mg:Str->Option Value}{a:Addr}{fd:FuncData}{x:Str}
theorem Jk9{w:World}{K:W.Frag}{mb:Str->Option Value}{CX:CXT}{k:Nat}{fa:Addr}{sp:Sp}{s₁:Shared}
  (KX:K.In s₁.heap) (hns:s₁.heap.Ns mainGlobals mg) (hb:s₁.heap.Ns builtinsNs mb) (hbb:∀ x:Str,x≠"__name__"->mb x=bootBuiltins x) (hlim:s₁.heap.NoLimit) (hg:s₁.gens=#[])
  (ha:s₁.heap.get? a=some { cls:=.type "list",data:=.seq vs.toArray }) (hi:IntsAre vs ns) (hl:ns.length<=sizeLine) (hr:Room k callerA)
  (F:∀ base:Heap,K.In base->base.Ns mainGlobals mg->FnOk P w K mg base CX k fa fd [x] sp) (hbind:∀(s:Shared)(u:Value),BindsTo s fd ⟨[u],[]⟩ [(x,u)])
  (hsp:∀ H:Hp,Only H->SqL K H a (ns.map V.int)->sp [.ref a] H (λv _=>v=.bl true) λ_ _ _=>False)
  (hCX:∀ H e s',CX [] H s₁ (λ_ _ _=>False) e s'->False) :
  codeAny (model P w) callerA (.call (.ref fa) ⟨[.ref a],[]⟩) (λr s'=>r=.ok (.ret (.bool true))/\OldK s₁.heap s'.heap/\s'.os=s₁.os/\AllBare s'.gens) s₁:=by
 have G:=JkM hi;have i:=hi.length;have g:∀ H:Hp,Only H->SqL K H a (ns.map V.int)->HOk P w H s₁.heap->(∀ b,H b≠none->b=a)->(H a≠none->K.lookup a=none) ->
   codeAny (model P w) callerA (.call (.ref fa) ⟨[.ref a],[]⟩) (λr s'=>r=.ok (.ret (.bool true))/\OldK s₁.heap s'.heap/\s'.os=s₁.os/\AllBare s'.gens) s₁:=by
  intro H C Q y E hK;have c:∀{b:Addr}{o:Obj},s₁.heap.get? b=some o->H b=none->(hidT s₁.heap H).get? b=some o:=λe n=>Jk5 e n;have B:∀{b:Addr}{o:Obj}{es:Array DictEntry}{ep:Nat},s₁.heap.get? b=some o->o.data=.dict es ep->H b=none:=λ{b o es ep} e d=>by
   cases q:H b with
   | none=>rfl
   | some u=>
    have A:b=a:=E b (by rw[q];simp);subst A;rw[ha]at e;cases e;have S:Data.seq vs.toArray _=Data.dict es ep:=d;cases S
  have f:∀{b:Addr}{m:Str->Option Value},s₁.heap.Ns b m->(hidT s₁.heap H).Ns b m:=λ{b m} ζ=>(by let(o,es,ep,e,d,r):=ζ;show(o,es,ep,c e (B e d),d,r));have p:K.In (hidT s₁.heap H):=λb o e=>c (KX b o e) (by
   cases q:H b with
   | none=>rfl
   | some u=>
    have A:b=a:=E b (by rw[q];simp);subst A;rw[hK (by rw[q];simp)]at e;cases e)
  have M:Mod K mg (hidT s₁.heap H):=⟨p,f hns,⟨mb,f hb,hbb⟩,let⟨mc,h1,h2⟩:=hlim;⟨mc,f h1,h2⟩⟩;have J:Env0 P w K mg (hidT s₁.heap H) callerA [] s₁ H:=⟨rfl,M,λb o e=>JmL e,Nat.le_of_eq (JjV _ _),trivial,λb hb=>absurd (show b∈([]:List Addr)from hb) (by simp),y, .of_eq hg⟩;show codeAny_mono ((F _ p (f hns)).run callerA [] s₁ H ⟨[.ref a],[]⟩ [.ref a] [.ref a] _ _ hr J (hbind s₁ (.ref a)) (.cons rfl .nil) (hsp H C Q)) λr s' h=>?_;cases r with
  | error e=>show(hCX H e s' h).elim
  | ok fl=>
   cases fl with
   | next=>show False.elim h
   | brk=>show False.elim h
   | cont=>show False.elim h
   | ret u=>
    let(v,T,os,l,I,t,N,q):=h;have R:v=.bl true:=q;subst R;obtain rfl:u=Value.bool true:=N;show(rfl,OldK.of_keep λb o e=>?_,os,l);cases q:H b with
    | none=>show I.keep b o e q (by intro z;show absurd (show b∈([]:List Addr)from z) (by simp)) (by simp)
    | some u=>
     rcases C b with z | ⟨ob,xs,z⟩
     .rw[q]at z;cases z
     .have L:=I.frzs b ob _ z;let(D,_):=y b _ z;let(O,_):=t b _ L;rw[e]at D;cases D;show O
 cases hk:K.lookup a with
 | some o=>
  have e:=KX a o hk;rw[ha]at e;cases e;show g (λ_=>none) (λ_=>.inl rfl) (.inr ⟨_,vs.toArray,_,hk,rfl,rfl,rfl,by rw[size_toArray,i];show hl,by simpa using G⟩) (λb u z=>by have j:(none:Option HO)=some u:=z;cases j) (λb z=>absurd rfl z) λz=>absurd rfl z
 | none=>
  show g (λb=>if b=a then some (.frz { cls:=.type "list",data:=.seq vs.toArray } (.lst (ns.map V.int)))else none) (λb=>?_) (.inl (.inr ⟨{ cls:=.type "list",data:=.seq vs.toArray },if_pos rfl⟩)) (λb u z=>?_) (λb z=>?_) λ_=>hk
  .by_cases hb:b=a
   .show .inr ⟨_,_,if_pos hb⟩
   .show .inl (if_neg hb)
  .by_cases hb:b=a
   .have j:=(if_pos hb).symm.trans z;cases j;subst hb;show(ha,by rw[length_map];show hl,vs,_,G,ha)
   .have j:=(if_neg hb).symm.trans z;cases j
  .by_cases hb:b=a
   .show hb
   .show absurd (if_neg hb) z
abbrev KOf{K:W.Frag}{h:Heap}(_:K.In h):W.Frag:=K
theorem JkN{l:W.OpenLaw}{n k:Nat}{q:Program}{loose:List Str}{XP:(Str->Option Value)->Heap->Prop}{YP:World->Heap->Prop}{d:DefRec}{K:Params->W.Frag}{CX:World->CXT}{sp:World->Sp}
  (hn:l.most=some n) (hn2:n<=sizeLine) (hdf:d.params.defaults=[]) (hr:Room k callerA)
  (hY:∀(w:World)(h:Heap),YP w h->(K w.params).In h)
  (F:∀(w:World)(mg:Str->Option Value)(fa:Addr)(h:Heap),(K w.params).In h->h.Ns mainGlobals mg->mg d.name=some (.ref fa) ->
   ∃ fd:FuncData,(∀(s:Shared)(u:Value),BindsTo s fd ⟨[u],[]⟩ [(x,u)]) /\
    ∀ base:Heap,(K w.params).In base->base.Ns mainGlobals mg->FnOk l.prog w (K w.params) mg base (CX w) k fa fd [x] (sp w))
  (hsp:∀(w:World)(H:Hp)(a:Addr)(ns:List Int),ns.length<=n->Only H->SqL (K w.params) H a (ns.map V.int)->sp w [.ref a] H (λv _=>v=.bl true) λ_ _ _=>False)
  (hCX:∀(w:World)(H:Hp)(s:Shared)(e:Value)(s':Shared),CX w [] H s (λ_ _ _=>False) e s'->False) :
  W.WalkO q loose XP YP l.row.toRowW d [] (λf vs=>PySem.call f vs):=by
 show Att.attach_call hn hdf λw s₀ s₁ mg D fa o J C A a vs ns G Y E I r m j i c t=>?_;have KX:=hY w _ Y;let(fd,p,z):=F w mg fa _ KX G.T.g m;show Jk9 KX G.T.g G.T.b G.T.builtins G.T.nolimit t j i (Nat.le_trans c hn2) hr z p (λH y B=>hsp w H a ns c y B) λH e s'=>hCX w H s₁ e s'
def inClass(s:Stmt)(j:Nat):Stmt:=match s with
 | .ClassDef _ _ _ body _ _ _ _ _ _ _=>body.getD j (.Pass ⟨0,0,0,0⟩)
 | _=>.Pass ⟨0,0,0,0⟩
def Jan(s:Stmt):Arguments:=match s with
 | .FunctionDef _ a _ _ _ _ _ _ _ _=>a
 | _=>{ posonlyargs:=[],args:=[],vararg:=none,kwonlyargs:=[],kw_defaults:=[],kwarg:=none,defaults:=[] }
def Jal(s:Stmt):List Stmt:=match s with
 | .FunctionDef _ _ b _ _ _ _ _ _ _=>b
 | _=>[]
def Jac(s:Stmt):Scope:=match s with
 | .FunctionDef _ _ _ _ _ _ sc _ _ _=>sc
 | _=>{ kind:=.function,names:=[],isGenerator:=false,isCoroutine:=false }
abbrev E0:XK:=λ_ _ _=>False
structure Fun(K:W.Frag)(x qual:Str)(st:Stmt)(f:Addr)(fd:FuncData):Prop where
 ex:∃(oc:Value)(od:Option Addr)(kV doc pm:Value)(an:Option Addr)(cdv ct:Value)(osl:Array (Option Value)),
  fd=W.fnOf x qual (Jan st) (Jal st) (Jac st) .none kV doc pm an cdv ct/\K.lookup f=some ⟨oc,od, .func fd,osl⟩/\W.codeIn K cdv qual=true
 kp:W.keepIn K (.ref f)=true
section
variable{w:World}{K:W.Frag}{base:Heap}
theorem Fun.binds{qual:Str}{st:Stmt}{f:Addr}{ps:List Str}(F:Fun K x qual st f fd)
  (h:∀(kV doc pm:Value)(an:Option Addr)(cdv ct:Value)(us:List Value),us.length=ps.length->bindArgs (W.fnOf x qual (Jan st) (Jal st) (Jac st) .none kV doc pm an cdv ct) ⟨us,[]⟩=pure (ps.zip us)):Binds K fd ps []:=by
 let(c,d,kV,doc,pm,an,cdv,ct,b,rfl,lk,a):=F.ex;show .all (h kV doc pm an cdv ct)
end
variable{X:Cx}
theorem pv(i:Nat){x:Str}{pos:Pos}(hN:autoParam (X.N[i]?=some x) Au)(hv:autoParam (Vis X.env.scope x) Au)(hd:autoParam ((x == ("__debug__" : Str))=false) Au)
  (hcd:autoParam ((x == ("__classdict__" : Str))=false) Au):PE X (.Name x pos) (tVar i):=JnW hN hv hd hcd
def Same(H H':Hp):Prop:=∀ b o,H b=some o->H' b=some o
theorem Same.refl(H:Hp):Same H H:=λ_ _ h=>h
variable{H:Hp}
theorem Same.trans{H1 H2:Hp}(a:Same H H1)(b:Same H1 H2):Same H H2:=λc o h=>b c o (a c o h)
theorem Same.seq{K:W.Frag}{H':Hp}{xs:List V}(e:Same H H')(h:SqL K H a xs):SqL K H' a xs:=by
 rcases h with(h | ⟨o,h⟩) | h
 .show .inl (.inl (e _ _ h))
 .show .inl (.inr ⟨o,e _ _ h⟩)
 .show .inr h
end L2
set_option maxHeartbeats 4000000
namespace L2
open PySem PySem.Spec PyProof.Rows
section
variable{κ:Type}[DecidableEq κ]
def valV(kvs:List (κ × V))(k : κ):Option V:=(kvs.find? λkv=>decide (kv.1=k)).map (·.2)
def putK(kvs:List (κ × V))(k : κ)(v:V):List (κ × V) :=
 if(kvs.any λkv=>decide (kv.1=k))=true then kvs.map (λkv=>if kv.1=k then(kv.1,v)else kv)else kvs++[(k,v)]
def dropK(kvs:List (κ × V))(k : κ):List (κ × V):=kvs.filter λkv=>decide (kv.1≠k)
theorem Jd4{p : κ × V}{r:List (κ × V)}{k : κ}(e:p.1=k):valV (p::r) k=some p.2:=by simp[valV,List.find?_cons,e]
theorem Jd3{p : κ × V}{r:List (κ × V)}{k : κ}(e:¬ p.1=k):valV (p::r) k=valV r k:=by simp[valV,List.find?_cons,e]
theorem JiO(k : κ):∀ kvs:List (κ × V),(kvs.any λkv=>decide (kv.1=k))=(valV kvs k).isSome
 | []=>rfl
 | p::r=>by
  rw[any_cons];by_cases e:p.1=k
  .simp only[Jd4 e,decide_eq_true e,Bool.true_or,Option.isSome_some]
  .rw[Jd3 e,decide_eq_false e,Bool.false_or];show JiO k r
theorem JeX(kvs:List (κ × V))(k : κ)(v:V):(putK kvs k v).length<=kvs.length+1:=by
 unfold putK;split
 .rw[length_map];ac_nf
 .rw[length_append,length_cons,length_nil];ac_nf
variable{o:Option V}
theorem RelO.isSome_eq{u:Option Value}(r:RelO o u):o.isSome=u.isSome:=by
 cases o with
 | none=>cases u with
  | none=>rfl
  | some _=>show(show False from r).elim
 | some _=>cases u with
  | none=>show(show False from r).elim
  | some _=>rfl
theorem KV.val{kvs:List (κ × V)}{vs:List (κ × Value)}(r:KV kvs vs)(k : κ):RelO (valV kvs k) (valueAt vs k):=by
 unfold KV at r;induction r with
 | nil=>show True.intro
 | @cons p q ps qs h t ih=>
  let(c,d):=h;by_cases e:p.1=k
  .have a:q.1=k:=c.symm.trans e;have b:valueAt (q::qs) k=some q.2:=by simp[valueAt,List.find?_cons,a]
   rw[Jd4 e,b];show d
  .have a:¬ q.1=k:=λz=>e (c.trans z);have b:valueAt (q::qs) k=valueAt qs k:=by simp[valueAt,List.find?_cons,a]
   rw[Jd3 e,b];show ih
theorem KV.any{kvs:List (κ × V)}{vs:List (κ × Value)}(r:KV kvs vs)(k : κ):(kvs.any λkv=>decide (kv.1=k))=vs.any λkv=>decide (kv.1=k):=by
 unfold KV at r;induction r with
 | nil=>rfl
 | cons h t ih=>rw[any_cons,any_cons,ih,h.1]
theorem KV.repl{kvs:List (κ × V)}{vs:List (κ × Value)}(r:KV kvs vs)(k : κ){y:V}{u:Value}(ry:RelV y u) :
  KV (kvs.map λkv=>if kv.1=k then(kv.1,y)else kv) (vs.map λkv=>if kv.1=k then(kv.1,u)else kv):=by
 unfold KV at r ⊢;induction r with
 | nil=>show .nil
 | @cons p q ps qs h t ih=>
  rw[map_cons,map_cons];show .cons ?_ ih;let(a,b):=h;by_cases e:p.1=k
  .rw[if_pos e,if_pos (a.symm.trans e)];show(a,ry)
  .rw[if_neg e,if_neg (λz=>e (a.trans z))];show(a,b)
theorem KV.put{kvs:List (κ × V)}{vs:List (κ × Value)}(r:KV kvs vs)(k : κ){y:V}{u:Value}(ry:RelV y u):KV (putK kvs k y) (stored vs k u):=by
 unfold putK stored;rw[r.any k];by_cases e:(vs.any λa=>decide (a.1=k))=true
 .rw[if_pos e,if_pos e];show r.repl k ry
 .rw[if_neg e,if_neg e];show Paired.snoc r ⟨rfl,ry⟩
theorem KV.drop{kvs:List (κ × V)}{vs:List (κ × Value)}(r:KV kvs vs)(k : κ):KV (dropK kvs k) (without vs k):=by
 unfold KV at r ⊢;unfold dropK without;induction r with
 | nil=>show .nil
 | @cons p q ps qs h t ih=>
  let(c,f):=h;rw[List.filter_cons,List.filter_cons];by_cases e:p.1=k
  .have a:¬ decide (p.1≠k)=true:=by simp[e]
   have b:¬ decide (q.1≠k)=true:=by simp[c.symm.trans e]
   rw[if_neg a,if_neg b];show ih
  .have d:¬ q.1=k:=λz=>e (c.trans z);have a:decide (p.1≠k)=true:=by simp[e]
   have b:decide (q.1≠k)=true:=by simp[d]
   rw[if_pos a,if_pos b];show .cons ⟨c,f⟩ ih
theorem KV.length{kvs:List (κ × V)}{vs:List (κ × Value)}(r:KV kvs vs):kvs.length=vs.length:=Paired.length r
theorem JkY(kvs:List (κ × V))(k : κ):(dropK kvs k).length<=kvs.length:=List.length_filter_le _ _
end
variable{P:Program}
theorem kV_is{w:World}{k:Key}{u:Value}(r:RelV (kV k) u):(JaG P w).is k u=true:=by
 cases k with
 | inl i=>have e:=(show u=Value.bool i from r);subst e;show JgP P w i
 | inr x=>let(t,e):=(show∃ t,u=Value.str x t from r);subst e;show JhF P w x t
theorem JgL{w:World}:∀{ks:List Key}{us:List Value},Vals (ks.map kV) us->ItemsAre (JaG P w) ks us
 | [],_,r=>by rw[map_nil]at r;cases r;show .nil
 | k::ks,_,r=>by
  rw[map_cons]at r;cases r with
  | cons h t=>show .cons (kV_is h) (JgL t)
abbrev KT(H:Hp):List (List Key × V)->List (List Key × Addr × Value)->Prop:=Paired λp q=>p.1=q.1/\H q.2.1=some (.tup (p.1.map kV))/\RelV p.2 q.2.2
variable{H:Hp}{kvs:List (List Key × V)}{xs:List (List Key × Addr × Value)}
theorem KT.val(r:KT H kvs xs)(k:List Key):RelO (valV kvs k) ((atKey xs k).map (·.2)):=by
 induction r with
 | nil=>show True.intro
 | @cons p q ps qs h t ih=>
  let(c,_,d):=h;by_cases e:p.1=k
  .have a:q.1=k:=c.symm.trans e;have b:atKey (q::qs) k=some q.2:=by simp[atKey,List.find?_cons,a]
   rw[Jd4 e,b];show d
  .have a:¬ q.1=k:=λz=>e (c.trans z);have b:atKey (q::qs) k=atKey qs k:=by simp[atKey,List.find?_cons,a]
   rw[Jd3 e,b];show ih
theorem KT.repl(r:KT H kvs xs)(k:List Key){y:V}{u:Value}(ry:RelV y u) :
  KT H (kvs.map λkv=>if kv.1=k then(kv.1,y)else kv) (xs.map (putAt k u)):=by
 induction r with
 | nil=>show .nil
 | @cons p q ps qs h t ih=>
  rw[map_cons,map_cons];show .cons ?_ ih;let(a,b,c):=h;unfold putAt;by_cases e:p.1=k
  .rw[if_pos e,if_pos (a.symm.trans e)];show(a,b,ry)
  .rw[if_neg e,if_neg (λz=>e (a.trans z))];show(a,b,c)
theorem KT.put(r:KT H kvs xs)(k:List Key){b:Addr}{y:V}{u:Value}(hb:H b=some (.tup (k.map kV)))(ry:RelV y u) :
  KT H (putK kvs k y) (storedH xs k b u):=by
 have e:(kvs.any λa=>decide (a.1=k))=(atKey xs k).isSome:=by
  rw[JiO,(r.val k).isSome_eq,Option.isSome_map]
 unfold putK storedH;rw[e];by_cases q:(atKey xs k).isSome=true
 .rw[if_pos q,if_pos q];show r.repl k ry
 .rw[if_neg q,if_neg q];show Paired.snoc r ⟨rfl,hb,ry⟩
variable{H':Hp}
theorem KT.keeps(r:KT H kvs xs)(ht:∀ b ys,H b=some (.tup ys)->H' b=some (.tup ys)):KT H' kvs xs :=
 Paired.mapP r λ_ _ z=>⟨z.1,ht _ _ z.2.1,z.2.2⟩
section
variable{h:Heap}{a:Addr}{w:World}
theorem y86y{u:HO}(ok:HOk P w H h)(e:Rd H a u):ObjOk P w H h a u:=e.ok ok
variable{kvs:List (Key × V)}
theorem dk_rd(ok:HOk P w H h)(e:Rd H a (.dK kvs)):kvs.length<=sizeLine/\(a == sysModules)=false/\∃ vs,KV kvs vs/\h.DictOf (JaG P w) a vs :=
 show ObjOk P w H h a (.dK kvs)from y86y ok e
theorem dk_of(ok:HOk P w H h)(e:H a=some (.dK kvs)):kvs.length<=sizeLine/\(a == sysModules)=false/\∃ vs,KV kvs vs/\h.DictOf (JaG P w) a vs:=dk_rd ok (.inl e)
theorem JgM{ks:List Key}(ok:HOk P w H h)(e:H a=some (.tup (ks.map kV))):(tupleKind (JaG P w)).is h ks a:=by
 let(_,b,r,o,d,f,n,c):=(show ObjOk P w H h a (.tup (ks.map kV))from ok a _ e);show(o,b.toArray,n,d,f,c,by simpa using JgL r)
variable{kvs:List (List Key × V)}
theorem dt_rd(ok:HOk P w H h)(e:Rd H a (.dT kvs)):kvs.length<=sizeLine/\(a == sysModules)=false /\
  ∃ xs,KT H kvs xs/\h.DictOfH (tupleKind (JaG P w)) a xs:=by
 let(z,y,xs,r,o,g,j,f,k,c,d,i):=(show ObjOk P w H h a (.dT kvs)from y86y ok e);show(z,y,xs,r,o,g,j,f,k,c,d,λx b=>?_,i);have all:∀{l:List (List Key × V)}{m:List (List Key × Addr × Value)},KT H l m->∀ x∈m,(tupleKind (JaG P w)).is h x.1 x.2.1:=by
  intro l m q;induction q with
  | nil=>intro x b;show nomatch b
  | @cons p q ps qs hq t ih=>
   intro x b;rcases mem_cons.mp b with e | b
   .subst e;show JgM ok (by rw[<- hq.1];show hq.2.1)
   .show ih x b
 show all r x b
theorem dt_of(ok:HOk P w H h)(e:H a=some (.dT kvs)):kvs.length<=sizeLine/\(a == sysModules)=false /\
  ∃ xs,KT H kvs xs/\h.DictOfH (tupleKind (JaG P w)) a xs:=dt_rd ok (.inl e)
end
def DGet(H:Hp)(a:Addr)(y:V)(r:Option V):Prop :=
 (∃ kvs k,Rd H a (.dK kvs)/\y=kV k/\r=valV kvs k)\/∃ kvs k b,Rd H a (.dT kvs)/\y=.ref b/\H b=some (.tup (k.map kV))/\r=valV kvs k
def DPut(H:Hp)(a:Addr)(y v:V)(H':Hp):Prop :=
 (∃ kvs k,H a=some (.dK kvs)/\y=kV k/\kvs.length<sizeLine/\H'=upd H a (.dK (putK kvs k v))) \/
 ∃ kvs k b,H a=some (.dT kvs)/\y=.ref b/\H b=some (.tup (k.map kV))/\kvs.length<sizeLine/\H'=upd H a (.dT (putK kvs k v))
variable{a:Addr}{kvs:List (Key × V)}
theorem DGet.k{k:Key}(e:H a=some (.dK kvs)):DGet H a (kV k) (valV kvs k):=.inl ⟨kvs,k, .inl e,rfl,rfl⟩
variable{v:V}
theorem DPut.k{k:Key}(e:H a=some (.dK kvs))(hl:kvs.length<sizeLine):DPut H a (kV k) v (upd H a (.dK (putK kvs k v))):=.inl ⟨kvs,k,e,rfl,hl,rfl⟩
variable{X:Cx}{pins:List (Addr × Obj)}{σ:St}{s:Shared}{y:V}{u r:Value}{o:Option V}{A:Around}{E:Value->Shared->Prop}
theorem Inv.big(I:Inv X pins σ H s):sysModules<s.heap.objs.size:=by
 have h:mainGlobals<s.heap.objs.size:=(I.mod.glob.keeps I.bk).lt;show Nat.lt_trans ⋯ h
variable{Q:Value->Shared->Prop}
theorem JjB(hu:A.units+1<cLine)(I:Inv X pins σ H s)(g:DGet H a y (some v))(ry:RelV y u)(h:∀ w' s',Inv X pins σ H s'->RelV v w'->Q w' s') :
  wpAny (model X.prog X.w) A (getItem (.ref a) u) Q E s:=by
 rcases g with⟨kvs,k,e,ey,l⟩ | ⟨kvs,k,b,e,ey,eb,l⟩
 .subst ey;let(z,r,n,c,f):=dk_rd I.hok e;let(w',i,d):=RelO.some_of (v:=v) (o:=valueAt n k) (by rw[l];show c.val k);show wpAny_getItem_of (kV_is ry) f.mapOf i (h w' _ (I.tok _) d)
 .subst ey;cases(show u=Value.ref b from ry);let(z,r,q,c,f):=dt_rd I.hok e;let(w',i,d):=RelO.some_of (v:=v) (o:=(atKey q k).map (·.2)) (by rw[l];show c.val k);let(p,m,j):=Option.map_eq_some_iff.mp i;show wpAny_getItem_heap (tupleKind_room_in1 hu) (JgM I.hok eb) f m ?_;rw[j];show h w' _ (I.tok _) d
theorem d_in(hu:A.units+1<cLine)(I:Inv X pins σ H s)(g:DGet H a y o)(ry:RelV y u)(h:∀ s',Inv X pins σ H s'->Q (.bool o.isSome) s') :
  wpAny (model X.prog X.w) A (compareOp .In u (.ref a)) Q E s:=by
 rcases g with⟨kvs,k,e,ey,l⟩ | ⟨kvs,k,b,e,ey,eb,l⟩
 .subst ey;let(z,f,i,c,d):=dk_rd I.hok e;show wpAny_in_of (kV_is ry) f d.mapOf ?_;rw[<- (c.val k).isSome_eq, <- l];show h _ (I.tok _)
 .subst ey;cases(show u=Value.ref b from ry);let(z,f,j,c,d):=dt_rd I.hok e;show wpAny_in_heap (tupleKind_room_in1 hu) (JgM I.hok eb) f d ?_;have q:=(c.val k).isSome_eq;rw[Option.isSome_map]at q;rw[<- q, <- l];show h _ (I.tok _)
theorem Jmr(hu:A.units+1<cLine)(I:Inv X pins σ H s)(g:DGet H a y o)(ry:RelV y u)(h:∀ s',Inv X pins σ H s'->Q (.bool (!o.isSome)) s') :
  wpAny (model X.prog X.w) A (compareOp .NotIn u (.ref a)) Q E s:=by
 rcases g with⟨kvs,k,e,ey,l⟩ | ⟨kvs,k,b,e,ey,eb,l⟩
 .subst ey;let(z,f,i,c,d):=dk_rd I.hok e;show wpAny_notIn_of (kV_is ry) f d.mapOf ?_;rw[<- (c.val k).isSome_eq, <- l];show h _ (I.tok _)
 .subst ey;cases(show u=Value.ref b from ry);let(z,f,j,c,d):=dt_rd I.hok e;show wpAny_notIn_heap (tupleKind_room_in1 hu) (JgM I.hok eb) f d ?_;have q:=(c.val k).isSome_eq;rw[Option.isSome_map]at q;rw[<- q, <- l];show h _ (I.tok _)
variable{h':Heap}{t':Nat}
theorem Jht{ob:HO}(I:Inv X pins σ H s)(mu:Mut (H a))(hs:Heap.SameBut a s.heap h')(he:∃ q,h'.get? a=some q)(new:ObjOk X.prog X.w (upd H a ob) h' a ob) :
  Inv X pins σ (upd H a ob) { s with heap:=h',toks:=t' } :=
 I.write (x:=a) (e:=a) mu (.inl rfl) (λb q c z=>(hs.2 b c).trans z) he new
theorem JjK{w:World}{vs:List (Key × Value)}(z:kvs.length<=sizeLine)(hd:(a == sysModules)=false)(rel:KV kvs vs)(dd:h'.DictOf (JaG P w) a vs) :
  ObjOk P w H' h' a (.dK kvs):=⟨z,hd,vs,rel,dd⟩
theorem JjC{Q:Unit->Shared->Prop}(hu:A.units+1<cLine)(I:Inv X pins σ H s)(g:DPut H a y v H')(ry:RelV y u)(rv:RelV v r)(h:∀ s',Inv X pins σ H' s'->Q () s') :
  wpAny (model X.prog X.w) A (setItem (.ref a) u r) Q E s:=by
 rcases g with⟨kvs,k,e,ey,l,eH⟩ | ⟨kvs,k,b,e,ey,eb,l,eH⟩
 .subst ey eH;let(z,o,F,d,p):=dk_of I.hok e;have n:F.length<=sizeLine:=by rw[<- d.length];show z
  have j:(putK kvs k v).length<=sizeLine:=by have:=JeX kvs k v;ac_nf
  show wpAny_setItem_pairs (hsz:=n) (kV_is ry) p λx f m=>h _ ?_;have B:∃ q,x.get? a=some q:=let⟨q,_,_,i,_⟩:=f;⟨q,i⟩;show Jht I (by rw[e];show True.intro) m B (JjK j o (d.put k rv) f)
 .subst ey eH;cases(show u=Value.ref b from ry);let(z,o,G,d,p):=dt_of I.hok e;have n:G.length<=sizeLine:=by rw[<- Paired.length d];show z
  have j:(putK kvs k v).length<=sizeLine:=by have:=JeX kvs k v;ac_nf
  show wpAny_setItem_heap (hsz:=n) (tupleKind_room_in1 hu) (JgM I.hok eb) p λx f m=>h _ ?_;let(q,J,C,i,K,D,L,_,M):=f;show Jht I (by rw[e];show True.intro) m ⟨q,i⟩ ⟨j,o,_,(d.put k eb rv).keeps λc N t=>?_,q,J,C,i,K,D,L,M⟩;rw[Jai (ne_of t e (λz=>nomatch z))];show t
section
variable{k:Key}
theorem d_pop{more:List Value}(I:Inv X pins σ H s)(e:H a=some (.dK kvs))(ry:RelV (kV k) u)(l:valV kvs k=some v)(hm:more=[]\/∃ x,more=[x])
  (h:∀ w' s',Inv X pins σ (upd H a (.dK (dropK kvs k))) s'->RelV v w'->Q w' s'):wpAny (model X.prog X.w) A (call (.builtin "dict.pop") (.ref a::u::more)) Q E s:=by
 let(z,r,f,b,g):=dk_of I.hok e;let(w',p,d):=RelO.some_of (v:=v) (o:=valueAt f k) (by rw[<- l];show b.val k);have j:(keyPart u).isSome=true:=by
  cases k with
  | inl i=>have q:=(show u=Value.bool i from ry);subst q;cases i <;> rfl
  | inr x=>let(t,q):=(show∃ t,u=Value.str x t from ry);subst q;rfl
 have y:argsOk "dict.pop" ⟨.ref a::u::more,[]⟩:=by
  rcases hm with q | ⟨x,q⟩
  .subst q;show PySem.F.args_dict_pop_2 _ _
  .subst q;show PySem.F.args_dict_pop_3 _ _ _
 show call_meetsIn PySem.F.slot_dict_pop g.typeIs PySem.F.entry_dict_pop y (meets_dict_pop_there (JaG X.prog X.w) a (kV_is ry) more hm j)
  ⟨f,w',g,by rw[<- b.length];show z,p,λn c B=>h w' _ ?_ d⟩
 have m:∃ q,n.get? a=some q:=let⟨q,_,_,hq,_⟩:=c;⟨q,hq⟩;show Jht I (by rw[e];show True.intro) B m (JjK (Nat.le_trans (JkY kvs k) z) r (b.drop k) c)
end
def NoSl(i:Expr):Prop:=∀ ov iv,subscripted i false ov iv=operate [ov,iv] (getItem ov iv)
variable{env:Env}{value:Expr}{pos:Pos}
theorem Jng{prog:Program}{w:World}{slice:Expr}{T id:String}
  (hl:typeLookup (.type T) "__getitem__"=pure (some (.builtin id))) (hs:NoSl slice)
  (h:wpAny (model prog w) A (eval value env) (λo s₁=>wpAny (model prog w) A (eval slice env) (λi s₂=>s₂.TypeIs o T/\wpAny (model prog w) A (getItem o i) Q E s₂) E s₁) E s) :
  wpAny (model prog w) A (eval (.Subscript value slice pos) env) Q E s:=by
 show Subscript_ (wpAny_mono h (λo s₁ h₁=>wpAny_mono h₁ (λi s₂ h₂=>?_) λ_ _ x=>x) λ_ _ x=>x);let(b,h₂):=h₂;unfold subscriptTail;show wpAny_bind ?_;rw[getitemInPython_of_ne b.not_modules];show wpAny_bind (wpAny_specialOf b hl ?_);have a:wpAny (model prog w) A (subscripted slice false o i) (λr s₃=>wpAny (model prog w) A (letTemporaryGo value o r >>= λ_=>pure r) Q E s₃) E s₂:=by
  rw[hs o i];show wpAny_operating (wpAny_mono h₂ (λr s₃ h₃=>wpAny_bind (wpAny_letTemporaryGo (wpAny_pure h₃))) λ_ _ x=>x)
 first
  | show wpAny_pure (wpAny_bind a)
  | show wpAny_bind (wpAny_pure (wpAny_bind a))
  | show wpAny_bind a
theorem Jhu(I:Inv X pins σ H s)(g:DGet H a y o):s.TypeIs (.ref a) "dict":=by
 rcases g with⟨kvs,k,e,_,_⟩ | ⟨kvs,k,b,e,_,_,_⟩
 .let(_,_,d,_,c):=dk_rd I.hok e;show c.typeIs
 .let(_,_,f,_,c):=dt_rd I.hok e;show c.typeIs
def tDGet(td ty:TE):TE:=λσ H Q=>td σ H λx H1=>ty σ H1 λy H2=>∃ a v,x=.ref a/\DGet H2 a y (some v)/\Q v H2
def tDIn(ty td:TE):TE:=λσ H Q=>ty σ H λy H1=>td σ H1 λx H2=>∃ a o,x=.ref a/\DGet H2 a y o/\Q (.bl o.isSome) H2
def JkC(ty td:TE):TE:=λσ H Q=>ty σ H λy H1=>td σ H1 λx H2=>∃ a o,x=.ref a/\DGet H2 a y o/\Q (.bl (!o.isSome)) H2
def sDPut(td ty tv:TE):TS:=λD σ H=>tv σ H λv H1=>td σ H1 λx H2=>ty σ H2 λy H3=>∃ a H4,x=.ref a/\DPut H3 a y v H4/\D.nx σ H4
variable{o i e:Expr}{pos' tpos:Pos}{td ty tv:TE}
theorem JaI(hu:X.A.units+1<cLine)(ho:PE X o td)(hi:PE X i ty)(hs:NoSl i):PE X (.Subscript o i pos) (tDGet td ty):=by
 intro b s σ H Q I h;show Jng PySem.F.slot_dict_getitem.lookup hs (thn (ho b s σ H _ I h) λu n ζ=>?_);let(x,l,I1,k,j):=ζ;show thn (hi b n σ l _ I1 j) λt p ζ=>?_;let(y,e,I2,m,a,v,f,g,d):=ζ;subst f;obtain rfl:u=Value.ref a:=k;show(Jhu I2 g,JjB hu I2 g m λr q I3 c=>⟨v,e,I3,c,d⟩)
theorem JfM(hu:X.A.units+1<cLine)(hi:PE X i ty)(ho:PE X o td):PC X .In i o (tDIn ty td):=by
 intro b s σ H Q I h;show thn (hi b s σ H _ I h) λr n ζ=>?_;let(y,k,I1,l,f):=ζ;show thn (ho b n σ k _ I1 f) λu p ζ=>?_;let(x,d,I2,j,a,m,e,g,c):=ζ;subst e;obtain rfl:u=Value.ref a:=j;show d_in hu I2 g l λq I3=>⟨.bl m.isSome,d,I3,rfl,c⟩
theorem Jch(hu:X.A.units+1<cLine)(hi:PE X i ty)(ho:PE X o td):PC X .NotIn i o (JkC ty td):=by
 intro b s σ H Q I h;show thn (hi b s σ H _ I h) λr n ζ=>?_;let(y,k,I1,l,f):=ζ;show thn (ho b n σ k _ I1 f) λu p ζ=>?_;let(x,d,I2,j,a,m,e,g,c):=ζ;subst e;obtain rfl:u=Value.ref a:=j;show Jmr hu I2 g l λq I3=>⟨.bl (!m.isSome),d,I3,rfl,c⟩
theorem Jb1(hu:X.A.units+1<cLine)(ho:PE X o td)(hi:PE X i ty)(hv:PE X value tv)(hs:swapsWith value (some (.Subscript o i pos')) pos.line X.env=pure false) :
  PS X (.Assign [.Subscript o i pos'] value pos) (sDPut td ty tv):=by
 intro b s σ H D I h;show wpAny_Assign_Subscript (thn (hv b s σ H _ I h) λr t ζ=>?_) hs;let(v,m,I1,q,j):=ζ;show thn (ho b t σ m _ I1 j) λu c ζ=>?_;let(x,e,I2,l,d):=ζ;show thn (hi b c σ e _ I2 d) λC z ζ=>?_;let(y,B,I3,n,a,p,f,g,k):=ζ;subst f;obtain rfl:u=Value.ref a:=l;show JjC hu I3 g n q λw I4=>⟨σ,p,I4,k⟩
theorem JkX{w:World}(h:Heap)(hb:sysModules<h.objs.size):ObjOk P w H (h.push { cls:=.type "dict",data:=.dict #[] }) h.objs.size (.dK []) :=
 ⟨Nat.zero_le _,beq_eq_false_iff_ne.mpr (Ne.symm (Nat.ne_of_lt hb)),[], .nil,Heap.DictOf.new h⟩
def Jmb:TE:=λ_ H Q=>∀ p,H p=none->Q (.ref p) (upd H p (.dK []))
theorem Jbx:PE X (.Dict [] [] pos) Jmb:=λb s σ H Q I h=>
 wpAny_Dict_empty ⟨.ref s.heap.objs.size,_,I.laid (a:=s.heap.objs.size) (o:=.dK []) (t':=s.toks) (λ_ _ q=>Heap.get?_push_of_some _ q) (Nat.le_refl _) (JkX s.heap I.big),rfl,h _ (I.hok.fresh (Nat.le_refl _))⟩
structure M1(X:Cx)(o:Expr)(m:Str)(apos:Pos)(e:Expr)(cpos:Pos):Prop where
 base:attributeBase o m X.env (eval o X.env)=eval o X.env
 few:((backTo cpos (starEach [e] X.env)).all (λx=>!x.1)&&(backToKw cpos (keywordEach [] X.env)).all (λx=>x.1.isSome)
  && decide (([e]:List Expr).length+([]:List Keyword).length+(if([]:List Keyword).isEmpty then 0 else 1)<30))=true
 line:(apos.endLine == cpos.line)=true
 trees:backTo cpos (starEach [e] X.env)=[(false,eval e X.env)]
def IsD(H:Hp)(a:Addr):Prop:=(∃ kvs,Rd H a (.dK kvs))\/∃ kvs,Rd H a (.dT kvs)
theorem JlV(I:Inv X pins σ H s)(d:IsD H a) :
  s.TypeIs (.ref a) "dict"/\(∀ b,Value.ref a=.ref b->∃ ob,s.heap.get? b=some ob/\ob.dict=none)/\(a == sysModules)=false:=by
 rcases d with⟨kvs,e⟩ | ⟨kvs,e⟩
 .let(_,g,i,_,c):=dk_rd I.hok e;show(c.typeIs,λb q=>?_,g);cases q;let(ob,_,_,f,h,_):=c;show(ob,f,h.2.1)
 .let(_,g,j,_,c):=dt_rd I.hok e;show(c.typeIs,λb q=>?_,g);cases q;let(ob,_,_,f,h,_):=c;show(ob,f,h.2.1)
variable{d:V}{o:Option V}
def Jmc(td ty:TE):TE:=λσ H Q=>td σ H λx H1=>∃ a,x=.ref a/\IsD H1 a/\ty σ H1 λy H2=>∃ kvs k v,H2 a=some (.dK kvs)/\y=kV k/\valV kvs k=some v/\Q v (upd H2 a (.dK (dropK kvs k)))
section
variable{o:Expr}{apos cpos:Pos}{f:Expr}{tx:TE}
theorem Jll(ho:PE X o td)(he:PE X e ty)(m:M1 X o "pop" apos e cpos):PE X (.Call (.Attribute o "pop" apos) [e] [] cpos) (Jmc td ty):=by
 intro b s σ H Q I h;show wpAny_Call_method m.base m.few m.line PySem.F.plainAttrs_dict PySem.F.slot_dict_pop PySem.F.type_dict_pop (thn (ho b s σ H _ I h) λu A ζ=>?_);let(x,r,I1,q,a,i,d,j):=ζ;subst i;obtain rfl:u=Value.ref a:=q;let(z,n,_):=JlV I1 d;show(z,n,?_);rw[m.trees];show Calls.callWith_builtin rfl (Calls.evalArgs_plain (Calls.spliced_cons (thn (he b A σ r _ I1 j) λG B ζ=>?_)));let(y,D,I2,t,f,k,v,p,w,l,g):=ζ;show Calls.spliced_nil ?_;subst w;show d_pop I2 p t l (.inl rfl) λE C I3 c=>⟨v,_,I3,c,g⟩
end
section
variable{κ:Type}[DecidableEq κ]
end
def DictAt(h:Heap)(e:Addr)(od:Option Addr):Prop:=∃ o,h.get? e=some o/\o.dict=od
theorem JjJ(o:Obj)(f):(o.mapFields f).dict=o.dict:=by
 let(c,d,a,b):=o;cases a <;> rfl
section
variable{M:Model}{outer l:List Env}{L e:Addr}{oe:Obj}{vs:Array Value}{head a0 fl:Value}{od:Option Addr}{Q:Unit->Shared->Prop}{base:Heap}{cls:Value}
theorem JlQ{hadNext:Bool}(hfr:A.frames=some (env::outer))(hl:s.heap.FunFrames base (env::outer))(hf:env.frame=some L)
  (he:s.heap.get? e=some oe) (hkb:base.StaysIn s.heap) (hen:base.get? e=none) (hd:oe.data=.fields vs) (hsz:1<vs.size) (h0:vs[0]?=some a0)
  (h:∀ h',Heap.NotedW base (env::outer) e oe.cls a0 (rawInt L) s.heap h'->DictAt h' e oe.dict->Q () { s with heap:=h' }) :
  wpAny M A (do let a <- frameOf env;let pl <- entryPlaceOf L hadNext;let b <- EntryCells.newEntry head a .none (rawInt L) .none pl;setField (.ref e) 1 b) Q E s:=by
 have C:e∉(env::outer).filterMap (·.frame):=λt=>by
  let(_,o,w,f):=hl.mem t;rw[he]at w;cases w;show f vs hd
 show wpAny_bind (wpAny_frameOf_fun hfr hl hf λh₁ r=>wpAny_bind (wpAny_entryPlaceOf λpl k=>?_));unfold EntryCells.newEntry newFields;show wpAny_bind (wpAny_newObj_type ?_ (k.sizeOk5 _ _ _ _ _));have l:h₁.get? e=some oe:=(r.2.1 e C).trans he;have g:base.StaysIn h₁:=λb o c=>(r.2.1 b λt=>by rw[(hl.mem t).1]at c;cases c).trans (hkb b o c);generalize x:({ cls:=.type "traceback",dict:=none,data:=.fields ([head, .ref L, .none,rawInt L, .none]++(if pl.isEmpty then List.replicate 6 Value.none else pl)).toArray }:Obj)=p;have m:=Heap.get?_push_of_some (h:=h₁) p l;show wpAny_setField m hd hsz ?_;have B:h₁.objs.size≠e:=Nat.ne_of_gt (Heap.lt_size l);have i:=Obj.data_mapFields hd (·.setIfInBounds 1 (Value.ref h₁.objs.size));have j:=Heap.get?_update_self (Obj.mapFields (·.setIfInBounds 1 (Value.ref h₁.objs.size))) m (Obj.isFreed_of_fields i);have u:=(Heap.get?_update_other (h₁.push p) (Obj.mapFields (·.setIfInBounds 1 (Value.ref h₁.objs.size))) (Ne.symm B)).trans (Heap.get?_push_size h₁ (by rw[<- x];rfl));have d:∀ b o,b≠e->h₁.get? b=some o->((h₁.push p).update e (Obj.mapFields (·.setIfInBounds 1 (Value.ref h₁.objs.size)))).get? b=some o:=λb o n c=>by
  rw[Heap.get?_update_other _ _ (Ne.symm n)];show Heap.get?_push_of_some _ c
 have v:∀ b o,s.heap.get? b=some o->(∀ vs,o.data≠.fields vs)->b≠e:=λb o c f q=>by
  rw[q,he]at c;cases c;show f vs hd
 show h _ ⟨λb o c=>d b o (λq=>by rw[q,hen]at c;cases c) (g b o c),hl.of_keeps λb o c f=>?_,?_,λb o c f=>?_⟩ ⟨_,j,JjJ _ _⟩
 .let(y,z):=r.2.2 b o c;show(_,d b _ (v b o c f) z,rfl)
 .show(_,_,h₁.objs.size,p,_,j,⟨Obj.cls_mapFields _ _,by rw[Array.getElem?_setIfInBounds_ne ⋯];show h0⟩,i,by simp[hsz],g.fresh,B,u,by rw[<- x],?_);first | (simp;done) | (rcases k with rfl | ⟨_,_,_,_,_,_,_,rfl⟩ <;> simp)
 .let(y,z):=r.2.2 b o c;show(y,d b _ (v b o c f) z)
theorem noteD(hfr:A.frames=some (env::outer))(hf:env.frame=some L)(hfl:Heap.FlyingW base (env::outer) e cls a0 s.heap)(hdc:DictAt s.heap e od)
  (h:∀ h',Heap.HeldW base (env::outer) e cls a0 L h'->s.heap.UpToSlots h'->DictAt h' e od->Q () { s with heap:=h' }):wpAny M A (noteFrame (.ref e) env) Q E s:=by
 let(m,j,z,K,v,T,J,H,k,(i,y),w,x,l,r,n,d,u):=hfl;subst i;let(B,g,p):=hdc;rw[k]at g;cases g;unfold noteFrame;simp only[hf];show wpAny_bind (wpAny_field k w x ?_);rw[if_pos (show(Value.ref T != Value.none)=true from by simp)];show wpAny_bind (wpAny_field n d u ?_);rw[if_neg (show¬((Value.none == rawInt L)=true)from by simp[rawInt])];show wpAny_bind (wpAny_setField n d (Array.getElem?_eq_some_iff.mp u).1 ?_);have a:∀ b,b≠T->(s.heap.update T (Obj.mapFields (·.setIfInBounds 3 Value.none))).get? b=s.heap.get? b:=λb c=>Heap.get?_update_other _ _ (Ne.symm c);have t:∀ b o,s.heap.get? b=some o->(∀ v,o.data≠.fields v)->b≠T:=λb o c f q=>by
  rw[q,n]at c;cases c;show f H d
 show JlQ hfr (z.of_keeps λb o c f=>⟨o,(a b (t b o c f)).trans c,rfl⟩) hf ((a e (Ne.symm r)).trans k)
  (λb o c=>(a b λq=>by rw[q,l]at c;cases c).trans (m b o c)) j w (Array.getElem?_eq_some_iff.mp x).1 y λh' ⟨G,I,C,D⟩ F=>?_
 show h h' ⟨G,j,I,C⟩ (λb o c f=>D b o ((a b (t b o c f)).trans c) f) (p ▸ F)
theorem Jf1(hkb:base.StaysIn s.heap)(hl:s.heap.FunFrames base l)(ht:s.heap.TracedAtW base e cls a0 fl)(hdc:DictAt s.heap e od)
  (h:∀ h',base.StaysIn h'->h'.FunFrames base l->h'.TracedW base e cls a0->s.heap.UpToSlots h'->DictAt h' e od->Q () { s with heap:=h' }):wpAny M A (setFlight (.ref e) none) Q E s:=by
 let(x,p,T,B,y,t,j,v,n,i,g,r,d,w):=ht;have k:=(Array.getElem?_eq_some_iff.mp w).1;have a:∀ b,b≠T->(s.heap.update T (Obj.mapFields (·.setIfInBounds 3 ((none:Option Addr).elim Value.none λf=>rawInt f)))).get? b=s.heap.get? b:=λb c=>Heap.get?_update_other _ _ (Ne.symm c);have u:∀ b o,s.heap.get? b=some o->(∀ p,o.data≠.fields p)->b≠T:=λb o c m q=>by
  rw[q,r]at c;cases c;show m y d
 unfold setFlight;show wpAny_bind (wpAny_field t v n ?_);rw[if_pos (show(Value.ref T != Value.none)=true from by simp)];show wpAny_setField r d k (h _ (λb o c=>(a b λq=>by rw[q,i]at c;cases c).trans (hkb b o c)) (hl.of_keeps λb o c m=>⟨o,(a b (u b o c m)).trans c,rfl⟩) ?_ (λb o c m=>⟨o.slots,(a b (u b o c m)).trans c⟩) ?_)
 .show(x,p,T,_,_,(a e (Ne.symm g)).trans t,j,v,n,i,g,Heap.get?_update_self _ r (Obj.isFreed_of_fields (Obj.data_mapFields d _)),Obj.data_mapFields d _,by simp[k])
 .let(o,n,z):=hdc;show(o,(a e (Ne.symm g)).trans n,z)
theorem JmD(hfr:A.frames=some (env::outer))(hf:env.frame=some L)(hfl:Heap.FlyingW base (env::outer) e cls a0 s.heap)(hdc:DictAt s.heap e od)
  (hQ:∀ h',Heap.FlyingW base outer e cls a0 h'->s.heap.UpToSlots h'->DictAt h' e od->Q () { s with heap:=h' }):wpAny M A (leaving env (.ref e)) Q E s:=by
 unfold leaving;show wpAny_bind (noteD hfr hf hfl hdc λf k b m=>?_);let(j,h,i,c):=k;show Jf1 (s:={ s with heap:=f }) j i c m λn a ⟨_,_,g⟩ l d o=>hQ n ⟨a,h,g,l⟩ (b.trans d) o
theorem JnH(hh:Heap.HeldW base l e cls a0 L s.heap)(hdc:DictAt s.heap e od)(hQ:∀ h',Heap.FlyingW base l e cls a0 h'->s.heap.UpToSlots h'->DictAt h' e od->Q () { s with heap:=h' }):wpAny M A (setFlight (.ref e) none) Q E s:=by
 let(h,f,g,b):=hh;show Jf1 h g b hdc λj a d i c k=>hQ j ⟨a,f,d,i⟩ c k
theorem Jnp(hh:Heap.FlyingW base l e cls a0 s.heap)(hdc:DictAt s.heap e od)(hQ:∀ h',Heap.FlyingW base l e cls a0 h'->s.heap.UpToSlots h'->DictAt h' e od->Q () { s with heap:=h' }):wpAny M A (setFlight (.ref e) none) Q E s:=by
 let(h,f,g,b):=hh;show Jf1 h g b.at hdc λj a d i c k=>hQ j ⟨a,f,d,i⟩ c k
theorem Jnx(hfr:A.frames=some (env::outer))(hl:s.heap.FunFrames base (env::outer))(hf:env.frame=some L)(he:s.heap.get? e=some oe)(hkb:base.StaysIn s.heap)(hen:base.get? e=none)(hd:oe.data=.fields vs)(h1:vs[1]?=some .none)(h0:vs[0]?=some a0)
  (hQ:∀ h',Heap.FlyingW base outer e oe.cls a0 h'->s.heap.UpToSlots h'->DictAt h' e oe.dict->Q () { s with heap:=h' }):wpAny M A (leaving env (.ref e)) Q E s:=by
 unfold leaving noteFrame;simp only[hf];show wpAny_bind (wpAny_bind (wpAny_field he hd h1 ?_));rw[if_neg ⋯];show JlQ hfr hl hf he hkb hen hd (Array.getElem?_eq_some_iff.mp h1).1 h0 λl ⟨h,a,j,i⟩ f=>?_;show Jf1 (s:={ s with heap:=l }) h a j f λc b ⟨_,_,g⟩ k d m=>hQ c ⟨b,hen,g,k⟩ (Heap.UpToSlots.trans i d) m
end
variable{h:Heap}
theorem ObjOk.is_there{w:World}{o:HO}(x:ObjOk P w H h a o):∃ ob,h.get? a=some ob:=by
 cases o with
 | lst xs=>let(_,_,_,_,e):=x;show(_,e)
 | tup xs=>let(_,_,_,p):=x;let(o,e,_):=p;show(_,e)
 | dK kvs=>let(_,_,_,_,o,_,_,e,_):=x;show(_,e)
 | dT kvs=>let(_,_,_,_,o,_,_,e,_):=x;show(_,e)
 | set S n=>
  let(o,_,_,_,e,_):=x;show(_,e)
 | ins C dx fs=>let(_,_,_,e,_):=x;show(_,e)
 | own y=>show x
 | xd fs=>let(b,n,_):=x;let(c,e,_):=JeY n;show(_,e)
 | rng lo hi=>let(_,_,_,e):=x;show(_,e)
 | frz ob u=>show(_,x.1)
 | tbl ps=>show(_,x)
 | met f y=>show(_,x)
 | ext φ=>show x.2.1
theorem HOk.isnone{w:World}(x:HOk P w H h)(e:h.get? a=none):H a=none:=by
 cases q:H a with
 | none=>rfl
 | some u=>
  let(b,z):=(x a u q).is_there;rw[e]at z;cases z
structure Fly(l:List Env)(H':Hp)(h0:Heap)(ea:Addr)(od:Option Addr)(cls a0:Value)(B h:Heap):Prop where
 fly:Heap.FlyingW B l ea cls a0 h
 free:H' ea=none
 new:h0.get? ea=none
 dct:DictAt h ea od
 kept:∀ b o,h.get? b=some o->((∃ o',h0.get? b=some o')\/∃ u,H' b=some u)->b∉frs l->B.get? b=some o
def CX1(P:Program)(w:World):CXT:=λouter H s E e s'=>
 ∃(ea:Addr)(od:Option Addr)(cls a0:Value)(B:Heap)(H':Hp),e=.ref ea/\s'.os=s.os/\AllBare s'.gens/\Un (frs outer) [] H H' s.heap s'.heap/\HOk P w H' s'.heap /\
  Fly outer H' s.heap ea od cls a0 B s'.heap/\E cls od H'
section
variable{l l':List Env}{h0 B:Heap}{ea:Addr}{od:Option Addr}{a0:Value}{w:World}{cls:Value}
theorem Fly.next(u:Un (frs l) [] H H' h0 h)(hok:HOk P w H' h)(F:Fly l H' h0 ea od cls a0 B h)(fr:∀ b∈frs l,H' b=none)(k:B.StaysIn h')(sl:h.UpToSlots h') :
  HOk P w H' h'/\Un (frs l) [] H H' h0 h'/\∀ b o,h.get? b=some o->((∃ o',h0.get? b=some o')\/∃ u,H' b=some u)->b∉frs l->h'.get? b=some o:=by
 have c:∀ b o,h.get? b=some o->((∃ o',h0.get? b=some o')\/∃ u,H' b=some u)->b∉frs l->h'.get? b=some o:=λb o q r n=>k b o (F.kept b o q r n);have d:∀ b o,b∈frs l->h.get? b=some o->∃ g,h'.get? b=some { o with slots:=g }:=λb o m q=>by
  let(_,o',p,x):=F.fly.2.2.1.mem m;rw[q]at p;cases p;show sl b o q x
 show(λa o e=>?_,⟨λb o q n s _=>?_,λb o q n m _=>?_,u.free,λb o q y=>?_,u.tups,u.frzs,u.tbls⟩,c)
 .have t:∀ b u,H' b=some u->b∉frs l:=λb u q m=>by
   rw[fr b m]at q;cases q
  show(hok a o e).stay (λb v f q=>?_) (λ_ r=>r) (λ_ _ r=>r);rcases f with rfl | f
  .show c _ _ q (.inr ⟨_,e⟩) (t _ _ e)
  .show c _ _ q (.inr ⟨_,f⟩) (t _ _ f)
 .show c b o (u.keep b o q n s (by simp)) (.inl ⟨o,q⟩) s
 .let(z,i):=u.slot b o q n m (by simp);let(g,j):=d b _ m i;show(g,j)
 .let(o',i):=u.there b o q (by simp);by_cases m:b∈frs l
  .let(g,j):=d b _ m i;show(_,j)
  .show(o',c b o' i (.inl ⟨o,q⟩) m)
end
section
variable{B:Heap}{ea:Addr}{od:Option Addr}{a0:Value}{cls:Value}
theorem Inv.out(I:Inv X pins σ H s)(hex:X.ex=[])(u:Un (frs X.stack) [] H H' s.heap h'):Un X.fs [] X.H₀ H' X.s₀.heap h':=by
 have J:=I.base;rw[hex]at J;have h:∀ b o,X.s₀.heap.get? b=some o->b≠X.env.locals:=λb o q z=>by
  have g:=Heap.lt_size q;have r:=I.ok.above;rw[z]at g;show absurd (Nat.lt_of_lt_of_le g r) (Nat.lt_irrefl _)
 have l:∀ b o,X.s₀.heap.get? b=some o->b∉X.fs->b∉frs X.stack:=λb o q c m=>by
  rcases mem_cons.mp (I.stkSub b m)with z | z
  .show h b o q z
  .show c z
 show(λb o q n c _=>?_,λb o q n m _=>?_,λb o q n _=>?_,λb o q _=>?_,λb f q=>u.tups b f (J.tups b f q),λb o v q=>u.frzs b o v (J.frzs b o v q),λb j q=>?_)
 .show u.keep b o (J.keep b o q n c (by simp)) (J.free b o q n (by simp)) (l b o q c) (by simp)
 .let(t,a):=J.slot b o q n m (by simp);let(i,d):=u.any a (J.free b o q n (by simp)) (by simp);show(i,d)
 .let(e,a):=J.there b o q (by simp);show u.free b e a (J.free b o q n (by simp)) (by simp)
 .let(e,a):=J.there b o q (by simp);show u.there b e a (by simp)
 .let(p,a):=J.tbls b j q;let(k,d):=u.tbls b _ a;show(p++k,by rw[d,Array.append_assoc])
theorem Inv.stkFree'(I:Inv X pins σ H s)(u:Un (frs X.stack) [] H H' s.heap h):∀ b∈frs X.stack,H' b=none:=λb m=>by
 let(_,o,q,_):=I.stack.mem m;show u.free b o q (I.stkFree b m) (by simp)
end
section
variable{mg:Str->Option Value}{N:List Str}{qual:Str}{scope:Scope}{cdv:Value}{outer:List Env}{s0:Shared}{H0:Hp}{E:XK}{w:World}{K:W.Frag}{base:Heap}{f:Addr}
theorem pass1:Jcd (CX1 P w) (cxOf (CX1 P w) P w K mg base N qual scope f cdv A outer s0 H0 E) E:=by
 intro J σ H s e x I U;let(i,T,cls,a0,B,D,rfl,t,O,u,k,F,L):=U;have G:=I.stkFree' u;show wpAny (model P w) (A.deeper (envOfC qual scope s0.heap.objs.size f cdv)) (leaving (envOfC qual scope s0.heap.objs.size f cdv) (.ref i)) (λ_ g=>CX1 P w outer H0 s0 E (.ref i) g) (λS g=>CX1 P w outer H0 s0 E S g) x;show JmD (base:=B) (cls:=cls) (a0:=a0) I.ok.frames rfl F.fly F.dct λY h n p=>?_;let(j,X,Z):=F.next u k G h.1 n;have l:s0.heap.get? i=none:=by
  cases q:s0.heap.get? i with
  | none=>rfl
  | some o=>
   let(a,V):=I.base.there i o q (by intro z;cases z);have:=F.new;rw[V]at this;cases this
 show(i,T,cls,a0,B,D,rfl,t.trans I.os,O,I.out rfl X,j,⟨h,F.free,l,p,λb o q r W=>?_⟩,L);have M:b≠s0.heap.objs.size:=λz=>by
  rcases r with⟨a,c⟩ | ⟨v,c⟩
  .have:=Heap.lt_size c;rw[z]at this;show absurd this (Nat.lt_irrefl _)
  .have Q:=G s0.heap.objs.size (by
    show s0.heap.objs.size∈frs (envOfC qual scope s0.heap.objs.size f cdv::outer);show List.mem_filterMap.mpr ⟨_,mem_cons_self ..,rfl⟩)
   rw[z,Q]at c;cases c
 have R:b∉frs (envOfC qual scope s0.heap.objs.size f cdv::outer):=λm=>by
  rcases mem_cons.mp (I.stkSub b m)with z | z
  .show M z
  .show W z
 have C:(∃ a,s.heap.get? b=some a)\/∃ v,D b=some v:=by
  rcases r with⟨a,c⟩ | r
  .show .inl (I.base.there b a c (by intro z;cases z))
  .show .inr r
 have d:∃ a,x.heap.get? b=some a:=by
  rcases C with⟨a,c⟩ | ⟨v,c⟩
  .show u.there b a c (by simp)
  .show(k b v c).is_there
 let(a,c):=d;have z:=F.kept b a c C R;have y:=h.1 b a z;rw[show Y.get? b=some o from q]at y;cases y;show z
end
theorem passF{w:World}:Jcd (CX1 P w) X E0:=λ_ _ _ _ _ _ _ h=>by
 let(_,_,_,_,_,_,_,_,_,_,_,_,z):=h;show False.elim z
def unt(H:Hp)(a:Addr):Hp:=λb=>if b=a then none else H b
theorem JiN:unt H a a=none:=if_pos rfl
theorem Jdn{b:Addr}(h:b≠a):unt H a b=H b:=if_neg h
variable{C:Addr}
theorem Jmu{K:W.Frag}{bmB:List Value}{newId:String}(X:K.In h)(q:W.excIn K C bmB newId=true) :
  ∃(bm:List Value)(N:Addr)(nm qn:Str)(bs:List Value)(hdct:Bool)(sn:List Str)(sub:List Value)(ab:Bool)(col:Option Bool)(dd:Option Addr)(k0 k1 k2 k3 k5:Option Value)(mN:Str->Option Value),
   h.get? C=some (excClassObj nm qn C N bs bm hdct sn sub ab col dd k0 k1 k2 k3 k5 newId)/\h.Ns N mN/\mN "__init__"=none/\OwnTail h bmB bm:=by
 unfold W.excIn at q;split at q
 next dd cd sl ho=>
  split at q
  next C' bm k0 k1 k2 k3 n k5 hm hs=>
   have p:((((C'=C/\n=newId)/\cd.hasDel=false)/\W.tailIn K bmB bm=true)/\W.nsOkIn K cd.ns=true)/\W.nsIn K cd.ns "__init__"=some none:=by simpa using q
   obtain⟨⟨⟨⟨⟨l,o⟩,i⟩,j⟩,e⟩,k⟩:=p;let(nm,bs,c,f,qn,m,sn,sub,ab,col,a):=cd;have g:sl=#[k0,k1,k2,k3,some (.builtin n),k5]:=by
    cases sl;show congrArg Array.mk hs
   subst l;subst o;subst g;have b:c=.ref C'::bm:=hm;subst b;have d:a=false:=i;subst d;show(bm,f,nm,qn,bs,m,sn,sub,ab,col,dd,k0,k1,k2,k3,k5,_,X _ _ ho, .of_isNs (W.isNs_of_in X e),W.nsMap_none_of_in X e k,W.tail_of_in X j)
  next=>cases q
 next=>cases q
section
variable{mg:Str->Option Value}{N:List Str}{qual:Str}{scope:Scope}{cdv:Value}{outer:List Env}{s0:Shared}{H0:Hp}{E:XK}{w:World}{K:W.Frag}{base:Heap}{f:Addr}{oe:Obj}{a0:Value}
theorem JnI{e:Addr}{vs:Array Value}{φ:Heap->Prop}
  (I:Inv (cxOf (CX1 P w) P w K mg base N qual scope f cdv A outer s0 H0 E) pins σ H s) (ht:H e=some (.ext φ)) (he:s.heap.get? e=some oe) (hd:oe.data=.fields vs) (h1:vs[1]?=some .none) (h0:vs[0]?=some a0) (new0:s0.heap.get? e=none) (q:E oe.cls oe.dict (unt H e)) :
  (cxOf (CX1 P w) P w K mg base N qual scope f cdv A outer s0 H0 E).xe (.ref e) s:=by
 show wpAny (model P w) (A.deeper (envOfC qual scope s0.heap.objs.size f cdv)) (leaving (envOfC qual scope s0.heap.objs.size f cdv) (.ref e)) (λ_ k=>CX1 P w outer H0 s0 E (.ref e) k) (λQ k=>CX1 P w outer H0 s0 E Q k) s;have T:=I.stkFree;have J:∀ j∈(envOfC qual scope s0.heap.objs.size f cdv::outer), ∀ b,j.frame=some b->b∈e::frs (envOfC qual scope s0.heap.objs.size f cdv::outer):=λj he b i=>.tail _ (List.mem_filterMap.mpr ⟨j,he,i⟩);show Jnx (base:=W.hideAll s.heap (e::frs (envOfC qual scope s0.heap.objs.size f cdv::outer))) I.ok.frames (W.funFrames_hide I.stack J) rfl he (λb o z=>W.of_hideAll _ z) (W.hideAll_none _ (.head _)) hd h1 h0 λC B F x=>?_;have c:∀ b o,s.heap.get? b=some o->b≠e->b∉frs (envOfC qual scope s0.heap.objs.size f cdv::outer)->C.get? b=some o:=λb o z p n=>B.1 b o (W.hideAll_get _ z λm=>(mem_cons.mp m).elim p n);have t:∀ b,H b=none->b≠e:=λb z y=>by rw[y,ht]at z;cases z
 have g:∀ b o,s.heap.get? b=some o->b∈frs (envOfC qual scope s0.heap.objs.size f cdv::outer)->∃ sl,C.get? b=some { o with slots:=sl }:=λb o z m=>by
  let(_,h,d,U):=I.stack.mem m;rw[z]at d;cases d;show F b o z U
 have u:Un (frs (envOfC qual scope s0.heap.objs.size f cdv::outer)) [] H (unt H e) s.heap C:=by
  show(λb o z n m _=>c b o z (t b n) m,λb o z _ m _=>g b o z m,λb _ _ n _=>by rw[Jdn (t b n)];show n,λb o z _=>?_,λb Z z=>?_,λb o v z=>?_,λb Y z=>⟨#[],?_⟩)
  .by_cases y:b=e
   .let(V,l,_):=x;show(V,y ▸ l)
   .by_cases m:b∈frs (envOfC qual scope s0.heap.objs.size f cdv::outer)
    .let(X,S):=g b o z m;show(_,S)
    .show(o,c b o z y m)
  .rw[Jdn (λy=>by rw[y,ht]at z;cases z)];show z
  .rw[Jdn (λy=>by rw[y,ht]at z;cases z)];show z
  .rw[Jdn (λy=>by rw[y,ht]at z;cases z),z];simp
 have L:∀ b v,H b=some v->b∉frs (envOfC qual scope s0.heap.objs.size f cdv::outer):=λb v z m=>by
  rw[T b m]at z;cases z
 have D:∀ b v,unt H e b=some v->b≠e/\H b=some v:=λb v z=>by
  by_cases y:b=e
  .rw[y,JiN]at z;cases z
  .show(y,(Jdn y).symm.trans z)
 have G:HOk P w (unt H e) C:=λa o z=>by
  let(p,z):=D a o z;show(I.hok a o z).stay (λb v i l=>?_) (λb r=>by rw[Jdn (λy=>by rw[y,ht]at r;cases r)];show r) (λb _ r=>by rw[Jdn (λy=>by rw[y,ht]at r;cases r)];show r);rcases i with rfl | i
  .show c _ _ l p (L _ _ z)
  .show c _ _ l (λy=>by rw[y,ht]at i;cases i) (L _ _ i)
 show(e,oe.dict,oe.cls,a0,_,unt H e,rfl,I.os,I.bare,I.out rfl u,G,⟨B,JiN,new0,x,λb o z r R=>?_⟩,q);have p:b≠e:=λy=>by
  rcases r with⟨h,d⟩ | ⟨v,d⟩
  .rw[y,new0]at d;cases d
  .show(D _ _ d).1 y
 have O:∃ h,s.heap.get? b=some h:=by
  rcases r with⟨h,d⟩ | ⟨v,d⟩
  .show I.base.there b h d (by intro z;cases z)
  .show(I.hok b v (D _ _ d).2).is_there
 have M:b∉frs (envOfC qual scope s0.heap.objs.size f cdv::outer):=λm=>by
  rcases mem_cons.mp (I.stkSub b m)with y | y
  .rcases r with⟨h,d⟩ | ⟨v,d⟩
   .have h1:=Heap.lt_size d;rw[y]at h1;show absurd h1 (Nat.lt_irrefl _)
   .show L b v (D _ _ d).2 m
  .show R y
 let(h,d):=O;have l:=c b h d p M;rw[show C.get? b=some o from z]at l;cases l;show W.hideAll_get _ d λm=>(mem_cons.mp m).elim p M
def Jod(E:XK)(C:Addr)(ta:TA):TS:=λ_ σ H=>ta σ H λvs H1=>vs.length<=sizeLine/\E (.ref C) none H1
end
def PEx(X:Cx)(e:Expr)(t:St->Hp->VK->XK->Prop):Prop :=
 ∀(pins:List (Addr × Obj))(s:Shared)(σ : St)(H:Hp)(Q:VK)(E:XK),Inv X pins σ H s->t σ H Q E ->
  wpAny (model X.prog X.w) X.A (eval e X.env) (EP X pins σ Q) (λev s'=>∃ H1 s1,Inv X pins σ H1 s1/\CX1 X.prog X.w X.stack H1 s1 E ev s') s
def xCall(sp:Sp)(dvs:List V)(t:TA):St->Hp->VK->XK->Prop:=λσ H Q E=>t σ H λvs H1=>sp (vs++dvs) H1 Q E
section
variable{fd:FuncData}{ps:List Str}{sp:Sp}{dvs:List V}{ds:List Value}{E:XK}{x:Str}{p apos:Pos}{o:Expr}{es:List Expr}{ta:TE}{k:Nat}{f:Addr}{m:Str}{t:TA}
theorem Jnb{Q:VK}{us:List Value}{vs:List V}(F:FnOk X.prog X.w X.K X.mg X.base (CX1 X.prog X.w) k f fd ps sp)(hr:Room k X.A)(hb:Binds X.K fd ps ds)(hd:Vals dvs ds)
  (I:Inv X pins σ H s) (r:Vals vs us) (h:sp (vs++dvs) H Q E):wpAny (model X.prog X.w) X.A (call (.ref f) us) (EP X pins σ Q) (λev s'=>∃ H1 s1,Inv X pins σ H1 s1/\CX1 X.prog X.w X.stack H1 s1 E ev s') s:=by
 have c:Vals (vs++dvs) (us++ds):=r.append hd;have d:(us++ds).length=ps.length:=(c.length.symm).trans (F.len _ _ _ _ h);have g:=F.run X.A X.stack s H ⟨us,[]⟩ (us++ds) (vs++dvs) Q E hr I.env0 (hb s us I.kIn d) c h;show wpAny_call (codeAny_mono g λb s' a=>?_);match b,a with
 | .error e,a=>show(H,s,I,a)
 | .ok (.ret u),a=>show I.after a
 | .ok .next,a=>show a.elim
 | .ok .brk,a=>show a.elim
 | .ok .cont,a=>show a.elim
end
section
variable{s':Shared}{B:Heap}{ea:Addr}{od:Option Addr}{a0:Value}{cls:Value}
theorem Inv.track{o:HO}(I:Inv X pins σ H s)(hn:H a=none)(h1:X.s₀.heap.get? a=none)(h2:a≠X.env.locals)(h3:∀ x c,X.env.cells.lookup x=some c->c≠a)(h4:∀ p∈X.pn++pins,p.1≠a)
  (ok:ObjOk X.prog X.w (upd H a o) s.heap a o):Inv X pins σ (upd H a o) s:=by
 have d:∀ b u,H b=some u->b≠a:=λb u q=>Jah q hn;show(I.ok,I.os,I.bare,⟨I.base.keep,I.base.slot,λb f q n k=>?_,I.base.there,λb i q=>?_,λb f u q=>?_,λb j q=>?_⟩,I.loc,I.cell,?_,λx c e=>?_,λp h=>?_,λb u q=>?_,I.len)
 .have : b≠a:=λz=>by rw[z,h1]at q;cases q
  rw[Jai this];show I.base.free b f q n k
 .have z:=I.base.tups b i q;rw[Jai (d _ _ z)];show z
 .have z:=I.base.frzs b f u q;rw[Jai (d _ _ z)];show z
 .let(l,z):=I.base.tbls b j q;show(l,by rw[Jai (d _ _ z)];show z)
 .rw[Jai (Ne.symm h2)];show I.free
 .rw[Jai (h3 x c e)];show I.freeC x c e
 .let(e,n,r):=I.pin p h;show(e,by rw[Jai (h4 p h)];show n,r)
 .by_cases g:b=a
  .subst g;rw[Jat]at q;cases q;show ok
  .rw[Jai g]at q;show(I.hok b u q).stay (λ_ _ _ z=>z) (λc z=>by rw[Jai (d _ _ z)];show z) (λc i z=>by rw[Jai (d _ _ z)];show z)
def ExcO(e C:Addr)(od:Option Addr:=none):HO:=.ext λh=>∃ ox vs,h.get? e=some ox/\ox.cls=.ref C/\ox.data=.fields vs/\ox.dict=od
theorem Inv.landed{sF:Shared}(I:Inv X pins σ H s)(hex:X.ex=[])(u:Un (frs X.stack) [] H H' s.heap s'.heap)(hok:HOk X.prog X.w H' s'.heap)(F:Fly X.stack H' s.heap ea od (.ref C) a0 B s'.heap)(hos:s'.os=s.os)(hg:AllBare s'.gens)
  (hfl:Heap.FlyingW B X.stack ea (.ref C) a0 h') (hup:s'.heap.UpToSlots h') (hdc:DictAt h' ea od) (hs:sF={ s' with heap:=h' }):Inv X pins σ (upd H' ea (ExcO ea C od)) sF:=by
 subst hs;let(f,L,_):=F.next u hok (I.stkFree' u) hfl.1 hup;have I2:Inv X pins σ H' { s' with heap:=h' }:=I.call' (s':={ s' with heap:=h' }) hos L f hg (λb z=>absurd z (by simp));have a:∀ b o,s.heap.get? b=some o->b≠ea:=λb o q z=>by
  have:=F.new;rw[<- z,q]at this;cases this
 let(m,D,_):=I.loc;let(P,_,_,l,_):=D;show I2.track F.free ?_ (Ne.symm (a _ _ l)) (λx c e z=>?_) (λp G z=>?_) ?_
 .cases q:X.s₀.heap.get? ea with
  | none=>rfl
  | some o=>
   let(R,i):=I.base.there ea o q (by rw[hex];simp);show absurd rfl (a _ _ i)
 .let(v,h):=I.cell x c e;let(O,j,_):=h;show a _ _ j z
 .let(e,_):=I.pin p G;show a _ _ e z
 .let(r,A,g,h,E,_):=hfl.first;let(t,d,n):=hdc;rw[show h'.get? ea=some r from g]at d;cases d;show(⟨r,A,g,h,E,n⟩,⟨_,g⟩,λN Q ⟨M,J,i,K,y⟩ k=>⟨M,J,k _ i,K,y⟩)
abbrev Cx.inx(X:Cx)(e:Addr):Cx:={ X with A:=X.A.mark (some (.ref e)),calm:=false,xe:=λ_ _=>False }
theorem Cx.Ok.inx(ok:X.Ok)(e:Addr):(X.inx e).Ok :=
 ⟨ok.mod,ok.kind,ok.glob,ok.blt,ok.above,ok.inj,ok.has,ok.cab,λz=>(by cases z),ok.frames,ok.stk,ok.exf,ok.bs,ok.bsz,ok.noex,ok.exfs,ok.funs,ok.frf⟩
theorem Inv.inx(I:Inv X pins σ H s)(e:Addr):Inv (X.inx e) pins σ H s :=
 ⟨I.ok.inx e,I.os,I.bare,I.base,I.loc,I.cell,I.free,I.freeC,I.pin,I.hok,I.len⟩
variable{e:Addr}
theorem Inv.outx(I:Inv (X.inx e) pins σ H s)(ok:X.Ok):Inv X pins σ H s :=
 ⟨ok,I.os,I.bare,I.base,I.loc,I.cell,I.free,I.freeC,I.pin,I.hok,I.len⟩
variable{i:Nat}{x:Str}
theorem Inv.goes{m m':Str->Option Value}(I:Inv X pins σ H s)(hN:X.N.Nodup)(hi:X.N[i]?=some x)(hs:Heap.SameBut X.env.locals s.heap h')
  (hn:s.heap.Ns X.env.locals m) (hn':h'.Ns X.env.locals m') (hm:∀ y,y≠x->m' y=m y):Inv X pins (σ.set i none) H { s with heap:=h',toks:=t' }:=by
 let(O,B,A):=I.loc;have J:O=m:=(Heap.Ns.eq_nsMap B).trans (Heap.Ns.eq_nsMap hn).symm;subst J;have w:∀ b o,X.s₀.heap.get? b=some o->b≠X.env.locals:=λb o e=>Nat.ne_of_lt (Nat.lt_of_lt_of_le (Heap.lt_size e) I.ok.above);show(I.ok,I.os,I.bare,⟨λb o e n t h=>?_,λb o e n t h=>?_,I.base.free,λb o e h=>?_,I.base.tups,I.base.frzs,I.base.tbls⟩,⟨m',hn',λj y v f g E=>?_⟩,λy c e=>?_,I.free,I.freeC,λp F=>?_,λa o e=>?_,by rw[List.length_set];show I.len)
 .show(hs.2 b (w b o e)).trans (I.base.keep b o e n t h)
 .let(G,f):=I.base.slot b o e n t h;show(G,(hs.2 b (w b o e)).trans f)
 .let(K,f):=I.base.there b o e h;show(K,(hs.2 b (w b o e)).trans f)
 .have C:j≠i:=λz=>by
   subst z;by_cases A:j<σ.length
   .rw[List.getElem?_set_self A]at g;cases g
   .rw[List.getElem?_eq_none (by rw[List.length_set];ac_nf)]at g;cases g
  rw[List.getElem?_set_ne (Ne.symm C)]at g;let(u,r,q):=A j y v f g E;have M:y≠x:=λz=>C (Jf4 hN f (z ▸ hi));show(u,r,?_);rcases q with⟨k,e⟩ | ⟨k,c,e,z⟩
  .show .inl ⟨k,(hm y M).trans e⟩
  .show .inr ⟨k,c,e,z.sameBut hs (I.cne y c e)⟩
 .let(v,z):=I.cell y c e;show(v,z.sameBut hs (I.cne y c e))
 .let(e,n,D,L,d):=I.pin p F;show((hs.2 p.1 D).trans e,n,D,L,d)
 .show(I.hok a o e).stay (λc v l q=>(hs.2 c ?_).trans q) (λ_ q=>q) λ_ _ q=>q;rintro rfl;rcases l with z | l
  .rw[<- z]at e;rw[I.free]at e;cases e
  .rw[I.free]at l;cases l
end
structure JeL(K:W.Frag)(C D:Addr):Prop where
 cl:W.hasDictIn K D=true
 ty:W.typeIn K (.ref D)=some (.type "type")
 ex:W.mroIn K D (.type "BaseException")=some true
 ab:W.mroIn K C (.ref D)=some true
variable{M:Model}
theorem JjX{K:W.Frag}{D:Addr}(X:K.In h)(c:W.hasDictIn K D=true):W.Looks M h (isType (.ref D)) true:=by
 let(b,a,_):=W.any_some c;unfold W.clsIn at a;split at a
 next c' d' cd' sl' ho=>
  intro A' Q' E' d k q;unfold isType loadHead;show wpAny_bind (wpAny_loadPart (k _ _ (X _ _ ho)) (wpAny_pure q))
 next=>cases a
theorem JgH{K:W.Frag}{e D:Addr}{oe:Obj}{Q:Bool->Shared->Prop}(X:K.In s.heap)(he:s.heap.get? e=some oe)(hc:oe.cls=.ref C)(c:JeL K C D)(h:Q true s) :
  wpAny M A (excMatches (.ref e) (.ref D)) Q E s:=by
 let(a,g,d,t,b):=s;have L0:W.Looks M a (typeOf (.ref e)) (.ref C):=hc ▸ (W.Looks.ld he).andThen .now;have L1:=W.looks_typeIn (M:=M) X c.ty;have L2:=W.looks_mroIn (M:=M) X c.ex;have L3:=W.looks_mroIn (M:=M) X c.ab;have L4:=JjX (M:=M) X c.cl;have f:=tc_notTuple;unfold excMatches isInstance isExcClass;repeat (first | lk | wp_step)
 show h
section
variable{ce:Expr}{epos hpos np:Pos}{x n:Str}{b0:Stmt}{suite:List Stmt}{ts:TS}{D:Addr}{t:St->Hp->VK->XK->Prop}
def Jmd(K:W.Frag)(D:Addr)(i:Nat)(t:St->Hp->VK->XK->Prop)(ts:TS):TS:=λDn σ H=>t σ H (λ_ H1=>Dn.nx σ H1) λcls od H1=>∃ C,cls=.ref C/\JeL K C D /\
 ∀ ea,H1 ea=none->ts { nx:=λσ' H'=>Dn.nx (σ'.set i none) H',rt:=Dn.rt,bk:=λσ' H'=>Dn.bk (σ'.set i none) H',ct:=λσ' H'=>Dn.ct (σ'.set i none) H' } (σ.set i (some (.ref ea))) (upd H1 ea (ExcO ea C od))
variable{i:Nat}
theorem Jnt{D:Addr}{s1:Shared}{Dn:Ends}{ev:Value}(hN:X.N.Nodup)(hi:X.N[i]?=some n)(hl:X.env.scope.names.lookup n=some .local)(hg:Gl X x)(hm:X.mg x=some (.ref D))(hsu:∀ e,PSs (X.inx e) (b0::suite) ts)
  (hex:X.ex=[]) (hst:X.stack=X.env::X.outer) (hfl:X.env.frame=some X.env.locals) (hdb:(x == ("__debug__" : Str))=false) (I:Inv X pins σ H s)
  (hx:∃ H1 s1',Inv X pins σ H1 s1'/\CX1 X.prog X.w X.stack H1 s1' (λcls od H1=>∃ C,cls=.ref C/\JeL X.K C D/\∀ ea,H1 ea=none->ts { nx:=λσ' H'=>Dn.nx (σ'.set i none) H',rt:=Dn.rt,bk:=λσ' H'=>Dn.bk (σ'.set i none) H',ct:=λσ' H'=>Dn.ct (σ'.set i none) H' } (σ.set i (some (.ref ea))) (upd H1 ea (ExcO ea C od))) ev s1) :
  wpAny (model X.prog X.w) X.A (noteFrame ev X.env) (λ_ s₂=>wpAny (model X.prog X.w) X.A (setFlight ev none) (λ_ s₃=>wpAny (model X.prog X.w) X.A (handleBy ev X.env [ExceptHandler.ExceptHandler (some (Expr.Name x np)) (some n) (b0::suite) hpos]) (SP X pins Dn) X.xe s₃) X.xe s₂) X.xe s1:=by
 let(H1,s0,I1,ea,od,cls,a0,B,H',rfl,E,V,u,t,F,C,rfl,O,Z):=hx;have S:X.A.frames=some (X.env::X.outer):=by rw[<- hst];show I.ok.frames
 have F':=F.fly;rw[hst]at F';show noteD S hfl F' F.dct λh4 h M T=>?_;show JnH h T λh5 b G l=>?_;have p:=M.trans G;have d:=b;rw[<- hst]at d;have I5:=I1.landed hex u t F E V d p l rfl;let(oe,vs,he,hc,_,_):=b.first;show wpAny_handleBy_cons (codeAny_handlers_test (Jdq (X:=X.inx ea) (I5.inx ea) hg hm ?_ hdb)) (by intro z;cases z);show JgH I5.kIn he hc O (codeAny_handlers_suite_as ?_);show Jnp b l λh6 o L P=>?_;have c:=o;rw[<- hst]at c;have I6:=I1.landed hex u t F E V c (p.trans L) P rfl;show Jd2 (X:=X) (v:=.ref ea) I6 hN hi (.inl hl) rfl (λs7 I7=>?_) (.inr hl);show wpAny_mono (hsu ea pins s7 _ _ _ (I7.inx ea) (Z ea F.free)) (λf W z=>?_) (λ_ _ z=>z.elim);have a:∀{σ':St}{j:Hp}{R:Flow->Shared->Prop}{E2:Value->Shared->Prop},Inv (X.inx ea) pins σ' j W->(∀ g,Inv X pins (σ'.set i none) j g->R f g) ->
   wpAny (model X.prog X.w) X.A (do bindName X.env n .none;unbindBehindTheSuite X.env n hpos) (λ_ g=>R f g) E2 W:=λ{σ' j R E2} J k=>by
  have J':=J.outx I.ok;let(m,Y,_):=J'.loc;show wpAny_nameGoes_keeps hl Y (by rw[I.ok.kind];rfl) λh' v U Q=>k _ (J'.goes hN hi Q Y U λy hy=>if_neg hy)
 cases f with
 | next=>let(σ',j,J,q):=z;show a J λg J3=>⟨_,_,J3,q⟩
 | brk=>let(σ',j,J,q):=z;show a J λg J3=>⟨_,_,J3,q⟩
 | cont=>let(σ',j,J,q):=z;show a J λg J3=>⟨_,_,J3,q⟩
 | ret v=>let(y,σ',j,J,r,q):=z;show a J λg J3=>⟨y,_,_,J3,r,q⟩
theorem Jls(hN:X.N.Nodup)(hi:X.N[i]?=some n)(hl:X.env.scope.names.lookup n=some .local)(hcall:PEx X ce t)(hg:Gl X x)(hm:X.mg x=some (.ref D))(hsu:∀ e,PSs (X.inx e) (b0::suite) ts)
  (hex:autoParam (X.ex=[]) Au) (hst:autoParam (X.stack=X.env::X.outer) Au) (hfl:autoParam (X.env.frame=some X.env.locals) Au)
  (hs:autoParam (swapsWith ce none epos.line X.env=pure false) Au) (hdb:autoParam ((x == ("__debug__" : Str))=false) Au) :
  PS X (.Try [.Expr ce epos] [.ExceptHandler (some (.Name x np)) (some n) (b0::suite) hpos] [] [] pos) (Jmd X.K D i t ts):=by
 intro a s σ H Dn I h;show wpAny_Try_except (wpAny_execs_cons (wpAny_Expr_any (wpAny_mono (hcall a s σ H _ _ I h) (λv d ⟨y,f,I1,g,b⟩=>?_) (λj d c=>?_)) I.quiet hs))
 .show wpAny_execs_nil (wpAny_execs_nil ⟨σ,f,I1,b⟩)
 .show Jnt hN hi hl hg hm hsu hex hst hfl hdb I c
end
inductive D where
 | non | bl (b:Bool) | int (i:Int) | str (x:Str) | tup (xs:List D) | lst (xs:List D)
mutual
def Rep(K:W.Frag)(H:Hp):D->V->Prop
 | .non,v=>v=.non
 | .bl b,v=>v=.bl b
 | .int i,v=>v=.int i
 | .str x,v=>v=.str x
 | .tup ds,v=>∃ a xs,v=.ref a/\SqT K H a xs/\RepL K H ds xs
 | .lst ds,v=>∃ a xs,v=.ref a/\SqL K H a xs/\RepL K H ds xs
def RepL(K:W.Frag)(H:Hp):List D->List V->Prop
 | [],vs=>vs=[]
 | d::ds,vs=>∃ v r,vs=v::r/\Rep K H d v/\RepL K H ds r
end
mutual
def eqD:D->D->Bool
 | .non, .non=>true
 | .bl a, .bl b=>a == b
 | .int a, .int b=>a == b
 | .bl a, .int b=>(if a then 1 else 0) == b
 | .int a, .bl b=>a == (if b then 1 else 0)
 | .str a, .str b=>a == b
 | .tup xs, .tup ys=>eqL xs ys
 | .lst xs, .lst ys=>eqL xs ys
 | _,_=>false
def eqL:List D->List D->Bool
 | [],[]=>true
 | x::xs,y::ys=>eqD x y&&eqL xs ys
 | _,_=>false
end
mutual
def depD:D->Nat
 | .tup xs=>depL xs+1
 | .lst xs=>depL xs+1
 | _=>0
def depL:List D->Nat
 | []=>0
 | x::xs=>max (depD x) (depL xs)
end
theorem JfI:∀{xs ys:List D},eqL xs ys=true->xs.length=ys.length
 | [],[],_=>rfl
 | [],_::_,h=>by simp[eqL]at h
 | _::_,[],h=>by simp[eqL]at h
 | x::xs,y::ys,h=>by
  simp only[eqL,Bool.and_eq_true]at h;simp only[length_cons,JfI h.2]
mutual
theorem JfY:∀ d:D,eqD d d=true
 | .non=>by simp[eqD]
 | .bl b=>by simp[eqD]
 | .int i=>by simp[eqD]
 | .str x=>by simp[eqD]
 | .tup xs=>by simp only[eqD];show JfZ xs
 | .lst xs=>by simp only[eqD];show JfZ xs
theorem JfZ:∀ d:List D,eqL d d=true
 | []=>by simp[eqL]
 | x::xs=>by simp only[eqL,Bool.and_eq_true];show(JfY x,JfZ xs)
end
theorem RepL.length{K:W.Frag}:∀{ds:List D}{vs:List V},RepL K H ds vs->ds.length=vs.length
 | [],vs,h=>by
  simp only[RepL]at h;rw[h];rfl
 | d::ds,vs,h=>by
  simp only[RepL]at h;let(v,r,rfl,_,h2):=h;simp only[length_cons,RepL.length h2]
theorem RepL.get{K:W.Frag}:∀{ds:List D}{vs:List V}{i:Nat}{d:D},RepL K H ds vs->ds[i]?=some d->∃ v,vs[i]?=some v/\Rep K H d v
 | [],_,_,_,_,e=>by simp at e
 | d::ds,vs,i,d',h,e=>by
  simp only[RepL]at h;let(v,r,rfl,h1,h2):=h;cases i with
  | zero=>simp at e;subst e;show(v,rfl,h1)
  | succ i=>
   let(v',e',h'):=RepL.get h2 (by simpa using e);show(v',by simpa using e',h')
variable{xs:List V}
theorem SqL.same{K:W.Frag}(e:Same H H')(h:SqL K H a xs):SqL K H' a xs:=e.seq h
theorem SqT.same{K:W.Frag}(e:Same H H')(h:SqT K H a xs):SqT K H' a xs:=by
 rcases h with(h | ⟨o,h⟩) | h
 .show .inl (.inl (e _ _ h))
 .show .inl (.inr ⟨o,e _ _ h⟩)
 .show .inr h
mutual
theorem Rep.same{K:W.Frag}(e:Same H H'):∀{d:D}{v:V},Rep K H d v->Rep K H' d v
 | .non,_,h=>by simpa only[Rep]using h
 | .bl _,_,h=>by simpa only[Rep]using h
 | .int _,_,h=>by simpa only[Rep]using h
 | .str _,_,h=>by simpa only[Rep]using h
 | .tup ds,_,h=>by
  simp only[Rep]at h ⊢;let(a,xs,h1,h2,h3):=h;show(a,xs,h1,h2.same e,RepL.same e h3)
 | .lst ds,_,h=>by
  simp only[Rep]at h ⊢;let(a,xs,h1,h2,h3):=h;show(a,xs,h1,h2.same e,RepL.same e h3)
theorem RepL.same{K:W.Frag}(e:Same H H'):∀{d:List D}{v:List V},RepL K H d v->RepL K H' d v
 | [],_,h=>by simpa only[RepL]using h
 | x::xs,_,h=>by
  simp only[RepL]at h ⊢;let(v,r,h1,h2,h3):=h;show(v,r,h1,Rep.same e h2,RepL.same e h3)
end
theorem Inv.list_tuple(I:Inv X pins σ H s){a:Addr}{xs ys:List V}(h:SqL X.K H a xs)(h':SqT X.K H a ys):False:=by
 let(_,_,p,_):=I.list h;let(_,_,q,_):=I.tuple h';let(o,_,e,d,_):=p;let(f,c,b,_):=q;rw[e]at c;cases c;rw[d]at b;show absurd b ⋯
mutual
theorem Inv.rep_inj(I:Inv X pins σ H s):∀{d e:D}{v:V},Rep X.K H d v->Rep X.K H e v->d=e
 | .non,e,v,h,h'=>by
  simp only[Rep]at h;subst h;cases e <;> simp[Rep]at h' ⊢
 | .bl _,e,v,h,h'=>by
  simp only[Rep]at h;subst h;cases e <;> simp[Rep]at h' ⊢
  show h'
 | .int _,e,v,h,h'=>by
  simp only[Rep]at h;subst h;cases e <;> simp[Rep]at h' ⊢
  show h'
 | .str _,e,v,h,h'=>by
  simp only[Rep]at h;subst h;cases e <;> simp[Rep]at h' ⊢
  show h'
 | .tup ds,e,v,h,h'=>by
  simp only[Rep]at h;let(a,xs,rfl,h2,h3):=h;cases e with
  | tup es=>
   simp only[Rep]at h';let(a',ys,q,g2,g3):=h';cases q;have:=I.tuple_inj h2 g2;subst this;rw[Inv.repL_inj I h3 g3]
  | lst es=>
   simp only[Rep]at h';let(a',ys,q,g2,g3):=h';cases q;show(I.list_tuple g2 h2).elim
  | _=>simp[Rep]at h'
 | .lst ds,e,v,h,h'=>by
  simp only[Rep]at h;let(a,xs,rfl,h2,h3):=h;cases e with
  | lst es=>
   simp only[Rep]at h';let(a',ys,q,g2,g3):=h';cases q;have:=I.list_inj h2 g2;subst this;rw[Inv.repL_inj I h3 g3]
  | tup es=>
   simp only[Rep]at h';let(a',ys,q,g2,g3):=h';cases q;show(I.list_tuple h2 g2).elim
  | _=>simp[Rep]at h'
theorem Inv.repL_inj(I:Inv X pins σ H s):∀{d e:List D}{v:List V},RepL X.K H d v->RepL X.K H e v->d=e
 | [],e,v,h,h'=>by
  simp only[RepL]at h;subst h;cases e <;> simp[RepL]at h' ⊢
 | x::xs,e,v,h,h'=>by
  simp only[RepL]at h;let(u,r,rfl,h1,h2):=h;cases e with
  | nil=>simp[RepL]at h'
  | cons y ys=>
   simp only[RepL]at h';let(u',r',q,g1,g2):=h';cases q;rw[Inv.rep_inj I h1 g1,Inv.repL_inj I h2 g2]
end
variable{α β:Type}
def Jdd(f : α->β->Bool):List α->List β->Bool
 | [],[]=>true
 | x::xs,y::ys=>f x y&&Jdd f xs ys
 | _,_=>false
def atB(f : α->β->Bool)(xs:List α)(ys:List β)(j:Nat):Bool:=match xs[j]?,ys[j]? with
 | some x,some y=>f x y
 | _,_=>true
theorem Jde(f : α->β->Bool):∀(xs:List α)(ys:List β),
  ((List.range (min xs.length ys.length)).all (atB f xs ys)&&(xs.length == ys.length))=Jdd f xs ys
 | [],[]=>by simp[Jdd]
 | [],_::_=>by simp[Jdd]
 | _::_,[]=>by simp[Jdd]
 | x::xs,y::ys=>by
  have ih:=Jde f xs ys;simp only[Jdd,length_cons];rw[<- ih,Nat.succ_min_succ,List.range_succ_eq_map,List.all_cons,List.all_map];have e:((List.range (min xs.length ys.length)).all (atB f (x::xs) (y::ys) ∘ Nat.succ))=(List.range (min xs.length ys.length)).all (atB f xs ys):=by
   congr 1
  rw[e];have e0:atB f (x::xs) (y::ys) 0=f x y:=by unfold atB;simp
  rw[e0,Bool.and_assoc]
  congr 2
  simp
theorem Jhx:∀ xs ys:List D,eqL xs ys=Jdd eqD xs ys
 | [],[]=>by simp[eqL,Jdd]
 | [],_::_=>by simp[eqL,Jdd]
 | _::_,[]=>by simp[eqL,Jdd]
 | x::xs,y::ys=>by simp only[eqL,Jdd,Jhx xs ys]
theorem Jim:∀{ds:List D}{d:D},d∈ds->depD d<=depL ds
 | [],_,h=>by simp at h
 | x::xs,d,h=>by
  simp only[depL];rcases mem_cons.mp h with rfl | h
  .show Nat.le_max_left ..
  .show Nat.le_trans (Jim h) (Nat.le_max_right ..)
def flatD:D->Bool
 | .tup _=>false
 | .lst _=>false
 | _=>true
def valD:D->V
 | .bl b=>.bl b
 | .int i=>.int i
 | .str x=>.str x
 | _=>.non
variable{d:D}
theorem Jgf{K:W.Frag}(f:flatD d=true)(h:Rep K H d v):v=valD d:=by
 cases d <;> simp_all [flatD,Rep,valD]
theorem Jiq(f:flatD d=true):flatV (valD d)=true:=by
 cases d <;> simp_all [flatD,valD,flatV]
theorem Jmt{e:D}(f:flatD d=true)(g:flatD e=true):eqV (valD d) (valD e)=eqD d e:=by
 cases d <;> cases e <;> simp_all [flatD,valD,eqV,eqD]
theorem in1_units(A:Around):A.in1.units=A.units+1:=rfl
def EqP(X:Cx)(H:Hp)(s:Shared)(n:Nat):Prop:=∀(d e:D)(A:Around)(x y:V)(u v:Value),depD d<=n->Rep X.K H d x->Rep X.K H e y->RelV x u->RelV y v->A.units+n<cLine->SeqAt.EqAt A s u v (eqD d e)
variable{n:Nat}
theorem Jiw(ih:EqP X H s n){ds es:List D}{xs ys:List V}{its jts:List Value}(h3:RepL X.K H ds xs)(g3:RepL X.K H es ys)(vi:Vals xs its)(vj:Vals ys jts)(hds:depL ds<=n){A:Around}(hA:A.units+n<cLine) :
  ∀ j (p1:j<its.toArray.size) (p2:j<jts.toArray.size),SeqAt.EqAt A s its.toArray[j] jts.toArray[j] (atB eqD ds es j):=by
 intro j p1 p2;have f:its.length=ds.length:=by rw[h3.length,vi.length]
 have q:jts.length=es.length:=by rw[g3.length,vj.length]
 have a:j<ds.length:=by rw[<- f];simpa using p1
 have b:j<es.length:=by rw[<- q];simpa using p2
 let(v,h,c):=h3.get (List.getElem?_eq_getElem a);let(u,l,p):=g3.get (List.getElem?_eq_getElem b);let(g,i,r):=vi.get h;let(t,m,d):=vj.get l;have k:its.toArray[j]=g:=by
  have:=i;rw[List.getElem?_eq_getElem (by simpa using p1)]at this;simpa using this
 have e:jts.toArray[j]=t:=by
  have:=m;rw[List.getElem?_eq_getElem (by simpa using p2)]at this;simpa using this
 rw[k,e];have o:atB eqD ds es j=eqD ds[j] es[j]:=by
  unfold atB;rw[List.getElem?_eq_getElem a,List.getElem?_eq_getElem b]
 rw[o];show ih _ _ _ _ _ _ _ (Nat.le_trans (Jim (List.getElem_mem a)) hds) c p r d hA
theorem Jog(I:Inv X pins σ H s){n:Nat}(ih:EqP X H s n){ds es:List D}{a b:Addr}{xs ys:List V}(h2:SqT X.K H a xs)(h3:RepL X.K H ds xs)(g2:SqT X.K H b ys)(g3:RepL X.K H es ys)(hds:depL ds<=n){A:Around}(hA:A.units+(n+1)<cLine) :
  SeqAt.RcAt A s (.ref a) (.ref b) (eqD (.tup ds) (.tup es))/\SeqAt.RcNeAt A s (.ref a) (.ref b) (!eqD (.tup ds) (.tup es)):=by
 let(c,g,h,_):=I.tuple h2;let(d,f,i,_):=I.tuple g2;have k:c.length=ds.length:=by rw[h3.length,g.length]
 have l:d.length=es.length:=by rw[g3.length,f.length]
 have e:=Jiw ih h3 g3 g f hds (A:=A.in1) (by rw[in1_units];ac_nf);have j:eqD (.tup ds) (.tup es)=((List.range (min c.toArray.size d.toArray.size)).all (atB eqD ds es)&&c.toArray.size == d.toArray.size):=by
  simp only[eqD,Jhx];rw[<- Jde];simp only[size_toArray,k,l]
 rw[j];show(SeqAt.RcAt.tuples h i ∅ e,SeqAt.RcNeAt.tuples h i ∅ e)
theorem JnL(I:Inv X pins σ H s){n:Nat}(ih:EqP X H s n){ds es:List D}{a b:Addr}{xs ys:List V}(h2:SqL X.K H a xs)(h3:RepL X.K H ds xs)(g2:SqL X.K H b ys)(g3:RepL X.K H es ys)(hds:depL ds<=n){A:Around}(hA:A.units+(n+1)<cLine) :
  SeqAt.RcAt A s (.ref a) (.ref b) (eqD (.lst ds) (.lst es))/\SeqAt.RcNeAt A s (.ref a) (.ref b) (!eqD (.lst ds) (.lst es)):=by
 let(d,m,f,_):=I.list h2;let(j,l,h,_):=I.list g2;have e:d.length=ds.length:=by rw[h3.length,m.length]
 have g:j.length=es.length:=by rw[g3.length,l.length]
 have k:=Jiw ih h3 g3 m l hds (A:=A.in1) (by rw[in1_units];ac_nf);by_cases c:ds.length=es.length
 .have i:eqD (.lst ds) (.lst es)=(List.range d.toArray.size).all (atB eqD ds es):=by
   simp only[eqD,Jhx];rw[<- Jde];simp[e,c]
  rw[i];show(SeqAt.RcAt.lists f.isList h.isList (by simp[e,g,c]) ∅ k,SeqAt.RcNeAt.lists f.isList h.isList (by simp[e,g,c]) ∅ k)
 .have i:eqD (.lst ds) (.lst es)=false:=by
   cases q:eqD (.lst ds) (.lst es)with
   | false=>rfl
   | true=>simp only[eqD]at q;show absurd (JfI q) c
  rw[i];show(SeqAt.RcAt.lists_lengths f.isList h.isList (by simp[e,g,c]) ∅,SeqAt.RcNeAt.lists_lengths f.isList h.isList (by simp[e,g,c]) ∅)
theorem Jdt{K:W.Frag}{x:V}(h:Rep K H d x):(flatD d=true/\x=valD d)\/(∃ ds a xs,d=.tup ds/\x=.ref a/\SqT K H a xs/\RepL K H ds xs)\/∃ ds a xs,d=.lst ds/\x=.ref a/\SqL K H a xs/\RepL K H ds xs:=by
 cases d with
 | tup ds=>simp only[Rep]at h;let(a,xs,c,e,b):=h;show .inr (.inl ⟨ds,a,xs,rfl,c,e,b⟩)
 | lst ds=>simp only[Rep]at h;let(a,xs,c,e,b):=h;show .inr (.inr ⟨ds,a,xs,rfl,c,e,b⟩)
 | _=>show .inl ⟨rfl,Jgf rfl h⟩
theorem Jdg(I:Inv X pins σ H s){d e:D}{x y:V}{u v:Value}(hd:Rep X.K H d x)(he:Rep X.K H e y)(ru:RelV x u)(rv:RelV y v)(m:flatD d=!flatD e){A:Around}(hA:A.units<cLine) :
  eqD d e=false/\SeqAt.EqAt A s u v false/\SeqAt.RcAt A s u v false/\SeqAt.RcNeAt A s u v true:=by
 rcases Jdt hd with⟨fd,rfl⟩ | ⟨ds,a,xs,rfl,rfl,h2,h3⟩ | ⟨ds,a,xs,rfl,rfl,h2,h3⟩
 .rcases Jdt he with⟨fe,rfl⟩ | ⟨es,b,ys,rfl,rfl,g2,g3⟩ | ⟨es,b,ys,rfl,rfl,g2,g3⟩
  .rw[fd,fe]at m;cases m
  .obtain rfl:v=Value.ref b:=rv;let(f,g,c,_):=I.tuple g2;show(by cases d <;> simp[eqD,flatD]at fd ⊢,?_);cases d <;> simp only[valD,RelV]at ru <;> first | (simp[flatD]at fd;done) | skip
   .subst ru;show(SeqAt.EqAt.none_tuple c hA,SeqAt.RcAt.none_tuple c hA,SeqAt.RcNeAt.none_tuple c hA)
   .subst ru;show(SeqAt.EqAt.bool_tuple _ c hA,SeqAt.RcAt.bool_tuple _ c hA,SeqAt.RcNeAt.bool_tuple _ c hA)
   .let(t,rfl):=ru;show(SeqAt.EqAt.int_tuple _ _ c hA,SeqAt.RcAt.int_tuple _ _ c hA,SeqAt.RcNeAt.int_tuple _ _ c hA)
   .let(t,rfl):=ru;show(SeqAt.EqAt.str_tuple _ _ c hA,SeqAt.RcAt.str_tuple _ _ c hA,SeqAt.RcNeAt.str_tuple _ _ c hA)
  .obtain rfl:v=Value.ref b:=rv;let(f,g,c,_):=I.list g2;have c:=c.isList;show(by cases d <;> simp[eqD,flatD]at fd ⊢,?_);cases d <;> simp only[valD,RelV]at ru <;> first | (simp[flatD]at fd;done) | skip
   .subst ru;show(SeqAt.EqAt.none_list c hA,SeqAt.RcAt.none_list c hA,SeqAt.RcNeAt.none_list c hA)
   .subst ru;show(SeqAt.EqAt.bool_list _ c hA,SeqAt.RcAt.bool_list _ c hA,SeqAt.RcNeAt.bool_list _ c hA)
   .let(t,rfl):=ru;show(SeqAt.EqAt.int_list _ _ c hA,SeqAt.RcAt.int_list _ _ c hA,SeqAt.RcNeAt.int_list _ _ c hA)
   .let(t,rfl):=ru;show(SeqAt.EqAt.str_list _ _ c hA,SeqAt.RcAt.str_list _ _ c hA,SeqAt.RcNeAt.str_list _ _ c hA)
 .rcases Jdt he with⟨fe,rfl⟩ | ⟨es,b,ys,rfl,rfl,g2,g3⟩ | ⟨es,b,ys,rfl,rfl,g2,g3⟩
  .obtain rfl:u=Value.ref a:=ru;let(f,g,c,_):=I.tuple h2;show(by cases e <;> simp[eqD,flatD]at fe ⊢,?_);cases e <;> simp only[valD,RelV]at rv <;> first | (simp[flatD]at fe;done) | skip
   .subst rv;show(SeqAt.EqAt.tuple_none c hA,SeqAt.RcAt.tuple_none c hA,SeqAt.RcNeAt.tuple_none c hA)
   .subst rv;show(SeqAt.EqAt.tuple_bool _ c hA,SeqAt.RcAt.tuple_bool _ c hA,SeqAt.RcNeAt.tuple_bool _ c hA)
   .let(t,rfl):=rv;show(SeqAt.EqAt.tuple_int _ _ c hA,SeqAt.RcAt.tuple_int _ _ c hA,SeqAt.RcNeAt.tuple_int _ _ c hA)
   .let(t,rfl):=rv;show(SeqAt.EqAt.tuple_str _ _ c hA,SeqAt.RcAt.tuple_str _ _ c hA,SeqAt.RcNeAt.tuple_str _ _ c hA)
  .simp[flatD]at m
  .simp[flatD]at m
 .rcases Jdt he with⟨fe,rfl⟩ | ⟨es,b,ys,rfl,rfl,g2,g3⟩ | ⟨es,b,ys,rfl,rfl,g2,g3⟩
  .obtain rfl:u=Value.ref a:=ru;let(f,g,c,_):=I.list h2;have c:=c.isList;show(by cases e <;> simp[eqD,flatD]at fe ⊢,?_);cases e <;> simp only[valD,RelV]at rv <;> first | (simp[flatD]at fe;done) | skip
   .subst rv;show(SeqAt.EqAt.list_none c hA,SeqAt.RcAt.list_none c hA,SeqAt.RcNeAt.list_none c hA)
   .subst rv;show(SeqAt.EqAt.list_bool _ c hA,SeqAt.RcAt.list_bool _ c hA,SeqAt.RcNeAt.list_bool _ c hA)
   .let(t,rfl):=rv;show(SeqAt.EqAt.list_int _ _ c hA,SeqAt.RcAt.list_int _ _ c hA,SeqAt.RcNeAt.list_int _ _ c hA)
   .let(t,rfl):=rv;show(SeqAt.EqAt.list_str _ _ c hA,SeqAt.RcAt.list_str _ _ c hA,SeqAt.RcNeAt.list_str _ _ c hA)
  .simp[flatD]at m
  .simp[flatD]at m
theorem seq_eq(I:Inv X pins σ H s){n:Nat}(ih:EqP X H s n){d e:D}{x y:V}{u v:Value}(hn:depD d<=n+1)(hd:Rep X.K H d x)(he:Rep X.K H e y)(ru:RelV x u)(rv:RelV y v)(fd:flatD d=false)(fe:flatD e=false){A:Around}(hA:A.units+(n+1)<cLine) :
  SeqAt.EqAt A s u v (eqD d e)/\SeqAt.RcAt A s u v (eqD d e)/\SeqAt.RcNeAt A s u v (!eqD d e):=by
 have k:=hd;have j:=he;rcases Jdt hd with⟨f,_⟩ | ⟨ds,a,xs,rfl,rfl,h2,h3⟩ | ⟨ds,a,xs,rfl,rfl,h2,h3⟩
 .rw[f]at fd;cases fd
 .obtain rfl:u=Value.ref a:=ru;have g:depL ds<=n:=by simp only[depD]at hn;ac_nf
  rcases Jdt he with⟨f,_⟩ | ⟨es,b,ys,rfl,rfl,g2,g3⟩ | ⟨es,b,ys,rfl,rfl,g2,g3⟩
  .rw[f]at fe;cases fe
  .obtain rfl:v=Value.ref b:=rv;have R:=Jog I ih h2 h3 g2 g3 g hA;show(?_,R.1,R.2);by_cases c:a=b
   .subst c;rw[I.rep_inj k j,JfY];show SeqAt.EqAt.same _
   .show SeqAt.EqAt.of_refs c R.1
  .obtain rfl:v=Value.ref b:=rv;let(l,_,h,_):=I.tuple h2;let(m,_,i,_):=I.list g2;show(SeqAt.EqAt.tuple_list h i.isList ∅,SeqAt.RcAt.tuple_list h i.isList ∅,SeqAt.RcNeAt.tuple_list h i.isList ∅)
 .obtain rfl:u=Value.ref a:=ru;have g:depL ds<=n:=by simp only[depD]at hn;ac_nf
  rcases Jdt he with⟨f,_⟩ | ⟨es,b,ys,rfl,rfl,g2,g3⟩ | ⟨es,b,ys,rfl,rfl,g2,g3⟩
  .rw[f]at fe;cases fe
  .obtain rfl:v=Value.ref b:=rv;let(l,_,h,_):=I.list h2;let(m,_,i,_):=I.tuple g2;show(SeqAt.EqAt.list_tuple h.isList i ∅,SeqAt.RcAt.list_tuple h.isList i ∅,SeqAt.RcNeAt.list_tuple h.isList i ∅)
  .obtain rfl:v=Value.ref b:=rv;have R:=JnL I ih h2 h3 g2 g3 g hA;show(?_,R.1,R.2);by_cases c:a=b
   .subst c;rw[I.rep_inj k j,JfY];show SeqAt.EqAt.same _
   .show SeqAt.EqAt.of_refs c R.1
theorem Inv.eqP(I:Inv X pins σ H s):∀ n,EqP X H s n
 | 0=>λd e A x y u v hn hd he ru rv hA=>by
  have fd:flatD d=true:=by
   cases d <;> simp[depD,flatD]at hn ⊢
  cases fe:flatD e with
  | true=>
   have ex:=Jgf fd hd;have ey:=Jgf fe he;subst ex ey;rw[<- Jmt fd fe];show JlR ru rv (Jiq fd) (Jiq fe)
  | false=>
   let(e1,e2,_):=Jdg I hd he ru rv (by rw[fd,fe];rfl) (A:=A) ∅;rw[e1];show e2
 | n+1=>λd e A x y u v hn hd he ru rv hA=>by
  cases fd:flatD d with
  | true=>
   have h0:depD d<=n:=by cases d <;> simp[depD,flatD]at fd ⊢
   show Inv.eqP I n d e A x y u v h0 hd he ru rv ∅
  | false=>
   cases fe:flatD e with
   | true=>
    let(e1,e2,_):=Jdg I hd he ru rv (by rw[fd,fe];rfl) (A:=A) ∅;rw[e1];show e2
   | false=>show(seq_eq I (Inv.eqP I n) hn hd he ru rv fd fe hA).1
def rEqU(K:W.Frag):R2:=λx y H Q=>match x,y with
 | .int i, .int j=>Q (.bl (decide (i=j))) H
 | .str i, .str j=>Q (.bl (decide (i=j))) H
 | .bl i, .bl j=>Q (.bl (decide (i=j))) H
 | .non, .non=>Q (.bl true) H
 | x,y=>∃ d e,Rep K H d x/\Rep K H e y/\depD d<=50/\(flatD d&&flatD e)=false/\Q (.bl (eqD d e)) H
def rNeU(K:W.Frag):R2:=λx y H Q=>match x,y with
 | .int i, .int j=>Q (.bl (!decide (i=j))) H
 | .str i, .str j=>Q (.bl (!decide (i=j))) H
 | .bl i, .bl j=>Q (.bl (!decide (i=j))) H
 | .non, .non=>Q (.bl false) H
 | x,y=>∃ d e,Rep K H d x/\Rep K H e y/\depD d<=50/\(flatD d&&flatD e)=false/\Q (.bl (!eqD d e)) H
theorem JaM(hu:X.A.units+64<cLine):OpR X (compareOp .Eq) (rEqU X.K):=λa s σ H x y v u Q I b c q=>by
 unfold rEqU at q;split at q
 .rename_i i j;show op_eq a s σ H _ _ v u Q I b c ⟨rfl,by rw[show decide (V.int i=V.int j)=decide (i=j)from by simp];show q⟩
 .rename_i i j;show op_eq a s σ H _ _ v u Q I b c ⟨rfl,by rw[show decide (V.str i=V.str j)=decide (i=j)from by simp];show q⟩
 .rename_i i j;show op_eq a s σ H _ _ v u Q I b c ⟨rfl,by rw[show decide (V.bl i=V.bl j)=decide (i=j)from by simp];show q⟩
 .show op_eq a s σ H _ _ v u Q I b c ⟨rfl,by simpa using q⟩
 .let(d,e,k,f,m,l,q):=q;show wpAny (model X.prog X.w) X.A (richCompare .Eq v u) (EP X a σ Q) X.xe s;cases fd:flatD d with
  | true=>
   cases fe:flatD e with
   | true=>rw[fd,fe]at l;cases l
   | false=>
    let(h,_,g,_):=Jdg I k f b c (by rw[fd,fe];rfl) (A:=X.A) ∅;rw[h]at q;show g _ _ _ _ ⟨V.bl _,H,I,rfl,q⟩
  | false=>
   cases fe:flatD e with
   | true=>
    let(h,_,g,_):=Jdg I k f b c (by rw[fd,fe];rfl) (A:=X.A) ∅;rw[h]at q;show g _ _ _ _ ⟨V.bl _,H,I,rfl,q⟩
   | false=>show(seq_eq I (I.eqP 49) m k f b c fd fe ∅).2.1 _ _ _ _ ⟨V.bl _,H,I,rfl,q⟩
theorem Jcg(hu:X.A.units+64<cLine):OpR X (compareOp .NotEq) (rNeU X.K):=λa s σ H x y v u Q I b c q=>by
 unfold rNeU at q;split at q
 .rename_i i j;show op_ne a s σ H _ _ v u Q I b c ⟨rfl,by rw[show decide (V.int i=V.int j)=decide (i=j)from by simp];show q⟩
 .rename_i i j;show op_ne a s σ H _ _ v u Q I b c ⟨rfl,by rw[show decide (V.str i=V.str j)=decide (i=j)from by simp];show q⟩
 .rename_i i j;show op_ne a s σ H _ _ v u Q I b c ⟨rfl,by rw[show decide (V.bl i=V.bl j)=decide (i=j)from by simp];show q⟩
 .show op_ne a s σ H _ _ v u Q I b c ⟨rfl,by simpa using q⟩
 .let(d,e,k,f,m,l,q):=q;show wpAny (model X.prog X.w) X.A (richCompare .NotEq v u) (EP X a σ Q) X.xe s;cases fd:flatD d with
  | true=>
   cases fe:flatD e with
   | true=>rw[fd,fe]at l;cases l
   | false=>
    let(h,_,_,g):=Jdg I k f b c (by rw[fd,fe];rfl) (A:=X.A) ∅;rw[h]at q;show g _ _ _ _ ⟨V.bl _,H,I,rfl,q⟩
  | false=>
   cases fe:flatD e with
   | true=>
    let(h,_,_,g):=Jdg I k f b c (by rw[fd,fe];rfl) (A:=X.A) ∅;rw[h]at q;show g _ _ _ _ ⟨V.bl _,H,I,rfl,q⟩
   | false=>show(seq_eq I (I.eqP 49) m k f b c fd fe ∅).2.2 _ _ _ _ ⟨V.bl _,H,I,rfl,q⟩
def DivOk(j:Int):Prop:=j≠0/\j.natAbs.log2<9000
def rAddU(K:W.Frag):R2:=λx y H Q=>match x,y with
 | .int i, .int j=>Q (.int (i+j)) H
 | .str i, .str j=>i.length+j.length<=sizeLine/\Q (.str (i++j)) H
 | .ref a, .ref b=>rCat (.ref a) (.ref b) H Q\/rCatT K (.ref a) (.ref b) H Q
 | _,_=>False
theorem JaH:OpR X (binaryOp .Add) (rAddU X.K):=λa s σ H x y v u Q I c b q=>by
 unfold rAddU at q;split at q
 .show JnR a s σ H _ _ v u Q I c b ⟨_,_,rfl,rfl,q⟩
 .show Jje a s σ H _ _ v u Q I c b ⟨_,_,rfl,rfl,q.1,q.2⟩
 .rcases q with q | q
  .show JnS a s σ H _ _ v u Q I c b q
  .show JmN a s σ H _ _ v u Q I c b q
 .show q.elim
def rMulU:R2:=λx y H Q=>match x,y with
 | .int i, .int j=>IntMulOk i j/\Q (.int (i*j)) H
 | _,_=>False
theorem JmP:OpR X (binaryOp .Mult) (rI IntMulOk λi j=>.int (i*j)):=opI λ_ _ _ _ _ _ _ a q=>mul_int q a
theorem Ja4:OpR X (binaryOp .Mult) rMulU:=λa s σ H x y v u Q I c b q=>by
 unfold rMulU at q;split at q
 .show JmP a s σ H _ _ v u Q I c b ⟨_,_,rfl,rfl,q.1,q.2⟩
 .show q.elim
def Jkr:R2:=λx y H Q=>match x,y with
 | .int i, .int j=>DivOk j/\Q (.int (i.fdiv j)) H
 | _,_=>False
theorem Jli:OpR X (binaryOp .FloorDiv) (rI (λ_ j=>DivOk j) λi j=>.int (i.fdiv j)):=opI λ_ _ _ _ _ _ _ a q=>floordiv_int a.1 q (.inl (PyProof.noPylong_of_log2 a.2))
theorem Jav:OpR X (binaryOp .FloorDiv) Jkr:=λa s σ H x y v u Q I c b q=>by
 unfold Jkr at q;split at q
 .show Jli a s σ H _ _ v u Q I c b ⟨_,_,rfl,rfl,q.1,q.2⟩
 .show q.elim
def rModU:R2:=λx y H Q=>match x,y with
 | .int i, .int j=>j≠0/\Q (.int (i.fmod j)) H
 | _,_=>False
theorem JaB:OpR X (binaryOp .Mod) rModU:=λa s σ H x y v u Q I c b q=>by
 unfold rModU at q;split at q
 .show JmO a s σ H _ _ v u Q I c b ⟨_,_,rfl,rfl,q.1,q.2⟩
 .show q.elim
def rPowU:R2:=λx y H Q=>match x,y with
 | .int i, .int j=>CPow i j/\Q (.int (i ^ j.toNat)) H
 | _,_=>False
theorem Jkh:OpR X (binaryOp .Pow) rPowU:=λa s σ H x y v u Q I c b q=>by
 unfold rPowU at q;split at q
 .show JnV a s σ H _ _ v u Q I c b ⟨_,_,rfl,rfl,q.1,q.2⟩
 .show q.elim
def rCmpU(p:Int->Int->Bool):R2:=λx y H Q=>match x,y with
 | .int i, .int j=>Q (.bl (p i j)) H
 | _,_=>False
theorem JhV{op:CmpOp}{p:Int->Int->Bool}(h:OpR X (compareOp op) (rI0 λi j=>.bl (p i j))):OpR X (compareOp op) (rCmpU p):=λa s σ H x y v u Q I c b q=>by
 unfold rCmpU at q;split at q
 .show h a s σ H _ _ v u Q I c b ⟨_,_,rfl,rfl,q⟩
 .show q.elim
theorem JdO:OpR X (compareOp .Lt) (rCmpU λi j=>decide (i<j)):=JhV op_lt
theorem Jg4:OpR X (compareOp .Gt) (rCmpU λi j=>decide (j<i)):=JhV op_gt
theorem JnT:OpR X (compareOp .GtE) (rCmpU λi j=>decide (j<=i)):=JhV op_ge
def SqA(K:W.Frag)(H:Hp)(a:Addr)(xs:List V):Prop:=SqL K H a xs\/SqT K H a xs
def rIxU(K:W.Frag):R2:=λx y H Q=>match x,y with
 | .ref p, .int i=>∃ xs v,SqA K H p xs/\atI xs i=some v/\Q v H
 | .str z, .int i=>∃ c,z.length<=sizeLine/\atI z.cps.toList i=some c/\Q (.str ⟨#[c]⟩) H
 | _,_=>False
theorem ix_U:IxR X (rIxU X.K):=λb a d s σ H x y v u Q I g i q f=>by
 unfold rIxU at q;split at q
 .obtain⟨l,w,h | h,e,q⟩:=q
  .show Jmy b a d s σ H _ _ v u Q I g i ⟨_,_,_,_,rfl,rfl,h,e,q⟩ f
  .show JnC b a d s σ H _ _ v u Q I g i ⟨_,_,_,_,rfl,rfl,h,e,q⟩ f
 .let(c,j,k,q):=q;show JnB b a d s σ H _ _ v u Q I g i ⟨_,_,_,rfl,rfl,j,k,q⟩ f
 .show q.elim
def rLen(K:W.Frag):List V->Hp->VK->Prop:=λxs H Q=>match xs with
 | [.ref p]=>∃ ys,SqA K H p ys/\Q (.int ys.length) H
 | [.str z]=>z.length<=sizeLine/\Q (.int z.length) H
 | _=>False
theorem JaD:CallR X (.builtin "len") (rLen X.K):=λa s σ H d b Q I r q=>by
 unfold rLen at q;split at q
 .let(c,h,q):=q;show JgB a s σ H _ b Q I r ⟨_,_,rfl,h,q⟩
 .show JgC a s σ H _ b Q I r ⟨_,rfl,q.1,q.2⟩
 .show q.elim
def rAbs:List V->Hp->VK->Prop:=λxs H Q=>match xs with
 | [.int i]=>Q (.int (if i<0 then -i else i)) H
 | _=>False
theorem JdI:CallR X (.builtin "abs") rAbs:=λa s σ H c b Q I r q=>by
 unfold rAbs at q;split at q
 .show JkU a s σ H _ b Q I r ⟨_,rfl,q⟩
 .show q.elim
def rMin:List V->Hp->VK->Prop:=λxs H Q=>match xs with
 | [.int i, .int j]=>Q (.int (if j<i then j else i)) H
 | _=>False
def isiB(t T:String):Bool:=t == T||(t == "bool"&&T == "int")
def tyN(K:W.Frag)(H:Hp)(x:V)(t:String):Prop:=match x with
 | .int _=>t="int"
 | .str _=>t="str"
 | .bl _=>t="bool"
 | .non=>t="NoneType"
 | .ref a=>(t="list"/\∃ xs,SqL K H a xs)\/(t="tuple"/\∃ xs,SqT K H a xs)
 | _=>False
theorem kit_b(K:W.Frag){t T:String}(ht:t∈["int","str","bool","NoneType","list","tuple"])(hT:T∈["int","str","bool","list","tuple"]):W.kitOne K (.type t) (.type T)=some (isiB t T):=by
 simp only[mem_cons,not_mem_nil,or_false]at ht hT;rcases ht with rfl | rfl | rfl | rfl | rfl | rfl <;> rcases hT with rfl | rfl | rfl | rfl | rfl <;> with_unfolding_all rfl
def rIsi(K:W.Frag):List V->Hp->VK->Prop:=λxs H Q=>match xs with
 | [x, .ty T]=>T∈["int","str","bool","list","tuple"]/\∃ t,tyN K H x t/\Q (.bl (isiB t T)) H
 | _=>False
theorem JaE:CallR X (.builtin "isinstance") (rIsi X.K):=λg s σ H n v Q I r q=>by
 unfold rIsi at q;split at q
 .rename_i x T;let(e,t,d,q):=q;let(u,c,rfl,f,m):=vals2 r;obtain rfl:c=Value.type T:=m;have b:∀ i,EP X g σ Q (.bool (isiB t T)) { s with toks:=i }:=λi=>⟨V.bl _,H,I.tok i,rfl,q⟩;unfold tyN at d;split at d
  .subst d;let(_,rfl):=f;show W.kia_one W.kitx_int I.kIn True.intro (kit_b _ ⋯ e) (λz=>nomatch z) b
  .subst d;let(_,rfl):=f;show W.kia_one W.kitx_str I.kIn True.intro (kit_b _ ⋯ e) (λz=>nomatch z) b
  .subst d;cases(show u=Value.bool _ from f);show W.kia_one W.kitx_bool I.kIn True.intro (kit_b _ ⋯ e) (λz=>nomatch z) b
  .subst d;cases(show u=Value.none from f);show W.kia_one W.kitx_none I.kIn True.intro (kit_b _ ⋯ e) (λz=>nomatch z) b
  .rename_i a;cases(show u=Value.ref a from f);rcases d with⟨rfl,ys,h⟩ | ⟨rfl,ys,h⟩
   .let(l,_,p,_):=I.list h;let(o,_,j,k,_):=p;show W.kia_one W.kitx_list I.kIn ⟨o,j,k⟩ (kit_b _ ⋯ e) (λz=>nomatch z) b
   .let(l,_,p,_):=I.tuple h;let(o,j,k,_):=p;show W.kia_one W.kitx_tuple I.kIn ⟨o,j,k⟩ (kit_b _ ⋯ e) (λz=>nomatch z) b
  .show d.elim
 .show q.elim
variable{tg:Expr}
def iAny(K:W.Frag)(tl:TE):TI:=λσ H R=>tl σ H λx H1=>∃ a,x=.ref a/\(((∃ xs,SqL K H1 a xs)/\R (Itl K a) H1)\/((∃ xs,SqT K H1 a xs)/\R (Itt K a) H1))
theorem pi_U{l:Expr}{tl:TE}(hl:PE X l tl):PI X tg l (iAny X.K tl):=λf s σ H R I h=>by
 show thn (hl f s σ H _ I h) λv c ζ=>?_;let(x,i,I1,j,a,k,q):=ζ;subst k;cases j;rcases q with⟨⟨xs,hq⟩,q⟩ | ⟨⟨xs,hq⟩,q⟩
 .let(d,n,p,m):=I1.list hq;show wpAny_pyIter_list p.isList ?_;show(c.heap.objs.size,[c.heap.objs.size],_,_,i,rfl,I1.kept (t':=c.toks) λb o e=>Heap.get?_push_of_some _ e,JkJ a _,⟨_,Heap.get?_push_size _ rfl,rfl,rfl⟩,λb g=>?_,q);have e:b=c.heap.objs.size:=by simpa using g
  subst e;show I1.fpOk (Nat.le_refl _) (I1.hok.fresh (Nat.le_refl _))
 .let(d,n,p,m):=I1.tuple hq;show wpAny_pyIter_tuple (show c.heap.IsTuple a d.toArray from p) ?_;show(c.heap.objs.size,[c.heap.objs.size],_,_,i,rfl,I1.kept (t':=c.toks) λb o e=>Heap.get?_push_of_some _ e,Jjl a _,⟨_,Heap.get?_push_size _ rfl,rfl,rfl⟩,λb g=>?_,q);have e:b=c.heap.objs.size:=by simpa using g
  subst e;show I1.fpOk (Nat.le_refl _) (I1.hok.fresh (Nat.le_refl _))
structure FunD(K:W.Frag)(x qual:Str)(st:Stmt)(dV:Value)(f:Addr)(fd:FuncData):Prop where
 ex:∃(oc:Value)(od:Option Addr)(kV doc pm:Value)(an:Option Addr)(cdv ct:Value)(osl:Array (Option Value)),
  fd=W.fnOf x qual (Jan st) (Jal st) (Jac st) dV kV doc pm an cdv ct/\K.lookup f=some ⟨oc,od, .func fd,osl⟩/\W.codeIn K cdv qual=true
 kp:W.keepIn K (.ref f)=true
section
variable{mg:Str->Option Value}{w:World}{K:W.Frag}{base:Heap}{x qual:Str}{st:Stmt}{dV:Value}{fd:FuncData}{N ps:List Str}{sp:Sp}
theorem FunD.okn{f:Addr}{k:Nat}(F:FunD K x qual st dV f fd)(S:Jao N ps (Jac st))(len:∀ vs H Q E,sp vs H Q E->vs.length=ps.length)
  (hbody:∀(cdv:Value)(A:Around)(outer:List Env)(s:Shared)(H:Hp)(vs:List V)(Q:VK)(E:XK),Room k (A.deeper (envOfC qual (Jac st) s.heap.objs.size f cdv))->sp vs H Q E ->
   ∃ t,PSs (cxOf (CX1 P w) P w K mg base N qual (Jac st) f cdv A outer s H E).nox (Jal st) t/\t { nx:=λ_ H'=>Q .non H',rt:=Q } (start N vs) H):FnOk P w K mg base (CX1 P w) (k+1) f fd ps sp:=by
 let(i,g,kV,d,l,m,cdv,j,c,rfl,lk,a):=F.ex;show fn_of lk a S len λA outer s H vs Q E e b=>?_;let(t,h,q):=hbody cdv A outer s H vs Q E e b;show(t,h.nox,q)
theorem FunD.okx{f:Addr}{k:Nat}(F:FunD K x qual st dV f fd)(S:Jao N ps (Jac st))(len:∀ vs H Q E,sp vs H Q E->vs.length=ps.length)
  (hbody:∀(cdv:Value)(A:Around)(outer:List Env)(s:Shared)(H:Hp)(vs:List V)(Q:VK)(E:XK),Room k (A.deeper (envOfC qual (Jac st) s.heap.objs.size f cdv))->sp vs H Q E ->
   ∃ t,PSs (cxOf (CX1 P w) P w K mg base N qual (Jac st) f cdv A outer s H E) (Jal st) t/\t { nx:=λ_ H'=>Q .non H',rt:=Q } (start N vs) H):FnOk P w K mg base (CX1 P w) (k+1) f fd ps sp:=by
 let(h,i,kV,d,l,g,cdv,j,e,rfl,lk,a):=F.ex;show fn_of lk a S len λA outer s H vs Q E c b=>hbody cdv A outer s H vs Q E c b
theorem FunD.binds{f:Addr}(F:FunD K x qual st dV f fd)
  (h:∀(kV doc pm:Value)(an:Option Addr)(cdv ct:Value)(us:List Value),us.length=ps.length->bindArgs (W.fnOf x qual (Jan st) (Jal st) (Jac st) dV kV doc pm an cdv ct) ⟨us,[]⟩=pure (ps.zip us)):Binds K fd ps []:=by
 let(c,d,kV,doc,pm,an,cdv,ct,b,rfl,lk,a):=F.ex;show .all (h kV doc pm an cdv ct)
theorem FunD.bindsD{T:Addr}{f:Addr}{o:Obj}{items:Array Value}(F:FunD K x qual st (.ref T) f fd)(hT:K.lookup T=some o)(hs:o.data=.seq items n)(ds:List Value)
  (h:∀(kV doc pm:Value)(an:Option Addr)(cdv ct:Value)(us:List Value),(us++ds).length=ps.length->∃ k,bindArgs (W.fnOf x qual (Jan st) (Jal st) (Jac st) (.ref T) kV doc pm an cdv ct) ⟨us,[]⟩=seqItems? (.ref T) >>= k/\k (some items)=pure (ps.zip (us++ds))):Binds K fd ps ds:=by
 let(g,i,kV,doc,pm,an,cdv,ct,d,rfl,lk,a):=F.ex;intro s us X c;let(k,b,e):=h kV doc pm an cdv ct us c;show BindsTo.of_defaults (T:=T) rfl (X _ _ hT) hs b e
theorem Jaq{f:Addr}{oc:Value}{od an:Option Addr}{osl:Array (Option Value)}{kV doc pm cdv ct:Value}(l:K.lookup f=some ⟨oc,od, .func (W.fnOf x qual (Jan st) (Jal st) (Jac st) dV kV doc pm an cdv ct),osl⟩)
  (c:W.codeIn K cdv qual=true) (k:W.keepIn K (.ref f)=true):FunD K x qual st dV f (W.fnOf x qual (Jan st) (Jal st) (Jac st) dV kV doc pm an cdv ct):=⟨⟨oc,od,kV,doc,pm,an,cdv,ct,osl,rfl,l,c⟩,k⟩
end
structure Cal(P:Program)(w:World)(K:W.Frag)(mg:Str->Option Value)(base:Heap)(k:Nat)(x:Str)(ps:List Str)(dvs:List V)(sp:Sp):Prop where
 ex:∃(f:Addr)(fd:FuncData)(ds:List Value),FnOk P w K mg base (CX1 P w) k f fd ps sp/\mg x=some (.ref f)/\W.keepIn K (.ref f)=true/\Binds K fd ps ds/\Vals dvs ds
section
variable{k':Nat}{x:Str}{ps:List Str}{dvs:List V}{sp:Sp}{E:XK}{p:Pos}{es:List Expr}{k:Nat}{t:TA}
theorem Cal.ev(G:Cal X.prog X.w X.K X.mg X.base k x ps dvs sp)(hr:Room k' X.A)(hk:k<=k')(hg:Gl X x)(hx:Jcd (CX1 X.prog X.w) X E)(ha:PA X (e::es) t)
  (hdb:autoParam ((x == ("__debug__" : Str))=false) Au) (he:autoParam (starEach (e::es) X.env=(false,eval e X.env)::starEach es X.env) Au) (hpl:autoParam ((backTo pos (starEach es X.env)).any (·.1)=false) Au) :
  PE X (.Call (.Name x p) (e::es) [] pos) (tCall sp dvs E t):=by
 let(f,g,h,F,c,b,a,d):=G.ex;show JmS F (hr.mono hk) hg c b a d hx ha hdb he hpl
end
end L2
namespace Mth
def g(a b:Int):Int:=(Int.gcd a b:Nat)
theorem JlT(a:Int):g a 0=(a.natAbs:Int):=by unfold g;rw[Int.gcd_zero_right]
theorem g_pos{a b:Int}(h:b≠0):0<g a b:=by
 unfold g;show Int.natCast_pos.mpr (Int.gcd_pos_of_ne_zero_right a h)
theorem JeT(a b:Int):g a b∣a:=Int.gcd_dvd_left ..
theorem JdM(a b:Int):g a b∣b:=Int.gcd_dvd_right ..
theorem Jny(a b:Int):g b (a % b)=g a b:=by
 unfold g;rw[Int.gcd_comm b (a % b)];first
  | rw[Int.gcd_emod_left]
  | (rw[Int.emod_def];simp[Int.gcd_comm])
theorem Bdm(a b:Int):g (if a<0 then -a else a) (if b<0 then -b else b)=g a b:=by
 unfold g;split <;> split <;> simp[Int.neg_gcd,Int.gcd_neg]
theorem Jig(a:Int):0<=(if a<0 then -a else a):=by split <;> ac_nf
theorem g_le{a b:Int}(h:b≠0):g a b<=(b.natAbs:Int):=by
 unfold g;show Int.ofNat_le.mpr (Nat.le_of_dvd ∅ (Int.natAbs_dvd_natAbs.mpr (by simpa using Int.gcd_dvd_right (a:=a) (b:=b)) |> λz=>by simpa using z))
theorem fm{x y:Int}(h:0<y):0<=x.fmod y/\x.fmod y<y:=by
 rw[Int.fmod_eq_emod_of_nonneg _ ∅];show(Int.emod_nonneg _ ∅,Int.emod_lt_of_pos _ h)
theorem JjU{x y:Int}(h:0<y):g y (x.fmod y)=g x y:=by
 rw[Int.fmod_eq_emod_of_nonneg _ ∅];show Jny x y
def by_(t b:Int):Int:=if b<0 then -(g t b)else g t b
def top(t b:Int):Int:=t.fdiv (by_ t b)
def bot(t b:Int):Int:=b.fdiv (by_ t b)
theorem by_ne{t b:Int}(h:b≠0):by_ t b≠0:=by
 have:=g_pos (a:=t) h;unfold by_;split <;> ac_nf
theorem Jmp(t b:Int):by_ t b∣t:=by
 unfold by_;split
 .show Int.neg_dvd.mpr (JeT t b)
 .show JeT t b
theorem Jmq(t b:Int):by_ t b∣b:=by
 unfold by_;split
 .show Int.neg_dvd.mpr (JdM t b)
 .show JdM t b
theorem Jbv{a d:Int}(h:d∣a)(hd:d≠0):a.fdiv d*d=a:=by
 let(k,rfl):=h;rw[Int.mul_comm d k,Int.mul_fdiv_cancel _ hd]
theorem Jif{t b:Int}(h:b≠0):top t b*by_ t b=t:=Jbv (Jmp t b) (by_ne h)
theorem JfS{t b:Int}(h:b≠0):bot t b*by_ t b=b:=Jbv (Jmq t b) (by_ne h)
theorem JbQ{t b:Int}(h:b≠0):1<=bot t b:=by
 have c:=JfS (t:=t) h;have f:=g_pos (a:=t) h;by_cases d:b<0
 .have e:by_ t b = -(g t b):=by unfold by_;rw[if_pos d]
  rw[e]at c;have i:bot t b*g t b = -b:=by rw[Int.mul_neg]at c;ac_nf
  rcases Int.lt_trichotomy (bot t b) 0 with z | z | z
  .have:=Int.mul_neg_of_neg_of_pos z f;ac_nf
  .rw[z]at i;ac_nf
  .ac_nf
 .have e:by_ t b=g t b:=by unfold by_;rw[if_neg d]
  rw[e]at c;rcases Int.lt_trichotomy (bot t b) 0 with z | z | z
  .have:=Int.mul_neg_of_neg_of_pos z f;ac_nf
  .rw[z]at c;ac_nf
  .ac_nf
theorem cross{t b:Int}(h:b≠0):top t b*b=t*bot t b:=by
 have a:=Jif (t:=t) h;have c:=JfS (t:=t) h
 calc top t b*b=top t b*(bot t b*by_ t b):=by rw[c]
  _=(top t b*by_ t b)*bot t b:=by rw[Int.mul_comm (bot t b),Int.mul_assoc]
  _=t*bot t b:=by rw[a]
theorem Jj7(t b:Int):(by_ t b).natAbs=Int.gcd t b:=by
 unfold by_ g;split <;> simp
theorem g_low{t b:Int}(h:b≠0):g (top t b) (bot t b)=1:=by
 have a:0<Int.gcd t b:=Int.gcd_pos_of_ne_zero_right t h;have e:Int.gcd (top t b*by_ t b) (bot t b*by_ t b)=Int.gcd (top t b) (bot t b)*(by_ t b).natAbs:=Int.gcd_mul_right ..;rw[Jif h,JfS h,Jj7]at e;have : Int.gcd (top t b) (bot t b)=1:=by
  rcases Nat.lt_trichotomy (Int.gcd (top t b) (bot t b)) 1 with z | z | z
  .have : Int.gcd (top t b) (bot t b)=0:=by ac_nf
   rw[this]at e;ac_nf
  .show z
  .have:=Nat.mul_le_mul_right (Int.gcd t b) z;ac_nf
 unfold g;rw[this];rfl
theorem JfG{a b d:Int}(g1:Int.gcd a b=1)(h:b∣a*d):b∣d:=by
 have e:b.natAbs∣a.natAbs*d.natAbs:=by rw[<- Int.natAbs_mul];show Int.natAbs_dvd_natAbs.mpr h
 have c:Nat.Coprime b.natAbs a.natAbs:=by
  unfold Nat.Coprime;rw[Nat.gcd_comm];show g1
 show Int.natAbs_dvd_natAbs.mp (c.dvd_of_dvd_mul_left e)
theorem Jed{a b c d:Int}(hb:1<=b)(hd:1<=d)(h1:g a b=1)(h2:g c d=1)(e:a*d=c*b):a=c/\b=d:=by
 have f:Int.gcd a b=1:=by unfold g at h1;ac_nf
 have j:Int.gcd c d=1:=by unfold g at h2;ac_nf
 have k:b∣d:=by
  have : b∣a*d:=⟨c,by rw[e,Int.mul_comm]⟩;show JfG f this
 have i:d∣b:=by
  have : d∣c*b:=⟨a,by rw[<- e,Int.mul_comm]⟩;show JfG j this
 have h:b=d:=Int.dvd_antisymm ∅ ∅ k i;subst h;show(?_,rfl);show Int.eq_of_mul_eq_mul_right ∅ e
theorem Jof{t b:Int}(h:b≠0):(top t b).natAbs<=t.natAbs:=by
 have c:=Jif (t:=t) h;have d:(by_ t b).natAbs≠0:=by have:=by_ne (t:=t) h;ac_nf
 have a:=congrArg Int.natAbs c;rw[Int.natAbs_mul]at a;rw[<- a];show Nat.le_mul_of_pos_right _ ∅
theorem bot_le{t b:Int}(h:b≠0):(bot t b).natAbs<=b.natAbs:=by
 have c:=JfS (t:=t) h;have d:(by_ t b).natAbs≠0:=by have:=by_ne (t:=t) h;ac_nf
 have a:=congrArg Int.natAbs c;rw[Int.natAbs_mul]at a
 calc (bot t b).natAbs<=(bot t b).natAbs*(by_ t b).natAbs:=Nat.le_mul_of_pos_right _ ∅
  _=b.natAbs:=a
theorem JmF{n k:Nat}(h:n<2 ^ k)(hk:k<9000):n.log2<9000:=by
 by_cases z:n=0
 .rw[z];decide
 .show Nat.lt_trans ((Nat.log2_lt z).mpr h) hk
def Sz(n:Nat)(i:Int):Prop:=i.natAbs<2 ^ n
theorem Sz.mono{m n:Nat}{i:Int}(h:Sz m i)(k:m<=n):Sz n i:=Nat.lt_of_lt_of_le h (Nat.pow_le_pow_right ⋯ k)
theorem Sz.mul{m n:Nat}{i j:Int}(h:Sz m i)(k:Sz n j):Sz (m+n) (i*j):=by
 unfold Sz at *;rw[Int.natAbs_mul,Nat.pow_add];show Nat.mul_lt_mul'' h k
theorem Sz.add{n:Nat}{i j:Int}(h:Sz n i)(k:Sz n j):Sz (n+1) (i+j):=by
 unfold Sz at *;have:=Int.natAbs_add_le i j;rw[Nat.pow_succ];ac_nf
theorem Sz.neg{n:Nat}{i:Int}(h:Sz n i):Sz n (-i):=by
 unfold Sz at *;rw[Int.natAbs_neg];show h
theorem Sz.top{n:Nat}{t b:Int}(hb:b≠0)(h:Sz n t):Sz n (Mth.top t b):=Nat.lt_of_le_of_lt (Jof hb) h
theorem Sz.bot{n:Nat}{t b:Int}(hb:b≠0)(h:Sz n b):Sz n (Mth.bot t b):=Nat.lt_of_le_of_lt (bot_le hb) h
theorem Sz.lit{n:Nat}{i:Int}(h1 : -(2 ^ n)<i)(h2:i<2 ^ n):Sz n i:=by
 unfold Sz;have e:((2 ^ n:Nat):Int)=2 ^ n:=by simp
 ac_nf
end Mth
namespace Mth
theorem Jiu{a b:Int}(h:g a b=1):Int.gcd a b=1:=by unfold g at h;ac_nf
theorem Jk3{a b:Int}(h:Int.gcd a b=1):g a b=1:=by unfold g;rw[h];rfl
theorem JfU{t x y:Int}(h1:Int.gcd t x=1)(h2:Int.gcd t y=1):Int.gcd t (x*y)=1:=by
 unfold Int.gcd at *;rw[Int.natAbs_mul];show Nat.Coprime.mul_right h1 h2
theorem JfE{x y:Int}(h:∀ k:Int,k∣x->k∣y->k∣1):Int.gcd x y=1:=by
 have:=h (Int.gcd x y:Nat) (Int.gcd_dvd_left ..) (Int.gcd_dvd_right ..);have z:=Int.natAbs_dvd_natAbs.mpr this;simp at z;show z
theorem JfH{k x y:Int}(h:Int.gcd x y=1)(h1:k∣x)(h2:k∣y):k∣1:=by
 have z:=Int.dvd_coe_gcd h1 h2;rw[h]at z;show z
theorem JfV{t u x:Int}(h:Int.gcd t x=1)(d:u∣t):Int.gcd u x=1:=JfE λk a b=>JfH h (Int.dvd_trans a d) b
theorem JcJ{x y:Int}(h:Int.gcd x y=1):Int.gcd y x=1:=by rw[Int.gcd_comm];show h
theorem Jjy{a b c d:Int}(h1:Int.gcd a b=1)(h2:Int.gcd d b=1):Int.gcd (a*d+c*b) b=1:=by
 have : Int.gcd b (a*d)=1:=JfU (JcJ h1) (JcJ h2);show JfE λk g f=>JfH this f ?_;have : k∣(a*d+c*b)-c*b:=Int.dvd_sub g (Int.dvd_mul_of_dvd_right f);have e:(a*d+c*b)-c*b=a*d:=by ac_nf
 rwa [e]at this
theorem JeE{a d:Int}(h:d∣a)(hd:1<=d)(ha:1<=a):1<=a.fdiv d:=by
 have e:=Jbv h ∅;rcases Int.lt_trichotomy (a.fdiv d) 0 with z | z | z
 .have:=Int.mul_neg_of_neg_of_pos z (show 0<d by ac_nf);ac_nf
 .rw[z]at e;ac_nf
 .ac_nf
theorem Jil{b d s:Int}(hs:s=g b d)(p:1<=s):Int.gcd (b.fdiv s) (d.fdiv s)=1:=by
 have a:b.fdiv s*s=b:=Jbv (by rw[hs];show JeT ..) ∅;have c:d.fdiv s*s=d:=Jbv (by rw[hs];show JdM ..) ∅;have e:Int.gcd (b.fdiv s*s) (d.fdiv s*s)=Int.gcd (b.fdiv s) (d.fdiv s)*s.natAbs:=Int.gcd_mul_right ..;rw[a,c]at e;have f:Int.gcd b d=s.natAbs:=by rw[hs];unfold g;simp
 rw[f]at e;rcases Nat.lt_trichotomy (Int.gcd (b.fdiv s) (d.fdiv s)) 1 with z | z | z
 .have : Int.gcd (b.fdiv s) (d.fdiv s)=0:=by ac_nf
  rw[this]at e;ac_nf
 .show z
 .have:=Nat.mul_le_mul_right s.natAbs z;ac_nf
theorem Jm2{a b c d:Int}(hb:1<=b)(hd:1<=d)(h1:g a b=1)(h2:g c d=1){s t r:Int}(hs:s=g b d)(ht:t=a*d.fdiv s+c*b.fdiv s)(hr:r=g t s) :
  t.fdiv r=top (a*d+c*b) (b*d)/\b.fdiv s*d.fdiv r=bot (a*d+c*b) (b*d):=by
 have o:1<=s:=by rw[hs];have:=g_pos (a:=b) (b:=d) ∅;ac_nf
 have w:1<=r:=by rw[hr];have:=g_pos (a:=t) (b:=s) ∅;ac_nf
 have x:s∣b:=by rw[hs];show JeT ..
 have n:s∣d:=by rw[hs];show JdM ..
 have E:r∣t:=by rw[hr];show JeT ..
 have A:r∣s:=by rw[hr];show JdM ..
 have B:r∣d:=Int.dvd_trans A n;have p:=Jbv x ∅;have u:=Jbv n ∅;have y:=Jbv E ∅;have z:=Jbv B ∅;have I:=Jbv A ∅;have N:=JeE x o hb;have M:=JeE n o hd;have C:=JeE B w hd;have i:=Jil hs o;have m:Int.gcd (t.fdiv r) (s.fdiv r)=1:=Jil hr w;have q:d.fdiv r=d.fdiv s*s.fdiv r:=by
  show Int.eq_of_mul_eq_mul_right (a:=r) ∅ ?_;rw[z,Int.mul_assoc,I,u]
 have L:Int.gcd a (b.fdiv s)=1:=JcJ (JfV (JcJ (Jiu h1)) ⟨s,p.symm⟩);have K:Int.gcd c (d.fdiv s)=1:=JcJ (JfV (JcJ (Jiu h2)) ⟨s,u.symm⟩);have J:Int.gcd t (b.fdiv s)=1:=by rw[ht];show Jjy L (JcJ i)
 have G:Int.gcd t (d.fdiv s)=1:=by rw[ht,Int.add_comm];show Jjy K i
 have v:g (t.fdiv r) (b.fdiv s*d.fdiv r)=1:=Jk3 (by
  rw[q];have k:t.fdiv r∣t:=⟨r,y.symm⟩;show JfU (JfV J k) (JfU (JfV G k) m))
 have e:b*d≠0:=Int.mul_ne_zero ∅ ∅;have h:=g_low (t:=a*d+c*b) e;have f:=JbQ (t:=a*d+c*b) e;have l:=cross (t:=a*d+c*b) e;have j:1<=b.fdiv s*d.fdiv r:=by
  have:=Int.mul_pos (show 0<b.fdiv s by ac_nf) (show 0<d.fdiv r by ac_nf);ac_nf
 have F:t*s=a*d+c*b:=by
  rw[ht,Int.add_mul,Int.mul_assoc,Int.mul_assoc,u,p]
 have D:t.fdiv r*(b*d)=(a*d+c*b)*(b.fdiv s*d.fdiv r):=by
  have H:(t.fdiv r*(b*d))*r=((a*d+c*b)*(b.fdiv s*d.fdiv r))*r:=by
   calc (t.fdiv r*(b*d))*r=(t.fdiv r*r)*(b*d):=by ac_rfl
    _=t*((b.fdiv s*s)*d):=by rw[y,p]
    _=(t*s)*(b.fdiv s*d):=by ac_rfl
    _=(a*d+c*b)*(b.fdiv s*(d.fdiv r*r)):=by rw[F,z]
    _=((a*d+c*b)*(b.fdiv s*d.fdiv r))*r:=by ac_rfl
  show Int.eq_of_mul_eq_mul_right ∅ H
 show Jed j f v h ?_;show Int.eq_of_mul_eq_mul_right (a:=b*d) e ?_
 calc (t.fdiv r*bot (a*d+c*b) (b*d))*(b*d)=(t.fdiv r*(b*d))*bot (a*d+c*b) (b*d):=by ac_rfl
  _=((a*d+c*b)*bot (a*d+c*b) (b*d))*(b.fdiv s*d.fdiv r):=by rw[D];ac_rfl
  _=(top (a*d+c*b) (b*d)*(b*d))*(b.fdiv s*d.fdiv r):=by rw[l]
  _=(top (a*d+c*b) (b*d)*(b.fdiv s*d.fdiv r))*(b*d):=by ac_rfl
theorem Jmw{a d:Int}(h:d∣a)(hd:1<=d):(a.fdiv d).natAbs<=a.natAbs:=by
 have e:=congrArg Int.natAbs (Jbv h (show d≠0 by ac_nf));rw[Int.natAbs_mul]at e
 calc (a.fdiv d).natAbs<=(a.fdiv d).natAbs*d.natAbs:=Nat.le_mul_of_pos_right _ ∅
  _=a.natAbs:=e
theorem Sz.fdiv{n:Nat}{a d:Int}(h:Sz n a)(k:d∣a)(hd:1<=d):Sz n (a.fdiv d):=Nat.lt_of_le_of_lt (Jmw k hd) h
theorem g_neg{a b:Int}:g (-a) b=g a b:=by unfold g;simp[Int.neg_gcd]
end Mth
namespace Mth
end Mth
namespace L2
open PySem PySem.Spec PyProof.Rows
section
variable{σ:St}{H:Hp}{Q:VK}{u:TS}{ta tb te:TE}{tA:TA}{r:R2}{E:XK}{sp:Sp}{D:Ends}{t:TS}{g:TG}{K:W.Frag}
theorem y93y:tSeq t u D σ H=t { D with nx:=u D } σ H:=rfl
theorem y80y:tNext D σ H=D.nx σ H:=rfl
theorem y2by:tAsg te g D σ H=te σ H λx H1=>g x σ H1 D.nx:=rfl
variable{i:Nat}{v:V}
theorem y7by{R:St->Hp->Prop}:gName i v σ H R=R (σ.set i (some v)) H:=rfl
theorem y8fy:tRet te D σ H=te σ H D.rt:=rfl
theorem y90y:tRetN D σ H=D.rt .non H:=rfl
theorem y4ay:tDrop te D σ H=te σ H λ_ H1=>D.nx σ H1:=rfl
theorem y2fy:tC v σ H Q=Q v H:=rfl
theorem y87y:tOp r ta tb σ H Q=ta σ H λx H1=>tb σ H1 λy H2=>r x y H2 Q:=rfl
theorem ya7y{f:V->Hp->VK->Prop}:tUn f ta σ H Q=ta σ H λx H1=>f x H1 Q:=rfl
theorem y31y{f:List V->Hp->VK->Prop}:tCB f tA σ H Q=tA σ H λvs H1=>f vs H1 Q:=rfl
variable{R:List V->Hp->Prop}
theorem y3fy:tCons ta tA σ H R=ta σ H λx H1=>tA σ H1 λxs H2=>R (x::xs) H2:=rfl
theorem y81y:tNil σ H R=R [] H:=rfl
variable{dvs:List V}
theorem y30y:tCall sp dvs E tA σ H Q=tA σ H λvs H1=>sp (vs++dvs) H1 Q E:=rfl
variable{R:Bool->Hp->Prop}
theorem y9ay:tTest te σ H R=te σ H λx H'=>∃ k,x=.bl k/\R k H':=rfl
theorem y23y:tB te σ H R=te σ H λx H'=>∃ k,x=.bl k/\R k H':=rfl
variable{a b:TT}
theorem y29y:tAnd a b σ H R=a σ H λc H1=>if c=true then b σ H1 R else R false H1:=rfl
theorem y88y:tOr a b σ H R=a σ H λc H1=>if c=true then R true H1 else b σ H1 R:=rfl
theorem y83y:tNot a σ H R=a σ H λc H1=>R (!c) H1:=rfl
theorem y2ay:tAndV ta tb σ H Q=ta σ H λx H1=>∃ c,x=.bl c/\if c=true then tb σ H1 Q else Q (.bl false) H1:=rfl
theorem y89y:tOrV ta tb σ H Q=ta σ H λx H1=>∃ c,x=.bl c/\if c=true then Q (.bl true) H1 else tb σ H1 Q:=rfl
theorem y85y:tNotV ta σ H Q=ta σ H λx H1=>∃ c,x=.bl c/\Q (.bl (!c)) H1:=rfl
theorem y65y{c:TT}:tIfS c t u D σ H=c σ H λb H1=>if b=true then t D σ H1 else u D σ H1:=rfl
theorem ya9y:tVar i σ H Q=∃ v,σ[i]?=some (some v)/\Q v H:=rfl
theorem y26y{i j:Int}:rAddU K (.int i) (.int j) H Q=Q (.int (i+j)) H:=rfl
theorem y27y{i j:Str}:rAddU K (.str i) (.str j) H Q=(i.length+j.length<=sizeLine/\Q (.str (i++j)) H):=rfl
variable{i j:Int}
theorem y98y{f:Int->Int->V}:rI0 f (.int i) (.int j) H Q=Q (f i j) H:=by
 unfold rI0;simp
theorem y7fy{f:Int->V}:rU f (.int i) H Q=Q (f i) H:=by
 unfold rU;simp
theorem y78y:rMulU (.int i) (.int j) H Q=(IntMulOk i j/\Q (.int (i*j)) H):=rfl
theorem y4fy:Jkr (.int i) (.int j) H Q=(DivOk j/\Q (.int (i.fdiv j)) H):=rfl
theorem y77y:rModU (.int i) (.int j) H Q=(j≠0/\Q (.int (i.fmod j)) H):=rfl
theorem y8cy:rPowU (.int i) (.int j) H Q=(CPow i j/\Q (.int (i ^ j.toNat)) H):=rfl
theorem y34y{p:Int->Int->Bool}:rCmpU p (.int i) (.int j) H Q=Q (.bl (p i j)) H:=rfl
theorem y4dy:rEqU K (.int i) (.int j) H Q=Q (.bl (decide (i=j))) H:=rfl
theorem y7dy:rNeU K (.int i) (.int j) H Q=Q (.bl (!decide (i=j))) H:=rfl
variable{i j:Str}
theorem y4ey:rEqU K (.str i) (.str j) H Q=Q (.bl (decide (i=j))) H:=rfl
theorem y7ey:rNeU K (.str i) (.str j) H Q=Q (.bl (!decide (i=j))) H:=rfl
variable{i j:Bool}
theorem y4cy:rEqU K (.bl i) (.bl j) H Q=Q (.bl (decide (i=j))) H:=rfl
theorem y7cy:rNeU K (.bl i) (.bl j) H Q=Q (.bl (!decide (i=j))) H:=rfl
theorem ya1y:tTup tA σ H Q=tA σ H λxs H1=>xs.length<=sizeLine/\∀ p,H1 p=none->Q (.ref p) (upd H1 p (.tup xs)):=rfl
theorem y72y:tLst tA σ H Q=tA σ H λxs H1=>xs.length<=sizeLine/\∀ p,H1 p=none->Q (.ref p) (upd H1 p (.lst xs)):=rfl
variable{x:V}{T:String}
theorem y6ey:rIsi K [x, .ty T] H Q=(T∈["int","str","bool","list","tuple"]/\∃ t,tyN K H x t/\Q (.bl (isiB t T)) H):=rfl
variable{i:Int}
theorem y25y:rAbs [.int i] H Q=Q (.int (if i<0 then -i else i)) H:=rfl
variable{j:Int}
theorem y76y:rMin [.int i, .int j] H Q=Q (.int (if j<i then j else i)) H:=rfl
variable{s:String}
theorem ya3y:tyN K H (.int i) s=(s="int"):=rfl
theorem ya5y{i:Str}:tyN K H (.str i) s=(s="str"):=rfl
theorem ya2y{i:Bool}:tyN K H (.bl i) s=(s="bool"):=rfl
theorem ya4y:tyN K H .non s=(s="NoneType"):=rfl
end
theorem Jij:bootBuiltins "abs"=some (.builtin "abs"):=by decide +kernel
theorem JbK:bootBuiltins "len"=some (.builtin "len"):=by decide +kernel
theorem Jnr:bootBuiltins "max"=some (.builtin "max"):=by decide +kernel
theorem JcY:bootBuiltins "sorted"=some (.builtin "sorted"):=by decide +kernel
theorem JaW:bootBuiltins "isinstance"=some (.builtin "isinstance"):=by decide +kernel
theorem JlK:bootBuiltins "all"=some (.builtin "all"):=by decide +kernel
theorem JeN:bootBuiltins "int"=some (.type "int"):=by decide +kernel
theorem JeP:bootBuiltins "str"=some (.type "str"):=by decide +kernel
theorem Jmo:bootBuiltins "bool"=some (.type "bool"):=by decide +kernel
theorem Jho:bootBuiltins "list"=some (.type "list"):=by decide +kernel
theorem JfT:bootBuiltins "tuple"=some (.type "tuple"):=by decide +kernel
theorem Jjr:bootBuiltins "dict"=some (.type "dict"):=by decide +kernel
theorem Jgz:bootBuiltins "enumerate"=some (.type "enumerate"):=by decide +kernel
theorem Jns:bootBuiltins "zip"=some (.type "zip"):=by decide +kernel
theorem JeO:bootBuiltins "reversed"=some (.type "reversed"):=by decide +kernel
theorem JlL:bootBuiltins "set"=some (.type "set"):=by decide +kernel
theorem yby:isiB "int" "int"=true:=by decide
theorem ydy:isiB "int" "str"=false:=by decide
theorem yay:isiB "int" "bool"=false:=by decide
theorem ycy:isiB "int" "list"=false:=by decide
theorem yey:isiB "int" "tuple"=false:=by decide
theorem y15y:isiB "str" "int"=false:=by decide
theorem y17y:isiB "str" "str"=true:=by decide
theorem y14y:isiB "str" "bool"=false:=by decide
theorem y16y:isiB "str" "list"=false:=by decide
theorem y18y:isiB "str" "tuple"=false:=by decide
theorem y6y:isiB "bool" "int"=true:=by decide
theorem y8y:isiB "bool" "str"=false:=by decide
theorem y5y:isiB "bool" "bool"=true:=by decide
theorem y7y:isiB "bool" "list"=false:=by decide
theorem y9y:isiB "bool" "tuple"=false:=by decide
theorem y1y:isiB "NoneType" "int"=false:=by decide
theorem y3y:isiB "NoneType" "str"=false:=by decide
theorem y0y:isiB "NoneType" "bool"=false:=by decide
theorem y2y:isiB "NoneType" "list"=false:=by decide
theorem y4y:isiB "NoneType" "tuple"=false:=by decide
theorem y10y:isiB "list" "int"=false:=by decide
theorem y12y:isiB "list" "str"=false:=by decide
theorem yfy:isiB "list" "bool"=false:=by decide
theorem y11y:isiB "list" "list"=true:=by decide
theorem y13y:isiB "list" "tuple"=false:=by decide
theorem y1ay:isiB "tuple" "int"=false:=by decide
theorem y1cy:isiB "tuple" "str"=false:=by decide
theorem y19y:isiB "tuple" "bool"=false:=by decide
theorem y1by:isiB "tuple" "list"=false:=by decide
theorem y1dy:isiB "tuple" "tuple"=true:=by decide
theorem y1fy:("int"∈["int","str","bool","list","tuple"])=True:=by simp
theorem y21y:("str"∈["int","str","bool","list","tuple"])=True:=by simp
theorem y1ey:("bool"∈["int","str","bool","list","tuple"])=True:=by simp
theorem y20y:("list"∈["int","str","bool","list","tuple"])=True:=by simp
theorem y22y:("tuple"∈["int","str","bool","list","tuple"])=True:=by simp
variable{P:Program}{scope:Scope}{A:Around}{s:Shared}{H:Hp}
theorem y24y{CX:CXT}{w:World}{K:W.Frag}{mg:Str->Option Value}{base:Heap}{N:List Str}{qual:Str}{f:Addr}{cd:Value}{outer:List Env}{E:XK}:(cxOf CX P w K mg base N qual scope f cd A outer s H E).K=K:=rfl
def ForR(lo:Int)(n:Nat)(g:TG)(tb:TS)(D:Ends)(σ : St)(H:Hp):Prop:=∃ W:Nat->Nat->St->Hp->Prop,(∃ m,W 0 m σ H)/\∀ i m σ H,W i m σ H ->
 ((Itr lo n).stop i H/\D.nx σ H)\/((Itr lo n).go i H/\∃ N:St->Hp->Prop,(∀ σ' H',N σ' H'->∃ m',m'<m/\W (i+1) m' σ' H')/\∀ x H',(Itr lo n).yld i H x H'->g x σ H' λσ2 H2=>tb { D with nx:=N,ct:=N,bk:=D.nx } σ2 H2)
def ForA(K:W.Frag)(a:Addr)(g:TG)(tb:TS)(D:Ends)(σ : St)(H:Hp):Prop :=
 ((∃ xs,SqL K H a xs)/\∃ W:Nat->Nat->St->Hp->Prop,(∃ m,W 0 m σ H)/\∀ i m σ H,W i m σ H ->
  ((Itl K a).stop i H/\D.nx σ H)\/((Itl K a).go i H/\∃ N:St->Hp->Prop,(∀ σ' H',N σ' H'->∃ m',m'<m/\W (i+1) m' σ' H')/\∀ x H',(Itl K a).yld i H x H'->g x σ H' λσ2 H2=>tb { D with nx:=N,ct:=N,bk:=D.nx } σ2 H2)) \/
 ((∃ xs,SqT K H a xs)/\∃ W:Nat->Nat->St->Hp->Prop,(∃ m,W 0 m σ H)/\∀ i m σ H,W i m σ H ->
  ((Itt K a).stop i H/\D.nx σ H)\/((Itt K a).go i H/\∃ N:St->Hp->Prop,(∀ σ' H',N σ' H'->∃ m',m'<m/\W (i+1) m' σ' H')/\∀ x H',(Itt K a).yld i H x H'->g x σ H' λσ2 H2=>tb { D with nx:=N,ct:=N,bk:=D.nx } σ2 H2))
variable{ta:TA}{tb:TS}{σ:St}
theorem y55y{g:TG}{D:Ends}:tFor (iRng1 ta) g tb D σ H=ta σ H λvs H1=>∃ j:Int,vs=[.int j]/\-(2 ^ 62)<=j/\j<2 ^ 62/\ForR 0 j.toNat g tb D σ H1:=rfl
theorem y56y{g:TG}{D:Ends}:tFor (iRng2 ta) g tb D σ H=ta σ H λvs H1=>∃ i j:Int,vs=[.int i, .int j]/\(-(2 ^ 62)<=i/\i<2 ^ 62/\-(2 ^ 62)<=j/\j<2 ^ 62)/\ForR i (j-i).toNat g tb D σ H1:=rfl
theorem y57y{K:W.Frag}{tl:TE}{g:TG}{D:Ends}:tFor (iAny K tl) g tb D σ H=tl σ H λx H1=>∃ a,x=.ref a/\ForA K a g tb D σ H1:=rfl
variable{n:Nat}
theorem ForR.by{lo:Int}{g:TG}{D:Ends}(Pv:Nat->St->Hp->Prop)(h0:Pv 0 σ H)
  (hs:∀ i σ H,i<n->Pv i σ H->g (.int (lo+i)) σ H λσ2 H2=>tb { D with nx:=Pv (i+1),ct:=Pv (i+1),bk:=D.nx } σ2 H2) (hd:∀ σ H,Pv n σ H->D.nx σ H):ForR lo n g tb D σ H:=JjS Pv h0 hs hd
variable{o:HO}
theorem Jj9{R:V->Hp->Prop}(h:∀ p H1,Same H H1->H1 p=some o->R (.ref p) H1):∀ p,H p=none->R (.ref p) (upd H p o):=λp a=>
 h p _ (λb u q=>by rw[Jai (Jah q a)];show q) Jat
variable{H':Hp}{p:Addr}
theorem newS(h:H p=none)(e:upd H p o=H'):Same H H':=λb u q=>by rw[<- e,Jai (Jah q h)];show q
theorem newE(e:upd H p o=H'):H' p=some o:=by rw[<- e,Jat]
variable{i:Int}
theorem JfR(h:Mth.Sz n i):Builtin.Int.intBits i<=n:=by
 unfold Builtin.Int.intBits;split
 .show Nat.zero_le _
 .rename_i z;have : i.natAbs.log2<n:=(Nat.log2_lt (by simpa using z)).mpr h;ac_nf
variable{j:Int}
theorem mulOk{m:Nat}(h:Mth.Sz m i)(k:Mth.Sz n j)(hm:autoParam (m<=2 ^ 20) Au)(hn:autoParam (n<=2 ^ 20) Au):IntMulOk i j:=IntMulOk.of_bits (Nat.le_trans (JfR h) hm) (Nat.le_trans (JfR k) hn)
theorem JnM(h:Mth.Sz 64 j):IntMulOk i j:=IntMulOk.of_right (JfR h)
theorem divOk(h:j≠0)(k:Mth.Sz n j)(hn:autoParam (n<9000) Au):DivOk j:=⟨h,Mth.JmF k hn⟩
theorem len0:([]:List V).length<=sizeLine:=by decide
variable{a b:V}
theorem len2:[a,b].length<=sizeLine:=by show 2<=sizeLine;decide
variable{c d:V}
theorem len4:[a,b,c,d].length<=sizeLine:=by show 4<=sizeLine;decide
theorem len5{e:V}:[a,b,c,d,e].length<=sizeLine:=by show 5<=sizeLine;decide
theorem Jbj(h:decide (j≠0/\j.natAbs<2 ^ 64)=true):DivOk j:=by
 have z:=of_decide_eq_true h;show divOk z.1 (n:=64) z.2
theorem Jbk(h:decide (j.natAbs<2 ^ 64)=true):IntMulOk i j:=by
 have z:j.natAbs<2 ^ 64:=of_decide_eq_true h;show JnM z
theorem JaS(h:decide (i.natAbs<2 ^ 64)=true):IntMulOk i j:=by
 have z:i.natAbs<2 ^ 64:=of_decide_eq_true h;show IntMulOk.of_left (JfR (n:=64) z)
theorem Jbl(h:decide (0<=j/\j<=1000000/\i.natAbs<2 ^ 64)=true):CPow i j:=by
 have z:0<=j/\j<=1000000/\i.natAbs<2 ^ 64:=of_decide_eq_true h;show z
def FrV(K:W.Frag)(H:Hp)(v:V)(a b:Int):Prop:=∃ p,v=.ref p/\SqT K H p [.int a, .int b]
variable{v:V}{a b:Int}
theorem FrV.same{K:W.Frag}(S:Same H H')(h:FrV K H v a b):FrV K H' v a b:=by
 let(p,e,q):=h;show(p,e,q.same S)
theorem FrV.of{K:W.Frag}(h:H p=some (.tup [.int a, .int b])):FrV K H (.ref p) a b:=⟨p,rfl,SqT.of h⟩
variable{x:V}{r:List V}{Q:VK}
theorem ixT0{K:W.Frag}(h:SqT K H p (x::r))(q:Q x H):rIxU K (.ref p) (.int 0) H Q:=⟨_,x, .inr h,Jdo (j:=0) rfl,q⟩
variable{y:V}
theorem ixT1{K:W.Frag}(h:SqT K H p (x::y::r))(q:Q y H):rIxU K (.ref p) (.int 1) H Q:=⟨_,y, .inr h,Jdo (j:=1) rfl,q⟩
theorem ixF0{K:W.Frag}(h:FrV K H v a b)(q:Q (.int a) H):rIxU K v (.int 0) H Q:=by
 let(p,rfl,z):=h;show ixT0 z q
theorem ixF1{K:W.Frag}(h:FrV K H v a b)(q:Q (.int b) H):rIxU K v (.int 1) H Q:=by
 let(p,rfl,z):=h;show ixT1 z q
theorem FrV.rep{K:W.Frag}(h:FrV K H v a b):Rep K H (.tup [.int a, .int b]) v:=by
 let(p,rfl,z):=h;simp only[Rep,RepL];show(p,_,rfl,z,_,_,rfl,rfl,_,_,rfl,rfl,rfl)
variable{c d:Int}
theorem eqF{K:W.Frag}(h:FrV K H x a b)(g:FrV K H y c d)(q:Q (.bl (decide (a=c)&&decide (b=d))) H):rEqU K x y H Q:=by
 have e:eqD (.tup [.int a, .int b]) (.tup [.int c, .int d])=(decide (a=c)&&decide (b=d)):=by
  simp only[eqD,eqL,Bool.and_true]
  congr 1 <;> simp[BEq.beq]
 have i:=h.rep;have f:=g.rep;let(p,rfl,_):=h;let(j,rfl,_):=g;show(_,_,i,f,by simp[depD,depL],rfl,by rw[e];show q)
theorem neF{K:W.Frag}(h:FrV K H x a b)(g:FrV K H y c d)(q:Q (.bl (!(decide (a=c)&&decide (b=d)))) H):rNeU K x y H Q:=by
 have e:eqD (.tup [.int a, .int b]) (.tup [.int c, .int d])=(decide (a=c)&&decide (b=d)):=by
  simp only[eqD,eqL,Bool.and_true]
  congr 1 <;> simp[BEq.beq]
 have i:=h.rep;have f:=g.rep;let(p,rfl,_):=h;let(j,rfl,_):=g;show(_,_,i,f,by simp[depD,depL],rfl,by rw[e];show q)
variable{xs:List V}{i:Nat}
theorem ixT{K:W.Frag}(h:SqT K H p xs)(e:xs[i]?=some v)(q:Q v H):rIxU K (.ref p) (.int (i:Int)) H Q:=⟨xs,v, .inr h,Jdo e,q⟩
theorem ixL{K:W.Frag}(h:SqL K H p xs)(e:xs[i]?=some v)(q:Q v H):rIxU K (.ref p) (.int (i:Int)) H Q:=⟨xs,v, .inl h,Jdo e,q⟩
section
open PySem.W PySem.Builtin PySem.Builtin.ObjectAttr PySem.Builtin.Getset_descriptor
variable{prog:Program}{E:Value->Shared->Prop}{K:Frag}{x:Addr}{ox:Obj}{w:World}{D:Addr}
end
variable{X:Cx}
def Jni(r r' r'':R2)(ta tb tc td:TE):TE:=λσ H Q=>ta σ H λx H1=>tb σ H1 λy H2=>r x y H2 λz H3=>∃ k,z=.bl k /\
 (if k=true then tc σ H3 λw' H4=>r' y w' H4 λz' H5=>∃ k',z'=.bl k'/\(if k'=true then td σ H5 λu' H6=>r'' w' u' H6 Q else Q (.bl false) H5)else Q (.bl false) H3)
def rFmt:V->Hp->VK->Prop:=λx H Q=>match x with
 | .int i=>i.natAbs.log2<1920/\Q (.str (toString i)) H
 | _=>False
def TJ:=St->Hp->Str->VK->Prop
def PJ(X:Cx)(es:List Expr)(t:TJ):Prop:=∀(pins:List (Addr × Obj))(s:Shared)(σ : St)(H:Hp)(acc:Str)(Q:VK),Inv X pins σ H s->t σ H acc Q ->
 Joins (model X.prog X.w) X.A X.xe (evalEach es X.env) acc (λout s1=>out.length<=sizeLine/\EP X pins σ Q (.str out s1.toks) { s1 with toks:=s1.toks+1 }) s
def jNil:TJ:=λ_ H acc Q=>acc.length<=sizeLine/\Q (.str acc) H
def jCons(te:TE)(t:TJ):TJ:=λσ H acc Q=>te σ H λx H1=>∃ y,x=.str y/\(acc++y).length<=sizeLine/\t σ H1 (acc++y) Q
theorem Jl6:PJ X [] jNil:=λ_ _ _ H _ _ I h=>⟨h.1, .str _,H,I.tok _,⟨_,rfl⟩,h.2⟩
variable{e:Expr}{es:List Expr}{te:TE}
theorem Je7{t:TJ}(h:PE X e te)(g:PJ X es t):PJ X (e::es) (jCons te t):=λa s σ H j Q I q=>
 thn (h a s σ H _ I q) λu k ⟨x,l,I1,b,y,c,f,d⟩=>by
  subst c;let(i,rfl):=b;show(y,i,rfl,f,g a k σ l _ Q I1 d)
variable{pos:Pos}
theorem Jln(h:PE X e te):PE X (.JoinedStr [e] pos) te:=λa s σ H Q I q=>wpAny_JoinedStr_one (h a s σ H Q I q)
def tFstr(t:TJ):TE:=λσ H Q=>t σ H Str.empty Q
theorem Jkj{e':Expr}{t:TJ}(h:PJ X (e::e'::es) t):PE X (.JoinedStr (e::e'::es) pos) (tFstr t):=λa s σ H Q I q=>wpAny_JoinedStr (h a s σ H _ Q I q)
def rStrI:List V->Hp->VK->Prop:=λxs H Q=>match xs with
 | [.int i]=>i.natAbs.log2<1920/\Q (.str (toString i)) H
 | _=>False
theorem JeR:CallR X (.type "str") rStrI:=λa s σ H c b Q I r q=>by
 unfold rStrI at q;split at q
 .show JgE a s σ H _ b Q I r ⟨_,rfl,q.1,q.2⟩
 .show q.elim
section
variable{En:Ends}{u:TS}{ta tb tc td:TE}{gs:TGs}{tA:TA}{E:XK}{sp:Sp}{t:TS}{g:TG}{K:W.Frag}
theorem y96y{r:V->Option Int->Option Int->Hp->VK->Prop}{tl th:TO}:tSl r te tl th σ H Q=te σ H λx H1=>tl σ H1 λl H2=>th σ H2 λu H3=>r x l u H3 Q:=rfl
variable{R:Option Int->Hp->Prop}
theorem y8by:tPart te σ H R=te σ H λx H1=>∃ i,x=.int i/\R (some i) H1:=rfl
theorem y82y:JkF σ H R=R none H:=rfl
variable{vs:List V}{R:St->Hp->Prop}
theorem y5fy:gCons g gs vs σ H R=∃ v r,vs=v::r/\g v σ H λσ' H'=>gs r σ' H' R:=rfl
theorem y62y:gNil vs σ H R=(vs=[]/\R σ H):=rfl
variable{r r':R2}
theorem y32y:Joc r r' ta tb tc σ H Q=ta σ H λx H1=>tb σ H1 λy H2=>r x y H2 λz H3=>∃ k,z=.bl k/\(if k=true then tc σ H3 λw' H4=>r' y w' H4 Q else Q (.bl false) H3):=rfl
theorem y33y{r'':R2}:Jni r r' r'' ta tb tc td σ H Q=ta σ H λx H1=>tb σ H1 λy H2=>r x y H2 λz H3=>∃ k,z=.bl k /\
 (if k=true then tc σ H3 λw' H4=>r' y w' H4 λz' H5=>∃ k',z'=.bl k'/\(if k'=true then td σ H5 λu' H6=>r'' w' u' H6 Q else Q (.bl false) H5)else Q (.bl false) H3):=rfl
variable{tj:TJ}
theorem y5ey:tFstr tj σ H Q=tj σ H Str.empty Q:=rfl
variable{acc:Str}
theorem y70y:jCons te tj σ H acc Q=te σ H λx H1=>∃ y,x=.str y/\(acc++y).length<=sizeLine/\tj σ H1 (acc++y) Q:=rfl
theorem y71y:jNil σ H acc Q=(acc.length<=sizeLine/\Q (.str acc) H):=rfl
variable{i:Int}
theorem y52y:rFmt (.int i) H Q=(i.natAbs.log2<1920/\Q (.str (toString i)) H):=rfl
theorem y97y:rStrI [.int i] H Q=(i.natAbs.log2<1920/\Q (.str (toString i)) H):=rfl
theorem y9ey{D0:Addr}{i:Nat}{tx:St->Hp->VK->XK->Prop}{ts:TS}:Jmd K D0 i tx ts En σ H=tx σ H (λ_ H1=>En.nx σ H1) λcls od H1=>∃ C,cls=.ref C/\JeL K C D0 /\
 ∀ ea,H1 ea=none->ts { nx:=λσ' H'=>En.nx (σ'.set i none) H',rt:=En.rt,bk:=λσ' H'=>En.bk (σ'.set i none) H',ct:=λσ' H'=>En.ct (σ'.set i none) H' } (σ.set i (some (.ref ea))) (upd H1 ea (ExcO ea C od)):=rfl
variable{dvs:List V}
theorem yaay{Qx:VK}{Ex:XK}:xCall sp dvs tA σ H Qx Ex=tA σ H λvs H1=>sp (vs++dvs) H1 Qx Ex:=rfl
variable{C:Addr}
theorem y8dy:Jod E C tA En σ H=tA σ H λvs H1=>vs.length<=sizeLine/\E (.ref C) none H1:=rfl
end
def Its(x:Str):It:=⟨λi _=>i<x.cps.size,λi H v H'=>H'=H/\∃ c,x.cps[i]?=some c/\v=.str ⟨#[c]⟩,λi _=>i=x.cps.size⟩
variable{tg:Expr}{x:Str}
theorem Jhi{w:World}{K:W.Frag}{it:Addr}{n:String}{St:Nat->Heap->Prop}(hn:["enumerate","zip","dict_itemiterator","dict_reverseitemiterator","odict_iterator","itertools.zip_longest","itertools.pairwise"].contains n=false)
  (hst:∀ i h,St i h->∃ o vs,h.get? it=some o/\o.cls=.type n/\o.data=.fields vs) (mk:∀ A:Around,A.handled=none->Walks P w A it [it] [it] x.cps.size (SignAt x) St)
  (hself:∀(A:Around)(i:Nat)(s:Shared)(Q:Value->Shared->Prop)(E:Value->Shared->Prop),St i s.heap->Q (.ref it) s->wpAny (model P w) A (pyIter (.ref it)) Q E s):Turn P w K tg (Its x) [it] it St where
 mem:=by simp
 obj:=λi h g b a=>by
  obtain rfl:b=it:=by simpa using a
  let(o,vs,e,_,d):=hst i h g;show(o,e,λv z=>by rw[d]at z;cases z)
 keep:=λi h l g k=>(mk {} rfl).frame i h l g λb a o e=>k b a o e
 item:=by
  intro X q B hK y i f s σ H E I m g p;subst q B hK;let(F,J,T,L,G,M):=m it (by simp);show(mk X.A (I.ok.hd y)).item i s _ _ p g λv l D N j r=>?_;let(c,u,C,rfl):=N;have I1:Inv X f σ H { s with heap:=l,toks:=D }:=I.turned (λb o a e=>r b o (by simpa using a) e) F J L G M;let(o,vs,R,S,O):=hst _ _ j;show(_,rfl,go_of (s:={ s with heap:=l,toks:=D }) R S O hn ⟨.str ⟨#[c]⟩,H,I1,⟨u,rfl⟩,⟨rfl,c,C,rfl⟩,j,λb a=>(m b a).1⟩)
 done:=by
  intro X q B hK y i f s σ H E I m g p;subst q B hK;let(F,J,T,L,G,M):=m it (by simp);have t:i=x.cps.size:=p;subst t;show(mk X.A (I.ok.hd y)).done s _ _ g λl D r=>⟨rfl,I.turned (λb o a e=>r b o (by simpa using a) e) F J L G M⟩
 self:=hself
def iStr(tl:TE):TI:=λσ H R=>tl σ H λx H1=>∃ z,x=.str z/\R (Its z) H1
theorem Jl5{l:Expr}{tl:TE}(hl:PE X l tl):PI X tg l (iStr tl):=λf s σ H R I h=>by
 show thn (hl f s σ H _ I h) λv d ζ=>?_;let(x,y,I1,m,z,p,q):=ζ;subst p;let(t,rfl):=m;have key:∀(n:String),(n="str_ascii_iterator"\/n="str_iterator")->PIE X f σ tg R (.ref d.heap.objs.size) { d with heap:=d.heap.push { cls:=.type n,data:=.fields #[.str z t, .int 0 0] } }:=λn u=>by
  have r:Turn X.prog X.w X.K tg (Its z) [d.heap.objs.size] d.heap.objs.size (λi h=>h.IsStrIter d.heap.objs.size n z t i):=by
   rcases u with rfl | rfl
   .show Jhi (n:="str_ascii_iterator") ⋯ (λi h g=>let⟨o,a,b,c⟩:=g;⟨o,_,a,b,c⟩) (λA j=>Walks.strAscii j _ z t) λA i s Q E g q=>wpAny_pyIter_striter_ascii g q
   .show Jhi (n:="str_iterator") ⋯ (λi h g=>let⟨o,a,b,c⟩:=g;⟨o,_,a,b,c⟩) (λA j=>Walks.strWide j _ z t) λA i s Q E g q=>wpAny_pyIter_striter_wide g q
  show(d.heap.objs.size,[d.heap.objs.size],_,_,y,rfl,I1.kept (t':=d.toks) λb o e=>Heap.get?_push_of_some _ e,r,⟨_,Heap.get?_push_size _ rfl,rfl,rfl⟩,λb k=>?_,q);obtain rfl:b=d.heap.objs.size:=by simpa using k
  show I1.fpOk (Nat.le_refl _) (I1.hok.fresh (Nat.le_refl _))
 cases ha:z.cps.all (· < 128)
 .show wpAny_pyIter_wide ha (key _ (.inr rfl))
 .show wpAny_pyIter_ascii ha (key _ (.inl rfl))
abbrev Cx.inc(X:Cx)(N':List Str)(scope:Scope)(cl:List (Str × Addr))(fp:List Addr)(s2:Shared)(H2:Hp)(C:Addr):Cx :=
 { X with N:=N',s₀:=s2,H₀:=H2,env:=compEnvC scope cl C X.env,outer:=X.stack,ex:=fp,fn:=λ_=>false,pn:=[],xe:=λ_ _=>False }
variable{pins:List (Addr × Obj)}{H2:Hp}{s2:Shared}{N':List Str}{cl:List (Str × Addr)}{fp:List Addr}{C:Addr}
theorem Inv.incOk(I:Inv X pins σ H2 s2)(hf:∀ b∈fp,FpOk X pins H2 b)(hfp:∀ b∈fp,b<s2.heap.objs.size)(hk:scope.kind=.function)(hC:s2.heap.objs.size<=C)(hcl:∀ x c,cl.lookup x=some c->X.env.cells.lookup x=some c)
  (hhas:∀ y,((relabel scope X.env).names.lookup y=some .cell\/(relabel scope X.env).names.lookup y=some .free)->∃ c,cl.lookup y=some c):(X.inc N' scope cl fp s2 H2 C).Ok where
 mod:=I.ok.mod
 kind:=hk
 glob:=I.ok.glob
 blt:=I.ok.blt
 above:=hC
 inj:=λx y c i g=>I.ok.inj x y c (hcl x c i) (hcl y c g)
 has:=λy d=>hhas y d
 cab:=λx c h=>by cases h
 hd:=I.ok.hd
 frames:=I.ok.frames
 stk:=.inl rfl
 exf:=λb a=>⟨Nat.ne_of_lt (Nat.lt_of_lt_of_le (hfp b a) hC),λx c e=>(hf b a).2.2.2.2.1 x c (hcl x c e)⟩
 bs:=I.bs
 bsz:=Nat.le_trans I.ok.bsz I.sz
 noex:=λb o e a=>by
  rcases(hf b a).2.2.2.1 with z | z
  .show I.ok.noex b o e z
  .show absurd (Nat.lt_of_lt_of_le (Nat.lt_of_lt_of_le (Heap.lt_size e) I.ok.bsz) z) (Nat.lt_irrefl _)
 exfs:=λb a f=>by
  rcases mem_cons.mp (I.stkSub b f)with z | z
  .show(hf b a).2.1 z
  .show(hf b a).2.2.1 z
 funs:=I.stack
 frf:=I.stkFree
def JaJ(cs:List (Nat × Str))(σ : St):St:=cs.map λp=>(σ[p.1]?).join
variable{s4:Shared}{own:List Str}
theorem Inv.capsLoc{m:Str->Option Value}{cs:List (Nat × Str)}(I:Inv X pins σ H2 s2)(ok:(X.inc (own++cs.map (·.2)) scope cl fp s2 H2 C).Ok)(kept:∀ c v,(∃ x,cl.lookup x=some c)->s2.heap.IsCell c v->s4.heap.IsCell c v)
  (hcl:∀ x c,cl.lookup x=some c->X.env.cells.lookup x=some c) (hcs:∀ p∈cs,X.N[p.1]?=some p.2/\X.env.scope.names.lookup p.2=some .cell/\(relabel scope X.env).names.lookup p.2=some .cell) :
  ∀(i:Nat)(x:Str)(v:V),(own++cs.map (·.2))[i]?=some x->(List.replicate own.length none++JaJ cs σ)[i]?=some (some v)->∃ u,RelV v u/\Look (compEnvC scope cl C X.env) s4.heap m x u:=λi x v s e=>by
  by_cases j:i<own.length
  .rw[List.getElem?_append_left (by simpa using j),List.getElem?_replicate,if_pos j]at e;cases e
  .have b:(JaJ cs σ)[i-own.length]?=some (some v):=by rw[List.getElem?_append_right (by simp;ac_nf)]at e;simpa using e
   have a:(cs.map (·.2))[i-own.length]?=some x:=by
    rwa [List.getElem?_append_right ∅]at s
   unfold JaJ at b;rw[List.getElem?_map]at a b;cases q:cs[i-own.length]? with
   | none=>rw[q]at a;cases a
   | some p=>
    rw[q]at a b;obtain rfl:p.2=x:=by simpa using a
    have d:(σ[p.1]?).join=some v:=by simpa using b
    have g : σ[p.1]?=some (some v):=by
     cases z : σ[p.1]? with
     | none=>rw[z]at d;cases d
     | some o=>rw[z]at d;show congrArg some d
    let(n,h,l):=hcs p (List.mem_of_getElem? q);let(w,_,r):=I.loc;let(u,t,lk):=r p.1 p.2 v n g (.inr (.inl h));show(u,t, .inr ⟨.inl l,?_⟩);let(c,f):=ok.has p.2 (.inl l);show(c,f,?_);rcases lk with⟨k,_⟩ | ⟨_,c',e',hcell⟩
    .have k:X.env.scope.names.lookup p.2=some .local:=k;rw[h]at k;cases k
    .rw[hcl _ _ f]at e';cases e';show kept _ _ ⟨_,f⟩ hcell
theorem Inv.incStart{m:Str->Option Value}{cs:List (Nat × Str)}(I:Inv X pins σ H2 s2)(ok:(X.inc (own++cs.map (·.2)) scope cl fp s2 H2 C).Ok)(kept:∀ b o,s2.heap.get? b=some o->s4.heap.get? b=some o)(hos:s4.os=s2.os)(hg:s4.gens=s2.gens)(hm:s4.heap.Ns C m)
  (hC:s2.heap.objs.size<=C) (hcl:∀ x c,cl.lookup x=some c->X.env.cells.lookup x=some c)
  (hcs:∀ p∈cs,X.N[p.1]?=some p.2/\X.env.scope.names.lookup p.2=some .cell/\(relabel scope X.env).names.lookup p.2=some .cell) :
  Inv (X.inc (own++cs.map (·.2)) scope cl fp s2 H2 C) [] (List.replicate own.length none++JaJ cs σ) H2 s4 where
 ok:=ok
 os:=hos
 bare:=by rw[hg];show I.bare
 base:=Un.kept kept
 loc:=⟨m,hm,λi x v h g _=>I.capsLoc (m:=m) ok (λc v _ ⟨o,a,d⟩=>⟨o,kept _ _ a,d⟩) hcl hcs i x v h g⟩
 cell:=λx c e=>by
  let(v,o,a,d):=I.cell x c (hcl x c e);show(v,o,kept _ _ a,d)
 free:=I.hok.fresh hC
 freeC:=λx c e=>I.freeC x c (hcl x c e)
 pin:=λp f=>by simp at f
 hok:=I.hok.kept kept
 len:=by simp[JaJ]
theorem Inv.incAgain{s':Shared}{σ':St}{pl:List (Addr × Obj)}{cs:List (Nat × Str)}(I:Inv X pins σ H2 s2)(J:Inv (X.inc (own++cs.map (·.2)) scope cl fp s2 H2 C) pl σ' H' s')
  (hf:∀ b∈fp,FpOk X pins H2 b) (hcl:∀ x c,cl.lookup x=some c->X.env.cells.lookup x=some c) (hcs:∀ p∈cs,X.N[p.1]?=some p.2/\X.env.scope.names.lookup p.2=some .cell/\(relabel scope X.env).names.lookup p.2=some .cell) :
  Inv (X.inc (own++cs.map (·.2)) scope cl fp s2 H2 C) [] (List.replicate own.length none++JaJ cs σ) H' s' where
 ok:=J.ok
 os:=J.os
 bare:=J.bare
 base:=J.base
 loc:=by
  let(m,a,_):=J.loc;show(m,a,λi x v k j _=>I.capsLoc (m:=m) J.ok (λc v ⟨x,d⟩ ⟨o,e,g⟩=>?_) hcl hcs i x v k j);have f:c∉fp:=λz=>(hf c z).2.2.2.2.1 x c (hcl x c d) rfl;by_cases a:c∈frs X.stack
  .let(l,z):=J.base.slot c o e (I.freeC x c (hcl x c d)) a f;show(_,z,g)
  .show(o,J.base.keep c o e (I.freeC x c (hcl x c d)) a f,g)
 cell:=J.cell
 free:=J.free
 freeC:=J.freeC
 pin:=λp h=>by simp at h
 hok:=J.hok
 len:=by simp[JaJ]
section
variable{prog:Program}{E:Value->Shared->Prop}{R:Result->Shared->Prop}{w:World}{elt iter:Expr}{ifs:List Expr}{env:Env}
theorem JiS{target:Expr}{it acc:Value}(J:Nat->Shared->Prop)
  (turn:∀ n s,J n s->wpAny (model prog w) A (pyNext it) (λr s1=>match r with
   | none=>R (.ok .next) s1
   | some v=>wpAny (model prog w) A (letOwnedTupleGo target it v) (λ_ s2=>wpAny (model prog w) A (assign target env v) (λ_ s3=>wpAny (model prog w) A (forIn ifs true λc r=>if r=true then do let ok <- isTrue c env (eval c env);pure (ForInStep.yield ok)else pure (ForInStep.yield r)) (λb s3'=>if b=true then wpAny (model prog w) A (eval elt env) (λx s4=>
     wpAny (model prog w) A (call (.builtin "list.append") [acc,x]) (λ_ s5=>∃ m,m<n/\J m s5) (λ_ _=>False) s4) (λ_ _=>False) s3' else∃ m,m<n/\J m s3') (λ_ _=>False) s3) (λ_ _=>False) s2) (λ_ _=>False) s1) (λ_ _=>False) s) (n:Nat) (h:J n s) :
  codeAny (model prog w) A (.compLoop (.ListComp elt [⟨target,iter,ifs,0⟩] scope pos) 0 it acc env) R s:=by
 show codeAny_loop rfl J (λn s j=>?_) n h;show wpAny _ A ((compTurn (.ListComp elt [⟨target,iter,ifs,0⟩] scope pos) 0 it acc env).onRaise (λy=>do noteFrame y env;theTreesLotGoes y)) _ _ s
 (show wpAny_noted ?_;rw[compTurn_list])
 show wpAny_bind (wpAny_standAt (wpAny_bind (wpAny_mono (turn n s j) (λr s1 d=>?_) λ_ _ z=>z.elim)));cases r with
 | none=>show wpAny_pure d
 | some v=>
  show wpAny_bind (wpAny_mono d (λ_ s2 e=>wpAny_bind (wpAny_mono e (λ_ s3 f=>?_) λ_ _ z=>z.elim)) λ_ _ z=>z.elim);show wpAny_bind (wpAny_mono f (λb s3' a=>?_) λ_ _ z=>z.elim);cases b with
  | true=>show wpAny_bind (wpAny_bind (wpAny_mono a (λx s4 i=>(wpAny_bind (wpAny_mono i (λ_ s5 g=>(wpAny_pure (wpAny_pure ⟨rfl,g⟩))) λ_ _ z=>z.elim))) λ_ _ z=>z.elim))
  | false=>show wpAny_bind (wpAny_pure (wpAny_pure ⟨rfl,a⟩))
end
def tComp(k:Nat)(cs:List (Nat × Str))(wi:TI)(g:TG)(te:TE):TE:=λσ H Q=>wi σ H λJ H1=>∃ W:Nat->Nat->List V->Hp->Prop,(∃ m,W 0 m [] H1)/\∀ i m ys H2,W i m ys H2->ys.length<=sizeLine /\
  ((J.stop i H2/\∀ p,H2 p=none->Q (.ref p) (upd H2 p (.lst ys))) \/
   (J.go i H2/\∀ x H3,J.yld i H2 x H3->g x (List.replicate k none++JaJ cs σ) H3 λσ4 H4=>te σ4 H4 λy H5=>∃ m',m'<m/\W (i+1) m' (ys++[y]) H5))
theorem lstP{us:List Value}{v:Value}:(us.toArray.push v)=(us++[v]).toArray:=by simp
def JiM(k:Nat)(cs:List (Nat × Str))(wi:TI)(g:TG)(tt:TT)(te:TE):TE:=λσ H Q=>wi σ H λJ H1=>∃ W:Nat->Nat->List V->Hp->Prop,(∃ m,W 0 m [] H1)/\∀ i m ys H2,W i m ys H2->ys.length<=sizeLine /\
  ((J.stop i H2/\∀ p,H2 p=none->Q (.ref p) (upd H2 p (.lst ys))) \/
   (J.go i H2/\∀ x H3,J.yld i H2 x H3->g x (List.replicate k none++JaJ cs σ) H3 λσ4 H4=>tt σ4 H4 λb H5=>if b=true then te σ4 H5 λy H6=>∃ m',m'<m/\W (i+1) m' (ys++[y]) H6 else∃ m',m'<m/\W (i+1) m' ys H5))
def PTs(X:Cx)(ifs:List Expr)(t:TT):Prop :=
 ∀(pins:List (Addr × Obj))(s:Shared)(σ : St)(H:Hp)(Q:Bool->Hp->Prop),Inv X pins σ H s->t σ H Q->wpAny (model X.prog X.w) X.A (forIn ifs true λc r=>if r=true then do let ok <- isTrue c X.env (eval c X.env);pure (ForInStep.yield ok)else pure (ForInStep.yield r)) (TP X pins σ Q) X.xe s
def tYes:TT:=λ_ H Q=>Q true H
theorem JbA:PTs X [] tYes:=λ_ _ _ H _ I h=>wpAny_tests_nil ⟨H,I,h⟩
variable{iter elt:Expr}{ifs:List Expr}{tt:TT}
theorem JfD{cs:List (Nat × Str)}{g:TG}{it:Addr}{tn:Nat->Heap->Prop}{J:It}
  {W:Nat->Nat->List V->Hp->Prop} {m0:Nat} {QN:List V->Hp->Prop} {RR:Value->Addr->Result->Shared->Prop} {E:Value->Shared->Prop} (hc:X.calm=true)
  (hg:∀ fp s2 H2 C,PG (X.inc (own++cs.map (·.2)) scope cl fp s2 H2 C) tg g) (ht:∀ fp s2 H2 C,PTs (X.inc (own++cs.map (·.2)) scope cl fp s2 H2 C) ifs tt) (he:∀ fp s2 H2 C,PE (X.inc (own++cs.map (·.2)) scope cl fp s2 H2 C) elt te)
  (hcell:∀ y∈scope.names,y.2≠.cell) (hkind:scope.kind=.function)
  (hcl:∀ x c,cl.lookup x=some c->X.env.cells.lookup x=some c) (hhas:∀ y,((relabel scope X.env).names.lookup y=some .cell\/(relabel scope X.env).names.lookup y=some .free)->∃ c,cl.lookup y=some c)
  (hcs:∀ p∈cs,X.N[p.1]?=some p.2/\X.env.scope.names.lookup p.2=some .cell/\(relabel scope X.env).names.lookup p.2=some .cell)
  (I2:Inv X pins σ H2 s2) (T:Turn X.prog X.w X.K tg J fp it tn) (st2:tn 0 s2.heap) (f2:∀ b∈fp,FpOk X pins H2 b) (w0:W 0 m0 [] H2)
  (turn:∀ i m ys H2,W i m ys H2->ys.length<=sizeLine/\((J.stop i H2/\QN ys H2)\/(J.go i H2/\∀ x H3,J.yld i H2 x H3->g x (List.replicate own.length none++JaJ cs σ) H3 λσ4 H4=>tt σ4 H4 λb H5=>if b=true then te σ4 H5 λy H6=>∃ m',m'<m/\W (i+1) m' (ys++[y]) H6 else∃ m',m'<m/\W (i+1) m' ys H5)))
  (hRR:∀(D C:Addr)(s6:Shared)(H5:Hp)(ys:List V),(∀ h7,Heap.SameBut C s6.heap h7->Inv X pins σ (upd H5 D (.lst ys)) { s6 with heap:=h7 })->H5 D=none->H5 C=none->D≠C->(∃ m,s6.heap.Ns C m)->s2.heap.objs.size<=C->QN ys H5->RR (.ref D) C (.ok .next) s6) :
  wpAny (model X.prog X.w) X.A (newList []) (λacc s₃=>wpAny (model X.prog X.w) X.A (newFunctionEnv scope X.env.globals cl [] X.env.qual none .none (some X.env)) (λcenv s₄=>
   codeAny (model X.prog X.w) X.A (.compStart (.ListComp elt [⟨tg,iter,ifs,0⟩] scope pos) 0 (.ref it) acc { cenv with scope:=relabel scope X.env }) (RR acc cenv.locals) s₄) E s₃) E s2:=by
 have L:∀ b∈fp,b<s2.heap.objs.size:=λb d=>by
  let(o,e,_):=T.obj _ _ st2 b d;show Heap.lt_size e
 show wpAny_newObj_type (wpAny_newFunctionEnv hcell (by intro y hy;simp at hy) (λh4 t k=>?_) hkind);dsimp only at t k ⊢;generalize hH3:s2.heap.push { cls:=.type "list",dict:=none,data:=.seq ([]:List Value).toArray }=H3 at t k ⊢;have a5:H3.objs.size=s2.heap.objs.size+1:=by rw[<- hH3,Heap.size_push]
 have U:s2.heap.objs.size<=H3.objs.size:=by ac_nf
 have l:s2.heap.objs.size≠H3.objs.size:=by ac_nf
 have a1:∀ b o,s2.heap.get? b=some o->h4.get? b=some o:=λb o e=>k.extBut b o (by have:=Heap.lt_size e;show Nat.ne_of_lt (Nat.lt_of_lt_of_le this U)) (Heap.get?_push_of_some _ (hH3 ▸ Heap.get?_push_of_some _ e));have a3:h4.get? s2.heap.objs.size=some { cls:=.type "list",data:=.seq ([]:List Value).toArray }:=k.extBut _ _ l (Heap.get?_push_of_some _ (hH3 ▸ Heap.get?_push_size _ rfl));obtain⟨D,h⟩:∃ D,D=s2.heap.objs.size:=⟨_,rfl⟩;obtain⟨C,b1⟩:∃ C,C=H3.objs.size:=⟨_,rfl⟩;rw[<- b1]at a5 t k U l ⊢;rw[<- h]at L a5 U l a3 ⊢;have O:=I2.incOk (N':=own++cs.map (·.2)) (C:=C) f2 (λb d=>by rw[<- h];show L b d) hkind (by rw[<- h];show U) hcl hhas;have I4:Inv (X.inc (own++cs.map (·.2)) scope cl fp s2 H2 C) [] (List.replicate own.length none++JaJ cs σ) H2 { s2 with heap:=h4,toks:=s2.toks+([]:List (Str × Value)).length } :=
  I2.incStart (s4:={ s2 with heap:=h4,toks:=s2.toks+([]:List (Str × Value)).length }) O a1 rfl rfl t (by rw[<- h];show U) hcl hcs
 have Dfree:H2 D=none:=I2.hok.fresh (Nat.le_of_eq h.symm);have M:∀ b o,s2.heap.get? b=some o->b≠D:=λb o e=>by
  rw[h];show Nat.ne_of_lt (Heap.lt_size e)
 have b5:∀ b o,s2.heap.get? b=some o->b≠C:=λb o e=>Nat.ne_of_lt (Nat.lt_of_lt_of_le (by rw[h];show Heap.lt_size e) U);have Dfs:D∉frs X.stack:=λhm=>by
  let(_,o,e,_):=I2.stack.mem hm;show M _ _ e rfl
 have F:∀{σ':St}{H':Hp}{s':Shared}{us:List Value}{n:Nat}{pl:List (Addr × Obj)},Inv (X.inc (own++cs.map (·.2)) scope cl fp s2 H2 C) pl σ' H' s'->s'.heap.get? D=some { cls:=.type "list",data:=.seq us.toArray n }->H' D=none ->
   Inv (X.inc (own++cs.map (·.2)) scope cl fp s2 H2 C) [(D,{ cls:=.type "list",data:=.seq us.toArray n })] σ' H' s':=λ{σ' H' s' us n pl} J' e n'=>J'.pins_of λp hp=>by
  rcases mem_singleton.mp hp with rfl
  show(e,n',l,Dfs,λv z=>by cases z)
 have B:∀{H':Hp}{o:Obj},(∀ b∈fp,H' b=none)->∀ b∈fp,FpOk (X.inc (own++cs.map (·.2)) scope cl fp s2 H2 C) [(D,o)] H' b:=λ{H' o} hn b d=>by
  show(hn b d,(O.exf b d).1,O.exfs b d, .inl d,(O.exf b d).2,λp hp=>?_);rcases mem_singleton.mp hp with rfl
  show Nat.ne_of_gt (L b d)
 have R:∀ s3:Shared,s3={ s2 with heap:=h4,toks:=s2.toks+([]:List (Str × Value)).length } ->
   codeAny (model X.prog X.w) X.A (.compLoop (.ListComp elt [⟨tg,iter,ifs,0⟩] scope pos) 0 (.ref it) (.ref D) (compEnvC scope cl C X.env)) (RR (.ref D) C) s3:=by
  rintro s3 rfl;show JiS (λn s'=>∃ i ys us H H',Inv (X.inc (own++cs.map (·.2)) scope cl fp s2 H2 C) [(D,{ cls:=.type "list",data:=.seq us.toArray H })] (List.replicate own.length none++JaJ cs σ) H' s'/\tn i s'.heap/\(∀ b∈fp,H' b=none)/\Vals ys us/\W i n ys H') ?_ m0
   ⟨0,[],[],0,H2,F (us:=[]) (n:=0) I4 a3 Dfree,T.keep _ _ _ st2 λb d o e=>a1 b o e,λb d=>(f2 b d).1, .nil,w0⟩
  intro n s5 z_;let(i,ys,us,H,H5,I5,a6,a2,vy,w5):=z_;obtain⟨hz,⟨stop,qn⟩ | ⟨go,a8⟩⟩:=turn i n ys H5 w5
  .show wpAny_mono (T.done (X.inc (own++cs.map (·.2)) scope cl fp s2 H2 C) rfl rfl rfl hc i _ s5 _ H5 (λ_ _=>False) I5 (B a2) a6 stop) (λr s6 z=>?_) λ_ _ z=>z;let(rfl,I6):=z;let(m6,a9,_):=id I6.loc;let(pD,S,_,_,_):=I6.pin (D,{ cls:=.type "list",data:=.seq us.toArray H }) (by simp);have Cfree:H5 C=none:=I6.free;show hRR D C s6 H5 ys (λh7 b2=>?_) S Cfree l ⟨m6,a9⟩ (by rw[<- h];show U) qn;have j:∀ b,b≠C->h7.get? b=s6.heap.get? b:=λb d=>b2.2 b d;have Y:=b5;have u7:Un (frs X.stack) fp H2 H5 s2.heap h7:=⟨λb o e n1 n2 n3=>(j b (Y b o e)).trans (I6.base.keep b o e n1 n2 n3),λb o e n1 n2 n3=>by
     let(sl,z):=I6.base.slot b o e n1 n2 n3;show(sl,(j b (Y b o e)).trans z),I6.base.free,λb o e n1=>by
     let(o',z):=I6.base.there b o e n1;show(o',(j b (Y b o e)).trans z),I6.base.tups,I6.base.frzs,I6.base.tbls⟩
   have a7:HOk X.prog X.w H5 h7:=λa o e=>by
    show(I6.hok a o e).stay (λc v b0 q=>(j c ?_).trans q) (λ_ q=>q) λ_ _ q=>q;rintro rfl;rcases b0 with z | z
    .rw[<- z]at e;rw[Cfree]at e;cases e
    .rw[Cfree]at z;cases z
   have I7:Inv X pins σ H5 { s6 with heap:=h7 }:=I2.call' (s':={ s6 with heap:=h7 }) I6.os u7 a7 I6.bare λb d=>⟨(f2 b d).2.2.2.1,(f2 b d).2.1,(f2 b d).2.2.2.2.1,(f2 b d).2.2.2.2.2⟩;show I7.track (a:=D) (o:=.lst ys) S (Heap.get?_none_of_le (by rw[h];show I2.sz)) (by rw[h];show Nat.ne_of_gt I2.lt) (λx c e z=>by
     let(v,o,ho,_):=I2.cell x c e;show M _ _ ho z) (λp hp z=>M _ _ (I2.pin p hp).1 z) ⟨hz,us,H,vy,(j D l).trans pD⟩
  .show wpAny_mono (T.item (X.inc (own++cs.map (·.2)) scope cl fp s2 H2 C) rfl rfl rfl hc i _ s5 _ H5 (λ_ _=>False) I5 (B a2) a6 go) (λr s6 z=>?_) λ_ _ z=>z;let(u,rfl,z):=z;show wpAny_mono z (λ_ s7 ζ=>?_) λ_ _ z=>z;let(x,H7,I7,r7,y7,G,b4):=ζ;have I7':=I7.pinned (B b4) (T.obj _ _ G);show wpAny_mono (hg fp s2 H2 C _ s7 _ H7 x u _ I7' r7 (a8 x H7 y7)) (λ_ s8 ⟨σ8,H8,I8,q8⟩=>?_) λ_ _ z=>z;show wpAny_mono (ht fp s2 H2 C _ s8 σ8 H8 _ I8 q8) (λbb a0 ⟨I,I8',a4⟩=>?_) λ_ _ z=>z;cases bb with
   | true=>
    show wpAny_mono (he fp s2 H2 C _ a0 σ8 I _ I8' a4) (λuy s9 ζ=>?_) λ_ _ z=>z;let(y,H9,I9,r9,m',Z,w9):=ζ;let(pD,S,_,_,_):=I9.pin (D,{ cls:=.type "list",data:=.seq us.toArray H }) (by simp);show append_at (its:=us.toArray) (n:=H) pD (λb3 P Q=>?_) (by rw[size_toArray, <- vy.length];show hz);have f:∀ b∈fp, ∀ o,s7.heap.get? b=some o->s9.heap.get? b=some o/\H9 b=none:=λb d o e=>by
     have z:=I9.pin (b,o) (mem_append_right _ (mem_append_right _ (Jdf d e)));show(z.1,z.2.1)
    have I9':Inv (X.inc (own++cs.map (·.2)) scope cl fp s2 H2 C) [] (List.replicate own.length none++JaJ cs σ) H9 s9:=I2.incAgain I9 f2 hcl hcs;have I10:Inv (X.inc (own++cs.map (·.2)) scope cl fp s2 H2 C) [] (List.replicate own.length none++JaJ cs σ) H9 { s9 with heap:=b3 }:=I9'.turned (it:=D) (t':=s9.toks) (λb o d e=>(P.2 b d).trans e) S l (.inr (Nat.le_of_eq h.symm)) (λx c e z=>by
      let(v,o,ho,_):=I2.cell x c (hcl x c e);show M _ _ ho z) λp hp=>by simp at hp
    rw[lstP]at Q;show(m',Z,i+1,ys++[y],us++[uy],H+1,H9,F I10 Q S,T.keep _ _ _ G λb d o e=>?_,λb d=>?_,vy.append (.cons r9 .nil),w9)
    .show(P.2 b (Nat.ne_of_lt (L b d))).trans (f b d o e).1
    .let(o,e,_):=T.obj _ _ G b d;show(f b d o e).2
   | false=>
    let(m',Z,w9):=a4;let(pD,S,_,_,_):=I8'.pin (D,{ cls:=.type "list",data:=.seq us.toArray H }) (by simp);have f:∀ b∈fp, ∀ o,s7.heap.get? b=some o->a0.heap.get? b=some o/\I b=none:=λb d o e=>by
     have z:=I8'.pin (b,o) (mem_append_right _ (mem_append_right _ (Jdf d e)));show(z.1,z.2.1)
    have I9':Inv (X.inc (own++cs.map (·.2)) scope cl fp s2 H2 C) [] (List.replicate own.length none++JaJ cs σ) I a0:=I2.incAgain I8' f2 hcl hcs;show(m',Z,i+1,ys,us,H,I,F I9' pD S,T.keep _ _ _ G λb d o e=>(f b d o e).1,λb d=>?_,vy,w9);let(o,e,_):=T.obj _ _ G b d;show(f b d o e).2
 show codeAny_compStart_list (R _ rfl) (T.self _ 0 _ _ _ (T.keep _ _ _ st2 λb d o e=>a1 b o e) (R _ rfl))
def rInU(K:W.Frag):R2:=λx y H Q=>match x,y with
 | .str i, .str j=>Q (.bl (!(Builtin.Str.occurrences j i 0 j.length 1).isEmpty)) H
 | x,y=>rIn K false x y H Q
theorem Jep:OpR X (compareOp .In) (rInU X.K):=λa s σ H x y v u Q I c b q=>by
 unfold rInU at q;split at q
 .show Jkg a s σ H _ _ v u Q I c b ⟨_,_,rfl,rfl,q⟩
 .show Jkf a s σ H _ _ v u Q I c b q
theorem Jl3{K:W.Frag}(hK:X.K=K):OpR X (compareOp .In) (rInU K):=hK ▸ Jep
theorem ix_UK{K:W.Frag}(hK:X.K=K):IxR X (rIxU K):=hK ▸ ix_U
theorem y68y{K:W.Frag}{i j:Str}:rInU K (.str i) (.str j) H Q=Q (.bl (!(Builtin.Str.occurrences j i 0 j.length 1).isEmpty)) H:=rfl
theorem all_range:∀ bs:List Bool,(List.range bs.length).all (λi=>bs.getD i false)=bs.all id:=λbs=>by
 rw[Bool.eq_iff_iff];simp only[all_eq_true,List.mem_range,id];constructor
 .intro h x b;let(i,a,rfl):=List.mem_iff_getElem.mp b;have:=h i a;simpa[List.getD_eq_getElem?_getD,a]using this
 .intro h i a;have:=h bs[i] (List.getElem_mem a);simpa[List.getD_eq_getElem?_getD,a]using this
def rAll(K:W.Frag):List V->Hp->VK->Prop:=λxs H Q=>∃(p:Addr)(bs:List Bool),xs=[.ref p]/\SqL K H p (bs.map V.bl)/\Q (.bl (bs.all id)) H
theorem JgA(hc:X.calm=true):CallR X (.builtin "all") (rAll X.K):=λn s σ H J M Q I r q=>by
 let(p,c,rfl,D,q):=q;let(a,g,h,G):=I.list D;let(u,rfl,C):=vals1 r;cases(show u=Value.ref p from C);show call_all_walk (wpAny_pyIter_list h.isList ?_);have f:p<s.heap.objs.size:=by
  let(_,e,_):=h.isList;show Heap.lt_size e
 show(s.heap.objs.size,_,_,a.toArray.size,_,_,λi=>c.getD i false,rfl,Walks.list (by show X.A.handled=none;show I.ok.hd hc) s.heap.objs.size p (Nat.ne_of_lt f) a.toArray,⟨⟨_,Heap.get?_push_size _ rfl,rfl,rfl⟩,h.isList.push _⟩,?_,?_)
 .intro i v E Q' E' o z;have d:a[i]?=some v:=by simpa using o
  have m:i<c.length:=by
   let(F,_):=List.getElem?_eq_some_iff.mp d;have l:=g.length;rw[length_map]at l;ac_nf
  let(L,j,B):=g.get (i:=i) (x:=.bl c[i]) (by simp[m]);rw[d]at j;cases j;cases(show v=Value.bool c[i]from B);show wpAny_truthy_bool ?_;simpa[List.getD_eq_getElem?_getD,m]using z
 .intro N w k;have l:=g.length;rw[length_map]at l;have t:(List.range a.toArray.size).all (λi=>c.getD i false)=c.all id:=by rw[size_toArray, <- l];show all_range c
  rw[t];show(.bl _,H,I.kept (t':=w) λb y e=>k b y (by have:=Heap.lt_size e;simp;show Nat.ne_of_lt this) (Heap.get?_push_of_some _ e),rfl,q)
def rSlS:V->Option Int->Option Int->Hp->VK->Prop:=λx lo hi H Q=>∃ z,x=.str z/\z.length<=sizeLine/\Q (.str (Txt.slice z lo hi)) H
theorem Jn6:SlR X rSlS:=λb s σ H x v vl m j g n Q I f c i pu h=>by
 let(z,rfl,d,q):=h;let(t,rfl):=f;show("str",_,F.slot_str_getitem.lookup,typeIs_str _ _ _,?_);have a:∀(e:Tok)(k:Nat),EP X b σ Q (.str (Txt.slice z j g) e) { s with toks:=k }:=λe k=>⟨.str _,H,I.tok k,⟨_,rfl⟩,q⟩;cases i <;> cases pu
 .show wpAny_getItem_str_slice (l:=none) (u:=none) (st:=none) c rfl (post_val_or_str ⟨Nat.le_trans (Txt.slice_le z _ _) d,a⟩)
 .show wpAny_getItem_str_slice (l:=none) (u:=some (_,_)) (st:=none) c rfl (post_val_or_str ⟨Nat.le_trans (Txt.slice_le z _ _) d,a⟩)
 .show wpAny_getItem_str_slice (l:=some (_,_)) (u:=none) (st:=none) c rfl (post_val_or_str ⟨Nat.le_trans (Txt.slice_le z _ _) d,a⟩)
 .show wpAny_getItem_str_slice (l:=some (_,_)) (u:=some (_,_)) (st:=none) c rfl (post_val_or_str ⟨Nat.le_trans (Txt.slice_le z _ _) d,a⟩)
theorem hcs0:∀ p∈([]:List (Nat × Str)),X.N[p.1]?=some p.2/\X.env.scope.names.lookup p.2=some .cell/\(relabel scope X.env).names.lookup p.2=some .cell:=λ_ h=>by simp at h
mutual
def szD:D->Prop
 | .int i=>Mth.Sz 4000 i
 | .str s=>s.length<=1000
 | .tup xs=>szL xs
 | .lst xs=>szL xs
 | _=>True
def szL:List D->Prop
 | []=>True
 | x::xs=>szD x/\szL xs
end
def lowB(c:Nat):Bool:=decide (97<=c/\c<=122)
def nameS(s:Str):Bool:=(decide (1<=s.length)&&decide (s.length<=8))&&s.cps.toList.all lowB
def fracB:D->Bool
 | .tup [.int a, .int b]=>decide (1<=b)&&decide (Mth.g a b=1)
 | _=>false
def Jjq:D->Bool
 | .non=>true
 | d=>fracB d
def lessD:D->D->Bool
 | .tup [.int a, .int b], .tup [.int c, .int d]=>decide (a*d<c*b)
 | _,_=>false
theorem Ji3:(Str.ofString "abcdefghijklmnopqrstuvwxyz").cps.toList=range' 97 26:=by decide
theorem JiZ(c:Nat):(!(Builtin.Str.occurrences (Str.ofString "abcdefghijklmnopqrstuvwxyz") ⟨#[c]⟩ 0 (Str.ofString "abcdefghijklmnopqrstuvwxyz").length 1).isEmpty)=lowB c:=by
 rw[StrLaws.found_one,Ji3];unfold lowB
 congr 1
 rw[List.mem_range'];show propext ⟨λζ=>by let(i,a,e):=ζ;ac_nf,λh=>⟨c-97,by ac_nf,by ac_nf⟩⟩
structure KCal(P:Program)(w:World)(K:W.Frag)(mg:Str->Option Value)(base:Heap)(k:Nat)(x:Str)(C:Addr)(ps:List Str)(sp:Sp):Prop where
 ex:∃(f:Addr)(fd:FuncData),FnOk P w K mg base (CX1 P w) k f fd ps sp/\mg x=some (.ref C)/\Mk K C f/\Binds K fd ps []
structure MCal(P:Program)(w:World)(K:W.Frag)(mg:Str->Option Value)(base:Heap)(k:Nat)(m:Str)(Cs:Addr->Prop)(ps:List Str)(sp:Sp):Prop where
 ex:∃(f:Addr)(fd:FuncData),FnOk P w K mg base (CX1 P w) k f fd ps sp/\(∀ C,Cs C->Cls K C/\Meth K C m f)/\W.keepIn K (.ref f)=true/\Binds K fd ps []
def JkE(Cs:Addr->Prop)(m:Str)(sp:Sp)(E:XK)(ta:TE)(t:TA):TE:=λσ H Q=>ta σ H λx H1=>∃ a C dx fs,x=.ref a/\H1 a=some (.ins C dx fs)/\Cs C/\fs.lookup m=none/\t σ H1 λvs H2=>sp (x::vs) H2 Q E
section
variable{k':Nat}{mn:Str}{Cs:Addr->Prop}{ps:List Str}{sp:Sp}{E:XK}{p apos:Pos}{o:Expr}{ta:TE}{k:Nat}{t:TA}
theorem KCal.ev(G:KCal X.prog X.w X.K X.mg X.base k x C ps sp)(hr:Room k' X.A)(hk:k+1<=k')(hg:Gl X x)(hx:Jcd (CX1 X.prog X.w) X E)(ha:PA X (e::es) t)
  (hdb:autoParam ((x == ("__debug__" : Str))=false) Au) (he:autoParam (starEach (e::es) X.env=(false,eval e X.env)::starEach es X.env) Au) (hpl:autoParam ((backTo pos (starEach es X.env)).any (·.1)=false) Au) :
  PE X (.Call (.Name x p) (e::es) [] pos) (tMake C sp [] E t):=by
 let(f,c,F,b,M,a):=G.ex;show JmW M F (hr.mono hk) hg b a .nil hx ha hdb he hpl
variable{pl:Sem Bool}
theorem MCal.m(G:MCal X.prog X.w X.K X.mg X.base k mn Cs ps sp)(hr:Room k' X.A)(hk:k<=k')(hx:Jcd (CX1 X.prog X.w) X E)(ho:PE X o ta)(ha:PA X (e::es) t)
  (hst:autoParam (starEach (e::es) X.env=(false,eval e X.env)::starEach es X.env) Au) (hpl:autoParam ((backTo pos (starEach es X.env)).any (·.1)=false) Au)
  (ht:autoParam (eval (.Call (.Attribute o mn apos) (e::es) [] pos) X.env=(do
   let ov <- eval o X.env
   standAt apos.atName
   let(f,first) <- holding [ov] (getMethod ov mn pl)
   callWith pos f first (backTo pos (starEach (e::es) X.env)) (backToKw pos (keywordEach [] X.env)))) Au) :
  PE X (.Call (.Attribute o mn apos) (e::es) [] pos) (JkE Cs mn sp E ta t):=by
 let(f,J,F,c,y,g):=G.ex;intro b s σ H Q I h;show W.methodCall_KW (pl:=pl) (thn (ho b s σ H _ I h) λu z ζ=>?_) ht;let(x,v,I1,p,a,C,M,B,j,n,d,l,q):=ζ;subst j;obtain rfl:u=Value.ref a:=p;show Jec I1 n (c C d).1 (c C d).2 l ?_;show W.callWith_K (first:=[.ref a]) (h₀:=X.base) I.ok.mod.kin y (thn (ha pos b z σ v _ I1 q) λus D ζ=>?_) hst hpl;let(vs,L,I2,r,i):=ζ;show(I2.kIn,?_);show Jkv (us:=.ref a::us) (vs:=.ref a::vs) F (hr.mono hk) g .nil hx I2 (.cons rfl r) (by simpa using i)
theorem MCal.m0(G:MCal X.prog X.w X.K X.mg X.base k mn Cs ps sp)(hr:Room k' X.A)(hk:k<=k')(hx:Jcd (CX1 X.prog X.w) X E)(ho:PE X o ta)
  (ht:autoParam (eval (.Call (.Attribute o mn apos) [] [] pos) X.env=(do
   let ov <- eval o X.env
   standAt apos.atName
   let(f,first) <- holding [ov] (getMethod ov mn pl)
   callWith pos f first (backTo pos (starEach [] X.env)) (backToKw pos (keywordEach [] X.env)))) Au) :
  PE X (.Call (.Attribute o mn apos) [] [] pos) (JkE Cs mn sp E ta tNil):=by
 let(f,r,F,c,n,e):=G.ex;intro b s σ H Q I h;show W.methodCall_KW (pl:=pl) (thn (ho b s σ H _ I h) λu v ζ=>?_) ht;let(x,m,I1,j,a,C,t,p,g,i,d,l,q):=ζ;subst g;obtain rfl:u=Value.ref a:=j;show Jec I1 i (c C d).1 (c C d).2 l ?_;show W.callWith_K0 (first:=[.ref a]) I1.kIn n (Jkv (us:=[.ref a]) (vs:=[.ref a]) F (hr.mono hk) e .nil hx I1 (.cons rfl .nil) (show sp ([.ref a]++[]) m Q E from q))
def rIsN:R2:=λx y H Q=>y=.non/\Q (.bl (decide (x=.non))) H
def rNotN:R2:=λx y H Q=>y=.non/\Q (.bl (!decide (x=.non))) H
theorem JaY:OpR X (compareOp .Is) rIsN:=JnU
theorem Jca:OpR X (compareOp .IsNot) rNotN:=JmQ
def Jn1(K:W.Frag):List V->Hp->VK->Prop:=λxs H Q=>∃ p ys,xs=[.ref p]/\(SqL K H p ys\/SqT K H p ys)/\∀ l,H l=none->Q (.ref l) (upd H l (.lst ys))
theorem JiR:CallR X (.type "list") (Jn1 X.K):=JgD
end
section
variable{K:W.Frag}{x:V}
theorem y6dy:rIsN x .non H Q=Q (.bl (decide (x=.non))) H:=by simp[rIsN]
theorem y84y:rNotN x .non H Q=Q (.bl (!decide (x=.non))) H:=by simp[rNotN]
variable{sp:Sp}{E:XK}
theorem y73y{dvs:List V}{t:TA}:tMake C sp dvs E t σ H Q=t σ H λvs H1=>∀ x dx,H1 x=none->H1 dx=none->dx≠x->sp (.ref x::(vs++dvs)) (upd (upd H1 dx (.own x)) x (.ins C dx [])) (λv H2=>v=.non/\Q (.ref x) H2) E:=rfl
variable{ta:TE}
theorem y75y{Cs:Addr->Prop}{mn:Str}{t:TA}:JkE Cs mn sp E ta t σ H Q=ta σ H λx H1=>∃ a C dx fs,x=.ref a/\H1 a=some (.ins C dx fs)/\Cs C/\fs.lookup mn=none/\t σ H1 λvs H2=>sp (x::vs) H2 Q E:=rfl
theorem y50y{f:Str}:tFld K ta f σ H Q=ta σ H λx H1=>∃ a C dx fs v,x=.ref a/\H1 a=some (.ins C dx fs)/\Cls K C/\Ja2 K C f/\fs.lookup f=some v/\Q v H1:=rfl
variable{tv:TE}{En:Ends}
theorem y94y{f:Str}:sFld K ta tv f En σ H=tv σ H λy H1=>ta σ H1 λx H2=>∃ a C dx fs,x=.ref a/\H2 a=some (.ins C dx fs)/\Cls K C/\Ja2 K C f/\fs.length<1000/\En.nx σ (upd H2 a (.ins C dx (putF f y fs))):=rfl
theorem y2dy{T:String}{r:V->List V->Hp->VK->Prop}{to:TE}{t:TA}:tBM K T r to t σ H Q=to σ H λx H1=>tyV K T x H1/\t σ H1 λvs H2=>r x vs H2 Q:=rfl
variable{R:St->Hp->Prop}
theorem y60y{g:TG}{gs:TGs}:gCons g gs (v::r) σ H R=g v σ H λσ' H'=>gs r σ' H' R:=by
 unfold gCons;show propext ⟨λ⟨a,b,e,h⟩=>?_,λh=>⟨v,r,rfl,h⟩⟩;cases e;show h
theorem y63y:gNil [] σ H R=R σ H:=by unfold gNil;simp
theorem FrV.of_rep(h:Rep K H (.tup [.int a, .int b]) x):FrV K H x a b:=by
 simp only[Rep,RepL]at h;let(p,e,rfl,q,v,r,rfl,rfl,d,c,rfl,rfl,rfl):=h;show(p,rfl,q)
theorem JiW{d:D}(h:fracB d=true):∃ a b,d=.tup [.int a, .int b]/\1<=b/\Mth.g a b=1:=by
 unfold fracB at h;split at h
 .rw[Bool.and_eq_true]at h;show(_,_,rfl,by simpa using h.1,by simpa using h.2)
 .cases h
def nonD:D->Bool
 | .non=>true
 | _=>false
variable{l:Addr}
theorem putE(e:upd H l o=H'):H' l=some o:=by rw[<- e,Jat]
theorem putN{b:Addr}{o' u:HO}(e:upd H l o=H')(hl:H l=some o')(hb:H b=some u)(ne:u≠o'):H' b=some u:=by
 rw[<- e,Jai (ne_of hb hl ne)];show hb
end
def tieF(n s e l g:V):List (Str × V):=[("name",n),("start",s),("end",e),("least",l),("greatest",g)]
section
variable{En:Ends}{ta tb tc td:TE}{K:W.Frag}
end
def Jb9(cells:List (Str × Addr)):List (Str × NameKind)->List (Str × Addr)->List (Str × Addr)
 | [],acc=>acc
 | (n,k)::r,acc=>Jb9 cells r (if k == .free then(n,(cells.lookup n).getD 0)::acc else acc)
theorem Jhq{env:Env}:∀(names:List (Str × NameKind))(acc:List (Str × Addr)),(∀ p∈names,p.2=.free->∃ c,env.cells.lookup p.1=some c) ->
  (forIn names acc λ(p:Str × NameKind) cs=>(if p.2 == .free then do let c <- cellOf env p.1;pure (ForInStep.yield ((p.1,c)::cs))else pure (ForInStep.yield cs):Sem (ForInStep (List (Str × Addr)))))=(pure (Jb9 env.cells names acc):Sem (List (Str × Addr)))
 | [],acc,_=>by simp[Jb9]
 | (n,k)::r,acc,h=>by
  rw[List.forIn_cons];by_cases c:(k == .free)=true
  .let(a,ha):=h (n,k) mem_cons_self (beq_iff_eq.mp c);have e:cellOf env n=pure a:=by unfold cellOf;rw[ha]
   simp only[c,if_true,e,pure_bind];have:=Jhq (env:=env) r ((n,a)::acc) λp hp=>h p (mem_cons_of_mem _ hp);simp only[Jb9,c,if_true,ha,Option.getD_some];show this
  .have c':(k == .free)=false:=by simpa using c
   simp only[c',Bool.false_eq_true,if_false,pure_bind];have:=Jhq (env:=env) r acc λp hp=>h p (mem_cons_of_mem _ hp);simp only[Jb9,c',Bool.false_eq_true,if_false];show this
theorem Jjx{env:Env}(h:∀ p∈scope.names,p.2=.free->∃ c,env.cells.lookup p.1=some c):closureFor scope env=pure (Jb9 env.cells scope.names []):=by
 have:=Jhq (env:=env) scope.names [] h;unfold closureFor;simp only[pure_bind];show Eq.trans ?_ (congrArg (λm:Sem (List (Str × Addr))=>m >>= pure) this |>.trans (by simp));first | rfl | (congr 1)
variable{cells:List (Str × Addr)}
theorem Jea:∀(names:List (Str × NameKind))(acc:List (Str × Addr)),(∀ x c,acc.lookup x=some c->cells.lookup x=some c)->(∀ p∈names,p.2=.free->∃ c,cells.lookup p.1=some c) ->
  ∀ x c,(Jb9 cells names acc).lookup x=some c->cells.lookup x=some c
 | [],acc,ha,_,x,c,h=>ha x c h
 | (n,k)::r,acc,ha,hf,x,c,h=>by
  simp only[Jb9]at h;show Jea r _ ?_ (λp hp=>hf p (mem_cons_of_mem _ hp)) x c h;intro y d hy;by_cases f:(k == .free)=true
  .rw[if_pos f]at hy;let(a,e):=hf (n,k) mem_cons_self (beq_iff_eq.mp f);rw[List.lookup_cons]at hy;by_cases q:(y == n)=true
   .rw[q]at hy;have q':y=n:=beq_iff_eq.mp q;subst q';have e':cells.lookup y=some a:=e;rw[e']at hy ⊢;simpa using hy
   .have q':(y == n)=false:=by simpa using q
    rw[q']at hy;show ha y d hy
  .rw[if_neg f]at hy;show ha y d hy
theorem Jd9:∀(names:List (Str × NameKind))(acc:List (Str × Addr))(y:Str),((∃ c,acc.lookup y=some c)\/(y,NameKind.free)∈names)->∃ c,(Jb9 cells names acc).lookup y=some c
 | [],acc,y,h=>by
  rcases h with h | h
  .show h
  .simp at h
 | (n,k)::r,acc,y,h=>by
  simp only[Jb9];show Jd9 r _ y ?_;rcases h with⟨c,h⟩ | h
  .show .inl ?_;split
   .rw[List.lookup_cons];cases(y == n)
    .show(c,h)
    .show(_,rfl)
   .show(c,h)
  .rcases mem_cons.mp h with e | h
   .cases e;show .inl ?_;rw[if_pos ⋯,List.lookup_cons];simp
   .show .inr h
theorem JjT(hcell:∀ y∈scope.names,y.2≠.cell){y:Str}(hy:(relabel scope X.env).names.lookup y=some .cell\/(relabel scope X.env).names.lookup y=some .free):(y,NameKind.free)∈scope.names:=by
 have f:∀ k,(k=.cell\/k=.free)->(relabel scope X.env).names.lookup y=some k->(y,NameKind.free)∈scope.names:=λk h e=>by
  have m:=PySem.mem_of_lookup e;let((n,d),a,g):=mem_map.mp (show(y,k)∈scope.names.map _ from m);have b:(if(d == NameKind.free&&X.env.scope.kind == .function&&X.env.kindOf n == some .cell)=true then(n,NameKind.cell)else(n,d))=(y,k):=g;split at b
  .rename_i c;rw[Bool.and_eq_true,Bool.and_eq_true]at c;have:=beq_iff_eq.mp c.1.1;subst this;cases b;show a
  .cases b;rcases h with rfl | rfl
   .show absurd rfl (hcell _ a)
   .show a
 rcases hy with hy | hy
 .show f _ (.inl rfl) hy
 .show f _ (.inr rfl) hy
variable{wi:TI}
theorem Jbi{cs:List (Nat × Str)}{g:TG}(hc:X.calm=true)(hi:PI X tg iter wi)
  (hg:∀ fp s2 H2 C,PG (X.inc (own++cs.map (·.2)) scope (Jb9 X.env.cells scope.names []) fp s2 H2 C) tg g) (ht:∀ fp s2 H2 C,PTs (X.inc (own++cs.map (·.2)) scope (Jb9 X.env.cells scope.names []) fp s2 H2 C) ifs tt) (he:∀ fp s2 H2 C,PE (X.inc (own++cs.map (·.2)) scope (Jb9 X.env.cells scope.names []) fp s2 H2 C) elt te)
  (hfree:∀ p∈scope.names,p.2=.free->X.env.scope.names.lookup p.1=some .cell) (hcell:∀ y∈scope.names,y.2≠.cell) (hkind:scope.kind=.function) (hnames:∀ y∈scope.names,y.2=.local->scope.names.lookup y.1=some .local)
  (hcs:∀ p∈cs,X.N[p.1]?=some p.2/\X.env.scope.names.lookup p.2=some .cell/\(relabel scope X.env).names.lookup p.2=some .cell)
  (hs:autoParam (∀ x,foldedSetIterable iter X.env x=pure x) Au):PE X (.ListComp elt [⟨tg,iter,ifs,0⟩] scope pos) (JiM own.length cs wi g tt te):=by
 intro a s σ H Q I h;have d:∀ p∈scope.names,p.2=.free->∃ c,X.env.cells.lookup p.1=some c:=λp G t=>I.ok.has p.1 (.inl (hfree p G t));have j:=Jea (cells:=X.env.cells) scope.names [] (λ_ _ z=>by simp at z) d;rw[eval_ListComp];show wpAny_comprehension_free (use:=none) rfl hs (Jjx d) hkind hnames (thn (hi a s σ H _ I h) λv Y F=>thn F λE s2 L=>?_);let(O,fp,P,J,H2,rfl,I2,T,i,M,W,(V,D),b):=L;show JfD (QN:=λn k=>∀ p,k p=none->Q (.ref p) (upd k p (.lst n))) (RR:=λm C=>compPost (model X.prog X.w) X.A X.xe none (EP X a σ Q) m C) hc hg ht he hcell hkind j (λz B=>Jd9 scope.names [] z (.inr (JjT hcell B))) hcs I2 T i M D b ?_;intro D' C R k n f u S Z r U q;let(o,l):=r;show(o,l,λK e=>⟨.ref D',_,f K e,rfl,q D' u⟩)
theorem Jcq{k:Nat}{cs:List (Nat × Str)}{g:TG}(h:PE X e (JiM k cs wi g tYes te)):PE X e (tComp k cs wi g te):=h
theorem Jce{sc:Scope}(h:scope.names.all (λp=>p.2 != .free||(sc.names.lookup p.1 == some .cell))=true):∀ p∈scope.names,p.2=.free->sc.names.lookup p.1=some .cell:=λp a b=>by
 have z:=all_eq_true.mp h p a;rw[b]at z;simpa using z
theorem JkB:∀{ys:List Str}{us:List Value},Vals (ys.map V.str) us->StrsAre us ys
 | [],_,h=>by cases h;show .nil
 | y::ys,_,h=>by
  cases h with
  | cons r t=>
   let(tk,rfl):=r;show .cons y tk (JkB t)
def rJoin(K:W.Frag):V->List V->Hp->VK->Prop:=λx vs H Q=>∃(z:Str)(p:Addr)(ys:List Str),x=.str z/\vs=[.ref p]/\SqL K H p (ys.map V.str)/\(ys.map (·.length)).sum+ys.length*z.length<=16777216/\Q (.str (Txt.join z ys)) H
theorem JhG:MtM X "str.join" (rJoin X.K):=λa s σ H x m v n Q I c d h=>by
 let(z,p,j,rfl,rfl,i,b,q):=h;let(t,rfl):=c;let(u,rfl,f):=vals1 d;cases(show u=Value.ref p from f);let(e,r,g,_):=I.list i;show join_list g.isList (by simpa using JkB r) b λl k=>⟨.str _,H,I.tok k,⟨_,rfl⟩,q⟩
theorem hcs1(a:X.N[i]?=some x)(b:X.env.scope.names.lookup x=some .cell)(c:(relabel scope X.env).names.lookup x=some .cell) :
  ∀ p∈[(i,x)],X.N[p.1]?=some p.2/\X.env.scope.names.lookup p.2=some .cell/\(relabel scope X.env).names.lookup p.2=some .cell:=λp d=>by
 rcases mem_singleton.mp d with rfl
 show(a,b,c)
theorem Jj8(hb:1<=b)(h:Mth.g a b=1):Mth.top (0*b-a*1) (1*b) = -a/\Mth.bot (0*b-a*1) (1*b)=b:=by
 have d:(0*b-a*1:Int) = -a:=by simp
 have e:(1*b:Int)=b:=by simp
 rw[d,e];have c:b≠0:=by ac_nf
 have u:=Mth.Jed (Mth.JbQ (t:=-a) c) hb (Mth.g_low (t:=-a) c) (by rw[Mth.g_neg];show h) (Mth.cross (t:=-a) c);show u
variable{j:Nat}
theorem JhZ{spos py:Pos}{y:Str}{cs:List (Nat × Str)}{g:TG}(hN:X.N.Nodup)(hj:X.N[j]?=some y)(hy:Loc X.env.scope y)(hc:X.calm=true)(hi:PI X tg iter wi)
  (hg:∀ fp s2 H2 C,PG (X.inc (own++cs.map (·.2)) scope (Jb9 X.env.cells scope.names []) fp s2 H2 C) tg g) (ht:∀ fp s2 H2 C,PTs (X.inc (own++cs.map (·.2)) scope (Jb9 X.env.cells scope.names []) fp s2 H2 C) ifs tt) (he:∀ fp s2 H2 C,PE (X.inc (own++cs.map (·.2)) scope (Jb9 X.env.cells scope.names []) fp s2 H2 C) elt te)
  (hfree:∀ p∈scope.names,p.2=.free->X.env.scope.names.lookup p.1=some .cell) (hcell:∀ y∈scope.names,y.2≠.cell) (hkind:scope.kind=.function) (hnames:∀ y∈scope.names,y.2=.local->scope.names.lookup y.1=some .local)
  (hcs:∀ p∈cs,X.N[p.1]?=some p.2/\X.env.scope.names.lookup p.2=some .cell/\(relabel scope X.env).names.lookup p.2=some .cell)
  (hsw:autoParam (swapsWith (.ListComp elt [⟨tg,iter,ifs,0⟩] scope pos) (some (.Name y py)) spos.line X.env=pure true) Au)
  (hs:autoParam (∀ x,foldedSetIterable iter X.env x=pure x) Au) (hf:autoParam (X.fn y=true\/X.env.scope.names.lookup y=some .local) Au) :
  PS X (.Assign [.Name y py] (.ListComp elt [⟨tg,iter,ifs,0⟩] scope pos) spos) (tAsg (JiM own.length cs wi g tt te) (gName j)):=by
 intro d s σ H D I h;have k:∀ p∈scope.names,p.2=.free->∃ c,X.env.cells.lookup p.1=some c:=λp F S=>I.ok.has p.1 (.inl (hfree p F S));have t:=Jea (cells:=X.env.cells) scope.names [] (λ_ _ z=>by simp at z) k;rw[exec_Assign_Name_used _ _ _ _ hsw];show wpAny_bind (wpAny_standAt (wpAny_bind ?_));show wpAny _ X.A (do let _ <- comprehension (.ListComp elt [⟨tg,iter,ifs,0⟩] scope pos) scope X.env _ (newList []) false (eval iter X.env) (some (assign (.Name y py) X.env))) _ _ s;show wpAny_bind (wpAny_mono (wpAny_comprehension_free (use:=some (assign (.Name y py) X.env)) (Q:=λ_ L=>SP X d D .next L) rfl hs (Jjx k) hkind hnames
  (thn (hi d s σ H _ I h) λv s1 h1=>thn h1 λa0 s2 h2=>?_)) (λ_ L M=>wpAny_pure (wpAny_pure M)) λ_ _ e=>e)
 let(it,fp,tn,J,H2,rfl,I2,T,r,f2,W,(m0,w0),i):=h2;show JfD (QN:=λm l=>∀ p,l p=none->D.nx (σ.set j (some (.ref p))) (upd l p (.lst m))) hc hg ht he hcell hkind t (λz Z=>Jd9 scope.names [] z (.inr (JjT hcell Z))) hcs I2 T r f2 w0 i ?_;intro D' C K l m n Y cN dc R f q;let(P,w):=R;have I8:Inv X d σ (upd l D' (.lst m)) K:=n K.heap (Heap.SameBut.refl _ _);show wpAny _ X.A (assign (.Name y py) X.env (.ref D')) _ _ K;show wpAny_assign_Name (Jhg (v:=.ref D') I8 hN hj hy rfl (λs7 I7 G=>?_) hf);let(a,U,B):=G;have V:C≠a:=by
  rcases B with rfl | B
  .show Nat.ne_of_gt (Nat.lt_of_lt_of_le I2.lt f)
  .let(v,o,u,_):=I2.cell y a B;show Nat.ne_of_gt (Nat.lt_of_lt_of_le (Heap.lt_size u) f)
 show(P,w.sameBut U V,λh8 E=>⟨_,_,?_,q D' Y⟩);show I7.turned (it:=C) (t':=s7.toks) (λb o O e=>(E.2 b O).trans e) (by rw[Jai (Ne.symm dc)];show cN) (Nat.ne_of_gt (Nat.lt_of_lt_of_le I2.lt f)) (.inr (Nat.le_trans I2.sz f)) (λx c e z=>by
  let(v,o,u,_):=I2.cell x c e;show absurd (Nat.lt_of_lt_of_le (Heap.lt_size u) f) (by rw[z];show Nat.lt_irrefl _)) (λp F z=>absurd (Nat.lt_of_lt_of_le (Heap.lt_size (I2.pin p F).1) f) (by rw[z];show Nat.lt_irrefl _))
theorem JnX{st:Stmt}{k:Nat}{cs:List (Nat × Str)}{g:TG}{gn:TG}(h:PS X st (tAsg (JiM k cs wi g tYes te) gn)):PS X st (tAsg (tComp k cs wi g te) gn):=h
variable{h':Heap}
theorem Inv.turnedL{t':Nat}{ch:List Addr}(I:Inv X pins σ H s)(k:∀ b o,b∉ch->s.heap.get? b=some o->h'.get? b=some o)(hf:∀ b∈ch,FpOk X pins H b):Inv X pins σ H { s with heap:=h',toks:=t' }:=by
 have d:∀ b u,H b=some u->b∉ch:=λb u e z=>by rw[(hf b z).1]at e;cases e
 show I.step (g':=s.gens) (d':=s.drawn) (ch:=ch) (λb f=>?_) (λb o _ _ a e _=>k b o a e) (λb o _ _ a e _=>⟨o.slots,k b o a e⟩) (λ_ _ _ _ n=>n)
  (λb o a e=>⟨o,k b o a e⟩) (λ_ _ e=>e) (λ_ _ _ e=>e) (λb x e=>⟨#[],by rw[e];simp⟩) (λm g=>?_) (λb u e=>?_) I.bare
 .let(_,l,_,t,j,w):=hf b f;show(t,l,j,w)
 .let(o,p,h,i,r):=g;show(o,p,h,k _ o (λz=>(hf _ z).2.1 rfl) i,r)
 .show(I.hok b u e).stay (λc v a q=>k c v ?_ q) (λ_ q=>q) λ_ _ q=>q;rcases a with z | z
  .rw[z];show d b u e
  .show d c _ z
theorem za(n a b:Nat)(h1:a<n)(h2:b<n):ZipApart (n+4) (n+2) (n+3) n (n+1) a b where
 TIz:=Nat.ne_of_lt (show n+2<n+4 by ac_nf)
 TOz:=Nat.ne_of_lt (show n+3<n+4 by ac_nf)
 i1z:=Nat.ne_of_lt (show n<n+4 by ac_nf)
 i2z:=Nat.ne_of_lt (show n+1<n+4 by ac_nf)
 TITO:=Nat.ne_of_lt (show n+2<n+3 by ac_nf)
 TIi1:=Nat.ne_of_gt (show n<n+2 by ac_nf)
 TIi2:=Nat.ne_of_gt (show n+1<n+2 by ac_nf)
 TOi1:=Nat.ne_of_gt (show n<n+3 by ac_nf)
 TOi2:=Nat.ne_of_gt (show n+1<n+3 by ac_nf)
 i12:=Nat.ne_of_lt (show n<n+1 by ac_nf)
 l1z:=Nat.ne_of_lt (show a<n+4 by ac_nf)
 l1TO:=Nat.ne_of_lt (show a<n+3 by ac_nf)
 l1i1:=Nat.ne_of_lt (show a<n by ac_nf)
 l1i2:=Nat.ne_of_lt (show a<n+1 by ac_nf)
 l2z:=Nat.ne_of_lt (show b<n+4 by ac_nf)
 l2TO:=Nat.ne_of_lt (show b<n+3 by ac_nf)
 l2i1:=Nat.ne_of_lt (show b<n by ac_nf)
 l2i2:=Nat.ne_of_lt (show b<n+1 by ac_nf)
variable{elts:List Expr}{x1:Nat}{tp:Pos}
section
variable{td ty tv:TE}{En:Ends}{tx:TE}{K:W.Frag}
theorem y40y:tDGet td ty σ H Q=td σ H λx H1=>ty σ H1 λy H2=>∃ a v,x=.ref a/\DGet H2 a y (some v)/\Q v H2:=rfl
theorem y49y:sDPut td ty tv En σ H=tv σ H λv H1=>td σ H1 λx H2=>ty σ H2 λy H3=>∃ a H4,x=.ref a/\DPut H3 a y v H4/\En.nx σ H4:=rfl
theorem y45y:Jmb σ H Q=∀ p,H p=none->Q (.ref p) (upd H p (.dK [])):=rfl
end
theorem hu1{a b:Nat}(h:a+64<b):a+1<b:=by ac_nf
section
variable{td ty:TE}{K:W.Frag}
theorem JkW(h:j<=xs.length):cutV xs (some (j:Int)) none=xs.drop j:=by
 unfold cutV HT.sIx;dsimp only;rw[if_neg ∅];rw[take_of_length_le (by simp)]
 congr 1
 ac_nf
end
variable{a:Addr}
theorem ForA.byL{K:W.Frag}{g:TG}{D:Ends}(hA:SqL K H a xs)(Pv:Nat->St->Hp->Prop)(h0:Pv 0 σ H)(hl:∀ i σ H',Pv i σ H'->SqL K H' a xs)
  (hs:∀ i x σ H,xs[i]?=some x->Pv i σ H->g x σ H λσ2 H2=>tb { D with nx:=Pv (i+1),ct:=Pv (i+1),bk:=D.nx } σ2 H2) (hd:∀ σ H,Pv xs.length σ H->D.nx σ H):ForA K a g tb D σ H:=by
 show .inl ⟨⟨xs,hA⟩,λi m σ H=>Pv i σ H/\i<=xs.length/\m=xs.length-i,⟨_,h0,Nat.zero_le _,rfl⟩,?_⟩;rintro i m σ H ⟨c,h,rfl⟩;have b:=hl i σ H c;by_cases d:i<xs.length
 .show .inr ⟨⟨xs,xs[i],b,List.getElem?_eq_getElem d⟩,Pv (i+1),λσ' H' p=>⟨_,Nat.sub_lt_sub_left d (Nat.lt_succ_self i),p,d,rfl⟩,?_⟩;rintro x H' ⟨rfl,f⟩;show hs i x σ _ (f xs b) c
 .have e:i=xs.length:=by ac_nf
  subst e;show .inl ⟨⟨xs,b,Nat.le_refl _⟩,hd σ H c⟩
def ForJ(J:It)(g:TG)(tb:TS)(D:Ends)(σ : St)(H:Hp):Prop:=∃ W:Nat->Nat->St->Hp->Prop,(∃ m,W 0 m σ H)/\∀ i m σ H,W i m σ H ->
 (J.stop i H/\D.nx σ H)\/(J.go i H/\∃ N:St->Hp->Prop,(∀ σ' H',N σ' H'->∃ m',m'<m/\W (i+1) m' σ' H')/\∀ x H',J.yld i H x H'->g x σ H' λσ2 H2=>tb { D with nx:=N,ct:=N,bk:=D.nx } σ2 H2)
theorem Jnu{K:W.Frag}{cs:List (Nat × Str)}{k:Nat}{g:TG}{H1:Hp}(Pv:Nat->List V->Hp->Prop)(h0:Pv 0 [] H1)(hl:∀ i ys H',i<=xs.length->Pv i ys H'->SqL K H' a xs/\ys.length<=sizeLine)
  (hs:∀ i x ys H2,xs[i]?=some x->Pv i ys H2->g x (List.replicate k none++JaJ cs σ) H2 λσ4 H4=>tt σ4 H4 λb H5=>if b=true then te σ4 H5 λy H6=>Pv (i+1) (ys++[y]) H6 else Pv (i+1) ys H5) (hd:∀ ys H2,Pv xs.length ys H2->∀ p,H2 p=none->Q (.ref p) (upd H2 p (.lst ys))) :
  ∃ W:Nat->Nat->List V->Hp->Prop,(∃ m,W 0 m [] H1)/\∀ i m ys H2,W i m ys H2->ys.length<=sizeLine/\(((Itl K a).stop i H2/\∀ p,H2 p=none->Q (.ref p) (upd H2 p (.lst ys))) \/
   ((Itl K a).go i H2/\∀ x H3,(Itl K a).yld i H2 x H3->g x (List.replicate k none++JaJ cs σ) H3 λσ4 H4=>tt σ4 H4 λb H5=>if b=true then te σ4 H5 λy H6=>∃ m',m'<m/\W (i+1) m' (ys++[y]) H6 else∃ m',m'<m/\W (i+1) m' ys H5)):=by
 show(λi m ys H2=>Pv i ys H2/\i<=xs.length/\m=xs.length-i,⟨_,h0,Nat.zero_le _,rfl⟩,?_);rintro i m ys H2 ⟨h,r,rfl⟩;let(d,l):=hl i ys H2 r h;show(l,?_);by_cases f:i<xs.length
 .show .inr ⟨⟨xs,xs[i],d,List.getElem?_eq_getElem f⟩,?_⟩;rintro x H3 ⟨rfl,n⟩;have w:∀(j:List V)(H5:Hp),Pv (i+1) j H5=∃ m',m'<xs.length-i/\Pv (i+1) j H5/\i+1<=xs.length/\m'=xs.length-(i+1):=λj H5=>
   propext ⟨λq=>⟨_,Nat.sub_lt_sub_left f (Nat.lt_succ_self i),q,f,rfl⟩,λζ=>by let(_,_,q,_):=ζ;show q⟩
  have o:(λ(y:V)(H6:Hp)=>Pv (i+1) (ys++[y]) H6)=λy H6=>∃ m',m'<xs.length-i/\Pv (i+1) (ys++[y]) H6/\i+1<=xs.length/\m'=xs.length-(i+1):=by
   funext y H6
   show w _ _
  have e:(λ(σ4:St)(H4:Hp)=>tt σ4 H4 λb H5=>if b=true then te σ4 H5 λy H6=>Pv (i+1) (ys++[y]) H6 else Pv (i+1) ys H5)=λσ4 H4=>tt σ4 H4 λb H5=>if b=true then te σ4 H5 λy H6=>∃ m',m'<xs.length-i/\Pv (i+1) (ys++[y]) H6/\i+1<=xs.length/\m'=xs.length-(i+1)else∃ m',m'<xs.length-i/\Pv (i+1) ys H5/\i+1<=xs.length/\m'=xs.length-(i+1):=by
   funext σ4 H4
   congr 1
   funext b H5
   by_cases c:b=true
   .rw[if_pos c,if_pos c, <- o]
   .rw[if_neg c,if_neg c];show w ys H5
  have:=hs i x ys _ (n xs d) h;rw[e]at this;show this
 .have e:i=xs.length:=by ac_nf
  subst e;show .inl ⟨⟨xs,d,Nat.le_refl _⟩,hd ys H2 h⟩
end L2
namespace Ch
open PySem
structure TD where
 nm:Str
 st:Str
 en:Str
 lo:Option (Int × Int)
 hi:Option (Int × Int)
structure SD where
 src:Str
 dst:Str
 c:Int × Int
 nm:Str
 fw:Bool
def fwd(t:TD):List SD:=match t.hi with
 | some h=>[⟨t.st,t.en,h,t.nm,true⟩]
 | none=>[]
def bwd(t:TD):List SD:=match t.lo with
 | some l=>[⟨t.en,t.st,(-l.1,l.2),t.nm,false⟩]
 | none=>[]
def steps(t:TD):List SD:=fwd t++bwd t
def all(ts:List TD):List SD:=ts.flatMap steps
abbrev Pr:=Str × Bool
def key(s:SD):Pr:=(s.nm,s.fw)
def lastA(acc:Option SD)(ss:List SD)(k:Pr):Option SD:=ss.foldl (λa s=>if key s=k then some s else a) acc
def last(ss:List SD)(k:Pr):Option SD:=lastA none ss k
theorem Jle{t:TD}{s:SD}(h:s∈steps t):s.nm=t.nm:=by
 unfold steps fwd bwd at h;rcases mem_append.mp h with h | h
 .split at h
  .simp at h;rw[h]
  .simp at h
 .split at h
  .simp at h;rw[h]
  .simp at h
def addF(a c:Int × Int):Int × Int:=(Mth.top (a.1*c.2+c.1*a.2) (a.2*c.2),Mth.bot (a.1*c.2+c.1*a.2) (a.2*c.2))
structure FOk(n:Nat)(a:Int × Int):Prop where
 s1:Mth.Sz n a.1
 s2:Mth.Sz n a.2
 b1:1<=a.2
 g1:Mth.g a.1 a.2=1
end Ch
namespace L2
open PySem PySem.Spec PyProof.Rows Ch
def isTF:HO->Bool
 | .tup _=>true
 | .frz _ _=>true
 | _=>false
def SameT(H H':Hp):Prop:=∀ b u,isTF u=true->H b=some u->H' b=some u
theorem SameT.refl(H:Hp):SameT H H:=λ_ _ _ h=>h
variable{H H1:Hp}
theorem SameT.trans{H2:Hp}(a:SameT H H1)(b:SameT H1 H2):SameT H H2:=λc o t h=>b c o t (a c o t h)
variable{H':Hp}
theorem Same.t(a:Same H H'):SameT H H':=λb u _ h=>a b u h
theorem SameT.put{l:Addr}{o o':HO}(e:upd H l o=H')(hl:H l=some o')(ht:isTF o'=false):SameT H H':=λb u t h=>by
 rw[<- e,Jai (ne_of h hl λq=>by rw[q,ht]at t;cases t)];show h
variable{xs:List V}
theorem SqT.sameT{K:W.Frag}{a:Addr}(e:SameT H H')(h:SqT K H a xs):SqT K H' a xs:=by
 rcases h with(h | ⟨o,h⟩) | h
 .show .inl (.inl (e _ _ rfl h))
 .show .inl (.inr ⟨o,e _ _ rfl h⟩)
 .show .inr h
variable{v:V}
theorem FrV.sameT{K:W.Frag}{a b:Int}(S:SameT H H')(h:FrV K H v a b):FrV K H' v a b:=by
 let(p,e,q):=h;show(p,e,q.sameT S)
def frD(a:Int × Int):D:=.tup [.int a.1, .int a.2]
def bD:Option (Int × Int)->D
 | none=>.non
 | some a=>frD a
def pD(s:SD):D:=.tup [.str s.src, .str s.dst,frD s.c, .bl s.fw]
def BV(K:W.Frag)(H:Hp):Option (Int × Int)->V->Prop
 | none,v=>v=.non
 | some a,v=>FrV K H v a.1 a.2
variable{o:Option (Int × Int)}
theorem BV.rep{K:W.Frag}(h:BV K H o v):Rep K H (bD o) v:=by
 cases o with
 | none=>simp only[bD,Rep];show h
 | some a=>show FrV.rep h
theorem BV.sameT{K:W.Frag}(S:SameT H H')(h:BV K H o v):BV K H' o v:=by
 cases o with
 | none=>show h
 | some a=>show FrV.sameT S h
def TV(K:W.Frag)(H:Hp)(t:TD)(x:V):Prop:=∃ b vl vg,x=.ref b/\SqT K H b [.str t.nm, .str t.st, .str t.en,vl,vg]/\BV K H t.lo vl/\BV K H t.hi vg
def PV(K:W.Frag)(H:Hp)(s:SD)(x:V):Prop:=∃ b v,x=.ref b/\SqT K H b [.str s.src, .str s.dst,v, .bl s.fw]/\FrV K H v s.c.1 s.c.2
def CV(H:Hp)(c:Pr)(x:V):Prop:=∃ b,x=.ref b/\H b=some (.tup [.str c.1, .bl c.2])
section
variable{K:W.Frag}{x:V}
theorem TV.sameT{t:TD}(S:SameT H H'):TV K H t x->TV K H' t x:=by rintro⟨b,vl,a,e,q,d,c⟩;show(b,vl,a,e,q.sameT S,d.sameT S,c.sameT S)
variable{s:SD}
theorem PV.sameT(S:SameT H H'):PV K H s x->PV K H' s x:=by rintro⟨b,v,e,q,h⟩;show(b,v,e,q.sameT S,h.sameT S)
variable{c:Pr}
theorem CV.sameT(S:SameT H H'):CV H c x->CV H' c x:=λζ=>by let(b,e,q):=ζ;show(b,e,S _ _ rfl q)
end
variable{α:Type}
def All2(P : α->V->Prop):List α->List V->Prop
 | [],xs=>xs=[]
 | a::as,xs=>∃ x r,xs=x::r/\P a x/\All2 P as r
section
variable{P P' : α->V->Prop}
theorem All2.mono:∀{as:List α}{xs:List V},(∀ a x,P a x->P' a x)->All2 P as xs->All2 P' as xs
 | [],_,_,h=>h
 | a::as,xs,f,h=>by
  let(x,r,e,h1,h2):=h;show(x,r,e,f _ _ h1,All2.mono f h2)
theorem All2.length:∀{as:List α}{xs:List V},All2 P as xs->xs.length=as.length
 | [],_,h=>by rw[show _=_ from h];rfl
 | a::as,xs,h=>by
  let(x,r,e,h1,h2):=h;rw[e,length_cons,length_cons,h2.length]
theorem All2.at_:∀{as:List α}{xs:List V}{i:Nat}{x:V},All2 P as xs->xs[i]?=some x->∃ a,as[i]?=some a/\P a x
 | [],_,_,_,h,hx=>by rw[show _=_ from h]at hx;simp at hx
 | a::as,xs,i,y,h,hx=>by
  let(x,r,e,h1,h2):=h;subst e;cases i with
  | zero=>simp at hx;subst hx;show(a,rfl,h1)
  | succ i=>simpa using All2.at_ h2 (by simpa using hx)
theorem All2.append:∀{as bs:List α}{xs ys:List V},All2 P as xs->All2 P bs ys->All2 P (as++bs) (xs++ys)
 | [],bs,xs,ys,h,g=>by rw[show xs=[]from h];show g
 | a::as,bs,xs,ys,h,g=>by
  let(x,r,e,h1,h2):=h;subst e;show(x,r++ys,rfl,h1,All2.append h2 g)
theorem All2.one{a : α}{x:V}(h:P a x):All2 P [a] [x]:=⟨x,[],rfl,h,rfl⟩
end
structure TOk(t:TD):Prop where
 n1:nameS t.nm=true
 n2:nameS t.st=true
 n3:nameS t.en=true
 ne:t.st≠t.en
 lo:∀ a,t.lo=some a->FOk 600 a
 hi:∀ a,t.hi=some a->FOk 600 a
 le:lessD (bD t.hi) (bD t.lo)=false
variable{z:Str}
theorem len8(h:nameS z=true):z.length<=8:=by
 unfold nameS at h;simp only[Bool.and_eq_true,decide_eq_true_eq]at h;show h.1.2
theorem bD_ok(h:∀ a,o=some a->FOk 600 a):Jjq (bD o)=true/\szD (bD o):=by
 cases o with
 | none=>show(rfl,by simp only[bD,szD])
 | some a=>
  have k:=h a rfl;show(by simp[bD,frD,Jjq,fracB,k.b1,k.g1],?_);simp only[bD,frD,szD,szL];show(k.s1.mono ⋯,k.s2.mono ⋯,trivial)
section
variable{kvs:List (List Key × V)}{ss:List SD}{K:W.Frag}
end
def CompJ(J:It)(k:Nat)(cs:List (Nat × Str))(g:TG)(te:TE)(σ : St)(Q:VK)(H1:Hp):Prop:=∃ W:Nat->Nat->List V->Hp->Prop,(∃ m,W 0 m [] H1)/\∀ i m ys H2,W i m ys H2->ys.length<=sizeLine /\
  ((J.stop i H2/\∀ p,H2 p=none->Q (.ref p) (upd H2 p (.lst ys))) \/
   (J.go i H2/\∀ x H3,J.yld i H2 x H3->g x (List.replicate k none++JaJ cs σ) H3 λσ4 H4=>te σ4 H4 λy H5=>∃ m',m'<m/\W (i+1) m' (ys++[y]) H5))
section
variable{tt:TT}{te tl:TE}{σ:St}{Q:VK}{a:Addr}{K:W.Frag}{k:Nat}{cs:List (Nat × Str)}{g:TG}
theorem y35y:tComp k cs (iAny K tl) g te σ H Q=tl σ H λx H1=>∃ a,x=.ref a/\(((∃ xs,SqL K H1 a xs)/\CompJ (Itl K a) k cs g te σ Q H1)\/((∃ xs,SqT K H1 a xs)/\CompJ (Itt K a) k cs g te σ Q H1)):=rfl
theorem CompJ.list(Pv:Nat->List V->Hp->Prop)(h0:Pv 0 [] H1)(hl:∀ i ys H',i<=xs.length->Pv i ys H'->SqL K H' a xs/\ys.length<=sizeLine)
  (hs:∀ i x ys H2,xs[i]?=some x->Pv i ys H2->g x (List.replicate k none++JaJ cs σ) H2 λσ4 H4=>te σ4 H4 λy H5=>Pv (i+1) (ys++[y]) H5) (hd:∀ ys H2,Pv xs.length ys H2->∀ p,H2 p=none->Q (.ref p) (upd H2 p (.lst ys))) :
  CompJ (Itl K a) k cs g te σ Q H1:=Jnu (tt:=tYes) Pv h0 hl hs hd
end
def faceL:List Str:=[Str.ofString "p",Str.ofString "pa",Str.ofString "pab",Str.ofString "qab",Str.ofString "qa",Str.ofString "apab"]
theorem Jip:∀ z∈faceL,nameS z=true:=by decide
theorem Jk1:∀ j,j<6->∀ k,k<6->faceL[j]?=faceL[k]?->j=k:=by decide
variable{j:Nat}
theorem Jk0{k:Nat}(h:faceL[j]?=some z)(g:faceL[k]?=some z):j=k :=
 Jk1 j (List.getElem?_eq_some_iff.mp h).1 k (List.getElem?_eq_some_iff.mp g).1 (h.trans g.symm)
theorem Jk2{x f:Int}(h0:0<=x)(h1:x<2*f):x.fmod f=x\/x.fmod f=x-f:=by
 rw[Int.fmod_eq_emod_of_nonneg _ ∅];by_cases c:x<f
 .show .inl (Int.emod_eq_of_lt h0 c)
 .show .inr ?_;have e:(x-f+f) % f=(x-f) % f:=by simp
  rw[Int.sub_add_cancel]at e;rw[e,Int.emod_eq_of_lt ∅ ∅]
section
variable{ss:List SD}{c:Pr}{s:SD}{tot:Int × Int}{l:Str}{cs:List Pr}{f:Str}
end
variable{n:Nat}
theorem Jin{f : α->D}(h:∀ a,depD (f a)<=n):∀ as:List α,depL (as.map f)<=n
 | []=>by simp[depL]
 | a::as=>by
  rw[map_cons,depL];show Nat.max_le.mpr ⟨h a,Jin h as⟩
section
variable{Q:VK}{K:W.Frag}
end
theorem Jh1(t:SetTable)(es:Array (Int × Value))(n:Nat)(hp:t.plain=false):(relayAll t es n).2.1.plain=false:=by
 unfold relayAll;split
 .rename_i c a e;have b:c.plain=false:=by
   unfold SetTable.relaid at e;unfold SetTable.laid at e;cases hl:SetTable.layClean (SetTable.sizeAbove n-1) (es.map (·.1))with
   | none=>rw[hl]at e;cases e
   | some ow=>
    rw[hl]at e;simp only[Option.bind_eq_bind,Option.bind_some,Option.pure_def,Option.some.injEq,Prod.mk.injEq]at e;rw[<- e.1];show hp
  dsimp only;split
  .show b
  .rfl
 .rfl
theorem Jic(t:SetTable)(n:Nat):(t.orStandIn n).led=t.led:=by
 unfold SetTable.orStandIn;split <;> rfl
theorem Ji1(t:SetTable)(es:Array (Int × Value))(h:Int)(x:Value):(layNew t es h x).2.1.led=t.led:=by
 unfold layNew;split
 .show Jic _ _
 .rfl
theorem Jks(t:SetTable)(es:Array (Int × Value))(n:Nat):(relayAll t es n).2.1.led=t.led:=by
 unfold relayAll;split
 .rename_i c a e;have b:c.led=t.led:=by
   unfold SetTable.relaid at e;unfold SetTable.laid at e;cases hl:SetTable.layClean (SetTable.sizeAbove n-1) (es.map (·.1))with
   | none=>rw[hl]at e;cases e
   | some ow=>
    rw[hl]at e;simp only[Option.bind_eq_bind,Option.bind_some,Option.pure_def,Option.some.injEq,Prod.mk.injEq]at e;rw[<- e.1]
  dsimp only;split
  .show b
  .rfl
 .rfl
section
variable{prog:Program}{A:Around}{E:Value->Shared->Prop}{s:Shared}{w:World}
def SetS(prog:Program)(w:World)(h:Heap)(a:Addr)(ks:List Str):Prop :=
 ∃ es ep t,h.get? a=some { cls:=.type "set",dict:=none,data:=.set es ep t,slots:=#[] }/\ElemsOf (strKind prog w) es.toList /\
  (es.toList.map λe=>strOf e.2).Perm ks/\ks.length<scanBound/\t.fits es.size=true/\(ks≠[]->t.plain=false)/\(w.params.followText "set-order"=false->t.led=true)
variable{v:Value}
theorem Jhh{k:Str}(h:(strKind prog w).is k v=true):strOf v=k:=by
 let(t,rfl):=Value.isStrOf_shape h;rfl
variable{h:Heap}{a:Addr}{es:Array (Int × Value)}{ep:Nat}
theorem stored{es':Array (Int × Value)}{t t':SetTable}(ho:h.get? a=some { cls:=.type "set",dict:=none,data:=.set es ep t,slots:=#[] }) :
  (h.update a (Obj.putSet es' t')).get? a=some { cls:=.type "set",dict:=none,data:=.set es' (ep+1) t',slots:=#[] }:=by
 have e:=Heap.get?_update_self (Obj.putSet es' t') ho (by rw[putSet_of es' t' rfl];rfl);rw[e,putSet_of es' t' rfl]
variable{ks:List Str}
theorem Jnc{tk:Tok}{Q:Bool->Shared->Prop}(hS:SetS prog w s.heap a ks)(hr:ks.length+1<scanBound)
  (q:∀ h' b,Heap.SameBut a s.heap h'->SetS prog w h' a (if z∈ks then ks else ks++[z])->Q b { s with heap:=h' }) :
  wpAny (model prog w) A (setAddHashed a (.str z tk) ((strKind prog w).hash z)) Q E s:=by
 let(l,ep,t,B,g,G,hb,O,T,u):=hS;have W:(strKind prog w).is z (.str z tk)=true:=by show Value.isStrOf z (.str z tk)=true;simp[Value.isStrOf]
 have sz:l.size=ks.length:=by rw[<- G.length_eq,length_map,Array.length_toList]
 unfold setAddHashed;unfold setAddHashedIn;show wpAny_holding (wpAny_bind (wpAny_setState_of B rfl O ?_));dsimp only;rw[byScan_of (knd:=strKind prog w) (x:=.str z tk) rfl ∅ g];rw[if_pos rfl];unfold setAddByScan;show wpAny_bind (wpAny_bind (wpAny_rule (wpAny_bind (wpAny_setScan_of (knd:=strKind prog w) W B rfl O g ?_))));have K:∀ e∈l.toList,((strKind prog w).is z e.2=true↔strOf e.2=z):=λe M=>by
  let((k,D,_),_):=g e M;constructor
  .show Jhh
  .intro Z;rw[Jhh D]at Z;rw[<- Z];show D
 cases fi:l.toList.findIdx? (λe=>(strKind prog w).is z e.2)with
 | some j=>
  dsimp only;let(X,pj,_):=List.findIdx?_eq_some_iff_getElem.mp fi;have C:z∈ks:=G.mem_iff.mp (mem_map.mpr ⟨_,List.getElem_mem X,(K _ (List.getElem_mem X)).mp pj⟩);show wpAny_pure (wpAny_pure ?_);have:=q s.heap false (Heap.SameBut.refl a s.heap) (by rw[if_pos C];show(l,ep,t,B,g,G,hb,O,T,u));cases s;show this
 | none=>
  dsimp only;have C:¬ z∈ks:=λC=>by
   let(e,M,ez):=mem_map.mp (G.mem_iff.mpr C);have D:=List.findIdx?_eq_none_iff.mp fi e M;rw[(K e M).mpr ez]at D;cases D
  have F:=layNew_perm t l ((strKind prog w).hash z) (.str z tk);have N:=Ji1 t l ((strKind prog w).hash z) (.str z tk);have L:=layNew_fits t l ((strKind prog w).hash z) (.str z tk);generalize layNew t l ((strKind prog w).hash z) (.str z tk)=LL at F L N ⊢;let(c,t1,wd,gv):=LL;dsimp only at F L N ⊢;rw[Array.toList_push]at F;have i:ElemsOf (strKind prog w) c.toList:=(g.push W rfl).perm F;have o:(c.toList.map λe=>strOf e.2).Perm (ks++[z]):=by
   show(F.map _).trans ?_;rw[map_append];show G.append (.refl _)
  have a0:c.size=ks.length+1:=by
   rw[<- Array.length_toList, <- length_map (f:=λe:Int × Value=>strOf e.2),o.length_eq];simp
  have y:∀(d:SetTable),d.plain=false->d.led=t.led->d.fits c.size=true->wpAny (model prog w) A (do
    storeSet a c d
    if(!wd&&d.tooFull)=true then do
      (match(relayAll d c (SetTable.grown c.size)).2.2 with | true=>rule "set.scan.the-table-gave-way" | false=>pure ())
      storeSet a (relayAll d c (SetTable.grown c.size)).1 (relayAll d c (SetTable.grown c.size)).2.1
      pure (some true)
     else pure (some true)) (λr n=>∃ h',Heap.SameBut a s.heap h'/\SetS prog w h' a (ks++[z])/\r=some true/\n={ s with heap:=h' }) E s:=λd p2 l2 f2=>by
   show wpAny_bind (wpAny_storeSet_of B rfl ?_ (fits_of_scanBound ∅));have m:=stored (es':=c) (t':=d) B;have J:=Heap.SameBut.update s.heap a (Obj.putSet c d);split
   .have v:=relayAll_perm d c (SetTable.grown c.size);have V:=relayAll_fits d c (SetTable.grown c.size);have R:=Jh1 d c (SetTable.grown c.size) p2;have P:=Jks d c (SetTable.grown c.size);generalize relayAll d c (SetTable.grown c.size)=RR at v V R P ⊢;let(p,Y,U):=RR;dsimp only at v V R P ⊢;have a1:p.size=c.size:=by rw[<- Array.length_toList,v.length_eq,Array.length_toList]
    show wpAny_bind ?_;have I:wpAny (model prog w) A (do storeSet a p Y;pure (some true)) (λr n=>∃ h',Heap.SameBut a s.heap h'/\SetS prog w h' a (ks++[z])/\r=some true/\n={ s with heap:=h' }) E { s with heap:=s.heap.update a (Obj.putSet c d) }:=by
     show wpAny_bind (wpAny_storeSet_of m rfl (wpAny_pure ⟨_,J.trans (Heap.SameBut.update _ a _),⟨p,_,Y,stored m,i.perm v,(v.map _).trans o,by simpa using hr,V,λ_=>R,λz=>(P.trans l2).trans (u z)⟩,rfl,rfl⟩) (fits_of_scanBound ∅))
    cases U
    .show wpAny_pure I
    .show wpAny_rule I
   .show wpAny_pure ⟨_,J,⟨c,_,d,m,i,o,by simpa using hr,f2,λ_=>p2,λz=>l2.trans (u z)⟩,rfl,rfl⟩
  have H:∀ r n,(∃ h',Heap.SameBut a s.heap h'/\SetS prog w h' a (ks++[z])/\r=some true/\n={ s with heap:=h' })->wpAny (model prog w) A (match r with | some b=>pure b | none=>setAddHashedIn a (.str z tk) ((strKind prog w).hash z) 99999) Q E n:=by
   rintro r n ⟨h',sb,S,rfl,rfl⟩;show wpAny_pure (q h' true sb (by rw[if_neg C];show S))
  show wpAny_bind ?_;have gw:∀(b:Bool){Q':Unit->Shared->Prop},Q' () s->wpAny (model prog w) A (match b with | true=>rule "set.scan.the-table-gave-way" | false=>pure ()) Q' E s:=λb Q' h=>by
   cases b
   .show wpAny_pure h
   .show wpAny_rule h
  show gw gv ?_;split
  .show wpAny_bind ?_;rw[hashByValue_scannable 8 (x:=.str z tk) rfl];show wpAny_pure ?_;show wpAny_mono (y { t1 with plain:=false } rfl N (SetTable.fits_plain_off L)) H λ_ _ e=>e
  .rename_i np;show wpAny_bind (wpAny_pure ?_);show wpAny_mono (y t1 (by simpa using np) N L) H λ_ _ e=>e
end
def addS(l:List Str)(z:Str):List Str:=if z∈l then l else l++[z]
def met(val:Nat->Str)(i:Nat):List Str:=((List.range i).map val).foldl addS []
theorem JeH(val:Nat->Str)(i:Nat):met val (i+1)=addS (met val i) (val i):=by
 unfold met;rw[List.range_succ,map_append,foldl_append];rfl
theorem JhE(val:Nat->Str):∀ i,(met val i).length<=i
 | 0=>Nat.le_refl _
 | i+1=>by
  have:=JhE val i;rw[JeH];unfold addS;split <;> simp <;> ac_nf
theorem JiB(val:Nat->Str):∀ i,(met val i).Nodup
 | 0=>List.nodup_nil
 | i+1=>by
  have:=JiB val i;rw[JeH];unfold addS;split
  .show this
  .rename_i h;rw[nodup_append];show(this,by simp,λa ha b hb=>?_);rw[mem_singleton.mp hb];showλe=>h (e ▸ ha)
theorem Jj4(val:Nat->Str)(z:Str):∀ i,z∈met val i↔∃ j,j<i/\val j=z
 | 0=>by simp[met]
 | i+1=>by
  have ih:=Jj4 val z i;rw[JeH];have e:z∈addS (met val i) (val i)↔z∈met val i\/z=val i:=by
   unfold addS;split
   .rename_i h;constructor
    .show .inl
    .rintro(h' | rfl)
     .show h'
     .show h
   .simp
  rw[e,ih];constructor
  .rintro(⟨j,hj,h⟩ | rfl)
   .show(j,by ac_nf,h)
   .show(i,by ac_nf,rfl)
  .rintro⟨j,hj,rfl⟩;by_cases c:j<i
   .show .inl ⟨j,c,rfl⟩
   .have : j=i:=by ac_nf
    subst this;show .inr rfl
section
variable{prog:Program}{A:Around}{E:Value->Shared->Prop}{s:Shared}{w:World}
theorem JnA{t:Tok}:(PySem.strKind prog w).is z (.str z t)=true:=by
 show Value.isStrOf z (.str z t)=true;simp[Value.isStrOf]
variable{h h':Heap}{a:Addr}{ks:List Str}
theorem SetS.at_(x:SetS prog w h a ks)(k:∀ o,h.get? a=some o->h'.get? a=some o):SetS prog w h' a ks:=by
 let(c,d,t,b,r):=x;show(c,d,t,k _ b,r)
variable{R:Result->Shared->Prop}{I:Addr}{fp wr:List Addr}{G:Array GenState->Array GenState->Prop}
theorem Jlz{P:Nat->Value->Prop}{St:Nat->Shared->Prop}
  (W:WalksS prog w A.in1 I fp wr G n P St) (S:Addr) (hSf:S∉fp) (val:Nat->Str) (hval:∀ i v,P i v->∃ t,v=.str (val i) t) (hb:n+1<scanBound) :
  ∀(k i:Nat)(s:Shared),n-i=k->i<=n->St i s->SetS prog w s.heap S (met val i)->(∀ s',Moved (S::wr) G s s'->SetS prog w s'.heap S (met val n)->R (.ok (.ret .none)) s') ->
   codeAny (model prog w) A (.builtin "set.update.loop" ⟨[.ref S, .ref I],[]⟩) R s:=by
 have y:S∉wr:=λh=>hSf (W.sub _ h);have u:∀ b∈wr,b∈S::wr:=λb h=>mem_cons_of_mem _ h;intro k;induction k with
 | zero=>
  intro i s C H j p q;have : i=n:=by ac_nf
  subst this;show codeAny_builtin (PyProof.Rows.F.entry_set_update_loop) ?_;rw[Around.under_plainId (PyProof.Rows.F.plain_set_update_loop) _];show wpAny_bind (m:=pyNext (.ref I)) (W.done s _ _ j λs' a=>?_);show wpAny_pure (q s' (a.mono u) (p.at_ λo e=>a.heap S o y e))
 | succ k ih=>
  intro i s C H j p q;have c:i<n:=by ac_nf
  show codeAny_builtin (PyProof.Rows.F.entry_set_update_loop) ?_;rw[Around.under_plainId (PyProof.Rows.F.plain_set_update_loop) _];show wpAny_bind (m:=pyNext (.ref I)) (W.item i s _ _ c j λv s' z f a=>?_);let(t,rfl):=hval i v z;have g:SetS prog w s'.heap S (met val i):=p.at_ λo e=>a.heap S o y e;have J:=JhE val i;show wpAny_bind (m:=holding [Value.str (val i) t] (setAdd S (.str (val i) t))) (wpAny_holding ?_);unfold setAdd;show wpAny_holding (wpAny_bind ((strKind prog w).pyHash (k:=val i) JnA ?_));show Jnc (s:={ s' with toks:=s'.toks+1 }) g ∅ λE b x d=>?_;have r:SetS prog w E S (met val (i+1)):=by
   rw[JeH];show d
  show wpAny_pure ⟨plainId_quiet (PyProof.Rows.F.plain_set_update_loop) _,ih (i+1) _ ∅ c (W.frame _ s' _ _ f (Nat.le_succ _) λb hb o e=>?_) r λB D l=>?_⟩
  .rw[x.2 b (λh:b=S=>hSf (h ▸ hb))];show e
  .show q B (Moved.trans W.gtrans ((a.mono u).then_heap (Nat.le_succ _) λb o hb e=>?_) D) l;rw[x.2 b (λh:b=S=>hb (by rw[h];show mem_cons_self))];show e
end
section
variable{prog:Program}{A:Around}{E:Value->Shared->Prop}{s:Shared}{w:World}
theorem JkA:∀{vs:List Value}{ss:List Str},StrsAre vs ss->∀(i:Nat)(v:Value),vs[i]?=some v->∃ t,v=.str (ss.getD i ⟨#[]⟩) t
 | _,_, .nil,i,v,h=>by simp at h
 | _,_, .cons n t r,0,v,h=>by
  simp at h;show(t,by rw[<- h];rfl)
 | _,_, .cons n t r,i+1,v,h=>by
  rw[List.getElem?_cons_succ]at h;let(t',e):=JkA r i v h;show(t',by rw[e];rfl)
theorem Jh9(a:Value){Q₁ : Value->Shared->Prop}
  (h:∀ led:Bool,(w.params.followText "set-order"=false->led=true)->Q₁ (.ref s.heap.objs.size) { s with heap:=s.heap.push { cls:=.type "set",dict:=none,data:=.set #[] 0 (.fresh 0 0 led) } }) :
  codeAny (model prog w) A (.call (.builtin "set.__new__") ⟨[.type "set",a],[]⟩) (wants Q₁ E) s:=by
 show codeAny_of_tree ?_;show wpAny _ A.in1 (do checkBuiltinCall "set.__new__" ⟨[.type "set",a],[]⟩;again (.builtin "set.__new__" ⟨[.type "set",a],[]⟩)) _ _ s;show wpAny_bind (wpAny_of_eq (F.newCall_set_1 a) (wpAny_pure ⟨plainId_quiet F.plain_set_new _,codeAny_builtin F.entry_set_new ?_⟩));rw[Around.under_plainId F.plain_set_new _];unfold Builtin.«set.__new__» Builtin.Frozenset.newClass;have b:=sub_set_self;let(c,g,d,e,f):=s;dsimp only
 wp_walk
 show wpAny_askSetting (wpAny_pure ?_);dsimp only;simp only[newObj];show wpAny_bind (wpAny_alloc (wpAny_pure ?_));show wpAny_pure (h _ (λz=>by simp;show z))
abbrev set0(led:Bool):Obj:={ cls:=.type "set",dict:=none,data:=.set #[] 0 (.fresh 0 0 led) }
variable{l:Addr}{items:Array Value}{ss:List Str}{R:Result->Shared->Prop}
theorem Jly{led:Bool}(hld:w.params.followText "set-order"=false->led=true)(hh:A.handled=none)(hl:s.heap.IsList l items)(hi:StrsAre items.toList ss)(hb:items.size+1<scanBound)
  (q:∀ h' tk,SetS prog w h' s.heap.objs.size (met (λi=>ss.getD i ⟨#[]⟩) items.size)->(∀ b o,s.heap.get? b=some o->h'.get? b=some o)->s.toks<=tk->R (.ok (.ret .none)) { s with heap:=h',toks:=tk }) :
  wpAny (model prog w) A.in1.in1 (Builtin.«set.__init__» ⟨[.ref s.heap.objs.size, .ref l],[]⟩) (λfin s'=>match fin with | .done f=>R (.ok f) s' | .again c'=>c'.quiet=true/\codeAny (model prog w) A.in1 c' R s') (λe s'=>R (.error e) s') { s with heap:=s.heap.push (set0 led) }:=by
 have I:(s.heap.push (set0 led)).get? s.heap.objs.size=some (set0 led):=Heap.get?_push_size _ rfl;have y:l<s.heap.objs.size:=by let(o,J,_):=hl;show Heap.lt_size J
 have a:(s.heap.push (set0 led)).IsList l items:=hl.push _;have V:=F.sub_list_set;have T:=F.sub_list_frozenset;let(N,P,d,U,h):=id a;let(B,p,n,j):=N;simp only at d h;subst d;subst h;have M:(Value.type "list" == Value.type "dict")=false:=by decide
 unfold Builtin.«set.__init__»;unfold noKeywords;unfold Builtin.Frozenset.updateFrom;generalize t:pyIter=PI
 wp_walk
 subst t;show wpAny_pyIter_list a ?_;show wpAny_bind (wpAny_runValue ?_);have K:A.in1.in1.in1.handled=none:=by simp[hh]
 have r:(s.heap.push (set0 led)).objs.size=s.heap.objs.size+1:=Heap.size_push ..;have E:l≠(s.heap.push (set0 led)).objs.size:=by
  rw[r];show Nat.ne_of_lt (Nat.lt_succ_of_lt y)
 have O:s.heap.objs.size∉[(s.heap.push (set0 led)).objs.size,l]:=by
  rw[r];simp only[mem_cons,not_mem_nil,or_false,not_or];show(Nat.ne_of_lt (Nat.lt_succ_self _),Nat.ne_of_gt y)
 show Jlz ((Walks.list K _ l E items).toS) s.heap.objs.size O (λi=>ss.getD i ⟨#[]⟩) (λi v H=>JkA hi i v (by rw[Array.getElem?_toList];show H)) hb (items.size-0) 0 _ ∅ (Nat.zero_le _) ⟨⟨_,Heap.get?_push_size _ rfl,rfl,rfl⟩,a.push _⟩ ?_ ?_
 .have g:((s.heap.push (set0 led)).push { cls:=.type "list_iterator",data:=.fields #[.ref l, .int 0 0] }).get? s.heap.objs.size=some (set0 led):=Heap.get?_push_of_some _ I;show(#[],0,_,g,λe D=>by simp at D,by show List.Perm [] _;show .refl _,(show(0:Nat)<scanBound by decide),by rfl,λz=>absurd rfl z,hld)
 .intro s' c m;let(h',G,Q,u,k):=s';have L:G=s.gens:=c.gens;have S:Q=s.drawn:=c.drawn;have C:k=s.os:=c.os;subst L;subst S;subst C;show wpAny_pure ?_;show wpAny_pure ?_;show q h' u m (λb o e=>?_) c.toks;have x:=Heap.lt_size e;show c.heap b o (by rw[r];simp only[mem_cons,not_mem_nil,or_false,not_or];show(Nat.ne_of_lt x,Nat.ne_of_lt (Nat.lt_succ_of_lt x))) (Heap.get?_push_of_some _ (Heap.get?_push_of_some _ e))
theorem Jfi{Q:Value->Shared->Prop}(hh:A.handled=none)(hl:s.heap.IsList l items)(hi:StrsAre items.toList ss)(hb:items.size+1<scanBound)
  (q:∀ h' tk,SetS prog w h' s.heap.objs.size (met (λi=>ss.getD i ⟨#[]⟩) items.size)->(∀ b o,s.heap.get? b=some o->h'.get? b=some o)->s.toks<=tk->Q (.ref s.heap.objs.size) { s with heap:=h',toks:=tk }) :
  wpAny (model prog w) A (call (.type "set") [.ref l]) Q E s:=by
 let(D,t,I):=F.called_set.mro;have C:=F.called_set.made;have B:=F.called_set.sub;have z:=F.called_set.notType;have y:=F.called_set.canCreate;have G:=F.typeCall_set_1 (.ref l);show(wpAny_call (codeAny_of_tree ?_));show wpAny (model prog w) _ (callAny (.type "set") _) _ _ _;show wpAny_pure ⟨Code.quiet_builtin _ (by decide +kernel),codeAny_builtin (F.entry_type_call) ?_⟩;rw[Around.under_plain (weight_type_call_type "set" ([.ref l]) []) rfl];repeat (any_goals (first | assumption | wp_step))
 show codeAny_mono (Jh9 (.ref l) (E:=E) (Q₁:=λh m=>∃ d:Bool,(w.params.followText "set-order"=false->d=true)/\h=.ref s.heap.objs.size/\m={ s with heap:=s.heap.push (set0 d) }) λd g=>⟨d,g,rfl,rfl⟩) λr m j=>?_;cases r with
 | error e=>show j
 | ok fl=>
  cases fl with
  | ret h=>
   let(d,g,rfl,rfl):=j;have n:(s.heap.push (set0 d)).get? s.heap.objs.size=some (set0 d):=Heap.get?_push_size _ rfl;have p:Shared.TypeIs { s with heap:=s.heap.push (set0 d) } (.ref s.heap.objs.size) "set":=⟨_,n,rfl⟩;have x:=F.called_set.init.lookup;have H:=F.called_set.init.bind (.ref s.heap.objs.size);repeat (any_goals (first | assumption | wp_step))
   show codeAny_mono (codeAny_call_builtin (R:=wants (λr k=>r=.none/\Q (.ref s.heap.objs.size) k) E) F.called_set.init.plain F.entry_set_init (check_set_init_1 p ?_)) λu k f=>?_
   .show Jly g hh hl hi hb λh' tk a b c=>⟨rfl,q h' tk a b c⟩
   .cases u with
    | error e=>show f
    | ok f2=>
     cases f2 with
     | ret r=>
      let(rfl,v):=f;repeat (any_goals (first | assumption | wp_step))
     | _=>show f.elim
  | _=>show j.elim
end
theorem JbL:Slot "set_iterator" "__next__" "set_iterator.__next__":=.of (owner:="set_iterator") (n:="__next__") (by rw[typeLookup_type,builtinLookup_eq_fast];kernel_rfl) (by decide +kernel) (by decide +kernel) (by decide +kernel) (by first | show .inl (by decide +kernel) | show .inr (by decide +kernel)) (by rw[isSubtype_type];kernel_rfl)
theorem JdL:entryFor table "set_iterator.__next__"=some Builtin.«set_iterator.__next__»:=entryFor_of_tree (by kernel_rfl)
theorem JeM(a:Value):argsOk "set_iterator.__next__" ⟨[a],[]⟩:=by unfold argsOk;kernel_rfl
theorem Jkz:Slot "set_iterator" "__iter__" "set_iterator.__iter__":=.of (owner:="set_iterator") (n:="__iter__") (by rw[typeLookup_type,builtinLookup_eq_fast];kernel_rfl) (by decide +kernel) (by decide +kernel) (by decide +kernel) (by first | show .inl (by decide +kernel) | show .inr (by decide +kernel)) (by rw[isSubtype_type];kernel_rfl)
theorem Jmn(a:Value):argsOk "set_iterator.__iter__" ⟨[a],[]⟩:=by unfold argsOk;kernel_rfl
theorem JgG:entryFor table "set.__iter__"=some Builtin.«frozenset.__iter__»:=entryFor_alias (id':="frozenset.__iter__") (by kernel_rfl) rfl (by decide +kernel) (by kernel_rfl)
theorem Jeb:∀{l:List α}{i:Nat}(h:i<l.length),(l[i]::l.eraseIdx i).Perm l
 | x::l,0,h=>.refl _
 | x::l,i+1,h=>(List.Perm.swap _ _ _).trans ((Jeb (l:=l) (i:=i) (by simpa using h)).cons x)
variable{M:Model}{A:Around}{E:Value->Shared->Prop}{s:Shared}
theorem JkQ{src:Source}{Q:Nat->Shared->Prop}(hn:n≠0)(h:∀ i,i<n->Q i { s with drawn:=s.drawn.bump src }):wpAny M A (choose src n) Q E s :=
 λΓ p _=>⟨hn,h _ (Nat.mod_lt _ (Nat.pos_of_ne_zero hn))⟩
theorem JfF:∀(n:Nat)(xs:List α)(s:Shared)(Q:List α->Shared->Prop),xs.length=n->(∀ ys d,ys.Perm xs->Q ys { s with drawn:=d })->wpAny M A (drawOrder n xs) Q E s
 | 0,xs,s,Q,hl,q=>by
  have : xs=[]:=eq_nil_of_length_eq_zero hl;subst this;show wpAny_pure (q [] s.drawn (.refl _))
 | n+1,[],s,Q,hl,q=>by simp at hl
 | n+1,x::xs,s,Q,hl,q=>by
  unfold drawOrder;show wpAny_bind (JkQ (by simp) λi hi=>?_);rw[List.getElem?_eq_getElem hi];show wpAny_bind (JfF n _ _ _ (by rw[List.length_eraseIdx_of_lt hi];ac_nf) λys d hp=>?_);show wpAny_pure (q _ d ((hp.cons _).trans (Jeb hi)))
theorem Jkl(next:Nat->Nat):∀(n k:Nat)(l:List α)(out:Array α),l.length=n->(pickOrder.go next n k l out).toList.Perm (out.toList++l)
 | 0,k,l,out,hl=>by
  have : l=[]:=eq_nil_of_length_eq_zero hl;subst this;unfold pickOrder.go;simp
 | n+1,k,l,out,hl=>by
  unfold pickOrder.go;have hi:next k % l.length<l.length:=Nat.mod_lt _ ∅;rw[List.getElem?_eq_getElem hi];dsimp only;show(Jkl next n (k+1) _ _ (by rw[List.length_eraseIdx_of_lt hi];ac_nf)).trans ?_;rw[Array.toList_push,List.append_assoc];show(List.Perm.refl _).append (Jeb hi)
theorem JdT(next:Nat->Nat)(xs:Array α):(pickOrder next xs).toList.Perm xs.toList:=by
 have:=Jkl next xs.size 0 xs.toList #[] (by simp);simpa[pickOrder]using this
section
variable{prog:Program}{w:World}
def setO(es:Array (Int × Value))(ep:Nat)(t:SetTable):Obj:={ cls:=.type "set",dict:=none,data:=.set es ep t,slots:=#[] }
def itO(f:Value)(i:Nat)(a:Addr)(n ep:Nat):Obj:={ cls:=.type "set_iterator",data:=.fields #[f, .int i 0, .ref a, .int n 0, .int ep 0] }
theorem Jd7{Q:Bool->Shared->Prop}(h:Q (w.params.followText "set-order") s):wpAny (model prog w) A setsByText Q E s:=by
 unfold setsByText;show wpAny_bind (wpAny_askSetting (wpAny_pure h))
variable{a:Addr}{es:Array (Int × Value)}{ep:Nat}
theorem Jhk{t:SetTable}{Q:Array (Int × Value)->Shared->Prop}(ha:s.heap.get? a=some (setO es ep t))(hf:t.fits es.size=true)(ht:w.params.followText "set-order"=true)
  (q:Q (pickOrder (w.params.setOrder a ep) es) s):wpAny (model prog w) A (setWalk a) Q E s:=by
 unfold setWalk;show wpAny_bind (wpAny_setState_of ha rfl hf ?_);dsimp only;show wpAny_bind (Jd7 ?_);rw[if_pos ht];show wpAny_bind (wpAny_askSetting (wpAny_pure q))
variable{h:Heap}{I:Addr}{i:Nat}
theorem Jiv{f f':Value}{g:Array Value->Array Value}(hI:h.get? I=some (itO f i a n ep))(hg:g #[f, .int i 0, .ref a, .int n 0, .int ep 0]=#[f', .int j 0, .ref a, .int n 0, .int ep 0]) :
  (h.update I (Obj.mapFields g)).get? I=some (itO f' j a n ep):=by
 have e:=Heap.get?_update_self (Obj.mapFields g) hI (Obj.isFreed_of_fields (Obj.data_mapFields (o:=itO f i a n ep) rfl _));rw[e];unfold itO;simp only[Obj.mapFields,hg]
variable{Q:Option Value->Shared->Prop}
theorem Jid{P:PySem.Fin->Shared->Prop}(hh:A.handled=none)(q:∀ h',(∀ b o,s.heap.get? b=some o->h'.get? b=some o)->Q none { s with heap:=h' }) :
  wpAny (model prog w) A.in1 (do let x <- newExc (.type "StopIteration") [];raiseNew x) P (λe s'=>wpAny (model prog w) A (do let b <- isInstance e (.type "StopIteration");if b=true then pure none else throw e) Q E s') s:=by
 show wpAny_bind ?_;simp only[newExc];simp only[newTuple];show wpAny_bind (wpAny_newObj_type ?_ (by size_fits));show wpAny_bind (m:=firstArgMember _ _) (wpAny_of_eq (a:=Value.none) (by simp only[firstArgMember];rfl) ?_);show wpAny_newObj_type ?_ (by size_fits);simp only[raiseNew];show wpAny_bind (wpAny_handled ?_);rw[show A.in1.handled=none from hh];show wpAny_bind (wpAny_pure (wpAny_throw ?_));show wpAny_bind (wpAny_isInstance (T:="StopIteration") (b:=true) ⟨_,Heap.get?_push_size _ rfl,rfl⟩ isSubtype_stop ?_);show wpAny_pure (q _ λb o e=>Heap.get?_push_of_some _ (Heap.get?_push_of_some _ e))
section
variable{t:SetTable}{v:Value}
theorem Jka(hI:s.heap.get? I=some (itO (.int 0 0) i a es.size ep))(ha:s.heap.get? a=some (setO es ep t))(hf:t.fits es.size=true)
  (ht:w.params.followText "set-order"=true) (hv:((pickOrder (w.params.setOrder a ep) es).toList.map (·.2))[i]?=some v)
  (q:∀ h',h'.get? I=some (itO (.int 0 0) (i+1) a es.size ep)->Heap.SameBut I s.heap h'->Q (some v) { s with heap:=h' }):wpAny (model prog w) A (pyNext (.ref I)) Q E s:=by
 have c:s.TypeIs (.ref I) "set_iterator":=⟨_,hI,rfl⟩;unfold pyNext;show wpAny_bind (wpAny_attempt (wpAny_callSpecial?_slot (name:=Str.ofString "__next__") c JbL (wpAny_call_entry JbL c JdL ?_ (JeM _))));unfold Builtin.«set_iterator.__next__»;show wpAny_bind (m:=slotArgs _ _ _) (wpAny_pure ?_);show wpAny_bind (wpAny_fieldsOf hI rfl ?_);show wpAny _ _ (setEntries a >>= _) _ _ _;show wpAny_bind (wpAny_setEntries_of ha rfl hf ?_);rw[if_neg (by simp)];dsimp only;unfold setNext;show wpAny_bind (wpAny_bind (wpAny_setState_of ha rfl hf ?_));dsimp only;show wpAny_bind (Jd7 ?_);rw[if_pos ht,if_neg (by simp)];show wpAny_bind (Jhk ha hf ht (wpAny_pure ?_));rw[List.getElem?_map,Array.getElem?_toList]at hv;let(x,f,rfl):=Option.map_eq_some_iff.mp hv;rw[Int.toNat_natCast,f];dsimp only[Option.map];show wpAny_bind (wpAny_setField hI rfl (by simp) ?_);have d:=Jiv (f':=.int 0 0) (j:=i) (g:=λb=>b.setIfInBounds 0 (rawInt ((Int.toNat 0:Nat):Int))) hI rfl;show wpAny_bind (wpAny_setField d rfl (by simp) ?_);have e:=Jiv (f':=.int 0 0) (j:=i+1) (g:=λb=>b.setIfInBounds 1 (rawInt ((i:Int)+1))) d rfl;show wpAny_pure ⟨_,rfl,wpAny_pure (q _ e ((Heap.SameBut.update ..).trans (Heap.SameBut.update ..)))⟩
theorem Jio(hh:A.handled=none)(hI:s.heap.get? I=some (itO (.int 0 0) i a es.size ep))(ha:s.heap.get? a=some (setO es ep t))(hf:t.fits es.size=true)
  (ht:w.params.followText "set-order"=true) (hv:(pickOrder (w.params.setOrder a ep) es)[i]?=none)
  (q:∀ h',(∀ b o,b≠I->s.heap.get? b=some o->h'.get? b=some o)->Q none { s with heap:=h' }):wpAny (model prog w) A (pyNext (.ref I)) Q E s:=by
 have c:s.TypeIs (.ref I) "set_iterator":=⟨_,hI,rfl⟩;unfold pyNext;show wpAny_bind (wpAny_attempt (wpAny_callSpecial?_slot (name:=Str.ofString "__next__") c JbL (wpAny_call_entry JbL c JdL ?_ (JeM _))));unfold Builtin.«set_iterator.__next__»;show wpAny_bind (m:=slotArgs _ _ _) (wpAny_pure ?_);show wpAny_bind (wpAny_fieldsOf hI rfl ?_);show wpAny _ _ (setEntries a >>= _) _ _ _;show wpAny_bind (wpAny_setEntries_of ha rfl hf ?_);rw[if_neg (by simp)];dsimp only;unfold setNext;show wpAny_bind (wpAny_bind (wpAny_setState_of ha rfl hf ?_));dsimp only;show wpAny_bind (Jd7 ?_);rw[if_pos ht,if_neg (by simp)];show wpAny_bind (Jhk ha hf ht (wpAny_pure ?_));rw[Int.toNat_natCast,hv];dsimp only[Option.map];show wpAny_bind (wpAny_setField hI rfl (by simp) ?_);show Jid hh λh' k=>q h' λb o d e=>k b o ?_;show((Heap.SameBut.update ..).extBut b o d e)
variable{tp:Addr}{ps:List Nat}
theorem Ji9{hs:Int}(hI:s.heap.get? I=some (itO (.ref tp) i a es.size ep))(ha:s.heap.get? a=some (setO es ep t))(hf:t.fits es.size=true)
  (hp:s.heap.get? tp=some (seqObj "tuple" (ps.map λ(n:Nat)=>rawInt n).toArray 0)) (hj:ps[i]?=some j) (hv:es[j]?=some (hs,v))
  (q:∀ h',h'.get? I=some (itO (.ref tp) (i+1) a es.size ep)->Heap.SameBut I s.heap h'->Q (some v) { s with heap:=h' }):wpAny (model prog w) A (pyNext (.ref I)) Q E s:=by
 have b:s.TypeIs (.ref I) "set_iterator":=⟨_,hI,rfl⟩;unfold pyNext;show wpAny_bind (wpAny_attempt (wpAny_callSpecial?_slot (name:=Str.ofString "__next__") b JbL (wpAny_call_entry JbL b JdL ?_ (JeM _))));unfold Builtin.«set_iterator.__next__»;show wpAny_bind (m:=slotArgs _ _ _) (wpAny_pure ?_);show wpAny_bind (wpAny_fieldsOf hI rfl ?_);show wpAny _ _ (setEntries a >>= _) _ _ _;show wpAny_bind (wpAny_setEntries_of ha rfl hf ?_);rw[if_neg (by simp)];dsimp only;unfold seqItems?;show wpAny_bind (wpAny_bind (wpAny_load hp (wpAny_pure ?_)));dsimp only;have e:((ps.map λ(n:Nat)=>rawInt n).toArray)[((i:Int)).toNat]?=some (rawInt j):=by
  rw[Int.toNat_natCast,List.getElem?_toArray,List.getElem?_map,hj];rfl
 rw[e];show wpAny _ _ (setNextDrawn a _ _ >>= _) _ _ _;unfold setNextDrawn;show wpAny_bind (wpAny_bind (wpAny_setState_of ha rfl hf ?_));dsimp only;rw[if_neg (by simp),Int.toNat_natCast,hv];show wpAny_pure ?_;show wpAny_bind (wpAny_setField hI rfl (by simp) ?_);have d:=Jiv (f':=.ref tp) (j:=i+1) (g:=λc=>c.setIfInBounds 1 (rawInt ((i:Int)+1))) hI rfl;show wpAny_pure ⟨_,rfl,wpAny_pure (q _ d (Heap.SameBut.update ..))⟩
theorem JjM(hh:A.handled=none)(hI:s.heap.get? I=some (itO (.ref tp) i a es.size ep))(ha:s.heap.get? a=some (setO es ep t))(hf:t.fits es.size=true)
  (hp:s.heap.get? tp=some (seqObj "tuple" (ps.map λ(n:Nat)=>rawInt n).toArray 0)) (hj:ps[i]?=none)
  (q:∀ h',(∀ b o,b≠I->s.heap.get? b=some o->h'.get? b=some o)->Q none { s with heap:=h' }):wpAny (model prog w) A (pyNext (.ref I)) Q E s:=by
 have d:s.TypeIs (.ref I) "set_iterator":=⟨_,hI,rfl⟩;unfold pyNext;show wpAny_bind (wpAny_attempt (wpAny_callSpecial?_slot (name:=Str.ofString "__next__") d JbL (wpAny_call_entry JbL d JdL ?_ (JeM _))));unfold Builtin.«set_iterator.__next__»;show wpAny_bind (m:=slotArgs _ _ _) (wpAny_pure ?_);show wpAny_bind (wpAny_fieldsOf hI rfl ?_);show wpAny _ _ (setEntries a >>= _) _ _ _;show wpAny_bind (wpAny_setEntries_of ha rfl hf ?_);rw[if_neg (by simp)];dsimp only;unfold seqItems?;show wpAny_bind (wpAny_bind (wpAny_load hp (wpAny_pure ?_)));dsimp only;have e:((ps.map λ(n:Nat)=>rawInt n).toArray)[((i:Int)).toNat]?=none:=by
  rw[Int.toNat_natCast,List.getElem?_toArray,List.getElem?_map,hj];rfl
 rw[e];dsimp only;show wpAny_bind (wpAny_setField hI rfl (by simp) ?_);have h:=Jiv (f':=rawInt 0) (j:=i) (g:=λf=>f.setIfInBounds 0 (rawInt 0)) hI rfl;show wpAny_bind (wpAny_setField h rfl (by simp) ?_);show Jid hh λh' k=>q h' λb o c e=>k b o ?_;show((Heap.SameBut.update ..).extBut b o c ((Heap.SameBut.update ..).extBut b o c e))
end
end
theorem JjN:entryFor table "set_iterator.__iter__"=some Builtin.«dict_keyiterator.__iter__»:=entryFor_alias (id':="dict_keyiterator.__iter__") (by kernel_rfl) rfl (by decide +kernel) (by kernel_rfl)
section
variable{prog:Program}{w:World}{I a:Addr}{i ep:Nat}
theorem JhC{f:Value}{Q:Value->Shared->Prop}(hI:s.heap.get? I=some (itO f i a n ep))(q:Q (.ref I) s):wpAny (model prog w) A (pyIter (.ref I)) Q E s:=by
 have b:s.TypeIs (.ref I) "set_iterator":=⟨_,hI,rfl⟩;show wpAny_pyIter_slot b Jkz (wpAny_call_entry Jkz b JjN ?_ (Jmn _));show wpAny_pure ⟨_,rfl,"set_iterator",_,b,JbL.lookup,q⟩
theorem JkP(hh:A.handled=none)(I a:Addr)(hne:a≠I){es:Array (Int × Value)}{ep:Nat}{t:SetTable}(hf:t.fits es.size=true)(ht:w.params.followText "set-order"=true) :
  Walks prog w A I [I,a] [I] es.size (λi v=>((pickOrder (w.params.setOrder a ep) es).toList.map (·.2))[i]?=some v) (λi h=>h.get? I=some (itO (.int 0 0) i a es.size ep)/\h.get? a=some (setO es ep t)) where
 sub:=λb d=>by simp at d;simp[d]
 frame:=λ_ _ _ c k=>⟨k I (by simp) _ c.1,k a (by simp) _ c.2⟩
 item:=λi s Q E m c q=>by
  have n:((pickOrder (w.params.setOrder a ep) es).toList.map (·.2)).length=es.size:=by rw[length_map,(JdT _ es).length_eq,Array.length_toList]
  have g:=List.getElem?_eq_getElem (l:=(pickOrder (w.params.setOrder a ep) es).toList.map (·.2)) (by rw[n];show m);show Jka c.1 c.2 hf ht g λf e j=>q _ f s.toks g ⟨e,j.extBut a _ hne c.2⟩ λb o d z=>j.extBut b o (λh=>d (by simp[h])) z
 done:=λs Q E c q=>Jio hh c.1 c.2 hf ht (by
  rw[<- Array.getElem?_toList];show List.getElem?_eq_none (by rw[(JdT _ es).length_eq,Array.length_toList];show Nat.le_refl _)) λf k=>q f s.toks λb o d z=>k b o (λh=>d (by simp[h])) z
 self:=λ_ _ _ _ c q=>JhC c.1 q
theorem JkO(hh:A.handled=none)(I a tp:Addr)(hne:a≠I)(hnt:tp≠I){es:Array (Int × Value)}{ep:Nat}{t:SetTable}{ps:List Nat}(hf:t.fits es.size=true)(hp:ps.Perm (List.range es.size)) :
  Walks prog w A I [I,a,tp] [I] es.size (λi v=>(ps.map λj=>(es.getD j (0, .none)).2)[i]?=some v) (λi h=>h.get? I=some (itO (.ref tp) i a es.size ep)/\h.get? a=some (setO es ep t)/\h.get? tp=some (seqObj "tuple" (ps.map λ(n:Nat)=>rawInt n).toArray 0)) where
 sub:=λb d=>by simp at d;simp[d]
 frame:=λ_ _ _ c k=>⟨k I (by simp) _ c.1,k a (by simp) _ c.2.1,k tp (by simp) _ c.2.2⟩
 item:=λi s Q E y c q=>by
  have u:ps.length=es.size:=by rw[hp.length_eq,List.length_range]
  have p:i<ps.length:=by rw[u];show y
  have l:=List.getElem?_eq_getElem p;have m:ps[i]<es.size:=List.mem_range.mp (hp.mem_iff.mp (List.getElem_mem p));have x:es[ps[i]]?=some (es[ps[i]].1,es[ps[i]].2):=Array.getElem?_eq_getElem m;have r:(ps.map λj=>(es.getD j (0, .none)).2)[i]?=some es[ps[i]].2:=by
   rw[List.getElem?_map,l,Option.map_some,Array.getD_eq_getD_getElem?,Array.getElem?_eq_getElem m];rfl
  show Ji9 c.1 c.2.1 hf c.2.2 l x λg e f=>q _ g s.toks r ⟨e,f.extBut a _ hne c.2.1,f.extBut tp _ hnt c.2.2⟩ λb o d z=>f.extBut b o (λh=>d (by simp[h])) z
 done:=λs Q E c q=>JjM hh c.1 c.2.1 hf c.2.2 (List.getElem?_eq_none (by rw[hp.length_eq,List.length_range];show Nat.le_refl _)) λg k=>q g s.toks λb o d z=>k b o (λh=>d (by simp[h])) z
 self:=λ_ _ _ _ c q=>JhC c.1 q
variable{r:Addr}
theorem Jf3{Q:Bool->Shared->Prop}(ty:s.TypeIs (.ref r) "set")(h:Q false s):wpAny (model prog w) A (Builtin.List.listLengthHint (.ref r)) Q E s:=by
 unfold Builtin.List.listLengthHint;show wpAny_bind (wpAny_specialOf ty PySem.F.slot_set_len.lookup ?_);generalize a:("set.__len__" : String)=c
 wp_delta
 rw[show splitId c=some ("set","__len__")from by subst a;decide +kernel];subst a;show wpAny_bind (wpAny_isInstance (T:="set") (b:=true) ty (by rw[isSubtype_type];kernel_rfl) ?_);show wpAny_ite_split (λz=>absurd z ⋯) (λ_=>?_);show wpAny_ite_split (λ_=>?_) (λz=>absurd (by decide +kernel) z);show wpAny_bind (wpAny_typeOf ty (wpAny_pure h))
variable{es:Array (Int × Value)}{Q:Value->Shared->Prop}
theorem Jk6{t:SetTable}(ha:s.heap.get? a=some (setO es ep t))(hf:t.fits es.size=true)(hp:t.plain=false)(h2:2<=es.size)(hz:es.size<=sizeLine)
  (q1:w.params.followText "set-order"=true->Q (.ref s.heap.objs.size) { s with heap:=s.heap.push (itO (.int 0 0) 0 a es.size ep) })
  (q2:∀(ps:List Nat) d,ps.Perm (List.range es.size)->Q (.ref (s.heap.objs.size+1)) { s with heap:=(s.heap.push (seqObj "tuple" (ps.map λ(n:Nat)=>rawInt n).toArray 0)).push (itO (.ref s.heap.objs.size) 0 a es.size ep),drawn:=d }) :
  wpAny (model prog w) A (pyIter (.ref a)) Q E s:=by
 have b:s.TypeIs (.ref a) "set":=⟨_,ha,rfl⟩;show wpAny_pyIter_slot b PySem.F.slot_set_iter (wpAny_call_entry PySem.F.slot_set_iter b JgG ?_ (PySem.F.args_set_iter_1 _));unfold Builtin.«frozenset.__iter__»;show wpAny_bind (m:=Builtin.Frozenset.slot0 _ _) (wpAny_pure ?_);unfold Builtin.Frozenset.sizeOf;show wpAny_bind (wpAny_bind (wpAny_setEntries_of ha rfl hf (wpAny_pure ?_)));unfold setDrawn;show wpAny_bind (wpAny_bind (wpAny_setState_of ha rfl hf ?_));dsimp only;show wpAny_bind (Jd7 ?_);show wpAny_pure ?_;cases ht:w.params.followText "set-order" with
 | true=>
  rw[if_neg (by simp)];show wpAny_bind (wpAny_pure (wpAny_bind (wpAny_setEpoch_of ha rfl hf ?_)));unfold newFields;show wpAny_bind (wpAny_newObj_type (wpAny_pure ⟨_,rfl,"set_iterator",_,⟨_,Heap.get?_push_size _ rfl,rfl⟩,JbL.lookup,?_⟩));show q1 ht
 | false=>
  have e:decide (es.size > 1)=true:=decide_eq_true (show 1<es.size from h2);show wpAny _ _ (if(!false&&(!t.plain&&decide (es.size > 1)))=true then _ else _) _ _ _;rw[if_pos (by rw[hp,e];rfl)];show wpAny_bind (JfF _ _ _ _ (by simp) λps d c=>?_);show wpAny_bind (wpAny_newTuple ?_ (by rw[length_map,c.length_eq,List.length_range];show hz));have f:(s.heap.push (seqObj "tuple" (ps.map λ(n:Nat)=>rawInt n).toArray 0)).objs.size=s.heap.objs.size+1:=Heap.size_push ..;show wpAny_bind (wpAny_setEpoch_of (Heap.get?_push_of_some _ ha) rfl hf ?_);unfold newFields;show wpAny_bind (wpAny_newObj_type (wpAny_pure ⟨_,rfl,"set_iterator",_,⟨_,Heap.get?_push_size _ rfl,rfl⟩,JbL.lookup,?_⟩));have:=q2 ps d c;rw[<- f]at this;show this
variable{S:Addr}{c0:Nat}{R:Result->Shared->Prop}
theorem Jmv{t:SetTable}{res:Value}(hh:A.handled=none)(ha:s.heap.get? a=some (setO es ep t))(hf:t.fits es.size=true)(hp:t.plain=false)(h2:2<=es.size)(hz:es.size<=sizeLine)
  (hSa:S≠a) (hS:s.heap.get? S=some { cls:=.type "list",data:=.seq #[] c0 })
  (q:∀ s' acc c',(∀ b o,b≠S->s.heap.get? b=some o->s'.heap.get? b=some o)->s'.gens=s.gens->s'.os=s.os->s.toks<=s'.toks->s'.heap.get? S=some { cls:=.type "list",dict:=none,data:=.seq acc c',slots:=#[] }->acc.toList.Perm (es.toList.map (·.2))->R (.ok (.ret res)) s') :
  wpAny (model prog w) A.in1 (Builtin.List.listExtendWith (.ref S) (.ref a) res) (λfin s'=>match fin with | .done f=>R (.ok f) s' | .again c'=>c'.quiet=true/\codeAny (model prog w) A c' R s') (λe s'=>R (.error e) s') s:=by
 have key:∀(I:Addr)(r:List Addr)(m:List Value)(St:Nat->Heap->Prop)(g:Shared),Walks prog w A.in1 I r [I] es.size (λi v=>m[i]?=some v) St->m.Perm (es.toList.map (·.2))->S∉r->s.heap.get? I=none->St 0 g.heap ->
   (∀ b o,s.heap.get? b=some o->g.heap.get? b=some o)->g.gens=s.gens->g.os=s.os->s.toks<=g.toks->∀ O, ∀ h,(∀ b o,b≠S->g.heap.get? b=some o->h.get? b=some o)->h.get? S=some { cls:=.type "list",data:=.seq #[] O } ->
   codeAny (model prog w) A (.builtin "list.extend.loop" ⟨[.ref S, .ref I,res],[]⟩) R { g with heap:=h }:=by
  intro I r m St g W C E J M D L H N O h Z X;have P:=W.frame 0 g.heap h M λb p o e=>Z b o (λz=>E (z ▸ p)) e;show codeAny_extend_loopS W.toS hz S E res es.size 0 _ #[] O rfl (Nat.zero_le _) P X (ItemsOf.nil _) λs' k c' K V u=>?_;have g1:s'.gens=g.gens:=K.gens;have al:k.toList=m:=by
   have l1:m.length=es.size:=by rw[C.length_eq,length_map,Array.length_toList]
   have l2:k.size=es.size:=u.1;show List.ext_getElem? λj=>?_;by_cases c:j<es.size
   .have e1:k[j]?=some k[j]:=Array.getElem?_eq_getElem (by rw[l2];show c);rw[Array.getElem?_toList,e1,u.2 j _ e1]
   .rw[List.getElem?_eq_none (by rw[Array.length_toList];ac_nf),List.getElem?_eq_none ∅]
  show q s' k c' (λb o p e=>?_) (g1.trans L) (K.os.trans H) (Nat.le_trans N K.toks) V (by rw[al];show C);show K.heap b o (λG=>?_) (Z b o p (D b o e));rcases mem_cons.mp G with z | z
  .show p z
  .rw[mem_singleton.mp z,J]at e;cases e
 have go:∀(I:Addr)(r:List Addr)(m:List Value)(St:Nat->Heap->Prop)(g:Shared),Walks prog w A.in1 I r [I] es.size (λi v=>m[i]?=some v) St->m.Perm (es.toList.map (·.2))->S∉r->s.heap.get? I=none->St 0 g.heap ->
   (∀ b o,s.heap.get? b=some o->g.heap.get? b=some o)->g.gens=s.gens->g.os=s.os->s.toks<=g.toks->∀(b:Bool),wpAny (model prog w) A.in1 (if b=true then(do rule "list.extend.makes-room";Builtin.List.listTouch (.ref S);again (.builtin "list.extend.loop" ⟨[.ref S, .ref I,res],[]⟩))else again (.builtin "list.extend.loop" ⟨[.ref S, .ref I,res],[]⟩)) (λfin s'=>match fin with | .done f=>R (.ok f) s' | .again c'=>c'.quiet=true/\codeAny (model prog w) A c' R s') (λe s'=>R (.error e) s') g:=by
  intro I r m St g W C E J M D L H N b;have U:=D _ _ hS;cases b
  .show wpAny_pure ⟨plainId_quiet PySem.F.plain_extend_loop _,key I r m St g W C E J M D L H N c0 g.heap (λ_ _ _ e=>e) U⟩
  .rw[if_pos rfl];show wpAny_bind (wpAny_rule ?_);show wpAny_bind ?_;show wpAny _ _ (updateSeq S (·.push .none) >>= λ_=>updateSeq S (λx=>x.pop)) _ _ _;show wpAny_bind (wpAny_updateSeq U rfl ?_);have S2:=Heap.get?_update_self (Obj.mapSeq (·.push Value.none)) U rfl;show wpAny_updateSeq (hz:=by seq_fits) S2 rfl ?_;have S3:=Heap.get?_update_self (Obj.mapSeq (λx=>x.pop)) S2 rfl;show wpAny_pure ⟨plainId_quiet PySem.F.plain_extend_loop _,key I r m St g W C E J M D L H N _ _ (λb o p e=>?_) S3⟩;show(Heap.get?_update_other _ _ (Ne.symm p)).trans ((Heap.get?_update_other _ _ (Ne.symm p)).trans e)
 have h1:A.in1.handled=none:=by simp[hh]
 have la:=Heap.lt_size ha;have Q:=Heap.lt_size hS;unfold Builtin.List.listExtendWith;show wpAny_bind (wpAny_typeOf (T:="set") ⟨_,ha,rfl⟩ ?_);have n1:Builtin.List.listSameRef (.ref S) (.ref a)=false:=by simp[Builtin.List.listSameRef,hSa]
 rw[if_neg (by rw[n1];decide)];have l:∀ b,s.heap.objs.size<=b->s.heap.get? b=none:=λb p=>by
  cases e:s.heap.get? b with
  | none=>rfl
  | some o=>show absurd (Heap.lt_size e) (Nat.not_lt.mpr p)
 show wpAny_bind (Jk6 ha hf hp h2 hz (λht=>?_) λps d pp=>?_)
 .have y:∀ b o,s.heap.get? b=some o->(s.heap.push (itO (.int 0 0) 0 a es.size ep)).get? b=some o:=λb o e=>Heap.get?_push_of_some _ e;show wpAny_bind (wpAny_holding (Jf3 ⟨_,y _ _ ha,rfl⟩ ?_));show go s.heap.objs.size _ _ _ { s with heap:=s.heap.push (itO (.int 0 0) 0 a es.size ep) } (JkP h1 _ a (Nat.ne_of_lt la) hf ht) ((JdT _ es).map _) (by simp only[mem_cons,not_mem_nil,or_false,not_or];show(Nat.ne_of_lt Q,hSa)) (l _ (Nat.le_refl _)) ⟨Heap.get?_push_size _ rfl,y _ _ ha⟩ y rfl rfl (Nat.le_refl _) _
 .generalize Y:seqObj "tuple" (ps.map λ(n:Nat)=>rawInt n).toArray 0=B;have y:∀ b o,s.heap.get? b=some o->((s.heap.push B).push (itO (.ref s.heap.objs.size) 0 a es.size ep)).get? b=some o:=λb o e=>Heap.get?_push_of_some _ (Heap.get?_push_of_some _ e);have z1:(s.heap.push B).objs.size=s.heap.objs.size+1:=Heap.size_push ..;have tI:((s.heap.push B).push (itO (.ref s.heap.objs.size) 0 a es.size ep)).get? (s.heap.objs.size+1)=some (itO (.ref s.heap.objs.size) 0 a es.size ep):=by
   rw[<- z1];show Heap.get?_push_size _ rfl
  have tT:((s.heap.push B).push (itO (.ref s.heap.objs.size) 0 a es.size ep)).get? s.heap.objs.size=some B:=Heap.get?_push_of_some _ (Heap.get?_push_size _ (by rw[<- Y];rfl));show wpAny_bind (wpAny_holding (Jf3 ⟨_,y _ _ ha,rfl⟩ ?_));have vp:(ps.map λj=>(es.getD j (0, .none)).2).Perm (es.toList.map (·.2)):=by
   have e:es.toList.map (·.2)=(List.range es.size).map λj=>(es.getD j (0,Value.none)).2:=by
    show List.ext_getElem? λj=>?_;rw[List.getElem?_map,List.getElem?_map,Array.getElem?_toList];by_cases c:j<es.size
    .rw[Array.getElem?_eq_getElem c,List.getElem?_range c];simp[Array.getD_eq_getD_getElem?,Array.getElem?_eq_getElem c]
    .rw[Array.getElem?_eq_none ∅,List.getElem?_eq_none (by rw[List.length_range];ac_nf)];rfl
   rw[e];show pp.map _
  show go (s.heap.objs.size+1) _ _ _ { s with heap:=(s.heap.push B).push (itO (.ref s.heap.objs.size) 0 a es.size ep),drawn:=d } (JkO (tp:=s.heap.objs.size) h1 _ a (Nat.ne_of_lt (Nat.lt_succ_of_lt la)) (Nat.ne_of_lt (Nat.lt_succ_self _)) hf pp) vp (by simp only[mem_cons,not_mem_nil,or_false,not_or];show(Nat.ne_of_lt (Nat.lt_succ_of_lt Q),hSa,Nat.ne_of_lt Q)) (l _ (Nat.le_succ _)) ⟨tI,y _ _ ha,by rw[Y];show tT⟩ y rfl rfl (Nat.le_refl _) _
end
section
variable{prog:Program}{w:World}{S r:Addr}{R:Result->Shared->Prop}
theorem JhA(h:wpAny (model prog w) A.in1 (Builtin.List.listExtendWith (.ref S) (.ref r) (.ref S)) (λfin s'=>match fin with | .done f=>R (.ok f) s' | .again c'=>c'.quiet=true/\codeAny (model prog w) A c' R s') (λe s'=>R (.error e) s') s) :
  codeAny (model prog w) A (.builtin "list.__iadd__" ⟨[.ref S, .ref r],[]⟩) R s:=by
 show codeAny_builtin (PySem.F.entry_list_iadd) ?_;rw[Around.under_plainId (PySem.F.plain_list_iadd) _];show h
variable{ss:List Str}{Q:Value->Shared->Prop}
theorem Jej(h64:ss.length<64)
  (hx:∀(R:Result->Shared->Prop),(∀ s' (vs:List Value) c' ss',(∀ b o,s.heap.get? b=some o->s'.heap.get? b=some o)->s'.gens=s.gens->s'.os=s.os->s.toks<=s'.toks ->
    s'.heap.get? s.heap.objs.size=some { cls:=.type "list",dict:=none,data:=.seq vs.toArray c',slots:=#[] }->StrsAre vs ss'->ss'.Perm ss->R (.ok (.ret (.ref s.heap.objs.size))) s') ->
   codeAny (model prog w) A.in1 (.builtin "list.__iadd__" ⟨[.ref s.heap.objs.size, .ref r],[]⟩) R { s with heap:=s.heap.push { cls:=.type "list",data:=.seq ([]:List Value).toArray } })
  (q:∀ s' l (out:Array Value) ss' e,(∀ b o,s.heap.get? b=some o->s'.heap.get? b=some o)->s'.gens=s.gens->s'.os=s.os->s.toks<=s'.toks->s.heap.objs.size<=l->s'.heap.get? l=some (seqObj "list" out e)->StrsAre out.toList ss'->ss'.Perm ss->sortedS ss'=true->Q (.ref l) s') :
  wpAny (model prog w) A (call (.builtin "sorted") [.ref r]) Q E s:=by
 show Calls.call_function_entry kind_sorted plain_sorted entry_sorted (args_sorted1 _) ?_;unfold Builtin.«sorted»;show wpAny_bind (m:=checkCount "sorted" 1 1 _) (wpAny_pure ?_);show wpAny_bind ?_;unfold collect;show wpAny_bind (wpAny_runValue (codeAny_builtin (PySem.F.entry_proto_collect) ?_));rw[Around.under_plainId (PySem.F.plain_proto_collect) _];show wpAny _ A.in1.in1 (newList [] >>= λl=>again (.builtin "list.__iadd__" ⟨[l, .ref r],[]⟩)) _ _ s;show wpAny_bind (wpAny_newObj_type ?_);show wpAny_pure ⟨plainId_quiet (PySem.F.plain_list_iadd) _,hx _ λs' vs c' u k t n y j a i=>?_⟩;show wpAny_bind (m:=load s.heap.objs.size) (wpAny_load j (wpAny_pure ?_));have vl:vs.length<64:=by rw[a.length,i.length_eq];show h64
 have B:(64:Nat)<=sizeLine:=by decide
 dsimp only;show wpAny_bind (wpAny_newList ?_ (by show vs.length<=sizeLine;ac_nf));have c:(s'.heap.push (seqObj "list" vs.toArray 0)).get? s'.heap.objs.size=some (seqObj "list" vs.toArray 0):=Heap.get?_push_size _ rfl;show wpAny_bind (wpAny_holding (wpAny_call_entry slot_list_sort ⟨_,c,rfl⟩ entry_list_sort (list_sort_treeK strKind_oneLt c a.keysOf (λH G rest e=>keyKind_strs (by rw[<- e];show a)) vl λv g d=>⟨_,rfl,?_⟩) (args_list_sort _)));let(f,p,C,z):=sorted_out_str a g d;let(x,D):=sortedHeap_at (out:=(arrOf v).map (·.2)) c;show wpAny_pure ⟨_,rfl,q _ s'.heap.objs.size _ f x (λb o e=>?_) t n y ?_ D p (C.trans i) z⟩
 .have h:=Heap.lt_size (k b o e);rw[sortedHeap_old (Nat.ne_of_lt h) (by rw[size_push'];show Nat.lt_succ_of_lt h)];show Heap.get?_push_of_some _ (k b o e)
 .show Nat.le_of_lt (Heap.lt_size j)
theorem Jie:∀(vs:List Value),(∀ v∈vs, ∃ x t,v=.str x t)->StrsAre vs (vs.map strOf)
 | [],_=>.nil
 | v::vs,h=>by
  let(x,t,rfl):=h v (by simp);show .cons x t (Jie vs λu hu=>h u (by simp[hu]))
variable{a:Addr}
theorem Jji{ks:List Str}(hh:A.handled=none)(hS:SetS prog w s.heap a ks)(h2:2<=ks.length)(h64:ks.length<64)
  (q:∀ s' l (out:Array Value) ss' e,(∀ b o,s.heap.get? b=some o->s'.heap.get? b=some o)->s'.gens=s.gens->s'.os=s.os->s.toks<=s'.toks->s.heap.objs.size<=l->s'.heap.get? l=some (seqObj "list" out e)->StrsAre out.toList ss'->ss'.Perm ks->sortedS ss'=true->Q (.ref l) s') :
  wpAny (model prog w) A (call (.builtin "sorted") [.ref a]) Q E s:=by
 let(I,O,t,i,g,j,N,m,h,_):=hS;have P:I.size=ks.length:=by rw[<- j.length_eq,length_map,Array.length_toList]
 have J:(64:Nat)<=sizeLine:=by decide
 have C:=Heap.lt_size i;have H:A.in1.handled=none:=by simp[hh]
 show Jej (ss:=ks) h64 (λR k=>JhA (Jmv H (Heap.get?_push_of_some _ i) m (h (λz=>by rw[z]at h2;simp at h2)) ∅ ∅ (Nat.ne_of_gt C) (Heap.get?_push_size _ rfl) λs' d M r D n G y c=>?_)) q;have f:∀ v∈d.toList, ∃ x t,v=.str x t:=λv B=>by
  let(e,p,rfl):=mem_map.mp (c.mem_iff.mp B);let((L,K,_),_):=g e p;let(u,F):=Value.isStrOf_shape K;show(L,u,F)
 show k s' d.toList M (d.toList.map strOf) (λb o e=>r b o (Nat.ne_of_lt (Heap.lt_size e)) (Heap.get?_push_of_some _ e)) D n G (by rw[Array.toArray_toList];show y) (Jie _ f) ?_;show(c.map strOf).trans ?_;rw[map_map];show j
theorem Jia{K:Type}[DecidableEq K]{knd:PySem.KeyKind prog w K}{d:Addr}{kvs:List (K × Value)}{ep:Nat}{ss:List Str}{Q:Value->Shared->Prop}(hh:A.handled=none)(lo:(d == sysModules)=false)(hd:s.heap.DictAt knd d kvs ep)(h64:kvs.length<64)
  (hl:ss.length=kvs.length) (hk:∀ i k x v,kvs[i]?=some (k,x)->knd.is k v=true->∃ t,v=.str (ss.getD i ⟨#[]⟩) t)
  (q:∀ s' l (out:Array Value) ss' e,(∀ b o,s.heap.get? b=some o->s'.heap.get? b=some o)->s'.gens=s.gens->s'.os=s.os->s.toks<=s'.toks->s.heap.objs.size<=l->s'.heap.get? l=some (seqObj "list" out e)->StrsAre out.toList ss'->ss'.Perm ss->sortedS ss'=true->Q (.ref l) s') :
  wpAny (model prog w) A (call (.builtin "sorted") [.ref d]) Q E s:=by
 have O:(64:Nat)<=sizeLine:=by decide
 have G:=hd.lt_size;have N:A.in1.handled=none:=by simp[hh]
 show Jej (ss:=ss) ∅ (λR k=>?_) q;obtain⟨B,h⟩:∃ B:Result->Shared->Prop, ∀ r s',B r s'↔∃ g y a u,r=.ok (.ret (.ref s.heap.objs.size))/\s'={ s with heap:=g,toks:=y }/\(∀ b o,b≠s.heap.objs.size->(s.heap.push { cls:=.type "list",data:=.seq ([]:List Value).toArray }).get? b=some o->g.get? b=some o)/\g.get? s.heap.objs.size=some { cls:=.type "list",dict:=none,data:=.seq a u,slots:=#[] }/\ItemsOf (λi v=>∃ k x,kvs[i]?=some (k,x)/\knd.is k v=true) a kvs.length:=⟨_,λ_ _=>Iff.rfl⟩;have m:=codeAny_toks_of (n:=s.toks) (s:={ s with heap:=s.heap.push { cls:=.type "list",data:=.seq ([]:List Value).toArray } }) (Nat.le_refl _) (JhA (A:=A.in1) (R:=B)
  (W.kdl_extend (R:=B) (s:={ s with heap:=s.heap.push { cls:=.type "list",data:=.seq ([]:List Value).toArray } }) (W.kdl_dict (knd:=knd) (kvs:=kvs) (ep:=ep) lo) N (hd.push _) s.heap.objs.size (Nat.ne_of_gt G) (Nat.ne_of_gt G) (.ref s.heap.objs.size) 0 (Heap.get?_push_size _ rfl) (λg y a u C hl f=>(h _ _).mpr ⟨g,y,a,u,rfl,rfl,C,hl,f⟩) ∅))
 show codeAny_mono m ?_;rintro r s' ⟨P,S⟩;let(g,y,a,u,rfl,rfl,C,j,f):=(h _ _).mp S;have M:StrsAre a.toList ss:=by
  have p:∀ v∈a.toList, ∃ x t,v=.str x t:=λv I=>by
   let(i,H):=List.getElem?_of_mem I;rw[Array.getElem?_toList]at H;let(F,x,z,D):=f.2 i v H;let(t,e):=hk i F x v z D;show(_,t,e)
  have:=Jie _ p;have e:a.toList.map strOf=ss:=by
   show List.ext_getElem? λi=>?_;rw[List.getElem?_map,Array.getElem?_toList];have T:a.size=kvs.length:=f.1;by_cases c:i<kvs.length
   .have z:a[i]?=some a[i]:=Array.getElem?_eq_getElem ∅;let(F,x,D,J):=f.2 i _ z;let(t,L):=hk i F x _ D J;rw[z,Option.map_some,L,List.getElem?_eq_getElem ∅];simp[strOf,List.getD_eq_getElem?_getD,List.getElem?_eq_getElem (show i<ss.length by ac_nf)]
   .rw[Array.getElem?_eq_none ∅,List.getElem?_eq_none ∅];rfl
  rw[e]at this;show this
 show k _ a.toList u ss (λb o e=>C b o (Nat.ne_of_lt (Heap.lt_size e)) (Heap.get?_push_of_some _ e)) rfl rfl P (by rw[Array.toArray_toList];show j) M (.refl _)
end
theorem JmE:typeLookup (.type "list") "keys"=pure none:=by rw[typeLookup_type,builtinLookup_eq_fast];kernel_rfl
section
variable{prog:Program}{a:Addr}{its:Array Value}{w:World}
theorem JmA{Q:Option Value->Shared->Prop}(hh:A.handled=none)(hx:s.heap.get? a=some { cls:=.type "list",dict:=none,data:=.seq its n,slots:=#[] })
   (q:∀ h' t',(∀ b o,s.heap.get? b=some o->h'.get? b=some o)->Q none { s with heap:=h',toks:=t' }) :
    wpAny (model prog w) A (getAttr? (.ref a) "keys") Q E s:=by
  let(i,g,d,t,j):=s;have h:∀ c,(⟨i,g,d,c,j⟩:Shared).TypeIs (.ref a) "list":=λ_=>⟨_,hx,rfl⟩;have k:=sub_AttributeError;have p:=PySem.F.slot_list_getattribute.lookup;have u:=PySem.F.slot_list_getattribute.bind (.ref a);have r:=am_list_getattr_none;unfold getAttr?;unfold getAttrBy?;unfold getAttrBy;repeat (any_goals (first | assumption | show h _ | ((with_reducible show wpAny _ _ (call (Value.builtin "list.__getattribute__") _ _) _ _ _);show call_meets PySem.F.slot_list_getattribute (h _) am_entry_list_getattribute (PySem.F.args_list_getattribute_2 _ _) (meets_getattribute_miss_list a its n #[] "keys" _ JmE (by decide +kernel) ⋯) ⟨hx,hh,λh' c e f=>?_⟩) | wp_step))
  let(t',m,l):=f.there;show wpAny _ _ (getattributeRaised _ _ _ _ _ _ _) _ _ _;unfold getattributeRaised;repeat (any_goals (first | assumption | wp_step))
  show q h' c f.keeps
end
theorem JgF:entryFor table "dict.update.loop"=some Builtin.«dict.update.loop»:=entryFor_of_tree (by kernel_rfl)
theorem JdU:plainId "dict.update.loop"=true:=by decide +kernel
def dkv(key:Nat->Str)(val:Nat->Value)(i:Nat):List (Key × Value):=(List.range i).foldl (λl j=>PySem.stored l (Sum.inr (key j)) (val j)) []
theorem JfX(key:Nat->Str)(val:Nat->Value)(i:Nat):dkv key val (i+1)=PySem.stored (dkv key val i) (Sum.inr (key i)) (val i):=by
 unfold dkv;rw[List.range_succ,foldl_append];rfl
theorem Jhv(key:Nat->Str)(val:Nat->Value):∀ i,(dkv key val i).length<=i
 | 0=>Nat.le_refl _
 | i+1=>by
  have:=Jhv key val i;rw[JfX];unfold PySem.stored;split <;> simp <;> ac_nf
section
variable{prog:Program}{w:World}
def Jen(h:Heap)(a:Addr)(k v:Value):Prop:=∃ o c,h.get? a=some o/\o.cls=.type "tuple"/\o.data=.seq #[k,v] c
variable{h:Heap}
theorem Jen.at_{h':Heap}{a:Addr}{k v:Value}(x:Jen h a k v)(m:∀ o,h.get? a=some o->h'.get? a=some o):Jen h' a k v:=by
 let(o,c,e,r):=x;show(o,c,m o e,r)
theorem JmG{t:Tok}:(JaG prog w).is (Sum.inr z) (.str z t)=true:=by
 show keyIs (Sum.inr z) (.str z t)=true;simp[keyIs,Value.isStrOf]
variable{I:Addr}
theorem JjI{R:Result->Shared->Prop}{fp wr:List Addr}{G:Array GenState->Array GenState->Prop}{P:Nat->Value->Prop}{St:Nat->Shared->Prop}
  (W:WalksS prog w A.in1 I fp wr G n P St) (d:Addr) (hdf:d∉fp) (adr:Nat->Addr) (key:Nat->Str) (val:Nat->Value) (hP:∀ i v,P i v->v=.ref (adr i)) (nd:∀ i,i<n->adr i≠d) (nw:∀ i,i<n->adr i∉wr) (hz:n<=sizeLine) :
  ∀(k i:Nat)(s:Shared),n-i=k->i<=n->St i s->s.heap.DictOf (JaG prog w) d (dkv key val i)->(∀ j,j<n->∃ tk,Jen s.heap (adr j) (.str (key j) tk) (val j)) ->
   (∀ s',Moved (d::wr) G s s'->s'.heap.DictOf (JaG prog w) d (dkv key val n)->R (.ok (.ret .none)) s') ->
   codeAny (model prog w) A (.builtin "dict.update.loop" ⟨[.ref d, .ref I, .int (i:Int) 0, .none],[]⟩) R s:=by
 have N:d∉wr:=λh=>hdf (W.sub _ h);have L:∀ b∈wr,b∈d::wr:=λb h=>mem_cons_of_mem _ h;intro k;induction k with
 | zero=>
  intro i s S Z C H l q;have : i=n:=by ac_nf
  subst this;show codeAny_builtin JgF ?_;rw[Around.under_plainId JdU _];show wpAny_bind (m:=pyNext (.ref I)) (W.done s _ _ C λs' f=>?_);show wpAny_bind (m:=Builtin.Dict.addKeywords d []) (wpAny_pure (wpAny_pure ?_));show q s' (f.mono L) ?_;let(o,E,u,x,rest):=H;show(o,E,u,f.heap d o N x,rest)
 | succ k ih=>
  intro i s S Z C H l q;have c:i<n:=by ac_nf
  show codeAny_builtin JgF ?_;rw[Around.under_plainId JdU _];show wpAny_bind (m:=pyNext (.ref I)) (W.item i s _ _ c C λv s' U y f=>?_);rw[hP i v U];have B:s'.heap.DictOf (JaG prog w) d (dkv key val i):=by
   let(o,E,u,x,rest):=H;show(o,E,u,f.heap d o N x,rest)
  have a:∀ j,j<n->∃ tk,Jen s'.heap (adr j) (.str (key j) tk) (val j):=λj g=>by
   let(tk,e):=l j g;show(tk,e.at_ λo z=>f.heap _ o (nw j g) z)
  let(tk,ot,ct,M,K,D):=a i c;have dl:=Jhv key val i;show wpAny_bind (wpAny_holding ?_);show wpAny_bind (wpAny_tryCatch ?_);unfold Builtin.Dict.pairItems;show wpAny_bind (wpAny_typeOf (T:="tuple") ⟨_,M,K⟩ ?_);rw[if_pos ⋯];unfold seqItems?;show wpAny_bind (wpAny_bind (wpAny_load M ?_));rw[D];show wpAny_pure (wpAny_pure ?_);show wpAny _ _ (holding [Value.str (key i) tk,val i] (dictSet d (.str (key i) tk) (val i))) _ _ _;show wpAny_holding (wpAny_dictSet_pairs (knd:=JaG prog w) (k:=Sum.inr (key i)) JmG B (λO Y r=>?_) ∅);have t:O.DictOf (JaG prog w) d (dkv key val (i+1)):=by
   rw[JfX];show Y
  show wpAny_pure ⟨plainId_quiet JdU _,ih (i+1) { s' with heap:=O,toks:=s'.toks+1 } ∅ c (W.frame _ s' _ _ y (Nat.le_succ _) λb p o e=>?_) t (λj g=>?_) λQ V F=>?_⟩
  .rw[r.2 b (λh:b=d=>hdf (h ▸ p))];show e
  .let(J,X):=a j g;show(J,X.at_ λo z=>(r.2 _ (nd j g)).trans z)
  .show q Q (Moved.trans W.gtrans ((f.mono L).then_heap (Nat.le_succ _) λb o p e=>?_) V) F;rw[r.2 b (λh:b=d=>p (by rw[h];show mem_cons_self))];show e
theorem JeQ{l:Addr}{items:Array Value}{c0:Nat}{Q:Value->Shared->Prop}(hh:A.handled=none)(hl:s.heap.get? l=some { cls:=.type "list",dict:=none,data:=.seq items c0,slots:=#[] })(adr:Nat->Addr)(key:Nat->Str)(val:Nat->Value)
  (hP:∀(i:Nat)(v:Value),items[i]?=some v->v=.ref (adr i)) (tup:∀ j,j<items.size->∃ tk,Jen s.heap (adr j) (.str (key j) tk) (val j)) (hz:items.size<=sizeLine)
  (q:∀ h' tk,(∀ b o,s.heap.get? b=some o->h'.get? b=some o)->h'.DictOf (JaG prog w) s.heap.objs.size (dkv key val items.size)->Q (.ref s.heap.objs.size) { s with heap:=h',toks:=tk }) :
  wpAny (model prog w) A (call (.type "dict") [.ref l]) Q E s:=by
 show callType_codes (Q₁:=λg J=>g=.ref s.heap.objs.size/\J={ s with heap:=s.heap.push { cls:=.type "dict",data:=.dict #[] } }) (PySem.F.kt_called_dict) (PySem.F.kt_typeCall_dict_1 _) (PySem.F.entry_dict_init) (kt_code_dict_new _ ⟨rfl,rfl⟩) ?_;rintro g J ⟨rfl,rfl⟩;have h:(s.heap.push { cls:=.type "dict",data:=.dict #[] }).DictOf (JaG prog w) s.heap.objs.size []:=Heap.DictOf.new s.heap;show(h.typeIs,PySem.F.args_dict_init_2 _ _,?_);generalize m:({ cls:=.type "dict",data:=.dict #[] }:Obj)=o0 at h ⊢;have p:(s.heap.push o0).get? l=some { cls:=.type "list",dict:=none,data:=.seq items c0,slots:=#[] }:=Heap.get?_push_of_some _ hl;have N:=Heap.lt_size hl;have W:(s.heap.push o0).objs.size=s.heap.objs.size+1:=Heap.size_push ..;unfold Builtin.«dict.__init__»;show wpAny_bind ?_;unfold Builtin.Dict.selfAndRest;show wpAny_bind (wpAny_notOrdered_dict h.typeIs (wpAny_pure ?_));show wpAny _ _ (Builtin.Dict.updateFrom "dict.__init__" s.heap.objs.size (.ref l) [] Value.none) _ _ _;unfold Builtin.Dict.updateFrom;show wpAny_bind (wpAny_typeOf (T:="list") ⟨_,p,rfl⟩ ?_);rw[if_pos ⋯];have R:A.in1.in1.handled=none:=by simp[hh]
 show wpAny_bind (JmA R p λf S n=>?_);show wpAny_ite_split (λ_=>?_) (λz=>absurd rfl z);show wpAny_bind (wpAny_rule ?_);have y:=n _ _ p;have G:f.DictOf (JaG prog w) s.heap.objs.size []:=by
  let(o,H,C,m,rest):=h;show(o,H,C,n _ _ m,rest)
 have d:s.heap.objs.size<f.objs.size:=by
  let(o,H,C,m,rest):=G;show Heap.lt_size m
 have B:f.IsList l items:=⟨_,y,rfl,c0,rfl⟩;show wpAny_bind (wpAny_pyIter_list (s:=⟨f,s.gens,s.drawn,S,s.os⟩) B ?_);have I:∀ j,j<items.size->adr j<s.heap.objs.size:=λj a=>by
  let(tk,o,c,e,_):=tup j a;show Heap.lt_size e
 have u:l<f.objs.size:=Heap.lt_size y;have t:A.in1.in1.handled=none:=by simp[hh]
 show wpAny_pure ⟨plainId_quiet JdU _,?_⟩;show JjI ((Walks.list t f.objs.size l (Nat.ne_of_lt u) items).toS) s.heap.objs.size (by simp only[mem_cons,not_mem_nil,or_false,not_or];show(Nat.ne_of_lt d,Nat.ne_of_gt N)) adr key val hP (λj a=>Nat.ne_of_lt (I j a)) (λj a=>by simp only[mem_cons,not_mem_nil,or_false];show Nat.ne_of_lt (Nat.lt_trans (I j a) d)) hz items.size 0 _ ∅ (Nat.zero_le _) ⟨⟨_,Heap.get?_push_size _ rfl,rfl,rfl⟩,B.push _⟩ (G.push _) (λj a=>?_) λM k P=>?_
 .let(tk,e):=tup j a;show(tk,e.at_ λo z=>Heap.get?_push_of_some _ (n _ _ (Heap.get?_push_of_some _ z)))
 .let(h',L,U,x,r):=M;have O:L=s.gens:=k.gens;have V:U=s.drawn:=k.drawn;have K:r=s.os:=k.os;subst O;subst V;subst K;show(rfl,q h' x (λb o e=>?_) P);have D:=Heap.lt_size e;show k.heap b o ?_ (Heap.get?_push_of_some _ (n _ _ (Heap.get?_push_of_some _ e)));simp only[mem_cons,not_mem_nil,or_false,not_or];show(Nat.ne_of_lt D,Nat.ne_of_lt (Nat.lt_trans D d))
end
variable{X:Cx}{pins:List (Addr × Obj)}{σ:List (Option V)}{s':Shared}
theorem Inv.like(I:Inv X pins σ H { s with heap:=s'.heap,toks:=s'.toks })(eg:s'.gens=s.gens)(eo:s'.os=s.os):Inv X pins σ H s' :=
 ⟨I.ok,by rw[eo];show I.os,by rw[eg];show I.bare,I.base,I.loc,I.cell,I.free,I.freeC,I.pin,I.hok,I.len⟩
theorem Jfg:∀{vs:List Value}{ss:List Str},StrsAre vs ss->Vals (ss.map V.str) vs
 | _,_, .nil=>.nil
 | _,_, .cons z t r=>.cons ⟨t,rfl⟩ (Jfg r)
theorem Jff:∀{vs:List Value}{ss:List Str},Vals (ss.map V.str) vs->StrsAre vs ss
 | [],[],_=>.nil
 | [],_::_,h=>by cases h
 | _::_,[],h=>by cases h
 | v::vs,z::ss,h=>by
  cases h with
  | cons h1 h2=>
   let(t,rfl):=h1;show .cons z t (Jff h2)
def Jjm(out ss:List Str):Prop:=out.Perm ss/\sortedS out=true
def Jn4(xs:List V)(H:Hp)(Q:VK):Prop:=∃ d kvs ss,xs=[.ref d]/\H d=some (.dK kvs)/\kvs.map (·.1)=ss.map Sum.inr/\ss.length<64/\∀ l out,H l=none->Jjm out ss->Q (.ref l) (upd H l (.lst (out.map V.str)))
theorem Jd8(hc:X.calm=true):CallR X (.builtin "sorted") Jn4:=by
 intro K s σ H xs us Q I r h;let(d,a,ss,rfl,e,m,M,q):=h;let(u,rfl,T):=vals1 r;cases T;let(R,U,n,f,G):=dk_of I.hok e;let(Z,J):=G.dictAt;have sl:(64:Nat)<=sizeLine:=by decide
 have lk:ss.length=a.length:=by simpa using(congrArg List.length m).symm
 have Y:n.length=a.length:=f.length.symm;have j:n.map (·.1)=a.map (·.1):=by
  clear G J m lk Y R q e;induction f with
  | nil=>rfl
  | cons h1 _ ih=>
   rw[map_cons,map_cons,ih,h1.1]
 show Jia (ss:=ss) (I.ok.hd hc) U J ∅ ∅ (λi k x v W N=>?_) λC l g c P k S L et D O E A B=>?_
 .have F:(n.map (·.1))[i]?=some k:=by rw[List.getElem?_map,W];rfl
  rw[j,m,List.getElem?_map]at F;let(z,p,rfl):=Option.map_eq_some_iff.mp F;rcases JaR (show keyIs (Sum.inr z) v=true from N)with⟨b,hb,_⟩ | ⟨y,t,hy,rfl⟩
  .cases hb
  .cases hy;show(t,by rw[List.getD_eq_getElem?_getD,p];rfl)
 .have lo:g.toList.length<=sizeLine:=by
   rw[E.length,A.length_eq];ac_nf
  show(.ref l,_,Inv.like (s:=s) (I.laid (t':=C.toks) (o:=.lst (c.map V.str)) k D (show ObjOk X.prog X.w _ C.heap l (.lst (c.map V.str))from⟨by rw[length_map,A.length_eq];ac_nf,g.toList,P,Jfg E,by rw[Array.toArray_toList];show O⟩)) S L,rfl,q l c (I.hok.fresh D) ⟨A,B⟩)
def Jn0:V->List V->Hp->VK->Prop:=λx vs H Q=>∃(l:Addr)(ss:List Str)(z:Str)(j:Nat),x=.ref l/\vs=[.str z]/\H l=some (.lst (ss.map V.str))/\ss[j]?=some z/\(∀ m,m<j->ss[m]?≠some z)/\Q (.int (j:Int)) H
theorem JiC:MtM X "list.index" Jn0:=by
 intro E s σ H x S v W Q I L N h;let(l,c,z,j,rfl,rfl,G,C,A,q):=h;cases L;let(u,rfl,P):=N.one;let(t,rfl):=P;let(K,a,n,r,R,e):=I.lstM G;have p:=Jff r;have J:=p.length;have U:j<c.length:=(List.getElem?_eq_some_iff.mp C).1;have T:a.toArray.size=c.length:=by rw[size_toArray];show J
 have f:∀ m (k:m<a.toArray.size), ∃ b d,c[m]?=some d/\a.toArray[m]=.str d b:=λm k=>by
  have g:m<c.length:=by ac_nf
  let(b,D):=p.get m c[m] (List.getElem?_eq_getElem g);show(b,c[m],List.getElem?_eq_getElem g,?_);rw[List.getElem?_eq_getElem (l:=a) (i:=m) (by simpa using k)]at D;simpa using D
 have V:(sizeLine:Int)<2 ^ 63-1:=by decide
 have M:c.length<=sizeLine:=by simpa using K
 show call_meets F.slot_list_index ⟨_,e,rfl⟩ F.entry_list_index (F.args_list_index_2 _ _) (MeetsSeq.list_index l a.toArray n (.str z t) (λy=>strOf y == z) (λy O=>?_) j ∅ ∅ ?_ λm k w=>?_) ⟨e,?_⟩
 .let(d,b,rfl):=p.all y (by simpa using O);have:=SeqRoads2.EqGives.str d z b t;rw[SeqAt.str_beq]at this;show this
 .let(b,d,o,B):=f j ∅;rw[C]at o;cases o;rw[B];simp[strOf]
 .let(b,d,o,B):=f m k;rw[B];have:=A m w;rw[o]at this;simp only[strOf,beq_eq_false_iff_ne];showλh=>this (by rw[h])
 .show(.int (j:Int),H,I.tok _,⟨_,rfl⟩,q)
def Jeq(ps:List (Str × V)):List (Key × V):=ps.foldl (λl p=>putK l (Sum.inr p.1) p.2) []
def JnZ(xs:List V)(H:Hp)(Q:VK):Prop:=∃(l:Addr)(as:List Addr)(ps:List (Str × V)),xs=[.ref l]/\H l=some (.lst (as.map V.ref))/\as.length=ps.length/\(∀(i:Nat)(a:Addr)(p:Str × V),as[i]?=some a->ps[i]?=some p->H a=some (.tup [.str p.1,p.2]))/\∀ d,H d=none->Q (.ref d) (upd H d (.dK (Jeq ps)))
theorem JfC(hc:X.calm=true):CallR X (.type "dict") JnZ:=by
 intro R s σ H xs us Q I r h;let(l,b,d,rfl,e,hl,hp,q):=h;let(u,rfl,Y):=vals1 r;cases Y;let(W,D,n,U,K,el):=I.lstM e;have L:b.length<=sizeLine:=by simpa using W
 have li:D.length=b.length:=by simpa using K.symm
 have pr:∀ j,j<b.length->∃ u a p f,b[j]?=some a/\d[j]?=some p/\RelV p.2 u/\Jen s.heap a (.str p.1 f) u:=λj A=>by
  have C:=List.getElem?_eq_getElem A;have w:=List.getElem?_eq_getElem (l:=d) (i:=j) ∅;let(_,ts,B,o,T,J,S,Z):=I.hok _ _ (hp j _ _ C w);cases B with
  | cons r1 B=>
   cases B with
   | cons r2 B=>
    cases B;let(f,rfl):=r1;show(_,_,_,f,C,w,r2,o,S,T,J,Z)
 let(y,g):=Classical.skolem.mp (show∀ j:Nat, ∃ u:Value,j<b.length->∃ a p f,b[j]?=some a/\d[j]?=some p/\RelV p.2 u/\Jen s.heap a (.str p.1 f) u fromλj=>by
  by_cases c:j<b.length
  .let(u,h):=pr j c;show(u,λ_=>h)
  .show(.none,λz=>absurd z c))
 have m:∀ j a,b[j]?=some a->b.getD j 0=a:=λj a h=>by rw[List.getD_eq_getElem?_getD,h];rfl
 have t:∀ j (p:Str × V),d[j]?=some p->(d.getD j (⟨#[]⟩, .non)).1=p.1:=λj p h=>by rw[List.getD_eq_getElem?_getD,h];rfl
 have E:D.toArray.size=b.length:=by rw[size_toArray];show li
 show JeQ (I.ok.hd hc) el (λj=>b.getD j 0) (λj=>(d.getD j (⟨#[]⟩, .non)).1) y (λj v G=>?_) (λj A=>?_) ∅ λh' f k O=>?_
 .rw[List.getElem?_toArray]at G;have A:j<b.length:=by have:=(List.getElem?_eq_some_iff.mp G).1;ac_nf
  let(u,N,ru):=U.get (i:=j) (x:=.ref b[j]) (by rw[List.getElem?_map,List.getElem?_eq_getElem A];rfl);rw[G]at N;cases N;rw[m j _ (List.getElem?_eq_getElem A)];show ru
 .let(a,p,f,C,w,M,P):=g j ∅;show(f,?_);rw[m j a C,t j p w];show P
 .have F:∀ i,i<=b.length->KV (Jeq (d.take i)) (dkv (λj=>(d.getD j (⟨#[]⟩, .non)).1) y i):=λi=>by
   induction i with
   | zero=>intro _;show .nil
   | succ i ih=>
    intro hi;let(a,p,f,C,w,M,P):=g i ∅;rw[JfX,take_succ,w];unfold Jeq;rw[foldl_append];rw[t i p w];show(ih ∅).put _ M
  have r:=F b.length (Nat.le_refl _);rw[take_of_length_le ∅]at r;have ln:(Jeq d).length<=sizeLine:=by
   rw[r.length];show Nat.le_trans (Jhv _ _ _) L
  rw[E]at O;show(.ref s.heap.objs.size,_,I.laid (a:=s.heap.objs.size) (o:=.dK (Jeq d)) (t':=f) k (Nat.le_refl _) (JjK ln (beq_eq_false_iff_ne.mpr (Ne.symm (Nat.ne_of_lt I.big))) r O),rfl,q _ (I.hok.fresh (Nat.le_refl _)))
variable{kvs:List (Key × V)}{ss:List Str}
theorem Jmm(h:kvs.map (·.1)=ss.map Sum.inr)(z:Str):(kvs.any λkv=>decide (kv.1=Sum.inr z))=decide (z∈ss):=by
 have e:(kvs.any λkv=>decide (kv.1=Sum.inr z))=(kvs.map (·.1)).any λk=>decide (k=Sum.inr z):=by rw[List.any_map];rfl
 rw[e,h,List.any_map,Bool.eq_iff_iff];simp
theorem Jiy(h:kvs.map (·.1)=ss.map Sum.inr)(z:Str)(v:V):(putK kvs (Sum.inr z) v).map (·.1)=(addS ss z).map Sum.inr:=by
 unfold putK addS;rw[Jmm h];by_cases c:z∈ss
 .rw[if_pos (by simpa using c),if_pos c, <- h,map_map];show List.map_congr_left λa _=>?_;simp only[Function.comp];split
  .rfl
  .rfl
 .rw[if_neg (by simpa using c),if_neg c,map_append,map_append,h];rfl
theorem Jjn(z:Str)(h:ss.Nodup):(addS ss z).Nodup:=by
 unfold addS;split
 .show h
 .rename_i c;rw[nodup_append];show(h,by simp,λa f b d=>?_);rw[mem_singleton.mp d];showλe=>c (e ▸ f)
theorem Jii(z x:Str):x∈addS ss z↔x∈ss\/x=z:=by
 unfold addS;split
 .rename_i c;constructor
  .show .inl
  .rintro(h | rfl)
   .show h
   .show c
 .simp
theorem Jih(ss:List Str)(z:Str):(addS ss z).length<=ss.length+1:=by
 unfold addS;split <;> simp
def Ja1(ts:List TD)(out:List Str):Prop:=out.Nodup/\sortedS out=true/\∀ z,z∈out↔∃ t∈ts,z=t.st\/z=t.en
def leS(a b:Str):Prop:=a.cps.toList<=b.cps.toList
theorem Jg6:∀(p:Str)(l:List Str),risingS p l=true->(p::l).Pairwise leS
 | p,[],_=>by simp
 | p,x::r,h=>by
  have h':(!ltCps x.cps.toList p.cps.toList&&risingS x r)=true:=h;rw[Bool.and_eq_true]at h';have ih:=Jg6 x r h'.2;have h1:leS p x:=by
   have:=h'.1;rw[ltCps_eq]at this;show List.not_lt.mp (by simpa using this)
  show List.pairwise_cons.mpr ⟨λb hb=>?_,ih⟩;rcases mem_cons.mp hb with rfl | hb
  .show h1
  .show List.le_trans h1 ((List.pairwise_cons.mp ih).1 b hb)
theorem Jhe(l:List Str)(h:sortedS l=true):l.Pairwise leS:=by
 cases l with
 | nil=>simp
 | cons p l=>show Jg6 p l h
theorem Jla{a b:Str}(h:leS a b)(g:leS b a):a=b:=by
 have e:=List.le_antisymm h g;cases a;cases b;simp only[Str.mk.injEq];show Array.toList_inj.mp e
theorem Jfc{l l':List Str}(h:sortedS l=true)(h':sortedS l'=true)(hn:l.Nodup)(hn':l'.Nodup)(hm:∀ z,z∈l↔z∈l'):l=l' :=
 List.Perm.eq_of_pairwise (le:=leS) (λ_ _ _ _=>Jla) (Jhe l h) (Jhe l' h') ((List.perm_ext_iff_of_nodup hn hn').mpr hm)
abbrev Pl:=List (Str × (Int × Int))
def look(ps:Pl)(z:Str):Int × Int:=((ps.find? λp=>decide (p.1=z)).map (·.2)).getD (0,1)
def negF(a:Int × Int):Int × Int:=(-a.1,a.2)
def apart(ps:Pl)(t:TD):Int × Int:=addF (look ps t.en) (negF (look ps t.st))
def lessF(a c:Int × Int):Bool:=decide (a.1*c.2<c.1*a.2)
def okB(lo hi:Option (Int × Int))(a:Int × Int):Bool :=
 (match lo with | none=>true | some l=>!lessF a l)&&(match hi with | none=>true | some h=>!lessF h a)
def okT(ps:Pl)(t:TD):Bool:=okB t.lo t.hi (apart ps t)
variable{ps:Pl}{i:Nat}{a:Int × Int}
theorem JhD(hn:(ps.map (·.1)).Nodup)(h:ps[i]?=some (z,a)):look ps z=a:=by
 unfold look;have : ps.find? (λp=>decide (p.1=z))=some (z,a):=by
  induction ps generalizing i with
  | nil=>simp at h
  | cons p ps ih=>
   cases i with
   | zero=>
    simp at h;subst h;simp
   | succ i=>
    rw[List.getElem?_cons_succ]at h;rw[map_cons,nodup_cons]at hn;have b:p.1≠z:=λe=>hn.1 (e ▸ mem_map_of_mem (f:=(·.1)) (List.mem_of_getElem? h));rw[List.find?_cons_of_neg (by simpa using b)];show ih hn.2 h
 rw[this];rfl
structure FB(A B:Nat)(a:Int × Int):Prop where
 s1:Mth.Sz A a.1
 s2:Mth.Sz B a.2
 b1:1<=a.2
 g1:Mth.g a.1 a.2=1
variable{A B:Nat}
theorem FB.ok(h:FB A B a)(h1:A<=n)(h2:B<=n):FOk n a:=⟨h.s1.mono h1,h.s2.mono h2,h.b1,h.g1⟩
theorem FB.neg(h:FB A B a):FB A B (negF a):=⟨by
 have:=h.s1;unfold Mth.Sz at this ⊢;unfold negF;rw[Int.natAbs_neg];show this,h.s2,h.b1,by
 have:=h.g1;unfold Mth.g negF at *;simpa using this⟩
variable{C:Nat}{c:Int × Int}
theorem FB.add{D m:Nat}(h:FB A B a)(k:FB C D c)(h1:A+D<=n)(h2:C+B<=n)(h3:B+D<=m):FB (n+1) m (addF a c):=by
 have b:a.2*c.2≠0:=Int.mul_ne_zero (by have:=h.b1;ac_nf) (by have:=k.b1;ac_nf);have e:=(h.s1.mul k.s2).mono h1;have d:=(k.s1.mul h.s2).mono h2;show(Mth.Sz.top b (e.add d),(Mth.Sz.bot b (h.s2.mul k.s2)).mono h3,Mth.JbQ b,Mth.g_low b)
theorem FB.low{t b:Int}(hb:1<=b)(h1:Mth.Sz A t)(h2:Mth.Sz B b):FB A B (Mth.top t b,Mth.bot t b):=by
 have a:b≠0:=by ac_nf
 show(Mth.Sz.top a h1,Mth.Sz.bot a h2,Mth.JbQ a,Mth.g_low a)
theorem JlH{x y:Int × Int}(hx:1<=x.2)(hy:1<=y.2):(y.1<=0->lessF x (addF x y)=false)/\(0<=y.1->lessF (addF x y) x=false):=by
 have d:x.2*y.2≠0:=Int.mul_ne_zero ∅ ∅;have a:=Mth.cross (t:=x.1*y.2+y.1*x.2) d;have g:=Mth.JbQ (t:=x.1*y.2+y.1*x.2) d;unfold lessF addF;dsimp only;generalize Mth.bot (x.1*y.2+y.1*x.2) (x.2*y.2)=B at a g ⊢;generalize Mth.top (x.1*y.2+y.1*x.2) (x.2*y.2)=T' at a ⊢;have e:T'*x.2*y.2=x.1*B*y.2+y.1*x.2*B:=by
  have : T'*x.2*y.2=T'*(x.2*y.2):=by rw[Int.mul_assoc]
  rw[this,a,Int.add_mul];rw[Int.mul_right_comm x.1 y.2 B]
 constructor
 .intro h;rw[decide_eq_false_iff_not];intro b;have c:=Int.mul_lt_mul_of_pos_right b (show 0<y.2 by ac_nf);rw[e]at c;have f:y.1*x.2*B<=0:=Int.mul_nonpos_of_nonpos_of_nonneg (Int.mul_nonpos_of_nonpos_of_nonneg h ∅) ∅;ac_nf
 .intro h;rw[decide_eq_false_iff_not];intro b;have c:=Int.mul_lt_mul_of_pos_right b (show 0<y.2 by ac_nf);rw[e]at c;have f:0<=y.1*x.2*B:=Int.mul_nonneg (Int.mul_nonneg h ∅) ∅;ac_nf
def QV(K:W.Frag)(H:Hp)(p:Str × (Int × Int))(x:V):Prop:=∃ b v,x=.ref b/\H b=some (.tup [.str p.1,v])/\FrV K H v p.2.1 p.2.2
theorem QV.sameT{K:W.Frag}{p:Str × (Int × Int)}{x:V}(S:SameT H H'):QV K H p x->QV K H' p x:=by rintro⟨b,v,e,h,f⟩;show(b,v,e,S _ _ rfl h,f.sameT S)
theorem QV.refs{K:W.Frag}:∀{ps:Pl}{zs:List V},All2 (QV K H) ps zs->∃(as:List Addr)(qs:List (Str × V)),zs=as.map V.ref/\as.length=qs.length/\(∀(i:Nat)(a:Addr)(q:Str × V),as[i]?=some a->qs[i]?=some q->H a=some (.tup [.str q.1,q.2]))/\qs.map (·.1)=ps.map (·.1)/\∀(i:Nat)(q:Str × V)(p:Str × (Int × Int)),qs[i]?=some q->ps[i]?=some p->FrV K H q.2 p.2.1 p.2.2
 | [],zs,h=>⟨[],[],h,rfl,by simp,rfl,by simp⟩
 | p::ps,zs,h=>by
  let(x,r,rfl,(b,v,rfl,hb,f),h2):=h;let(as,qs,rfl,hl,h3,h4,h5):=QV.refs h2;show(b::as,(p.1,v)::qs,rfl,by simp[hl],λi a q ha hq=>?_,by simp[h4],λi q p' hq hp=>?_)
  .cases i with
   | zero=>
    simp at ha hq;subst ha;subst hq;show hb
   | succ i=>show h3 i a q (by simpa using ha) (by simpa using hq)
  .cases i with
   | zero=>
    simp at hq hp;subst hq;subst hp;show f
   | succ i=>show h5 i q p' (by simpa using hq) (by simpa using hp)
theorem Je4:∀(qs:List (Str × V))(l:List (Key × V)),(qs.map (·.1)).Nodup->(∀ q∈qs, ∀ kv∈l,kv.1≠Sum.inr q.1)->qs.foldl (λl p=>putK l (Sum.inr p.1) p.2) l=l++qs.map λq=>((Sum.inr q.1:Key),q.2)
 | [],l,_,_=>by simp
 | q::qs,l,hn,hd=>by
  rw[map_cons,nodup_cons]at hn;have e:putK l (Sum.inr q.1) q.2=l++[((Sum.inr q.1:Key),q.2)]:=by
   unfold putK;rw[if_neg];simp only[List.any_eq_true,decide_eq_true_eq,not_exists,not_and];showλkv hkv=>hd q (by simp) kv hkv
  rw[foldl_cons,e,Je4 qs _ hn.2,List.append_assoc]
  .rfl
  .intro q' hq' kv hkv;rcases mem_append.mp hkv with h | h
   .show hd q' (by simp[hq']) kv h
   .rw[mem_singleton.mp h];intro z;have z':q.1=q'.1:=by injection z
    show hn.1 (z' ▸ mem_map_of_mem (f:=(·.1)) hq')
theorem JdK{K:W.Frag}{qs:List (Str × V)}(hk:qs.map (·.1)=ps.map (·.1))(hn:(ps.map (·.1)).Nodup)(hf:∀(i:Nat) (q:Str × V) (p:Str × (Int × Int)),qs[i]?=some q->ps[i]?=some p->FrV K H q.2 p.2.1 p.2.2){z:Str}(hz:z∈ps.map (·.1)) :
  ∃ v,valV (Jeq qs) (Sum.inr z)=some v/\FrV K H v (look ps z).1 (look ps z).2:=by
 have c:(qs.map (·.1)).Nodup:=by rw[hk];show hn
 have e:Jeq qs=qs.map λq=>((Sum.inr q.1:Key),q.2):=by
  unfold Jeq;rw[Je4 qs [] c (by simp)];simp
 let(i,j):=List.getElem?_of_mem hz;rw[List.getElem?_map]at j;let(p,d,rfl):=Option.map_eq_some_iff.mp j;have b:(qs.map (·.1))[i]?=some p.1:=by rw[hk,List.getElem?_map,d];rfl
 rw[List.getElem?_map]at b;let(q,b,g):=Option.map_eq_some_iff.mp b;show(q.2,?_,?_)
 .rw[e];unfold valV;have : ∀(l:List (Str × V))(i:Nat),(l.map (·.1)).Nodup->l[i]?=some q->((l.map λq=>((Sum.inr q.1:Key),q.2)).find? λm=>decide (m.1=Sum.inr p.1))=some (Sum.inr q.1,q.2):=λl=>by
   induction l with
   | nil=>intro i _ h;simp at h
   | cons a l ih=>
    intro i hn h;rw[map_cons,nodup_cons]at hn;cases i with
    | zero=>
     simp at h;subst h;rw[map_cons,List.find?_cons_of_pos (by simp[g])]
    | succ i=>
     rw[List.getElem?_cons_succ]at h;have k:a.1≠p.1:=λz=>hn.1 (by rw[z, <- g];show mem_map_of_mem (f:=(·.1)) (List.mem_of_getElem? h));rw[map_cons,List.find?_cons_of_neg (by simpa using k)];show ih i hn.2 h
  rw[this qs i c b];rfl
 .rw[JhD hn (show ps[i]?=some (p.1,p.2)from d)];show hf i q p b d
variable{e:Expr}{ta:TE}{pos:Pos}
theorem JmT{K:W.Frag}{f:Str}(hK:X.K=K)(he:PE X e ta)(hb:attributeBase e f X.env (eval e X.env)=eval e X.env):PE X (.Attribute e f pos) (tFld K ta f):=by
 subst hK;show Jaw he hb
theorem JjO:∀(ls rs:List Str),eqL (ls.map D.str) (rs.map D.str)=decide (ls=rs)
 | [],[]=>rfl
 | [],_::_=>by simp[eqL]
 | _::_,[]=>by simp[eqL]
 | a::ls,b::rs=>by
  rw[map_cons,map_cons,eqL,JjO ls rs];simp only[eqD,List.cons.injEq];by_cases c:a=b
  .subst c;simp
  .simp[c]
theorem Jgg{K:W.Frag}:∀(ls:List Str),RepL K H (ls.map D.str) (ls.map V.str)
 | []=>by simp[RepL]
 | a::ls=>by
  simp only[map_cons,RepL,Rep];show(_,_,rfl,rfl,Jgg ls)
theorem JnN{K:W.Frag}{Q:VK}{p q:Addr}{ls rs:List Str}(hp:SqL K H p (ls.map V.str))(hq:SqL K H q (rs.map V.str))(k:Q (.bl (!decide (ls=rs))) H):rNeU K (.ref p) (.ref q) H Q:=by
 show(.lst (ls.map D.str), .lst (rs.map D.str),by simp only[Rep];show(p,_,rfl,hp,Jgg ls),by simp only[Rep];show(q,_,rfl,hq,Jgg rs),?_,rfl,?_)
 .have : ∀ l:List Str,depL (l.map D.str)<=10:=Jin (n:=10) λa=>by simp[depD]
  rw[depD];have:=this ls;ac_nf
 .rw[eqD,JjO];show k
structure FW(A B:Nat)(a:Int × Int):Prop where
 s1:Mth.Sz A a.1
 s2:Mth.Sz B a.2
 b1:1<=a.2
theorem FB.w(h:FB A B a):FW A B a:=⟨h.s1,h.s2,h.b1⟩
theorem FW.mono{D:Nat}(h:FW A B a)(h1:A<=C)(h2:B<=D):FW C D a:=⟨h.s1.mono h1,h.s2.mono h2,h.b1⟩
theorem FW.add{D m:Nat}(h:FW A B a)(k:FW C D c)(h1:A+D<=n)(h2:C+B<=n)(h3:B+D<=m):FB (n+1) m (addF a c):=by
 have b:a.2*c.2≠0:=Int.mul_ne_zero (by have:=h.b1;ac_nf) (by have:=k.b1;ac_nf);have e:=(h.s1.mul k.s2).mono h1;have d:=(k.s1.mul h.s2).mono h2;show(Mth.Sz.top b (e.add d),(Mth.Sz.bot b (h.s2.mul k.s2)).mono h3,Mth.JbQ b,Mth.g_low b)
theorem Ji2{b:Int × Int}(ha:1<=a.2)(hb:1<=b.2)(hc:1<=c.2)(h1:lessF b a=false)(h2:lessF c b=false):lessF c a=false:=by
 unfold lessF at *;rw[decide_eq_false_iff_not,Int.not_lt]at *;have d:=Int.mul_le_mul_of_nonneg_right h1 (show 0<=c.2 by ac_nf);have e:=Int.mul_le_mul_of_nonneg_right h2 (show 0<=a.2 by ac_nf);have g:a.1*b.2*c.2=(a.1*c.2)*b.2:=by rw[Int.mul_right_comm]
 have f:c.1*b.2*a.2=(c.1*a.2)*b.2:=by rw[Int.mul_right_comm]
 have h:b.1*a.2*c.2=b.1*c.2*a.2:=by rw[Int.mul_right_comm]
 rw[g,h]at d;rw[f]at e;show Int.le_of_mul_le_mul_right (Int.le_trans d e) (show 0<b.2 by ac_nf)
section
variable{o:Expr}{es:List Expr}{to:TE}{name:Str}{apos cpos:Pos}{T id:String}{r:V->List V->Hp->VK->Prop}{K:W.Frag}{t:TA}
end
def Jme(td:TE):TE:=λσ H Q=>td σ H λx H1=>∃ d kvs,x=.ref d/\H1 d=some (.dK kvs)/\∀ l,H1 l=none->Q (.ref l) (upd H1 l (.lst (kvs.map (·.2))))
theorem Jnj{vs:List (Key × Value)}(r:KV kvs vs):Vals (kvs.map (·.2)) (vs.map (·.2)):=by
 unfold KV at r;induction r with
 | nil=>show .nil
 | cons h _ ih=>show .cons h.2 ih
variable{o:Expr}{td:TE}{p1 apos cpos:Pos}{x:Str}
theorem JmY(hc:X.calm=true)(hx:x="list")(hg:Gl X x)(hm:X.mg x=none)(hv:bootBuiltins x=some (.type "list"))(ho:PE X o td)
  (hb:autoParam (attributeBase o "values" X.env (eval o X.env)=eval o X.env) Au) (hn:autoParam ((apos.endLine == cpos.line)=true) Au) :
  PE X (.Call (.Name x p1) [.Call (.Attribute o "values" apos) [] [] cpos] [] pos) (Jme td):=by
 intro g s σ H Q I h;have O:x≠"__name__":=by rw[hx];decide
 have K:(x == ("__debug__" : Str))=false:=by rw[hx];decide
 show wpAny_Call_Name_kw (JcV I hg hm hv ?_ O K);show PyProof.Rows.callWith_type1 ?_ rfl rfl;show wpAny _ _ (spliced ((false,eval (.Call (.Attribute o "values" apos) [] [] cpos) X.env)::backTo pos (starEach [] X.env))) _ _ s;show Calls.spliced_cons ?_;show wpAny_Call_method0_late hb hn (thn (ho g s σ H _ I h) λv l ζ=>?_);let(y,R,I1,t,d,kvs,C,e,D):=ζ;subst C;obtain rfl:v=Value.ref d:=t;let(p,G,M):=JlV I1 (.inl ⟨kvs, .inl e⟩);let(E,_,i,f,m):=dk_of I1.hok e;show("dict","dict.values",PySem.F.plainAttrs_dict,PySem.F.slot_dict_values,PySem.F.type_dict_values,p,G,Calls.callWith_builtin rfl (PySem.evalArgs_none ?_));show call_meetsIn PySem.F.slot_dict_values p PySem.F.entry_dict_values (PySem.F.args_dict_values_1 _) (meets_dict_values (JaG X.prog X.w) d M) ⟨⟨i,m⟩,?_⟩;show Calls.spliced_nil ?_;let(ep,N):=m.dictAt;show W.kdl_call (W.kdl_values (knd:=JaG X.prog X.w) (r:=l.heap.objs.size) (d:=d) (kvs:=i) (ep:=ep)) (I.ok.hd hc) ⟨⟨_,Heap.get?_push_size _ rfl,rfl,rfl⟩,N.push _⟩ (by have:=f.length;ac_nf) λn J c P k L a=>?_;have u:c.toList=i.map (·.2):=W.kdl_vals_eq _ (by rw[Array.length_toList];show a.1) λj v B=>a.2 j v (by rw[<- Array.getElem?_toList];show B);have A:∀ b o,l.heap.get? b=some o->n.get? b=some o:=λb o z=>k b o (Heap.get?_push_of_some _ z);have q:l.heap.objs.size<=(l.heap.push { cls:=.type "dict_values",data:=.fields #[.ref d] }).objs.size:=by
  rw[Heap.size_push];show Nat.le_succ _
 show(.ref _,_,I1.laid (t':=J) (o:=.lst (kvs.map (·.2))) A q (show ObjOk X.prog X.w _ n _ (.lst (kvs.map (·.2)))from⟨by rw[length_map];show E,i.map (·.2),P,Jnj f,by rw[<- u,Array.toArray_toList];show L⟩),rfl,D _ (I1.hok.fresh q))
section
variable{prog:Program}{A:Around}{w:World}{I a:Addr}{ep:Nat}
theorem JkZ{t:SetTable}{Q:Option Value->Shared->Prop}(hh:A.handled=none)(hI:s.heap.get? I=some (itO (.int 0 0) 0 a 0 ep))(ha:s.heap.get? a=some (setO #[] ep t))(hf:t.fits 0=true)
  (q:∀ h',(∀ b o,b≠I->s.heap.get? b=some o->h'.get? b=some o)->Q none { s with heap:=h' }):wpAny (model prog w) A (pyNext (.ref I)) Q E s:=by
 have c:s.TypeIs (.ref I) "set_iterator":=⟨_,hI,rfl⟩;cases ht:w.params.followText "set-order" with
 | true=>show Jio (es:=#[]) (i:=0) hh hI ha hf ht (by rw[<- Array.getElem?_toList];show List.getElem?_eq_none (by rw[(JdT _ _).length_eq];simp)) q
 | false=>
  unfold pyNext;show wpAny_bind (wpAny_attempt (wpAny_callSpecial?_slot (name:=Str.ofString "__next__") c JbL (wpAny_call_entry JbL c JdL ?_ (JeM _))));unfold Builtin.«set_iterator.__next__»;show wpAny_bind (m:=slotArgs _ _ _) (wpAny_pure ?_);show wpAny_bind (wpAny_fieldsOf hI rfl ?_);show wpAny _ _ (setEntries a >>= _) _ _ _;show wpAny_bind (wpAny_setEntries_of ha rfl hf ?_);rw[if_neg (by simp)];dsimp only;unfold setNext;show wpAny_bind (wpAny_bind (wpAny_setState_of ha rfl hf ?_));dsimp only;show wpAny_bind (Jd7 ?_);rw[if_neg (by rw[ht];decide)];show wpAny_ite_split (λz=>absurd (show(!t.plain&&decide ((#[]:Array (Int × Value)).size > 1))=true from z) (by simp)) (λ_=>?_);show wpAny_bind ?_;show wpAny _ _ (if(!t.led&&!(#[]:Array (Int × Value)).isEmpty)=true then unsupported _ else pure ()) _ _ _;rw[if_neg (by simp)];show wpAny_pure (wpAny_pure ?_);have f:∀ i:Nat,(#[]:Array (Int × Value))[i]?=none:=λi=>by simp
  rw[f];dsimp only;show wpAny_bind (wpAny_setField hI rfl (by simp) ?_);show Jid hh λh' k=>q h' λb o d e=>k b o ?_;show((Heap.SameBut.update ..).extBut b o d e)
variable{Q:Value->Shared->Prop}
theorem JjY{t:SetTable}(ha:s.heap.get? a=some (setO #[] ep t))(hf:t.fits 0=true)
  (q1:Q (.ref s.heap.objs.size) { s with heap:=s.heap.push (itO (.int 0 0) 0 a 0 ep) }):wpAny (model prog w) A (pyIter (.ref a)) Q E s:=by
 have b:s.TypeIs (.ref a) "set":=⟨_,ha,rfl⟩;show wpAny_pyIter_slot b PySem.F.slot_set_iter (wpAny_call_entry PySem.F.slot_set_iter b JgG ?_ (PySem.F.args_set_iter_1 _));unfold Builtin.«frozenset.__iter__»;show wpAny_bind (m:=Builtin.Frozenset.slot0 _ _) (wpAny_pure ?_);unfold Builtin.Frozenset.sizeOf;show wpAny_bind (wpAny_bind (wpAny_setEntries_of ha rfl hf (wpAny_pure ?_)));unfold setDrawn;show wpAny_bind (wpAny_bind (wpAny_setState_of ha rfl hf ?_));dsimp only;show wpAny_bind (Jd7 ?_);show wpAny_pure ?_;show wpAny_ite_split (λz=>absurd (show(!w.params.followText "set-order"&&(!t.plain&&decide ((#[]:Array (Int × Value)).size > 1)))=true from z) (by simp)) (λ_=>?_);show wpAny_bind (wpAny_pure (wpAny_bind (wpAny_setEpoch_of ha rfl hf ?_)));unfold newFields;show wpAny_bind (wpAny_newObj_type (wpAny_pure ⟨_,rfl,"set_iterator",_,⟨_,Heap.get?_push_size _ rfl,rfl⟩,JbL.lookup,?_⟩));show q1
theorem Jk8{t:SetTable}(hf:t.fits 0=true):W.KdlSrc prog w "set" a a 0 (λ_ _=>False) (λh=>h.get? a=some (setO #[] ep t)) where
 type:=λ_ c=>⟨_,c,rfl⟩
 there:=λ_ c=>⟨Heap.lt_size c,Heap.lt_size c⟩
 keep:=λ_ _ c k=>k a (.inl rfl) _ c
 notList:=by decide
 notTuple:=by decide
 hint:=λ_ _ _ _ c q=>Jf3 ⟨_,c,rfl⟩ q
 iter:=λA s l c=>⟨itO (.int 0 0) 0 a 0 ep,λ_ h=>h.get? s.heap.objs.size=some (itO (.int 0 0) 0 a 0 ep)/\h.get? a=some (setO #[] ep t),λ_ _ q=>JjY c hf q,
  {
   sub:=λb e=>by simp at e;simp[e]
   frame:=λ_ _ _ d k=>⟨k _ (by simp) _ d.1,k _ (by simp) _ d.2⟩
   item:=λi _ _ _ g _ _=>absurd g (Nat.not_lt_zero _)
   done:=λj Q E d q=>JkZ l d.1 d.2 hf λf k=>q f j.toks λb o e z=>k b o (λh=>e (by simp[h])) z
   self:=λ_ _ _ _ d q=>JhC d.1 q },⟨Heap.get?_push_size _ rfl,Heap.get?_push_of_some _ c⟩⟩
theorem Jib{t:SetTable}(hh:A.handled=none)(ha:s.heap.get? a=some (setO #[] ep t))(hf:t.fits 0=true)
  (q:∀ s' l (out:Array Value) ss' e,(∀ b o,s.heap.get? b=some o->s'.heap.get? b=some o)->s'.gens=s.gens->s'.os=s.os->s.toks<=s'.toks->s.heap.objs.size<=l->s'.heap.get? l=some (seqObj "list" out e)->StrsAre out.toList ss'->ss'.Perm []->sortedS ss'=true->Q (.ref l) s') :
  wpAny (model prog w) A (call (.builtin "sorted") [.ref a]) Q E s:=by
 have v:=Heap.lt_size ha;have y:A.in1.handled=none:=by simp[hh]
 show Jej (ss:=[]) ⋯ (λR k=>?_) q;obtain⟨u,h⟩:∃ u:Result->Shared->Prop, ∀ r s',u r s'↔∃ f p d m,r=.ok (.ret (.ref s.heap.objs.size))/\s'={ s with heap:=f,toks:=p }/\(∀ b o,b≠s.heap.objs.size->(s.heap.push { cls:=.type "list",data:=.seq ([]:List Value).toArray }).get? b=some o->f.get? b=some o)/\f.get? s.heap.objs.size=some { cls:=.type "list",dict:=none,data:=.seq d m,slots:=#[] }/\ItemsOf (λ_ _=>False) d 0:=⟨_,λ_ _=>Iff.rfl⟩;have j:=codeAny_toks_of (n:=s.toks) (s:={ s with heap:=s.heap.push { cls:=.type "list",data:=.seq ([]:List Value).toArray } }) (Nat.le_refl _) (JhA (A:=A.in1) (R:=u)
  (W.kdl_extend (R:=u) (s:={ s with heap:=s.heap.push { cls:=.type "list",data:=.seq ([]:List Value).toArray } }) (Jk8 (prog:=prog) (w:=w) (a:=a) (ep:=ep) hf) y (Heap.get?_push_of_some _ ha) s.heap.objs.size (Nat.ne_of_gt v) (Nat.ne_of_gt v) (.ref s.heap.objs.size) 0 (Heap.get?_push_size _ rfl) (λf p g m B z c=>(h _ _).mpr ⟨f,p,g,m,rfl,rfl,B,z,c⟩) (Nat.zero_le _)))
 show codeAny_mono j ?_;rintro r s' ⟨C,D⟩;let(f,p,d,m,rfl,rfl,x,i,c):=(h _ _).mp D;have e:d.toList=[]:=eq_nil_of_length_eq_zero (by rw[Array.length_toList];show c.1);show k _ d.toList m [] (λb o e=>x b o (Nat.ne_of_lt (Heap.lt_size e)) (Heap.get?_push_of_some _ e)) rfl rfl C (by rw[Array.toArray_toList];show i) (by rw[e];show .nil) (.refl _)
end
section
variable{k':Nat}{mn:Str}{C:Addr}{Cs:Addr->Prop}{ps:List Str}{sp:Sp}{p:Pos}{es:List Expr}{k:Nat}{t:TA}
abbrev TX:=St->Hp->VK->XK->Prop
def xMeth(Cs:Addr->Prop)(m:Str)(sp:Sp)(ta:TE)(t:TA):TX:=λσ H Q E=>ta σ H λx H1=>∃ a C dx fs,x=.ref a/\H1 a=some (.ins C dx fs)/\Cs C/\fs.lookup m=none/\t σ H1 λvs H2=>sp (x::vs) H2 Q E
end
theorem JdP:OpR X (compareOp .NotIn) (rIn X.K true):=Jg5
section
variable{σ:St}{Q:VK}{E:XK}{ty:TE}{ts:TA}{tc:TT}{u:TX}{C:Addr}{sp:Sp}{Cs:Addr->Prop}{t:TX}{m:Str}
theorem yaey:xMeth Cs m sp ta ts σ H Q E=ta σ H λx H1=>∃ a C dx fs,x=.ref a/\H1 a=some (.ins C dx fs)/\Cs C/\fs.lookup m=none/\ts σ H1 λvs H2=>sp (x::vs) H2 Q E:=rfl
theorem ya8y:Jme td σ H Q=td σ H λx H1=>∃ d kvs,x=.ref d/\H1 d=some (.dK kvs)/\∀ l,H1 l=none->Q (.ref l) (upd H1 l (.lst (kvs.map (·.2)))):=rfl
theorem y43y:tDIn ty td σ H Q=ty σ H λy H1=>td σ H1 λx H2=>∃ a o,x=.ref a/\DGet H2 a y o/\Q (.bl o.isSome) H2:=rfl
theorem y47y:JkC ty td σ H Q=ty σ H λy H1=>td σ H1 λx H2=>∃ a o,x=.ref a/\DGet H2 a y o/\Q (.bl (!o.isSome)) H2:=rfl
theorem y48y:Jmc td ty σ H Q=td σ H λx H1=>∃ a,x=.ref a/\IsD H1 a/\ty σ H1 λy H2=>∃ kvs k v,H2 a=some (.dK kvs)/\y=kV k/\valV kvs k=some v/\Q v (upd H2 a (.dK (dropK kvs k))):=rfl
end
section
variable{κ:Type}[DecidableEq κ]{f : α->κ}{k : κ}{u y : α}
theorem Jkt:∀{l:List α}{i:Nat},(l.map f).Nodup->l[i]?=some u->f u=k->l.map (λa=>if f a=k then y else a)=l.set i y
 | [],i,_,h,_=>by simp at h
 | a::l,0,hn,h,hk=>by
  simp at h;subst h;rw[map_cons,nodup_cons]at hn;rw[map_cons,if_pos hk,List.set_cons_zero]
  congr 1
  show(List.map_congr_left λb hb=>if_neg λz=>hn.1 ?_).trans (List.map_id _);rw[hk, <- z];show mem_map_of_mem hb
 | a::l,i+1,hn,h,hk=>by
  rw[List.getElem?_cons_succ]at h;rw[map_cons,nodup_cons]at hn;have ne:f a≠k:=λz=>hn.1 (by rw[z, <- hk];show mem_map_of_mem (List.mem_of_getElem? h));rw[map_cons,if_neg ne,List.set_cons_succ,Jkt hn.2 h hk]
theorem JgI:∀{l:List α}{i:Nat},(l.map f).Nodup->l[i]?=some u->f u=k->l.filter (λa=>decide (f a≠k))=l.eraseIdx i
 | [],i,_,h,_=>by simp at h
 | a::l,0,hn,h,hk=>by
  simp at h;subst h;rw[map_cons,nodup_cons]at hn;rw[List.filter_cons_of_neg (by simp[hk]),List.eraseIdx_cons_zero];show List.filter_eq_self.mpr λb hb=>decide_eq_true λz=>hn.1 ?_;rw[hk, <- z];show mem_map_of_mem hb
 | a::l,i+1,hn,h,hk=>by
  rw[List.getElem?_cons_succ]at h;rw[map_cons,nodup_cons]at hn;have ne:f a≠k:=λz=>hn.1 (by rw[z, <- hk];show mem_map_of_mem (List.mem_of_getElem? h));rw[List.filter_cons_of_pos (by simp[ne]),List.eraseIdx_cons_succ,JgI hn.2 h hk]
end
section
variable{P : α->V->Prop}
theorem All2.set:∀{as:List α}{xs:List V}{i:Nat}{a : α}{x:V},All2 P as xs->P a x->All2 P (as.set i a) (xs.set i x)
 | [],xs,i,a,x,h,_=>by
  have : xs=[]:=h;subst this;simp;show h
 | b::as,xs,0,a,x,h,p=>by
  let(y,r,rfl,_,h2):=h;show(x,r,rfl,p,h2)
 | b::as,xs,i+1,a,x,h,p=>by
  let(y,r,rfl,h1,h2):=h;show(y,r.set i x,rfl,h1,All2.set h2 p)
theorem All2.erase:∀{as:List α}{xs:List V}{i:Nat},All2 P as xs->All2 P (as.eraseIdx i) (xs.eraseIdx i)
 | [],xs,i,h=>by
  have : xs=[]:=h;subst this;simp;show h
 | b::as,xs,0,h=>by
  let(y,r,rfl,_,h2):=h;show h2
 | b::as,xs,i+1,h=>by
  let(y,r,rfl,h1,h2):=h;show(y,r.eraseIdx i,rfl,h1,All2.erase h2)
end
abbrev nms(ts:List TD):List Str:=ts.map (·.nm)
def putT(ts:List TD)(t:TD):List TD:=if t.nm∈nms ts then ts.map (λu=>if u.nm=t.nm then t else u)else ts++[t]
def dropT(ts:List TD)(z:Str):List TD:=ts.filter λu=>decide (u.nm≠z)
def BD(P:TD->V->Prop)(ts:List TD)(kvs:List (Key × V)):Prop:=kvs.map (·.1)=ts.map (λt=>Sum.inr t.nm)/\All2 P ts (kvs.map (·.2))
section
variable{P P':TD->V->Prop}{ts:List TD}{t:TD}
theorem BD.mono(h:BD P ts kvs)(m:∀ a x,P a x->P' a x):BD P' ts kvs:=⟨h.1,h.2.mono m⟩
theorem BD.length(h:BD P ts kvs):kvs.length=ts.length:=by simpa using congrArg List.length h.1
theorem BD.cons:BD P (t::ts) kvs↔∃ w r,kvs=(Sum.inr t.nm,w)::r/\P t w/\BD P ts r:=by
 constructor
 .rintro⟨a,b⟩;match kvs,a,b with
  | (k,w)::r,a,b=>
   rw[map_cons,map_cons,List.cons.injEq]at a;let(y,d,e,p,b):=b;rw[map_cons,List.cons.injEq]at e;let(rfl,rfl):=e;let(c,a):=a;have c:k=Sum.inr t.nm:=c;subst c;show(_,r,rfl,p,a,b)
 .rintro⟨w,r,rfl,p,h⟩;show(by rw[map_cons,map_cons,h.1],w,r.map (·.2),rfl,p,h.2)
theorem BD.nil:BD P [] kvs↔kvs=[]:=by
 constructor
 .rintro⟨h,_⟩;simpa using h
 .rintro rfl;show(rfl,rfl)
theorem BD.any:∀{ts:List TD}{kvs:List (Key × V)}{z:Str},BD P ts kvs->(kvs.any λkv=>decide (kv.1=Sum.inr z))=decide (z∈nms ts)
 | [],kvs,z,h=>by rw[BD.nil.mp h];simp
 | t::ts,kvs,z,h=>by
  let(w,r,rfl,_,h):=BD.cons.mp h;rw[any_cons,BD.any h];by_cases c:t.nm=z
  .subst c;simp
  .have c1:(Sum.inr t.nm:Key)≠Sum.inr z:=λe=>c (by injection e);have c2:z≠t.nm:=λe=>c e.symm;simp[c1,c2]
theorem BD.val:∀{ts:List TD}{kvs:List (Key × V)}{z:Str},BD P ts kvs->(valV kvs (Sum.inr z)).isSome=decide (z∈nms ts)
 | [],kvs,z,h=>by rw[BD.nil.mp h];rfl
 | t::ts,kvs,z,h=>by
  let(w,r,rfl,_,h):=BD.cons.mp h;by_cases c:t.nm=z
  .subst c;rw[Jd4 rfl];simp
  .have c1:(Sum.inr t.nm:Key)≠Sum.inr z:=λe=>c (by injection e);have c2:z≠t.nm:=λe=>c e.symm;have e:valV ((Sum.inr t.nm,w)::r) (Sum.inr z)=valV r (Sum.inr z):=by simp[valV,List.find?_cons,c1]
   rw[e,BD.val h];simp[c2]
theorem BD.rep:∀{ts:List TD}{kvs:List (Key × V)},BD P ts kvs->P t v->BD P (ts.map λu=>if u.nm=t.nm then t else u) (kvs.map λkv=>if kv.1=Sum.inr t.nm then(kv.1,v)else kv)
 | [],kvs,h,_=>by rw[BD.nil.mp h];show(rfl,rfl)
 | s::ts,kvs,h,p=>by
  let(w,r,rfl,q,h):=BD.cons.mp h;by_cases c:s.nm=t.nm
  .rw[map_cons,map_cons,if_pos c,if_pos (by rw[c]),c];show BD.cons.mpr ⟨v,_,rfl,p,BD.rep h p⟩
  .have c1:(Sum.inr s.nm:Key)≠Sum.inr t.nm:=λe=>c (by injection e);rw[map_cons,map_cons,if_neg c,if_neg c1];show BD.cons.mpr ⟨w,_,rfl,q,BD.rep h p⟩
theorem BD.app(h:BD P ts kvs)(p:P t v):BD P (ts++[t]) (kvs++[(Sum.inr t.nm,v)]):=⟨by rw[map_append,map_append,h.1];rfl,by rw[map_append];show h.2.append (.one p)⟩
theorem BD.put(h:BD P ts kvs)(p:P t v):BD P (putT ts t) (putK kvs (Sum.inr t.nm) v):=by
 unfold putT putK;rw[h.any];by_cases c:t.nm∈nms ts
 .rw[if_pos c,if_pos (by simpa using c)];show h.rep p
 .rw[if_neg c,if_neg (by simpa using c)];show h.app p
theorem BD.drop:∀{ts:List TD}{kvs:List (Key × V)}{z:Str},BD P ts kvs->BD P (dropT ts z) (dropK kvs (Sum.inr z))
 | [],kvs,z,h=>by rw[BD.nil.mp h];show(rfl,rfl)
 | s::ts,kvs,z,h=>by
  let(w,r,rfl,q,h):=BD.cons.mp h;unfold dropT dropK;by_cases c:s.nm=z
  .subst c;rw[List.filter_cons_of_neg (by simp),List.filter_cons_of_neg (by simp)];show BD.drop h
  .have c1:(Sum.inr s.nm:Key)≠Sum.inr z:=λe=>c (by injection e);rw[List.filter_cons_of_pos (by simpa using c),List.filter_cons_of_pos (by simpa using c1)];show BD.cons.mpr ⟨w,_,rfl,q,BD.drop h⟩
end
theorem sub_len[DecidableEq α]:∀(l m:List α),l.Nodup->l ⊆ m->l.length<=m.length
 | [],m,_,_=>by simp
 | a::l,m,hn,hs=>by
  rw[nodup_cons]at hn;have ha:a∈m:=hs (by simp);have:=sub_len l (m.erase a) hn.2 λx hx=>(List.mem_erase_of_ne (show x≠a fromλe=>hn.1 (e ▸ hx))).mpr (hs (by simp[hx]));rw[List.length_erase_of_mem ha]at this;have:=List.length_pos_of_mem ha;rw[length_cons];ac_nf
variable{ts:List TD}
theorem Jlu{t:TD}(h:t.nm∈nms ts):nms (putT ts t)=nms ts:=by
 unfold putT;rw[if_pos h];unfold nms;rw[map_map];show List.map_congr_left λu _=>?_;show(if u.nm=t.nm then t else u).nm=u.nm;split
 .rename_i e;show e.symm
 .rfl
variable{u:TD}
theorem Jlt{t:TD}(h:u∈putT ts t):u=t\/u∈ts:=by
 unfold putT at h;split at h
 .let(w,a,rfl):=mem_map.mp h;split
  .show .inl rfl
  .show .inr a
 .rcases mem_append.mp h with h | h
  .show .inr h
  .show .inl (mem_singleton.mp h)
theorem JeI(hn:ss.Nodup)(h:ss[j]?=some z):∀ m,m<j->ss[m]?≠some z:=λm b e=>by
 have a:=(List.getElem?_eq_some_iff.mp h).1;have:=(List.getElem?_inj (i:=m) (j:=j) ∅ hn).mp (e.trans h.symm);ac_nf
theorem JiK{t:TD}(hn:(nms ts).Nodup)(hi:ts[i]?=some u)(hk:u.nm=t.nm):putT ts t=ts.set i t:=by
 unfold putT;rw[if_pos (by rw[<- hk];show mem_map_of_mem (f:=(·.nm)) (List.mem_of_getElem? hi))];show Jkt (f:=λu:TD=>u.nm) hn hi hk
theorem Jhw(hn:(nms ts).Nodup)(hi:ts[i]?=some u)(hk:u.nm=z):dropT ts z=ts.eraseIdx i:=JgI (f:=λu:TD=>u.nm) hn hi hk
abbrev BMV:List Value:=[.type "ValueError", .type "Exception", .type "BaseException", .type "object"]
structure ExcI(K:W.Frag)(C S f:Addr):Prop where
 up:W.excIn K S BMV "ValueError.__new__"=true
 at_:∃ nm q N bs sn sub ab col dd k0 k1 k2 k3 k5,K.lookup C=some (excClassObj nm q C N bs (.ref S::BMV) true sn sub ab col dd k0 k1 k2 k3 k5 "ValueError.__new__")
 init:W.findIn K (.ref C) "__init__"=some (some (.ref f))
 fn:W.isFn K (.ref f)=true
 kp:W.keepIn K (.ref C)=true
def ExcN(e C:Addr)(od:Option Addr):HO:=.ext λh=>∃ t:Addr,h.get? e=some { cls:=.ref C,dict:=od,data:=.fields #[.ref t, .none, .none, .none, .bool false, .none] }
section
variable{prog:Program}{A:Around}{h:Heap}{d:Drawn}{os:OsState}{w:World}{g:Array GenState}{t:Nat}{nm q:Str}{C N:Addr}{bm bmB sub:List Value}{hdct ab:Bool}{sn:List Str}{col:Option Bool}{dd:Option Addr}{k0 k1 k2 k3 k5:Option Value}{B newId initId:String}{bs:List Value}{K:W.Frag}
theorem Jjj(F:ExcBaseFacts B newId initId bmB)(T:OwnTail h bmB bm){rest:List Value}{fI:Addr}{Q:Fin->Shared->Prop}(X:K.In h)
  (hC:h.get? C=some (excClassObj nm q C N bs bm hdct sn sub ab col dd k0 k1 k2 k3 k5 newId)) (hi:W.findIn K (.ref C) "__init__"=some (some (.ref fI)))
  (hfI:W.isFn K (.ref fI)=true)
  (hq:∀ h' e,Heap.MadeExcOf h h' e (.ref C) rest->h.objs.size<=e ->
   wpAny (model prog w) A (call (.ref fI) (.ref e::rest)) (λr s'=>r=.none/\Q (.done (.ret (.ref e))) s') E ⟨h',g,d,t,os⟩) (hrest:rest.length<=sizeLine:=by size_fits) :
  wpAny (model prog w) A (Builtin.«type.__call__» ⟨.ref C::rest,[]⟩) Q E ⟨h,g,d,t,os⟩:=by
 repeat (first | with_reducible show wpAny_loadPart_at hC ?_ | with_reducible show wpAny_madeBy_exc hC ?_ | wp_step)
 show codeAny_call_builtin_code (Code.quiet_builtin _ F.quiet) (wpAny_check_new_subT F T hC ?_);show codeAny_exc_new_subT F T hC ?_ hrest;show wpAny _ _ _ _ _ _;have c:∀ b o,h.get? b=some o->((h.push { cls:=.type "tuple",data:=.seq rest.toArray }).push { cls:=.ref C,data:=.fields #[.ref h.objs.size, .none, .none, .none, .bool false, .none] }).get? b=some o:=λb o e=>Heap.get?_push_of_some _ (Heap.get?_push_of_some _ e);have hC₁:=c _ _ hC;have X₁:=X.keeps c;have a:((h.push { cls:=.type "tuple",data:=.seq rest.toArray }).push
   { cls:=.ref C,data:=.fields #[.ref h.objs.size, .none, .none, .none, .bool false, .none] }).get? (h.objs.size+1)=some
   { cls:=.ref C,data:=.fields #[.ref h.objs.size, .none, .none, .none, .bool false, .none] }:=by heap_get
 have f:(Value.ref C::bm).contains (.ref C)=true:=by simp
 unfold isInstance;repeat (first | with_reducible show wpAny_loadPart_at a ?_ | (with_reducible show wpAny_isSubtype_exc hC₁ ?_;rw[f]) | wp_step)
 show wpAny _ _ (typeLookup (.ref C) _) _ _ _;show(W.looks_findIn X₁ hi).at ?_;show wpAny_holding (wpAny_bind ((W.bind_fn X₁ _ (beq_iff_eq.mp hfI)).at ?_));show wpAny_bind (wpAny_mono (hq _ (h.objs.size+1) ⟨c,Heap.get?_none_of_le (Nat.le_succ _),h.objs.size,a,Heap.get?_none_of_le (Nat.le_refl _),?_⟩ (Nat.le_succ _)) (λr s' j=>?_) λ_ _ x=>x)
 .show Heap.get?_push_of_some _ (Heap.get?_push_at rfl rfl)
 .let(rfl,i):=j
  wp_walk
  show i
theorem Jjs(F:ExcBaseFacts B newId initId bmB)(T:OwnTail h bmB bm){rest:List Value}{fI:Addr}{Q:Value->Shared->Prop}(X:K.In h)
  (hC:h.get? C=some (excClassObj nm q C N bs bm hdct sn sub ab col dd k0 k1 k2 k3 k5 newId)) (hi:W.findIn K (.ref C) "__init__"=some (some (.ref fI)))
  (hfI:W.isFn K (.ref fI)=true)
  (hq:∀ h' e,Heap.MadeExcOf h h' e (.ref C) rest->h.objs.size<=e ->
   wpAny (model prog w) (A.under (.builtin "type.__call__" ⟨.ref C::rest,[]⟩)) (call (.ref fI) (.ref e::rest)) (λr s'=>r=.none/\Q (.ref e) s') E ⟨h',g,d,t,os⟩) (hrest:rest.length<=sizeLine:=by size_fits) :
  wpAny (model prog w) A (call (.ref C) rest) Q E ⟨h,g,d,t,os⟩:=by
 have c:=tc_lookup;have f:=tc_bind (.ref C);have i:(⟨h,g,d,t,os⟩:Shared).TypeIs (.ref C) "type":=⟨_,hC,rfl⟩;show wpAny_call (codeAny_of_tree ?_);show wpAny _ _ (callAny (.ref C) _) _ _ _;repeat (any_goals (first | assumption | with_reducible show wpAny_loadPart_at hC ?_ | wp_step))
 show(rfl,?_);show codeAny_call_builtin_at (Code.quiet_builtin _ (by decide +kernel)) entry_typeCall (wpAny_check_type_call_sub hC (Jjj (hrest:=hrest) F T X hC hi hfI λh' e a b=>?_));show hq h' e a b
end
section
variable{C S:Addr}{fd:FuncData}{ps:List Str}{sp:Sp}{E:XK}{p:Pos}{es:List Expr}{k:Nat}{f:Addr}{m:Str}{t:TA}{P:Program}{h:Heap}{od:Option Addr}
theorem Jhy{w:World}{e:Addr}(z:∃ t:Addr,h.get? e=some { cls:=.ref C,dict:=od,data:=.fields #[.ref t, .none, .none, .none, .bool false, .none] }):ObjOk P w H h e (ExcN e C od) :=
 ⟨z,let⟨_,e⟩:=z;⟨_,e⟩,λ_ _ ⟨t,e⟩ k=>⟨t,k _ e⟩⟩
theorem ExcI.cls{K:W.Frag}(M:ExcI K C S f)(Xi:K.In h):∃ nm q N bs sn sub ab col dd k0 k1 k2 k3 k5,h.get? C=some (excClassObj nm q C N bs (.ref S::BMV) true sn sub ab col dd k0 k1 k2 k3 k5 "ValueError.__new__")/\OwnTail h BMV (.ref S::BMV):=by
 let(nm,q,N,bs,sn,sub,ab,col,dd,k0,k1,k2,k3,k5,z):=M.at_;let(_,_,_,_,_,_,_,_,_,_,_,_,_,_,_,_,_,c,b,a,_):=Jmu Xi M.up;show(nm,q,N,bs,sn,sub,ab,col,dd,k0,k1,k2,k3,k5,Xi _ _ z, .own c b a .base)
variable{σ:St}{us:List Value}
theorem Jkw{Q:VK}{vs:List V}(M:ExcI X.K C S f)(F:FnOk X.prog X.w X.K X.mg X.base (CX1 X.prog X.w) k f fd ps sp)(hr:Room (k+1) X.A)(hb:Binds X.K fd ps [])
  (hx:Jcd (CX1 X.prog X.w) X E) (I:Inv X pins σ H s) (r:Vals vs us) (hz:vs.length<=sizeLine)
  (h:∀ x,H x=none->sp (.ref x::vs) (upd H x (ExcN x C none)) (λv H2=>v=.non/\Q (.ref x) H2) E) :
  wpAny (model X.prog X.w) X.A (call (.ref C) us) (EP X pins σ Q) X.xe s:=by
 let(nm,q,N,bs,sn,L,Y,R,dd,k0,k1,W,Z,U,P,T):=M.cls I.kIn;let(hh,g,d,j,m):=s;show Jjs PySem.F.excBase_ValueError T I.kIn P M.init M.fn (λn b i z=>?_) (by rw[<- r.length];show hz);have l:=h b (I.hok.isnone i.new);let(G,O,_,_):=i.there;have I2:Inv X pins σ (upd H b (ExcN b C none)) ⟨n,g,d,j,m⟩:=I.laid (t':=j) i.keeps z (Jhy ⟨G,O⟩);have o:Vals (V.ref b::vs) (Value.ref b::us):=.cons rfl r;have y:(Value.ref b::us++[]).length=ps.length:=by
  have e:=o.length;rw[F.len _ _ _ _ l]at e;simpa using e.symm
 have c:=hb ⟨n,g,d,j,m⟩ (Value.ref b::us) I2.kIn y;rw[append_nil]at c;show wpAny_call (codeAny_mono (F.run _ X.stack _ _ ⟨Value.ref b::us,[]⟩ (Value.ref b::us) _ _ E (hr.make C us []) (I2.env0.make C us []) c o l) λr t a=>?_);cases r with
 | error e=>show hx pins σ _ _ e t I2 a
 | ok fl=>
  cases fl with
  | ret u=>
   let(v,D,I3,J,p,B):=I2.after a;subst p;show(J,⟨V.ref b,D,I3,rfl,B⟩)
  | next=>show False.elim a
  | brk=>show False.elim a
  | cont=>show False.elim a
def JkD(C:Addr)(sp:Sp)(E:XK)(t:TA):TE:=λσ H Q=>t σ H λvs H1=>vs.length<=sizeLine/\∀ x,H1 x=none->sp (.ref x::vs) (upd H1 x (ExcN x C none)) (λv H2=>v=.non/\Q (.ref x) H2) E
theorem Jlp(M:ExcI X.K C S f)(F:FnOk X.prog X.w X.K X.mg X.base (CX1 X.prog X.w) k f fd ps sp)(hr:Room (k+1) X.A)(hg:Gl X x)(hm:X.mg x=some (.ref C))(hb:Binds X.K fd ps [])(hx:Jcd (CX1 X.prog X.w) X E)
  (ha:PA X (e::es) t) (hdb:autoParam ((x == ("__debug__" : Str))=false) Au) (he:autoParam (starEach (e::es) X.env=(false,eval e X.env)::starEach es X.env) Au) (hpl:autoParam ((backTo pos (starEach es X.env)).any (·.1)=false) Au) :
  PE X (.Call (.Name x p) (e::es) [] pos) (JkD C sp E t):=by
 intro a s σ H Q I h;show wpAny_Call_Name_kw (Jdq I hg hm ?_ hdb);show W.callWith_K (h₀:=X.base) I.ok.mod.kin M.kp (thn (ha pos a s σ H _ I h) λg c ζ=>?_) he hpl;let(b,d,I1,r,q):=ζ;show(I1.kIn,?_);show Jkw M F hr hb hx I1 r q.1 q.2
end
section
variable{P:Program}{mg:Str->Option Value}{N:List Str}{qual:Str}{scope:Scope}{cdv:Value}{A:Around}{outer:List Env}{s0:Shared}{H0:Hp}{E:XK}{w:World}{K:W.Frag}{base:Heap}{f:Addr}
def JkG(K:W.Frag)(H0:Hp)(E:XK)(te:TE):TS:=λ_ σ H=>te σ H λv H1=>∃ e C S f od,v=.ref e/\H1 e=some (ExcN e C od)/\ExcI K C S f/\H0 e=none/\E (.ref C) od (unt H1 e)
variable{te:TE}
theorem Jkq{x:Expr}(hx:PE (cxOf (CX1 P w) P w K mg base N qual scope f cdv A outer s0 H0 E) x te) :
  PS (cxOf (CX1 P w) P w K mg base N qual scope f cdv A outer s0 H0 E) (.Raise (some x) none pos) (JkG K H0 E te):=by
 intro a s σ H D I h;have p:(A.deeper (envOfC qual scope s0.heap.objs.size f cdv)).handled=none:=I.ok.hd rfl;rw[arm_exec_Raise];show wpAny_bind (wpAny_standAt ?_);show wpAny _ _ (raiseStmt _ (some (do let v <- eval x _;standAt pos;pure v)) none) _ _ _;unfold raiseStmt;show wpAny_bind (wpAny_bind (thn (hx a s σ H _ I h) λu F ζ=>?_));let(v,H1,I1,y,e,C,S,L,V,m,c,M,r,q):=ζ;show wpAny_bind (wpAny_standAt (wpAny_pure ?_));subst m;obtain rfl:u=Value.ref e:=y;let(nm,O,Q,bs,sn,B,U,n,dd,k0,W,R,Y,G,l,T):=M.cls I1.kIn;let(t,j):=(I1.hok e _ c).1;let(hp,g,d,Z,J):=F;have i:(Value.ref C::(.ref S::BMV)).contains (.type "BaseException")=true:=by rw[List.contains_cons,T.hasType (X:="BaseException") (b:=true) ⋯,Bool.or_true]
 repeat (first | with_reducible show wpAny_loadPart_at j ?_ | with_reducible show wpAny_loadPart_at l ?_ | (with_reducible show wpAny_isSubtype_exc l ?_;rw[i]) | wp_step)
 show wpAny_raiseNew_none p ?_;show JnI I1 c j rfl rfl rfl ?_ q;cases z:s0.heap.get? e with
 | none=>rfl
 | some o=>
  have k:=I1.base.free e o z r (by intro z;cases z);rw[c]at k;cases k
end
structure SlkI(K:W.Frag)(S:Addr):Prop where
 ga:W.specialIn K (.ref S) "__getattribute__"=some (some (.builtin "type.__getattribute__"))
 rd:W.readsIn K S (.type "type")=true
 fi:W.findCls K (.ref S) (.type "type") "__init__"=some (.val (.builtin "ValueError.__init__"))
section
variable{C S:Addr}{p:Pos}{es:List Expr}{f:Addr}{t:TA}{prog:Program}{A:Around}{h:Heap}{d:Drawn}{os:OsState}{a0:Addr}
theorem Jnk{w:World}{K:W.Frag}{g:Array GenState}{t:Nat}{Q:Value->Shared->Prop}{ex:Addr}{od:Option Addr}{rest:List Value}
  (M:ExcI K C S f) (Xi:K.In h) (he:h.get? ex=some { cls:=.ref C,dict:=od,data:=.fields #[.ref a0, .none, .none, .none, .bool false, .none] }) (hr:rest.length<=sizeLine)
  (hq:∀ h' t',(∃ a1:Addr,h'.get? ex=some { cls:=.ref C,dict:=od,data:=.fields #[.ref a1, .none, .none, .none, .bool false, .none] })->(∀ b u,b≠ex->h.get? b=some u->h'.get? b=some u)->Q .none ⟨h',g,d,t',os⟩) :
  wpAny (model prog w) A (call (.builtin "ValueError.__init__") (.ref ex::rest)) Q E ⟨h,g,d,t,os⟩:=by
 have F:=PySem.F.excBase_ValueError;let(y,q,N,s,x,i,n,k,v,r,p,m,o,l,j,T):=M.cls Xi;show wpAny_call (codeAny_call_builtin F.init.plain F.initEntry (wpAny_check_init_subT F T j he rfl ?_));have a:=Heap.get?_push_of_some (h:=h) { cls:=.type "tuple",data:=.seq rest.toArray } he
 wp_walk
 show hq _ _ ⟨h.objs.size,?_⟩ λb u e c=>?_
 .rw[Heap.get?_update_self _ a rfl];rfl
 .rw[Heap.get?_update_other _ _ (Ne.symm e)];show Heap.get?_push_of_some _ c
def Jma(K:W.Frag)(t:TA):TE:=λσ H Q=>t σ H λvs H2=>∃ e rest C S f od,vs=.ref e::rest/\rest.length<=sizeLine/\H2 e=some (ExcN e C od)/\ExcI K C S f/\Q .non (upd H2 e (ExcN e C od))
variable{pl:Sem Bool}
theorem Jlk(G:SlkI X.K S)(hg:Gl X x)(hm:X.mg x=some (.ref S))(ha:PA X (e::es) t)(hdb:autoParam ((x == ("__debug__" : Str))=false) Au)
  (hst:autoParam (starEach (e::es) X.env=(false,eval e X.env)::starEach es X.env) Au) (hpl:autoParam ((backTo pos (starEach es X.env)).any (·.1)=false) Au)
  (ht:autoParam (eval (.Call (.Attribute (.Name x p) "__init__" apos) (e::es) [] pos) X.env=(do
   let ov <- eval (.Name x p) X.env
   standAt apos.atName
   let(f,first) <- holding [ov] (getMethod ov "__init__" pl)
   callWith pos f first (backTo pos (starEach (e::es) X.env)) (backToKw pos (keywordEach [] X.env)))) Au) :
  PE X (.Call (.Attribute (.Name x p) "__init__" apos) (e::es) [] pos) (Jma X.K t):=by
 intro a s σ H Q I h;show W.methodCall_KW (pl:=pl) (Jdq I hg hm ?_ hdb) ht;show W.method_cls I.kIn G.ga (W.cls_value I.kIn G.rd G.fi (by decide +kernel) ?_);show PyProof.Rows.callWith_builtin1 (thn (ha pos a _ σ H _ (I.tok _) h) λB j ζ=>?_) hst hpl;let(v,q,I2,r,b,rest,C,o,f,w,i,m,c,M,l):=ζ;subst i;cases r with
 | @cons _ u _ us' ru rr=>
 obtain rfl:u=Value.ref b:=ru;let(E,hg):=(I2.hok b _ c).1;let(A,g,d,y,n):=j;show Jnk M I2.kIn hg (by rw[<- rr.length];show m) λD t' z k=>?_;show(V.non,_,I2.write (t':=t') (e:=b) (by rw[c];show trivial) (.inl rfl) k (let⟨_,z⟩:=z;⟨_,z⟩) (Jhy z),rfl,l)
end
section
open PySem.W PySem.Builtin PySem.Builtin.ObjectAttr
variable{prog:Program}{A:Around}{h:Heap}{d:Drawn}{os:OsState}{x C S a0:Addr}{name:Str}{v:Value}{w:World}{K:W.Frag}{g:Array GenState}{t:Nat}{f:Addr}{ox:Obj}{Q:Unit->Shared->Prop}
theorem JlE{nameV:Value}(Mx:ExcI K C S f)(X:K.In h)(hx:h.get? x=some ox)(hc:ox.cls=.ref C)(hq:Q () ⟨h,g,d,t,os⟩) :
  wpAny M A (checkBuiltinCall "object.__setattr__" ⟨[.ref x,nameV,v],[]⟩) Q E ⟨h,g,d,t,os⟩:=by
 have a:=PySem.F.store_ValueError;let(y,q,N,s,w,i,m,e,u,r,o,l,n,k,j,T):=Mx.cls X;have c:(Value.ref C::.ref S::BMV).contains (.type "object")=true:=by rw[List.contains_cons,T.hasType (X:="object") (b:=true) ⋯,Bool.or_true]
 have p:=a.args (.ref x) nameV v;simp only[checkBuiltinCall,a.kind,a.split];show wpAny_bind ?_
 .unfold isInstance;repeat (first | (with_reducible show wpAny_loadPart_at hx ?_;rw[hc]) | (with_reducible show wpAny_isSubtype_exc j ?_;rw[c]) | wp_step)
  show hq
theorem JlF(M:ExcI K C S f)(X:K.In h)(sa:findIn K (.ref C) "__setattr__"=some (some (.builtin "object.__setattr__")))(na:findIn K (.ref C) name=some none)
  (hx:h.get? x=some { cls:=.ref C,dict:=none,data:=.fields #[.ref a0, .none, .none, .none, .bool false, .none] })
  (hq:∀ h' t' dx,h.objs.size<=dx->h'.get? x=some { cls:=.ref C,dict:=some dx,data:=.fields #[.ref a0, .none, .none, .none, .bool false, .none] }->h'.Ns1 dx (λy=>if y=name then some v else none) ->
   (∀ b u,b≠x->h.get? b=some u->h'.get? b=some u)->Q () ⟨h',g,d,t',os⟩):wpAny (model prog w) A (setAttr (.ref x) name v) Q E ⟨h,g,d,t,os⟩:=by
 have m:=PySem.F.store_ValueError;let(nm,q,N,bs,sn,W,ab,Y,dd,k0,k1,k2,k3,Z,O,T):=M.cls X;have f3:=m.slot.bind (.ref x);have L1:=looks_findIn (M:=model prog w) X sa;have L2:=looks_findIn (M:=model prog w) X na;unfold setAttr callSpecial? specialOf;repeat (any_goals (first | assumption | (with_reducible show wpAny_loadPart_at hx ?_) | lk | wp_step))
 show wpAny_run (codeAny_call_builtin m.slot.plain m.entry (JlE M X hx rfl ?_));have I:Looks (model prog w) h (typeOf (.ref x)) (.ref C):=(Looks.ld hx).andThen .now;show wpAny _ _ (Builtin.«object.__setattr__» ⟨[.ref x, .str name t,v],[]⟩) _ _ _;rw[osa_eq,refuse_eq];show wpAny_bind (wpAny_bind (I.at (wpAny_bind (wpAny_mroOf_exc O ?_))));rw[refuseLoop_ref,refuseLoop_ref,m.passes];show wpAny_pure (wpAny_bind (I.at (wpAny_bind (L2.at (wpAny_bind (wpAny_pure (a:=none) ?_))))));show wpAny _ _ (storeInOwnDict (.ref x) (.ref C) (.str name t) name v false) _ _ _;obtain⟨o,j⟩:∃ o:Obj,o={ cls:=.ref C,dict:=none,data:=.fields #[.ref a0, .none, .none, .none, .bool false, .none] }:=⟨_,rfl⟩;have R:o.cls=.ref C:=by rw[j]
 have H:o.dict=none:=by rw[j]
 have D:∀ c,o.data≠.cls c:=λc=>by rw[j];intro z;cases z
 rw[<- j]at hx;repeat (first | (with_reducible show wpAny_loadPart_at hx ?_;rw[R]) | with_reducible show wpAny_loadPart_at O ?_ | wp_step)
 rw[H,if_neg (by simp[typeHasDict])];split
 .rename_i i;cases i
 split
 .rename_i c i;show absurd i (D c)
 .have hx₁ : (h.push { cls:=.type "dict",data:=.dict #[] }).get? x=some o:=Heap.get?_push_of_some _ hx;have k:x≠h.objs.size:=Nat.ne_of_lt (Heap.lt_size hx);show wpAny_bind (wpAny_alloc' ?_);show wpAny_bind (wpAny_update' hx₁ ?_);show wpAny_pure ?_;have s:((h.push { cls:=.type "dict",data:=.dict #[] }).update x λo=>{ cls:=o.cls,dict:=some h.objs.size,data:=o.data,slots:=o.slots }).get? h.objs.size
    = some { cls:=.type "dict",data:=.dict #[] } :=
   (Heap.get?_update_ne _ _ _ _ k.symm).trans (Heap.get?_push_at rfl rfl)
  have r:((h.push { cls:=.type "dict",data:=.dict #[] }).update x λo=>{ cls:=o.cls,dict:=some h.objs.size,data:=o.data,slots:=o.slots }).Ns h.objs.size (λ_=>none) :=
   ⟨_, #[],_,s,rfl,λe P=>absurd P (by simp),λ_=>rfl⟩
  show wpAny _ _ (storeInDict h.objs.size (.str name t) name v) _ _ _;unfold storeInDict newKeyGuard;show wpAny_bind (wpAny_pure (wpAny_bind (wpAny_nsSet1 (Heap.Ns1.of_empty r) λh' l L=>?_)));let(oD,U,V,p,n,G):=l.count (Within.cons name v Within.nil);show wpAny_bind (wpAny_lookBehind p (by rw[n];show pastItsLine_dict (Nat.le_trans G (by rw[length_cons,length_nil,sizeLine_eq];ac_nf))) ?_)
  wp_walk
  show hq h' _ h.objs.size (Nat.le_refl _) ?_ l λb ob B J=>?_
  .show(L.2 x k).trans ((Heap.get?_update_self _ hx₁ ?_).trans (by rw[j]));rw[j];rfl
  .show(L.2 b (Nat.ne_of_lt (Heap.lt_size J))).trans ((Heap.get?_update_ne _ _ _ _ B).trans (Heap.get?_push_of_some _ J))
structure ExcL(K:W.Frag)(D:Addr)(name:Str):Prop where
 hd:W.hasDictIn K D=true
 ga:W.findIn K (.ref D) "__getattribute__"=some (some (.builtin "BaseException.__getattribute__"))
 gh:W.findIn K (.ref D) "__getattr__"=some none
 na:W.findIn K (.ref D) name=some none
 mb:W.mroIn K D (.type "BaseException")=some true
variable{od:Obj}
theorem Jnl{expr:Bool}{Q:Value->Shared->Prop}(X:K.In s.heap)(c:ExcL K C name)(J:W.InstAt s.heap x ox C (some od))(hl:lookIn name od=some (some v))(hv:handedIn v=true)(q:Q v { s with toks:=s.toks+1 }) :
  wpAny (model prog w) A (getAttr (.ref x) name expr) Q E s:=by
 let(o,n,m,f,r):=s;have d:=J.type (M:=model prog w);have i:=looks_findIn (M:=model prog w) X c.ga;have g:=looks_findIn (M:=model prog w) X c.gh;have l:=looks_find (M:=model prog w) X J (findObj_own c.hd c.na rfl hl);have p:=looks_mroIn (M:=model prog w) X c.mb;have j:bindSpecial (.builtin "BaseException.__getattribute__") (.ref x)=pure (.builtin "BaseException.__getattribute__",[.ref x]):=by kernel_rfl
 have a:(expr&&onTheHeap (Value.builtin "BaseException.__getattribute__"))=false:=by cases expr <;> rfl
 unfold getAttr getAttrBy;show wpAny_bind (wpAny_mkText (wpAny_holding (wpAny_bind (d.at (wpAny_bind (i.at ?_))))));have h:(onTheHeap (Value.ref C)&&Value.builtin "BaseException.__getattribute__" == Value.builtin "object.__getattribute__")=false:=Bool.and_eq_false_iff.mpr (.inr (by decide +kernel));show wpAny _ _ (if(onTheHeap (Value.ref C)&&Value.builtin "BaseException.__getattribute__" == Value.builtin "object.__getattribute__")=true then _ else getAttrByItsOwn _ _ _ _ _ _) _ _ _;rw[if_neg (by rw[h];decide)];unfold getAttrByItsOwn hookBefore;show wpAny_bind ?_;rw[if_pos (show onTheHeap (Value.ref C)=true from rfl)];show g.at ?_;show wpAny_bind (wpAny_attempt (wpAny_holding ?_));unfold callGetattribute boundAndCalled;rw[a,if_neg ⋯,j];show wpAny_bind (wpAny_pure ?_);show wpAny_call (codeAny_call_builtin (by decide +kernel) PySem.F.entry_bexc_ga ?_);have e:builtinKind "BaseException.__getattribute__"=some .slot:=by decide +kernel
 have b:splitId "BaseException.__getattribute__"=some ("BaseException","__getattribute__"):=by decide +kernel
 have k:=PySem.F.args_bexc_ga (.ref x) (.str name f)
 (simp only[checkBuiltinCall,e,b];show wpAny_bind ?_)
 unfold isInstance;repeat (first | lk | wp_step)
 show wpAny _ _ (handedOut v) _ _ _;show W.handed_on hv q
end
section
variable{value:Expr}{pos':Pos}{tv:TE}{f:Str}
structure ExcA(K:W.Frag)(C:Addr)(f:Str):Prop where
 sa:W.findIn K (.ref C) "__setattr__"=some (some (.builtin "object.__setattr__"))
 na:W.findIn K (.ref C) f=some none
def sFldX(K:W.Frag)(ta tv:TE)(f:Str):TS:=λD σ H=>tv σ H λy H1=>ta σ H1 λx H2=>∃ e C S g,x=.ref e/\H2 e=some (ExcN e C none)/\ExcI K C S g/\ExcA K C f /\
 ∀ dx,H2 dx=none->dx≠e->D.nx σ (upd (upd H2 e (ExcN e C (some dx))) dx (.xd [(f,y)]))
theorem Jm3(ha:PE X o ta)(hv:PE X value tv)(hs:swapsWith value (some (.Attribute o f pos')) pos.line X.env=pure false):PS X (.Assign [.Attribute o f pos'] value pos) (sFldX X.K ta tv f):=by
 intro m s σ H D I h;show plainObj_wpAny_Assign_Attribute (thn (hv m s σ H _ I h) λu s1 ζ=>?_) hs;let(y,Y,I1,ry,q):=ζ;show thn (ha m s1 σ Y _ I1 q) λov L ζ=>?_;let(x,R,I2,W,e,C,S,g,U,i,M,c,Q):=ζ;subst U;obtain rfl:ov=Value.ref e:=W;let(a0,J):=(I2.hok e _ i).1;let(hp,gg,d,tk,os):=L;show JlF M I2.kIn c.sa c.na J λh' t' A w z N k=>?_;have l:R A=none:=I2.hok.fresh w;have T:A≠e:=λq=>by rw[q,i]at l;cases l
 have O:hp.get? A=none:=Heap.get?_none_of_le w;show(σ,_,I2.un (t':=t') ⟨λb j z n Z _=>?_,λb j z n Z _=>?_,λb j z n _=>?_,λb j z _=>?_,λb V z=>?_,λb j v z=>?_,λb p z=>⟨#[],?_⟩⟩ λa j t=>?_,Q A l T)
 .show k b j (λy=>by rw[y,i]at n;cases n) z
 .show(_,k b j (λy=>by rw[y,i]at n;cases n) z)
 .rw[Jai (λy=>by rw[y,O]at z;cases z),Jai (λy=>by rw[y,i]at n;cases n)];show n
 .by_cases y:b=e
  .show(_,by rw[y];assumption)
  .show(j,k b j y z)
 .rw[Jai (Jah z l),Jai (λy=>by rw[y,i]at z;cases z)];show z
 .rw[Jai (Jah z l),Jai (λy=>by rw[y,i]at z;cases z)];show z
 .rw[Jai (Jah z l),Jai (λy=>by rw[y,i]at z;cases z),z];simp
 .by_cases G:a=A
  .subst G;rw[Jat]at t;cases t;show(_,N,λE=>?_);show RelO (List.lookup E [(f,y)]) (if E=f then some u else none);by_cases q:E=f
   .subst q;simp[List.lookup,RelO];show ry
   .have : (E == f)=false:=by simpa using q
    simp[List.lookup,this,q,RelO]
  .rw[Jai G]at t;by_cases F:a=e
   .subst F;rw[Jat]at t;cases t;show Jhy ⟨a0,z⟩
   .rw[Jai F]at t;show(I2.hok a j t).stay (λb v B P=>k b v ?_ P) (λb r=>?_) (λb V r=>?_)
    .rcases B with rfl | B
     .show F
     .showλy=>by rw[y,i]at B;cases B
    .rw[Jai (Jah r l),Jai (λy=>by rw[y,i]at r;cases r)];show r
    .rw[Jai (Jah r l),Jai (λy=>by rw[y,i]at r;cases r)];show r
def tFldX(K:W.Frag)(ta:TE)(f:Str):TE:=λσ H Q=>ta σ H λx H1=>∃ e C dx fs v,x=.ref e/\H1 e=some (ExcO e C (some dx))/\ExcL K C f/\H1 dx=some (.xd fs)/\fs.lookup f=some v/\Q v H1
theorem JmU(he:PE X e ta)(hb:attributeBase e f X.env (eval e X.env)=eval e X.env):PE X (.Attribute e f pos) (tFldX X.K ta f):=by
 intro a s σ H Q I h;show Jjo hb (thn (he a s σ H _ I h) λu M ζ=>?_);let(x,B,I1,w,d,C,y,F,v,i,p,c,E,l,q):=ζ;subst i;obtain rfl:u=Value.ref d:=w;let(L,G,t,m,A,k):=(I1.hok d _ p).1;let(D,n,r):=I1.hok y _ E;let(J,b,j):=JeY n;let(u,z,g):=RelO.some_of (v:=v) (o:=D f) (by rw[<- l];show r f);show Jnl I1.kIn c ⟨t,m,by unfold W.notCls;rw[A],by rw[k];show b⟩ (by rw[j,z]) (JgJ g) ?_;show(v,B,I1.tok _,g,q)
end
structure XCal(P:Program)(w:World)(K:W.Frag)(mg:Str->Option Value)(base:Heap)(k:Nat)(x:Str)(C S:Addr)(ps:List Str)(sp:Sp):Prop where
 ex:∃(f:Addr)(fd:FuncData),FnOk P w K mg base (CX1 P w) k f fd ps sp/\mg x=some (.ref C)/\ExcI K C S f/\Binds K fd ps []
section
variable{k':Nat}{mn:Str}{C S:Addr}{Cs:Addr->Prop}{ps:List Str}{sp:Sp}{E:XK}{p:Pos}{es:List Expr}{k:Nat}{f:Str}{t:TA}{K:W.Frag}
theorem XCal.ev(G:XCal X.prog X.w X.K X.mg X.base k x C S ps sp)(hr:Room k' X.A)(hk:k+1<=k')(hg:Gl X x)(hx:Jcd (CX1 X.prog X.w) X E)(ha:PA X (e::es) t)
  (hdb:autoParam ((x == ("__debug__" : Str))=false) Au) (he:autoParam (starEach (e::es) X.env=(false,eval e X.env)::starEach es X.env) Au) (hpl:autoParam ((backTo pos (starEach es X.env)).any (·.1)=false) Au) :
  PE X (.Call (.Name x p) (e::es) [] pos) (JkD C sp E t):=by
 let(f,c,F,b,M,a):=G.ex;show Jlp M F (hr.mono hk) hg b a hx ha hdb he hpl
theorem MCal.tr0{pl:Sem Bool}(G:MCal X.prog X.w X.K X.mg X.base k mn Cs ps sp)(hr:Room k' X.A)(hk:k<=k')(ho:PE X.nox o ta)
  (ht:autoParam (eval (.Call (.Attribute o mn apos) [] [] pos) X.env=(do
   let ov <- eval o X.env
   standAt apos.atName
   let(f,first) <- holding [ov] (getMethod ov mn pl)
   callWith pos f first (backTo pos (starEach [] X.env)) (backToKw pos (keywordEach [] X.env)))) Au) :
  PEx X (.Call (.Attribute o mn apos) [] [] pos) (xMeth Cs mn sp ta tNil):=by
 let(f,r,F,c,n,e):=G.ex;intro b s σ H Q E I h;have z:=ho b s σ H _ (I.wish _) h;show W.methodCall_KW (pl:=pl) (wpAny_mono z (λu v ζ=>?_) λ_ _ y=>y.elim) ht;let(x,m,I1,j,a,C,t,p,g,i,d,l,q):=ζ;subst g;obtain rfl:u=Value.ref a:=j;show Jec I1.unwish i (c C d).1 (c C d).2 l ?_;show W.callWith_K0 (first:=[.ref a]) I1.unwish.kIn n (Jnb (us:=[.ref a]) (vs:=[.ref a]) (ds:=[]) (dvs:=[]) F (hr.mono hk) e .nil I1.unwish (.cons rfl .nil) (show sp ([.ref a]++[]) m Q E from q))
theorem Jlm(hK:X.K=K)(he:PE X e ta)(hb:attributeBase e f X.env (eval e X.env)=eval e X.env):PE X (.Attribute e f pos) (tFldX K ta f):=by
 subst hK;show JmU he hb
end
section
variable{H0:Hp}{Q:VK}{E:XK}{σ:St}{En:Ends}{C:Addr}{sp:Sp}{tv te:TE}{mn:Str}{Cs:Addr->Prop}{K:W.Frag}{t:TA}{f:Str}
theorem y8ey:JkG K H0 E te En σ H=te σ H λv H1=>∃ e C S f od,v=.ref e/\H1 e=some (ExcN e C od)/\ExcI K C S f/\H0 e=none/\E (.ref C) od (unt H1 e):=rfl
theorem y74y:JkD C sp E t σ H Q=t σ H λvs H1=>vs.length<=sizeLine/\∀ x,H1 x=none->sp (.ref x::vs) (upd H1 x (ExcN x C none)) (λv H2=>v=.non/\Q (.ref x) H2) E:=rfl
theorem y2cy:Jma K t σ H Q=t σ H λvs H2=>∃ e rest C S f od,vs=.ref e::rest/\rest.length<=sizeLine/\H2 e=some (ExcN e C od)/\ExcI K C S f/\Q .non (upd H2 e (ExcN e C od)):=rfl
theorem y95y:sFldX K ta tv f En σ H=tv σ H λy H1=>ta σ H1 λx H2=>∃ e C S g,x=.ref e/\H2 e=some (ExcN e C none)/\ExcI K C S g/\ExcA K C f/\∀ dx,H2 dx=none->dx≠e->En.nx σ (upd (upd H2 e (ExcN e C (some dx))) dx (.xd [(f,y)])):=rfl
theorem y51y:tFldX K ta f σ H Q=ta σ H λx H1=>∃ e C dx fs v,x=.ref e/\H1 e=some (ExcO e C (some dx))/\ExcL K C f/\H1 dx=some (.xd fs)/\fs.lookup f=some v/\Q v H1:=rfl
end
section
variable{σ:St}{a:Addr}{u r:Value}{y:V}{A:Around}{k:Key}
end
section
variable{ty:TE}{f:Expr}{tx:TE}
end
section
variable{σ:St}{Q:VK}{ty:TE}{tx:TE}
end
section
variable{f : α->Str}{P P' : α->V->Prop}{as:List α}{a : α}
end
structure PD where
 nm:Str
 st:Str
 en:Str
 sz:Int × Int
 mo:Int × Int
 wt:Int
variable{d:Addr}{kvs':List (Key × V)}{od:Obj}
theorem Inv.freeze(I:Inv X pins σ H s)(e:H d=some (.dK kvs))(ho:s.heap.get? d=some od):Inv X pins σ (upd H d (.frz od (.dK kvs))) s:=by
 show I.un (h':=s.heap) (t':=s.toks) ⟨λb o q _ _ _=>q,λb o q _ _ _=>⟨o.slots,q⟩,λb o q n _=>?_,λb o q _=>⟨o,q⟩,λb h q=>?_,λb o u q=>?_,λb j q=>⟨#[],?_⟩⟩ λa o q=>?_
 .rw[Jai (λz=>by rw[z,e]at n;cases n)];show n
 .rw[Jai (λz=>by rw[z,e]at q;cases q)];show q
 .rw[Jai (λz=>by rw[z,e]at q;cases q)];show q
 .rw[Jai (λz=>by rw[z,e]at q;cases q),Array.append_empty];show q
 .have g:∀ i b,H b=some (.own i)->upd H d (.frz od (.dK kvs)) b=some (.own i):=λi b q=>by
   rw[Jai (λz=>by rw[z,e]at q;cases q)];show q
  have f:∀ b h,H b=some (.tup h)->upd H d (.frz od (.dK kvs)) b=some (.tup h):=λb h q=>by
   rw[Jai (λz=>by rw[z,e]at q;cases q)];show q
  by_cases c:a=d
  .subst c;rw[Jat]at q;cases q;show(ho,(I.hok a _ e).stay (λ_ _ _ z=>z) (g a) f)
  .rw[Jai c]at q;show(I.hok a o q).stay (λ_ _ _ z=>z) (g a) f
variable{tg:Expr}
section
variable{te tl:TE}{σ:St}{Q:VK}{k:Nat}{cs:List (Nat × Str)}{g:TG}
end
section
variable{k':Nat}{C:Addr}{ps:List Str}{sp:Sp}{E:XK}{p:Pos}{k:Nat}
theorem KCal.ev0(G:KCal X.prog X.w X.K X.mg X.base k x C ps sp)(hr:Room k' X.A)(hk:k+1<=k')(hg:Gl X x)(hx:Jcd (CX1 X.prog X.w) X E)(hdb:autoParam ((x == ("__debug__" : Str))=false) Au) :
  PE X (.Call (.Name x p) [] [] pos) (tMake C sp [] E tNil):=by
 let(f,c,F,b,M,a):=G.ex;show Jlo M F (hr.mono hk) hg b a .nil hx hdb
end
structure GD where
 nm:Str
 st:Str
 en:Str
 lo:Int × Int
 hi:Int × Int
section
variable{K:W.Frag}
end
section
variable{H'':Hp}{ls:List PD}{fd wl:Addr}{ws:List (Str × List Pr)}{wt:List Str}{one:Str}
end
variable{es:List Expr}
theorem JhW{K:W.Frag}{k:Nat}{t:TGs}(hK:X.K=K)(hc:X.calm=true)(h:PGs X es t)(hn:autoParam ((assignEach es X.env).length=n) Au)(hst:autoParam ((assignEach es X.env).findIdx? (·.1)=none) Au):PG X (.Tuple es k pos) (gTup K n t):=by
 subst hK;show Je6 hc h hn hst
abbrev Fr2:=Int × Int
section
variable{te:TE}{ta:TA}{σ:St}{Q:VK}{a b:Addr}{zs:List V}{K:W.Frag}{k:Nat}{cs:List (Nat × Str)}{g:TG}
end
section
variable{Q:VK}{K:W.Frag}
end
section
variable{prog:Program}{A:Around}{w:World}
end
section
variable{prog:Program}{A:Around}{w:World}
end
theorem Jm7{x:Int}{t:Tok}:RelV (.int x) (.int x t):=⟨t,rfl⟩
def Ite(K:W.Frag)(a:Addr):It :=
  ⟨λi H=>∃ xs x,SqL K H a xs/\xs[i]?=some x,
   λi H v H'=>∃ p x,(∀ xs,SqL K H a xs->xs[i]?=some x)/\H p=none/\v=.ref p/\H'=upd H p (.tup [.int i,x]),
   λi H=>∃ xs,SqL K H a xs/\xs.length<=i⟩
variable{P:Program}{elts:List Expr}{x1:Nat}{tp:Pos}{it:Addr}
theorem JkH{w:World}{K:W.Frag}{e a:Addr}(hei:e≠it)(hae:a≠e)(hai:a≠it) :
  Turn P w K (.Tuple elts x1 tp) (Ite K a) [e,it] e (λi h=>(∃ old,IsEnum h e it i old)/\h.IsListIter it a i) where
 mem:=by simp
 obj:=λi h g c b=>by
  let((old,f),j):=g;simp only[mem_cons,not_mem_nil,or_false]at b;rcases b with rfl | rfl
  .show(_,f,λv z=>by cases z)
  .let(o,e,c,d):=j;show(o,e,λv z=>by rw[d]at z;cases z)
 keep:=λi h S g k=>by
  let((old,f),j):=g;show(⟨old,k e (by simp) _ f⟩,j.at λo z=>k it (by simp) o z)
 item:=by
  intro X C G hK b i l s σ H E I u g B;subst C G hK;let((old,f),j):=g;let(xs,x,y,T):=B;let(R,L,J,V):=I.list y;let(D,O,M):=L.get T;show wpAny_pyNext_enum_item f j J.isList (x:=D) (by simpa using O) hei λS a1 a2 a3 a4 F=>?_;show(_,rfl,?_);show wpAny_letOwnedTupleGo_enum (s:={ s with heap:=S,toks:=s.toks+1 }) a1 λr N m=>?_;have t:∀{c o},s.heap.get? c=some o->c≠s.heap.objs.size:=λe=>Nat.ne_of_lt (Heap.lt_size e);have nz:s.heap.objs.size≠e:=λq=>t f q.symm;have I1:Inv X l σ H { s with heap:=r,toks:=s.toks+1 }:=I.turnedL (ch:=[e,it]) (λc o b z=>by
   simp only[mem_cons,not_mem_nil,or_false,not_or]at b;show m.extBut _ _ b.1 (F c o b.1 b.2 z)) u
  have U:H s.heap.objs.size=none:=I.hok.fresh (Nat.le_refl _);have hT:r.get? s.heap.objs.size=some { cls:=.type "tuple",data:=.seq #[.int i s.toks,D] }:=m.extBut _ _ nz a3;have I2:=I1.track (a:=s.heap.objs.size) (o:=.tup [.int i,x]) U (Heap.get?_none_of_le I.sz) (Nat.ne_of_gt I.lt) (λn c e q=>by
   let(v,o,Y,_):=I.cell n c e;show t Y q) (λp hp q=>t (I.pin p hp).1 q) ⟨by show 2<=sizeLine;decide,[.int i s.toks,D], .cons Jm7 (.cons M .nil),⟨_,hT,rfl,_,rfl⟩⟩
  show(.ref s.heap.objs.size,_,I2,rfl,⟨_,x,λzs q=>by rw[I.list_inj q y];show T,U,rfl,rfl⟩,?_,λc b=>?_)
  .show(⟨_,by simpa using N⟩,a2.extBut m.extBut hei.symm)
  .have Z:c≠s.heap.objs.size:=by
    simp only[mem_cons,not_mem_nil,or_false]at b;rcases b with rfl | rfl
    .show t f
    .let(o,e,_):=j;show t e
   rw[Jai Z];show(u c b).1
 done:=by
  intro X C G hK b i l s σ H E I u g B;subst C G hK;let((old,f),j):=g;let(xs,y,hl):=B;let(R,L,J,V):=I.list y;have lx:=L.length;show wpAny_pyNext_enum_end (I.ok.hd b) f j J.isList (by simp;ac_nf) λS F=>⟨rfl,?_⟩;show I.turnedL (t':=s.toks) (ch:=[e,it]) (λc o b z=>by
   simp only[mem_cons,not_mem_nil,or_false,not_or]at b;show F c o b.2 z) u
 self:=λA i s Q E g q=>by
  let((old,f),_):=g;show wpAny_pyIter_enum f q
def iEnum(K:W.Frag)(ta:TA):TI:=λσ H R=>ta σ H λvs H1=>∃ a,vs=[.ref a]/\(∃ xs,SqL K H1 a xs)/\R (Ite K a) H1
variable{ta:TA}
theorem JmZ{a:Expr}{p:Pos}(hg:Gl X "enumerate")(hm:X.mg "enumerate"=none)(hv:bootBuiltins "enumerate"=some (.type "enumerate"))(ha:PA X [a] ta)
  (he:autoParam (starEach [a] X.env=(false,eval a X.env)::starEach [] X.env) Au) :
  PI X (.Tuple elts x1 tp) (.Call (.Name "enumerate" p) [a] [] pos) (iEnum X.K ta):=by
 intro f s σ H R I h;show wpAny_Call_Name_kw (JcV I hg hm hv ?_);show PyProof.Rows.callWith_type1 (thn (ha pos f s σ H _ I h) λD b ζ=>?_) he rfl;let(z,t,I1,m,r):=ζ;let(g,e,(A,v),q):=r;subst e;let(u,rfl,x):=vals1 m;cases(show u=Value.ref g from x);let(w,B,l,y):=I1.list v;have j:g<b.heap.objs.size:=by let(_,e,_):=l.isList;show Heap.lt_size e
 show call_enumerate_list l.isList λE i o C n=>?_;show wpAny_pyIter_enum i ?_;show(b.heap.objs.size+1,[b.heap.objs.size+1,b.heap.objs.size],_,_,t,rfl,I1.kept (t':=b.toks) n,JkH (a:=g) (Nat.ne_of_gt (Nat.lt_succ_self _)) (Nat.ne_of_lt (Nat.lt_succ_of_lt j)) (Nat.ne_of_lt j),⟨⟨_,i⟩,o⟩,λc k=>?_,q);have d:b.heap.objs.size<=c:=by
  simp only[mem_cons,not_mem_nil,or_false]at k;rcases k with rfl | rfl
  .show Nat.le_add_right _ _
  .show Nat.le_refl _
 show I1.fpOk d (I1.hok.fresh d)
section
variable{te:TE}{σ:St}{Q:VK}{a:Addr}{K:W.Frag}{k:Nat}{cs:List (Nat × Str)}{g:TG}
end
section
variable{tb:TS}{σ:St}{g:TG}{D:Ends}
end
variable{ta:TE}{σ:St}{Q:VK}
theorem y67y{c:TT}{tb:TE}:tIf c ta tb σ H Q=c σ H λb H1=>if b=true then ta σ H1 Q else tb σ H1 Q:=rfl
def vl(a:Int × Int):Rat:=(a.1:Rat)/(a.2:Rat)
theorem Jc0{a:Int}(h:1<=a):(a:Rat)≠0:=λz=>by
 have : a=0:=by exact_mod_cast z
 ac_nf
theorem vl_eq(ha:1<=a.2)(hc:1<=c.2):vl a=vl c↔a.1*c.2=c.1*a.2:=by
 unfold vl;have d:=Jc0 ha;have b:=Jc0 hc;have e:((a.1*c.2=c.1*a.2)↔((a.1:Rat)*(c.2:Rat)=(c.1:Rat)*(a.2:Rat))):=by
  constructor
  .intro h;exact_mod_cast h
  .intro h;exact_mod_cast h
 rw[e];generalize(a.1:Rat)=x at *;generalize(a.2:Rat)=y at *;generalize(c.1:Rat)=z at *;generalize(c.2:Rat)=u at *;constructor
 .intro h;grind
 .intro h;grind
theorem Jmh(ha:1<=a.2)(hc:1<=c.2)(h1:Mth.g a.1 a.2=1)(h2:Mth.g c.1 c.2=1)(h:vl a=vl c):a=c:=by
 have:=Mth.Jed ha hc h1 h2 ((vl_eq ha hc).mp h);show Prod.ext this.1 this.2
theorem Jd5(ha:1<=a.2)(hc:1<=c.2):vl (addF a c)=vl a+vl c:=by
 have d:a.2*c.2≠0:=Int.mul_ne_zero ∅ ∅;have g:=Mth.cross (t:=a.1*c.2+c.1*a.2) d;have f:=Mth.JbQ (t:=a.1*c.2+c.1*a.2) d;unfold vl addF;dsimp only;generalize Mth.top (a.1*c.2+c.1*a.2) (a.2*c.2)=t at *;generalize Mth.bot (a.1*c.2+c.1*a.2) (a.2*c.2)=b at *;have j:=Jc0 ha;have i:=Jc0 hc;have h:=Jc0 f;have e:(t:Rat)*((a.2:Rat)*(c.2:Rat))=((a.1:Rat)*(c.2:Rat)+(c.1:Rat)*(a.2:Rat))*(b:Rat):=by exact_mod_cast g
 generalize(a.1:Rat)=x at *;generalize(a.2:Rat)=y at *;generalize(c.1:Rat)=z at *;generalize(c.2:Rat)=u at *;generalize(t:Rat)=t at *;generalize(b:Rat)=b at *;grind
theorem Jd6(a:Int × Int):vl (negF a) = - vl a:=by
 unfold vl negF;rw[Rat.intCast_neg];grind
theorem JdG(ha:1<=a.2)(hc:1<=c.2):lessF a c=true↔vl a<vl c:=by
 unfold lessF vl;rw[decide_eq_true_iff];have f:(0:Rat)<(a.2:Rat):=by exact_mod_cast (show 0<a.2 by ac_nf)
 have d:(0:Rat)<(c.2:Rat):=by exact_mod_cast (show 0<c.2 by ac_nf)
 have e:((a.1*c.2<c.1*a.2)↔((a.1:Rat)*(c.2:Rat)<(c.1:Rat)*(a.2:Rat))):=by
  constructor
  .intro h;exact_mod_cast h
  .intro h;exact_mod_cast h
 rw[e];rw[Rat.div_lt_iff f];generalize(a.1:Rat)=x at *;generalize(a.2:Rat)=y at *;generalize(c.1:Rat)=z at *;generalize(c.2:Rat)=u at *;have b:z/u*y=z*y/u:=by grind
 rw[b,Rat.lt_div_iff d]
theorem FB.mono{D:Nat}(h:FB A B a)(h1:A<=C)(h2:B<=D):FB C D a:=⟨h.s1.mono h1,h.s2.mono h2,h.b1,h.g1⟩
theorem Joj{t b:Int}(hb:1<=b):vl (Mth.top t b,Mth.bot t b)=(t:Rat)/(b:Rat):=by
 have a:b≠0:=by ac_nf
 have d:=Mth.cross (t:=t) a;have c:=Mth.JbQ (t:=t) a;unfold vl;dsimp only;generalize Mth.top t b=x at *;generalize Mth.bot t b=y at *;have g:=Jc0 hb;have f:=Jc0 c;have e:(x:Rat)*(b:Rat)=(t:Rat)*(y:Rat):=by exact_mod_cast d
 generalize(x:Rat)=x at *;generalize(y:Rat)=y at *;generalize(t:Rat)=t at *;generalize(b:Rat)=b at *;grind
section
variable{A' B' C' D':Nat}{x y z b:Int × Int}{D:Nat}{w m:Int × Int}
theorem FB.inj(h:FB A B x)(k:FB C D y)(e:vl x=vl y):x=y:=Jmh h.b1 k.b1 h.g1 k.g1 e
theorem FB.add'(h:FB A B x)(k:FB C D y):FB (A+D+(C+B)+1) (B+D) (addF x y):=FB.add h k ∅ ∅ (Nat.le_refl _)
end
section
variable{s st:Nat}{f : α->Str}{l:List α}
end
section
variable{x:V}{K:W.Frag}
end
theorem JaF{H0:Hp}{b:Addr}(S:Same H0 H)(h:H b=none):H0 b=none:=by
 cases e:H0 b with
 | none=>rfl
 | some o=>rw[S _ _ e]at h;cases h
open PySem.Spec PyProof.Rows
theorem Jbw(z:Str):∀ ss:List Str,inV (.str z) (ss.map V.str)=decide (z∈ss)
 | []=>by simp[inV]
 | s::ss=>by
  have h:=Jbw z ss;unfold inV at h ⊢;rw[map_cons,any_cons,h];have e:eqV (.str s) (.str z)=decide (s=z):=by first | rfl | simp[eqV]
  rw[e];by_cases c:s=z
  .subst c;simp
  .have c':¬ z=s:=λq=>c q.symm;simp[c,c']
variable{tb:TS}
theorem ForR.byN{lo:Int}{g:TG}{D:Ends}(Pv:Nat->St->Hp->Prop)(h0:Pv 0 σ H)
  (hs:∀ i σ H,i<n->Pv i σ H->∀ N:St->Hp->Prop,(∀ σ' H',Pv (i+1) σ' H'->N σ' H')->g (.int (lo+i)) σ H λσ2 H2=>tb { D with nx:=N,ct:=N,bk:=D.nx } σ2 H2) (hd:∀ σ H,Pv n σ H->D.nx σ H):ForR lo n g tb D σ H :=
 ForR.by Pv h0 (λi σ H b a=>hs i σ H b a _ λ_ _ h=>h) hd
variable{a:Addr}
theorem ForA.byLN{K:W.Frag}{g:TG}{D:Ends}(hA:SqL K H a xs)(Pv:Nat->St->Hp->Prop)(h0:Pv 0 σ H)(hl:∀ i σ H',Pv i σ H'->SqL K H' a xs)
  (hs:∀ i x σ H,xs[i]?=some x->Pv i σ H->∀ N:St->Hp->Prop,(∀ σ' H',Pv (i+1) σ' H'->N σ' H')->g x σ H λσ2 H2=>tb { D with nx:=N,ct:=N,bk:=D.nx } σ2 H2) (hd:∀ σ H,Pv xs.length σ H->D.nx σ H):ForA K a g tb D σ H :=
 ForA.byL hA Pv h0 hl (λi x σ H c b=>hs i x σ H c b _ λ_ _ h=>h) hd
def prodI:List Int->Int
 | []=>1
 | f::r=>f*prodI r
theorem JfN(f:Int):∀ fs:List Int,prodI (fs++[f])=prodI fs*f
 | []=>by simp[prodI]
 | g::fs=>by rw[cons_append];simp only[prodI,JfN f fs];rw[Int.mul_assoc]
structure Scl(b:Int)(fs:List Int):Prop where
 b1:1<=b
 f1:∀ f∈fs,1<=f
 pr:prodI fs=b
theorem Scl.nil:Scl 1 []:=⟨by decide,by simp,rfl⟩
theorem Scl.snoc{b f:Int}{fs:List Int}(h:Scl b fs)(hf:1<=f):Scl (b*f) (fs++[f]):=⟨by
 have:=Int.mul_pos (show 0<b by have:=h.b1;ac_nf) (show 0<f by ac_nf);ac_nf,λg a=>by
 rcases mem_append.mp a with a | a
 .show h.f1 g a
 .rw[mem_singleton.mp a];show hf,by rw[JfN,h.pr]⟩
theorem scaled{x y q:Rat}(h:0<q):x*q<=y*q↔x<=y:=by
 constructor
 .intro a;show Rat.not_lt.mp λz=>?_;have:=Rat.mul_lt_mul_of_pos_right z h;show Rat.not_lt.mpr a this
 .intro a;show Rat.mul_le_mul_of_nonneg_right a (Rat.le_of_lt h)
def notStar:Expr->Bool
 | .Starred _ _=>false
 | _=>true
theorem Jag{env:Env}(h:notStar e=true):starEach (e::es) env=(false,eval e env)::starEach es env:=by
 cases e <;> first | rfl | (simp[notStar]at h)
variable{te:TE}
theorem Jaa{t:TA}(ha:PE X e te)(hr:PA X es t)(hs:autoParam (notStar e=true) Au):PA X (e::es) (tCons te t):=JmR ha hr (Jag hs)
section
variable{x:V}{c:Addr}{K:W.Frag}
def FLV(K:W.Frag)(H:Hp)(s:Int × Int)(x:V):Prop:=FrV K H x s.1 s.2
theorem FLV.sameT{s:Int × Int}(T:SameT H H')(h:FLV K H s x):FLV K H' s x:=FrV.sameT T h
end
section
variable{prog:Program}{A:Around}{w:World}
end
section
variable{ls:List PD}{M:Str->Option Str}{a b:Str}{p:PD}{f g:Str}
end
section
variable{K:W.Frag}
end
variable{a b:Str->Rat}
structure Gp where
 R:Rat
 way:List Str
section
variable{N:List Str}{M f':Str->Rat}{gs:List Gp}{w:Str->Rat}{f:Str->Rat}
end
section
variable{lvs:List (Str × (Int × Int))}{n:Str}{L:Int × Int}{ns:List Str}{m:Str}{w:Str->Rat}
end
section
variable{N ns:List Str}{M:Str->Rat}{gs:List Gp}{lvs:List (Str × (Int × Int))}{c:Rat}{L:Int × Int}{w:Str->Rat}
end
section
variable{E:Int}{r s:Rat}{D:Int}
end
variable{vs:List (Key × Value)}
theorem JmB(rel:KV kvs vs):vs.map (·.1)=kvs.map (·.1):=by
 unfold KV at rel;induction rel with
 | nil=>rfl
 | cons h1 _ ih=>rw[map_cons,map_cons,ih,h1.1]
theorem Jmz{w:World}{v:Value}(h:(JaG P w).is (Sum.inr z) v=true):∃ t,v=.str z t:=by
 rcases JaR (show keyIs (Sum.inr z) v=true from h)with⟨b,hb,_⟩ | ⟨y,t,hy,rfl⟩
 .cases hb
 .cases hy;show(t,rfl)
def Itk(d:Addr)(od:Obj)(kvs:List (Key × V))(ss:List Str):It :=
 ⟨λi H=>H d=some (.frz od (.dK kvs))/\i<ss.length,λi H x H'=>H'=H/\(ss.map V.str)[i]?=some x,λi H=>H d=some (.frz od (.dK kvs))/\ss.length<=i⟩
theorem JkI{w:World}{K:W.Frag}{ep:Nat}(rel:KV kvs vs)(hk:kvs.map (·.1)=ss.map Sum.inr)(hd:∀ h:Heap,h.get? d=some od->h.DictAt (JaG P w) d vs ep) :
  Turn P w K tg (Itk d od kvs ss) [it] it (λi h=>h.IsKeyIter it d i vs.length ep) where
 mem:=by simp
 obj:=λi h a b j=>by
  obtain rfl:b=it:=by simpa using j
  let(o,e,c,z):=a;show(o,e,λv q=>by rw[z]at q;cases q)
 keep:=λi h y a k=>a.at λo e=>k it (by simp) o e
 item:=by
  intro X B C hK N i f s σ H E I u a A;subst B C hK;let(l,L):=A;let(D,G,Q,J,F,M):=u it (by simp);have g:=(I.hok d _ l).1;have S:=rel.length;have lk:kvs.length=ss.length:=by simpa using congrArg List.length hk
  obtain⟨⟨k,T⟩,n⟩:∃ p,vs[i]?=some p:=⟨_,List.getElem?_eq_getElem (show i<vs.length by ac_nf)⟩;have x:(vs.map (·.1))[i]?=some k:=by rw[List.getElem?_map,n];rfl
  rw[JmB rel,hk,List.getElem?_map,List.getElem?_eq_getElem L]at x;have x:Sum.inr ss[i]=k:=Option.some.inj x;subst x;show wpAny_pyNext_dict_item a (hd _ g) n λkey y r m O=>?_;let(t,rfl):=Jmz r;have I1:Inv X f σ H { s with heap:=y }:=I.turned (t':=s.toks) (λb o j e=>(O.2 b j).trans e) D G J F M;let(o,e,c,z):=id m;show(_,rfl,go_of (s:={ s with heap:=y }) e c z ⋯ ⟨.str ss[i],H,I1,⟨t,rfl⟩,⟨rfl,by rw[List.getElem?_map,List.getElem?_eq_getElem L];rfl⟩,m,λb j=>(u b j).1⟩)
 done:=by
  intro X B C hK N i f s σ H E I u a A;subst B C hK;let(l,L):=A;let(D,G,Q,J,F,M):=u it (by simp);have g:=(I.hok d _ l).1;have S:=rel.length;have lk:kvs.length=ss.length:=by simpa using congrArg List.length hk
  show wpAny_pyNext_dict_end (I.ok.hd N) a (hd _ g) (List.getElem?_eq_none ∅) λy R=>⟨rfl,I.turned (t':=s.toks) (λb o j e=>R b o j e) D G J F M⟩
 self:=λ_ _ _ _ _ a h=>wpAny_pyIter_keyiter a h
def iKeys(td:TE):TI:=λσ H R=>td σ H λx H1=>∃(d:Addr)(kvs:List (Key × V))(ss:List Str),x=.ref d/\H1 d=some (.dK kvs)/\kvs.map (·.1)=ss.map Sum.inr/\∀ od,R (Itk d od kvs ss) (upd H1 d (.frz od (.dK kvs)))
theorem Jkk(ho:PE X o td):PI X tg o (iKeys td):=by
 intro c s σ H R I h;show thn (ho c s σ H _ I h) λv i ζ=>?_;let(y,C,I1,l,d,kvs,A,p,e,n,r):=ζ;subst p;obtain rfl:v=Value.ref d:=l;let(B,x,vs,g,t):=dk_of I1.hok e;let(ep,k):=t.dictAt;let(j,u,a,rest):=id k;show wpAny_pyIter_dict (knd:=JaG X.prog X.w) (d:=d) (kvs:=vs) (ep:=ep) x k ?_;have m:∀ b o,i.heap.get? b=some o->(i.heap.push { cls:=.type "dict_keyiterator",data:=.fields #[.ref d, .int 0 0, .int vs.length 0, .int ep 0] }).get? b=some o:=λb o z=>Heap.get?_push_of_some _ z;have I2:=(I1.freeze e a).kept (t':=i.toks) m;show(_,[_],_,_,_,rfl,I2,JkI (vs:=vs) (ep:=ep) g n (λh q=>⟨j,u,q,rest⟩),⟨_,Heap.get?_push_size _ rfl,rfl,rfl⟩,λb f=>?_,r j);obtain rfl:=mem_singleton.mp f;show I1.fpOk (Nat.le_refl _) ((I1.freeze e a).hok.fresh (Nat.le_refl _))
theorem ps_no{st:Stmt}:PS X st (λ_ _ _=>False):=λ_ _ _ _ _ _ h=>h.elim
section
variable{tl:TE}{tt:TT}{k:Nat}{cs:List (Nat × Str)}{g:TG}
theorem DGet.f{a:Addr}{k:Key}(e:H a=some (.frz od (.dK kvs))):DGet H a (kV k) (valV kvs k):=.inl ⟨kvs,k, .inr ⟨od,e⟩,rfl,rfl⟩
end
def subF(a c:Int × Int):Int × Int:=(Mth.top (a.1*c.2-c.1*a.2) (a.2*c.2),Mth.bot (a.1*c.2-c.1*a.2) (a.2*c.2))
structure Lo(a:Int × Int):Prop where
 b1:1<=a.2
 g1:Mth.g a.1 a.2=1
variable{a:Int × Int}
theorem FB.lo(h:FB A B a):Lo a:=⟨h.b1,h.g1⟩
theorem Lo.inj(h:Lo a)(k:Lo c)(e:vl a=vl c):a=c:=Jmh h.b1 k.b1 h.g1 k.g1 e
variable{b:Int}
theorem JnJ{t:Int}(hb:1<=b):Lo (Mth.top t b,Mth.bot t b):=⟨Mth.JbQ ∅,Mth.g_low ∅⟩
theorem Jl0{x y:Int}(hx:1<=x)(hy:1<=y):1<=x*y:=by
 have:=Int.mul_pos (show 0<x by ac_nf) (show 0<y by ac_nf);ac_nf
theorem Jok(ha:1<=a.2)(hc:1<=c.2):vl (subF a c)=vl a-vl c:=by
 unfold subF;rw[Joj (Jl0 ha hc)];have b:=Jc0 ha;have d:=Jc0 hc;unfold vl;push_cast;generalize(a.1:Rat)=x at *;generalize(a.2:Rat)=y at *;generalize(c.1:Rat)=z at *;generalize(c.2:Rat)=t at *;grind
theorem JiP(k:Int):vl (k,1)=(k:Rat):=by
 unfold vl;have : ((1:Int):Rat)=1:=rfl;grind
theorem Jfh:vl (0,1)=0:=JiP 0
structure LidD where
 nm:Str
 rest:Int × Int
 ws:List (Str × Int)
 load:Int
 last:Int × Int
section
variable{lvs:List (Str × (Int × Int))}{e:LidD}{L:Int × Int}{w:Str->Rat}{g:Gp}{m:Str}
end
section
variable{N:List Str}{gs:List Gp}{lvs:List (Str × (Int × Int))}{L:Int × Int}{w:Str->Rat}{m:Str}
end
section
variable{a:Addr}{kv kw:List (Key × V)}{k:Key}
end
section
variable{Q:Int}{N ns:List Str}{M:Str->Rat}{gs:List Gp}{ms lvs:List (Str × (Int × Int))}{lds:List LidD}{L:Int × Int}{w:Str->Rat}{D:Int}{k:Nat}
end
structure ShD where
 nm:Str
 sl:Int × Int
 sp:Option Str
section
variable{ls:List PD}{es:List (GD × List Str)}{pl:Str->Int × Int}{p:PD}{f':Str->Rat}{rs rs':List ShD}{f:Str->Rat}
end
theorem vl_nn(h:1<=a.2):0<=vl a↔0<=a.1:=by
 unfold vl;have p:(0:Rat)<(a.2:Rat):=by exact_mod_cast (show 0<a.2 by ac_nf)
 have e:(a.1:Rat)/(a.2:Rat)*(a.2:Rat)=(a.1:Rat):=Rat.div_mul_cancel (Jc0 h);rw[<- scaled p,e,Rat.zero_mul];exact_mod_cast Iff.rfl
variable{ls:List PD}{es:List (GD × List Str)}{pl:Str->Int × Int}{lds:List LidD}{ms lvs:List (Str × (Int × Int))}{q0:Int}
section
variable{a b c d B:TS}{D:Ends}
end
structure Nxt(R:St->Hp->Prop)(b:TS)(D:Ends):Prop where
 go:∀{σ : St}{H:Hp},b D σ H->R σ H
theorem Jgm{a b:TS}{D:Ends}(h:∀ R,Nxt R b D->a { D with nx:=R } σ H):tSeq a b D σ H:=h _ ⟨λz=>z⟩
structure SpS where
 src:Str
 tgt:Str
 cost:Int × Int
 wh:Int
 nm:Str
 fw:Bool
abbrev SumD:=List (Str × Int)
abbrev LasD:=List (Str × SpS)
def lk:List (Str × α)->Str->Option α
 | [],_=>none
 | p::r,f=>if p.1=f then some p.2 else lk r f
def pu(l:List (Str × α))(f:Str)(a : α):List (Str × α):=if(l.any λp=>decide (p.1=f))=true then l.map (λp=>if p.1=f then(p.1,a)else p)else l++[(f,a)]
theorem Jj1{f g:Str}{a : α}(h:f≠g):∀ l:List (Str × α),lk (l.map λp=>if p.1=f then(p.1,a)else p) g=lk l g
 | []=>rfl
 | p::r=>by
  rw[map_cons];unfold lk;by_cases c:p.1=f
  .rw[if_pos c];have : ¬ p.1=g:=λe=>h (c.symm.trans e);rw[if_neg this,if_neg this];show Jj1 h r
  .rw[if_neg c];by_cases d:p.1=g
   .rw[if_pos d,if_pos d]
   .rw[if_neg d,if_neg d];show Jj1 h r
theorem Jj2{f:Str}{a : α}:∀ l:List (Str × α),(l.any λp=>decide (p.1=f))=true->lk (l.map λp=>if p.1=f then(p.1,a)else p) f=some a
 | [],h=>by simp at h
 | p::r,h=>by
  rw[map_cons];unfold lk;by_cases c:p.1=f
  .rw[if_pos c,if_pos c]
  .rw[if_neg c,if_neg c];show Jj2 r (by simpa[c]using h)
theorem JlY{g:Str}{a : α}{f:Str}:∀ l:List (Str × α),lk (l++[(f,a)]) g=match lk l g with | some b=>some b | none=>if f=g then some a else none
 | []=>rfl
 | p::r=>by
  rw[cons_append];unfold lk;by_cases c:p.1=g
  .rw[if_pos c,if_pos c]
  .rw[if_neg c,if_neg c];show JlY r
theorem Jj3{f:Str}:∀ l:List (Str × α), ¬(l.any λp=>decide (p.1=f))=true->lk l f=none
 | [],_=>rfl
 | p::r,h=>by
  unfold lk;by_cases c:p.1=f
  .show absurd (by simp[c]) h
  .rw[if_neg c];show Jj3 r λz=>h (by rw[any_cons,z,Bool.or_true])
theorem lk_pu{l:List (Str × α)}{f g:Str}{a : α}:lk (pu l f a) g=if f=g then some a else lk l g:=by
 unfold pu;by_cases c:(l.any λp=>decide (p.1=f))=true
 .rw[if_pos c];by_cases d:f=g
  .subst d;rw[if_pos rfl];show Jj2 l c
  .rw[if_neg d];show Jj1 d l
 .rw[if_neg c,JlY];by_cases d:f=g
  .subst d;rw[Jj3 l c,if_pos rfl]
  .rw[if_neg d];cases lk l g <;> simp[d]
theorem Ja3{l:List (Str × α)}{f:Str}{a : α}:lk (pu l f a) f=some a:=by rw[lk_pu,if_pos rfl]
theorem lk_ne{l:List (Str × α)}{f g:Str}{a : α}(h:f≠g):lk (pu l f a) g=lk l g:=by rw[lk_pu,if_neg h]
structure BF where
 S:SumD
 P:LasD
 ch:Option Str
def gains(S:SumD)(s:SpS):Option Int :=
 match lk S s.src with
 | none=>none
 | some a=>match lk S s.tgt with
  | none=>some (a+s.wh)
  | some b=>if a+s.wh<b then some (a+s.wh)else none
def rlx(t:BF)(s:SpS):BF :=
 match gains t.S s with
 | none=>t
 | some a=>⟨pu t.S s.tgt a,pu t.P s.tgt s,some s.tgt⟩
def trn(ss:List SpS)(t:BF):BF:=ss.foldl rlx { t with ch:=none }
inductive Wk(ss:List SpS)(f0:Str):List SpS->Str->Prop
 | nil:Wk ss f0 [] f0
 | snoc {l:List SpS} {s:SpS}:Wk ss f0 l s.src->s∈ss->Wk ss f0 (l++[s]) s.tgt
def wgt(l:List SpS):Int:=(l.map (·.wh)).sum
variable{l:List SpS}{s:SpS}
theorem Jcu:wgt (l++[s])=wgt l+s.wh:=by simp[wgt]
section
variable{ss:List SpS}{f0:Str}{π:Str->Int}{fs:List Str}{t:BF}
def Pot(π : Str->Int)(ss:List SpS):Prop:=∀ s∈ss,π s.tgt<=π s.src+s.wh
structure BI(ss:List SpS)(fs:List Str)(π : Str->Int)(S:SumD)(P:LasD):Prop where
 z:∀ f∈fs, ∃ b,lk S f=some b/\b<=0
 p0:∀ v b,lk S v=some b->lk P v=none->v∈fs/\b=0
 st:∀ v s,lk P v=some s->s∈ss/\s.tgt=v/\∃ a b,lk S s.src=some a/\lk S v=some b/\a+s.wh<=b
 wk:∀ v b,lk S v=some b->∃ f∈fs, ∃ l,Wk ss f l v/\wgt l=b
 rk:∃ r:Str->Nat, ∀ v s,lk P v=some s->r s.src<r v
inductive Dsc(P:LasD)(v:Str):Str->Prop
 | refl:Dsc P v v
 | step {x:Str} {s:SpS}:lk P x=some s->Dsc P v s.src->Dsc P v x
variable{S:SumD}{P:LasD}
theorem Dsc.mono(hp:Pot π ss)(h:BI ss fs π S P){v x:Str}(d:Dsc P v x):∀ a b,lk S v=some a->lk S x=some b->a-π v<=b-π x:=by
 induction d with
 | refl=>intro a b g f;rw[g]at f;cases f;ac_nf
 | step g _ ih=>
  intro a b k i;let(m,e,c,d,f,j,l):=h.st _ _ g;rw[j]at i;cases i;have:=ih a c k f;have:=hp _ m;rw[e]at this;ac_nf
theorem JbF{c:Int}(h:gains S s=some c):∃ a,lk S s.src=some a/\c=a+s.wh/\∀ b,lk S s.tgt=some b->c<b:=by
 unfold gains at h;cases e:lk S s.src with
 | none=>rw[e]at h;cases h
 | some a=>
  rw[e]at h;show(a,rfl,?_);cases e2:lk S s.tgt with
  | none=>rw[e2]at h;cases h;show(rfl,λb d=>by cases d)
  | some b=>
   rw[e2]at h;dsimp only at h;split at h
   .cases h;rename_i c;show(rfl,λf d=>by cases d;show c)
   .cases h
theorem JcF(h:gains S s=none):∀ a,lk S s.src=some a->∃ b,lk S s.tgt=some b/\b<=a+s.wh:=by
 intro a d;unfold gains at h;rw[d]at h;cases e2:lk S s.tgt with
 | none=>rw[e2]at h;cases h
 | some b=>
  rw[e2]at h;dsimp only at h;split at h
  .cases h
  .rename_i c;show(b,rfl,by ac_nf)
theorem BI.put(hp:Pot π ss)(h:BI ss fs π S P)(hs:s∈ss){c:Int}(hg:gains S s=some c):BI ss fs π (pu S s.tgt c) (pu P s.tgt s):=by
 let(a,o,F,n):=JbF hg;have J:=hp s hs;have A:¬ Dsc P s.tgt s.src:=λd=>by
  cases e:lk S s.tgt with
  | none=>
   have : ∀ x,Dsc P s.tgt x->lk S x=none:=λx I=>by
    induction I with
    | refl=>show e
    | step j _ ih=>
     let(_,_,c,d,k,_):=h.st _ _ j;rw[ih]at k;cases k
   rw[this _ d]at o;cases o
  | some b=>
   have j:=d.mono hp h b a e o;have k:=n b e;ac_nf
 have D:s.src≠s.tgt:=λe=>A (by rw[e];show .refl);have p:∀ v b,lk S v=some b->∃ i,lk (pu S s.tgt c) v=some i/\i<=b:=λv b y=>by
  by_cases e:s.tgt=v
  .subst e;show(c,Ja3,Int.le_of_lt (n b y))
  .show(b,by rw[lk_ne e];show y,Int.le_refl _)
 show(λf u=>?_,λv b g t=>?_,λv q g=>?_,λv b g=>?_,?_)
 .let(b,j,k):=h.z f u;let(i,B,C):=p f b j;show(i,B,by ac_nf)
 .by_cases e:s.tgt=v
  .subst e;rw[Ja3]at t;cases t
  .rw[lk_ne e]at g t;show h.p0 v b g t
 .by_cases e:s.tgt=v
  .subst e;rw[Ja3]at g;cases g;show(hs,rfl,a,c,by rw[lk_ne (Ne.symm D)];show o,Ja3,by ac_nf)
  .rw[lk_ne e]at g;let(m,G,L,i,j,k,B):=h.st v q g;let(w,C,M):=p _ _ j;show(m,G,w,i,C,by rw[lk_ne e];show k,by ac_nf)
 .by_cases e:s.tgt=v
  .subst e;rw[Ja3]at g;cases g;let(f,u,l,E,H):=h.wk _ _ o;show(f,u,l++[s], .snoc E hs,by rw[Jcu,H,F])
  .rw[lk_ne e]at g;show h.wk v b g
 .let(r,K):=h.rk;show(λx=>open Classical in if Dsc P s.tgt x then r x+r s.src+1 else r x,λv q g=>?_);dsimp only;by_cases e:s.tgt=v
  .subst e;rw[Ja3]at g;cases g;rw[if_neg A,if_pos .refl];ac_nf
  .rw[lk_ne e]at g;have:=K v q g;by_cases d:Dsc P s.tgt q.src
   .rw[if_pos d,if_pos (.step g d)];ac_nf
   .rw[if_neg d];split
    .ac_nf
    .show this
end
section
variable{ss:List SpS}{f0:Str}{π:Str->Int}{fs:List Str}{t:BF}
theorem BI.rlx(hp:Pot π ss)(h:BI ss fs π t.S t.P)(hs:s∈ss):BI ss fs π (L2.rlx t s).S (L2.rlx t s).P:=by
 unfold L2.rlx;cases e:gains t.S s with
 | none=>show h
 | some c=>show h.put hp hs e
theorem BI.fold(hp:Pot π ss):∀(l:List SpS)(t:BF),BI ss fs π t.S t.P->(∀ s∈l,s∈ss)->BI ss fs π (l.foldl L2.rlx t).S (l.foldl L2.rlx t).P
 | [],_,h,_=>h
 | s::l,t,h,hs=>by
  rw[foldl_cons];show BI.fold hp l _ (h.rlx hp (hs s (by simp))) λx hx=>hs x (by simp[hx])
def LeS(S S':SumD):Prop:=∀ v b,lk S v=some b->∃ b',lk S' v=some b'/\b'<=b
variable{S:SumD}
theorem LeS.refl:LeS S S:=λv b h=>⟨b,h,Int.le_refl _⟩
theorem LeS.trans{S' S'':SumD}(h:LeS S S')(k:LeS S' S''):LeS S S'':=λv b e=>by
 let(c,f,i):=h v b e;let(d,a,g):=k v c f;show(d,a,by ac_nf)
theorem LeS.rlx:LeS t.S (L2.rlx t s).S:=by
 unfold L2.rlx;cases e:gains t.S s with
 | none=>show LeS.refl
 | some c=>
  let(a,_,_,d):=JbF e;intro v b f;by_cases q:s.tgt=v
  .subst q;show(c,Ja3,Int.le_of_lt (d b f))
  .show(b,by show lk (pu t.S s.tgt c) v=_;rw[lk_ne q];show f,Int.le_refl _)
theorem LeS.fold:∀(l:List SpS)(t:BF),LeS t.S (l.foldl L2.rlx t).S
 | [],_=>LeS.refl
 | s::l,t=>by
  rw[foldl_cons];show LeS.rlx.trans (LeS.fold l _)
theorem Jm9{a:Int}(h:lk t.S s.src=some a):∃ b,lk (rlx t s).S s.tgt=some b/\b<=a+s.wh:=by
 unfold rlx;cases e:gains t.S s with
 | none=>show JcF e a h
 | some c=>
  let(f,d,g,_):=JbF e;rw[h]at d;cases d;show(c,Ja3,by ac_nf)
theorem Jir:∀(l:List SpS)(t:BF)(s:SpS)(a:Int),s∈l->lk t.S s.src=some a->∃ b,lk (l.foldl rlx t).S s.tgt=some b/\b<=a+s.wh
 | [],_,_,_,h,_=>by cases h
 | x::l,t,s,a,h,ha=>by
  rw[foldl_cons];rcases mem_cons.mp h with e | h
  .subst e;let(b,h1,h2):=Jm9 ha;let(c,h3,h4):=LeS.fold l _ _ _ h1;show(c,h3,by ac_nf)
  .let(a',h1,h2):=LeS.rlx (s:=x) _ _ ha;let(b,h3,h4):=Jir l _ s a' h h1;show(b,h3,by ac_nf)
def itr(ss:List SpS):Nat->BF->BF
 | 0,t=>t
 | n+1,t=>trn ss (itr ss n t)
def bf0(fs:List Str):BF:=⟨fs.foldl (λS f=>pu S f 0) [],[],none⟩
theorem JlJ:∀(fs:List Str)(S:SumD)(v:Str)(b:Int),lk (fs.foldl (λS f=>pu S f 0) S) v=some b↔(v∈fs/\b=0)\/(v∉fs/\lk S v=some b)
 | [],S,v,b=>by simp
 | f::fs,S,v,b=>by
  rw[foldl_cons,JlJ fs (pu S f 0) v b,lk_pu];by_cases c:v∈fs
  .simp[c]
  .by_cases d:f=v
   .subst d;simp[c];show eq_comm
   .have d':v≠f:=λe=>d e.symm;simp[c,d,d']
variable{v:Str}
theorem Jgt{fs:List Str}:lk (bf0 fs).S v=some b↔v∈fs/\b=0:=by
 unfold bf0;rw[JlJ fs [] v b];simp[lk]
theorem BI.start:BI ss fs π (bf0 fs).S (bf0 fs).P where
 z:=λf a=>⟨0,Jgt.mpr ⟨a,rfl⟩,Int.le_refl _⟩
 p0:=λv b h _=>Jgt.mp h
 st:=λv s h=>by cases h
 wk:=λv b h=>by
  let(d,c):=Jgt.mp h;show(v,d,[], .nil,c.symm)
 rk:=⟨λ_=>0,λv s h=>by cases h⟩
theorem BI.itr(hp:Pot π ss):∀ n,BI ss fs π (L2.itr ss n (bf0 fs)).S (L2.itr ss n (bf0 fs)).P
 | 0=>BI.start
 | n+1=>BI.fold hp ss _ (BI.itr hp n) λ_ h=>h
theorem JlW(hf:f0∈fs):∀(i:Nat)(l:List SpS)(v:Str),Wk ss f0 l v->l.length<=i->∃ b,lk (itr ss i (bf0 fs)).S v=some b/\b<=wgt l:=by
 intro i;induction i with
 | zero=>
  intro l v h d;cases h with
  | nil=>show(0,Jgt.mpr ⟨hf,rfl⟩,Int.le_refl _)
  | snoc _ _=>simp at d
 | succ i ih=>
  intro l v h d;cases h with
  | nil=>
   let(b,e,g):=ih [] f0 .nil (by simp);let(c,a,f):=LeS.fold ss { itr ss i (bf0 fs)with ch:=none } _ _ e;show(c,a,by ac_nf)
  | @snoc l s h hs=>
   let(b,e,g):=ih l _ h (by simpa using d);let(c,a,f):=Jir ss { itr ss i (bf0 fs)with ch:=none } s b hs e;show(c,a,by rw[Jcu];ac_nf)
theorem Wk.cut(hp:Pot π ss){l:List SpS}{u:Str}(h:Wk ss f0 l u):∀ x,x∈f0::l.map (·.tgt)->(f0::l.map (·.tgt)).Nodup->∃ p,Wk ss f0 p x/\wgt p+(π u-π x)<=wgt l/\(f0::p.map (·.tgt)).Nodup:=by
 induction h with
 | nil=>
  intro x a b;have : x=f0:=by simpa using a
  subst this;show([], .nil,by ac_nf,b)
 | @snoc l s h hs ih=>
  intro x a b;by_cases e:x=s.tgt
  .subst e;show(l++[s], .snoc h hs,by ac_nf,b)
  .have c:x∈f0::l.map (·.tgt):=by
    rw[map_append, <- cons_append]at a;rcases mem_append.mp a with a | a
    .show a
    .show absurd (by simpa using a) e
   have d:(f0::l.map (·.tgt)).Nodup:=by
    rw[map_append, <- cons_append]at b;show(nodup_append.mp b).1
   let(p,g,i,f):=ih x c d;have:=hp s hs;show(p,g,by rw[Jcu];ac_nf,f)
theorem Wk.simple(hp:Pot π ss){l:List SpS}{v:Str}(h:Wk ss f0 l v):∃ p,Wk ss f0 p v/\wgt p<=wgt l/\(f0::p.map (·.tgt)).Nodup:=by
 induction h with
 | nil=>show([], .nil,Int.le_refl _,by simp)
 | @snoc l s h hs ih=>
  let(p,f,m,d):=ih;have:=hp s hs;by_cases c:s.tgt∈f0::p.map (·.tgt)
  .let(q,j,n,i):=f.cut hp _ c d;show(q,j,by rw[Jcu];ac_nf,i)
  .show(p++[s], .snoc f hs,by rw[Jcu,Jcu];ac_nf,?_);rw[map_append, <- cons_append];show nodup_append.mpr ⟨d,by simp,λa k b g e=>c (by
    have q:b=s.tgt:=by simpa using g
    rw[<- q, <- e];show k)⟩
theorem Wk.mem(h:Wk ss f0 l v):∀ s∈l,s∈ss:=by
 induction h with
 | nil=>intro s h;cases h
 | snoc _ hs ih=>
  intro x a;rcases mem_append.mp a with a | a
  .show ih x a
  .rw[mem_singleton.mp a];show hs
theorem Wk.len(h:Wk ss f0 l v)(hn:(f0::l.map (·.tgt)).Nodup):l.length<=ss.length:=by
 have:=sub_len (l.map (·.tgt)) (ss.map (·.tgt)) (nodup_cons.mp hn).2 λx b=>by
  let(s,a,rfl):=mem_map.mp b;show mem_map.mpr ⟨s,h.mem s a,rfl⟩
 simpa using this
theorem Jk7(hp:Pot π ss):∀ s∈ss,gains (itr ss ss.length (bf0 fs)).S s=none:=λs o=>by
 cases e:gains (itr ss ss.length (bf0 fs)).S s with
 | none=>rfl
 | some c=>
  let(a,n,q,d):=JbF e;let(f,i,l,k,r):=(BI.itr hp ss.length (fs:=fs)).wk _ _ n;let(p,g,m,h):=(Wk.snoc k o).simple hp;let(b,j,t):=JlW i _ p _ g (g.len h);have:=d b j;rw[Jcu]at m;ac_nf
theorem Jhz:∀(l:List SpS)(t:BF),(l.foldl rlx t).ch=none->l.foldl rlx t=t/\∀ s∈l,gains t.S s=none
 | [],t,_=>⟨rfl,λs h=>by cases h⟩
 | x::l,t,h=>by
  rw[foldl_cons]at h ⊢;let(h1,h2):=Jhz l _ h;rw[h1]at h;cases e:gains t.S x with
  | none=>
   have ex:rlx t x=t:=by unfold rlx;rw[e]
   rw[ex]at h1 h2 ⊢;show(h1,λs hs=>?_);rcases mem_cons.mp hs with q | hs
   .subst q;show e
   .show h2 s hs
  | some c=>
   unfold rlx at h;rw[e]at h;cases h
theorem JjR:∀(l:List SpS)(t:BF),(∀ s∈l,gains t.S s=none)->l.foldl rlx t=t
 | [],_,_=>rfl
 | x::l,t,h=>by
  have ex:rlx t x=t:=by unfold rlx;rw[h x (by simp)]
  rw[foldl_cons,ex];show JjR l t λs hs=>h s (by simp[hs])
def bfR(ss:List SpS):Nat->BF->BF
 | 0,t=>t
 | n+1,t=>if(trn ss t).ch=none then trn ss t else bfR ss n (trn ss t)
structure BE(ss:List SpS)(fs:List Str)(P:LasD):Prop where
 ex:∃ S:SumD, ∃ r:Str->Nat,(∀ f∈fs, ∃ b,lk S f=some b)/\(∀ v b,lk S v=some b->lk P v=none->v∈fs/\b=0)/\(∀ v s,lk P v=some s->s∈ss/\s.tgt=v/\r s.src<r v/\∃ a,lk S s.src=some a/\lk S v=some (a+s.wh))/\∀ s∈ss, ∀ a,lk S s.src=some a->∃ b,lk S s.tgt=some b/\b<=a+s.wh
theorem BE.of(hp:Pot π ss)(h:(itr ss (n+1) (bf0 fs)).ch=none):BE ss fs (itr ss (n+1) (bf0 fs)).P:=by
 have b:=BI.itr hp n (fs:=fs);let(w,k):=Jhz ss { itr ss n (bf0 fs)with ch:=none } h;have e:itr ss (n+1) (bf0 fs)={ itr ss n (bf0 fs)with ch:=none }:=w;rw[e];generalize itr ss n (bf0 fs)=t at *;let(r,x):=b.rk;show(t.S,r,λf o=>⟨_,(b.z f o).choose_spec.1⟩,b.p0,λv s g=>?_,λs p a u=>JcF (k s p) a u);let(m,q,a,c,j,i,A):=b.st v s g;let(d,l,y):=JcF (k s m) a j;rw[q,i]at l;cases l;show(m,q,x v s g,a,j,by rw[i];congr 1;ac_nf)
end
theorem JjL{n:Int}(h:1<=n):n∣b*n.fdiv (Mth.g b n):=by
 have i:=Mth.g_pos (a:=b) (b:=n) ∅;let(c,d):=Mth.JeT b n;have e:=Mth.Jbv (Mth.JdM b n) (by ac_nf:Mth.g b n≠0);show(c,?_);generalize hg:Mth.g b n=g at *;generalize n.fdiv g=f at *;rw[d, <- e];rw[Int.mul_right_comm,Int.mul_comm g f]
theorem Jhm:∀ i,(Ch.all (ts.take i)).length<=2*i:=λi=>by
 induction i with
 | zero=>simp[Ch.all]
 | succ i ih=>
  rw[take_succ];cases ts[i]? with
  | none=>simp;ac_nf
  | some t=>
   have : (Ch.steps t).length<=2:=by unfold Ch.steps fwd bwd;cases t.hi <;> cases t.lo <;> simp
   simp only[Ch.all,List.flatMap_append,Option.toList_some,List.flatMap_cons,List.flatMap_nil,append_nil,length_append]at ih ⊢;ac_nf
section
variable{R R' : α->V->Prop}
def DV(R : α->V->Prop):List (Str × α)->List (Key × V)->Prop
 | [],kv=>kv=[]
 | p::P,kv=>∃ v r,kv=(Sum.inr p.1,v)::r/\R p.2 v/\DV R P r
theorem DV.len:∀{P:List (Str × α)}{kv:List (Key × V)},DV R P kv->kv.length=P.length
 | [],_,h=>by rw[h];rfl
 | p::P,_,⟨v,r,e,_,h⟩=>by rw[e,length_cons,length_cons,h.len]
theorem DV.keys:∀{P:List (Str × α)}{kv:List (Key × V)},DV R P kv->kv.map (·.1)=(P.map (·.1)).map Sum.inr
 | [],_,h=>by rw[h];rfl
 | p::P,_,⟨v,r,e,_,h⟩=>by rw[e,map_cons,map_cons,map_cons,h.keys]
theorem DV.mono(m:∀ a v,R a v->R' a v):∀{P:List (Str × α)}{kv:List (Key × V)},DV R P kv->DV R' P kv
 | [],_,h=>h
 | p::P,_,⟨v,r,e,h1,h⟩=>⟨v,r,e,m _ _ h1,h.mono m⟩
theorem DV.no:∀{P:List (Str × α)}{kv:List (Key × V)},DV R P kv->lk P z=none->valV kv (Sum.inr z)=none
 | [],_,h,_=>by rw[h];rfl
 | p::P,_,⟨v,r,e,_,h⟩,n=>by
  unfold lk at n;by_cases c:p.1=z
  .rw[if_pos c]at n;cases n
  .rw[if_neg c]at n;rw[e,Jd3 (by simpa using c)];show h.no n
theorem DV.at{a : α}:∀{P:List (Str × α)}{kv:List (Key × V)},DV R P kv->lk P z=some a->∃ v,valV kv (Sum.inr z)=some v/\R a v
 | [],_,_,n=>by cases n
 | p::P,_,⟨v,r,e,h1,h⟩,n=>by
  unfold lk at n;by_cases c:p.1=z
  .rw[if_pos c]at n;cases n;show(v,by rw[e];show Jd4 (by simpa using c),h1)
  .rw[if_neg c]at n;rw[e,Jd3 (by simpa using c)];show h.at n
theorem DV.any{f:Str}:∀{P:List (Str × α)}{kv:List (Key × V)},DV R P kv->(kv.any λq=>decide (q.1=Sum.inr f))=(P.any λp=>decide (p.1=f))
 | [],_,h=>by rw[h];rfl
 | p::P,_,⟨v,r,e,_,h⟩=>by
  rw[e,any_cons,any_cons,h.any]
  congr 1
  simp
theorem DV.map{f:Str}{a : α}(ra:R a v):∀{P:List (Str × α)}{kv:List (Key × V)},DV R P kv->DV R (P.map λp=>if p.1=f then(p.1,a)else p) (kv.map λq=>if q.1=Sum.inr f then(q.1,v)else q)
 | [],_,h=>by rw[h];show rfl
 | p::P,_,⟨w,r,e,h1,h⟩=>by
  rw[e,map_cons,map_cons];by_cases c:p.1=f
  .rw[if_pos c,if_pos (by simpa using c)];show(v,_,rfl,ra,h.map ra)
  .rw[if_neg c,if_neg (by simpa using c)];show(w,_,rfl,h1,h.map ra)
theorem DV.app{f:Str}{a : α}(ra:R a v):∀{P:List (Str × α)}{kv:List (Key × V)},DV R P kv->DV R (P++[(f,a)]) (kv++[(Sum.inr f,v)])
 | [],_,h=>by rw[h];show(v,[],rfl,ra,rfl)
 | p::P,_,⟨w,r,e,h1,h⟩=>by
  rw[e];show(w,_,rfl,h1,h.app ra)
theorem DV.put{f:Str}{a : α}{P:List (Str × α)}{kv:List (Key × V)}(h:DV R P kv)(ra:R a v):DV R (pu P f a) (putK kv (Sum.inr f) v):=by
 unfold pu putK;rw[h.any];split
 .show h.map ra
 .show h.app ra
end
theorem Jeo:∀{P:List (Str × α)},z∈P.map (·.1)->∃ a,lk P z=some a
 | [],h=>by cases h
 | p::P,h=>by
  unfold lk;by_cases c:p.1=z
  .show(_,if_pos c)
  .rw[if_neg c];show Jeo ?_;rcases mem_cons.mp h with e | h
   .show absurd e.symm c
   .show h
theorem Jes{l:List (Str × α)}{f:Str}{a : α}:(pu l f a).length<=l.length+1:=by
 unfold pu;split <;> simp
inductive Chn(P:LasD):Str->List SpS->Prop
 | nil {v:Str}:lk P v=none->Chn P v []
 | snoc {v:Str} {s:SpS} {l:List SpS}:lk P v=some s->Chn P s.src l->Chn P v (l++[s])
section
variable{ss:List SpS}{P:LasD}{fs:List Str}{v:Str}
theorem Chn.uniq(h:Chn P v l):∀{k:List SpS},Chn P v k->l=k:=by
 induction h with
 | nil h0=>
  intro k a;cases a with
  | nil _=>rfl
  | snoc h _=>rw[h0]at h;cases h
 | snoc h _ ih=>
  intro k a;cases a with
  | nil h0=>rw[h]at h0;cases h0
  | snoc h' hk'=>
   rw[h]at h';cases h';rw[ih hk']
theorem BE.chain(h:BE ss fs P):∃ S:SumD,(∀ v,(∃ b,lk S v=some b)↔(v∈fs\/∃ s,lk P v=some s))/\(∀ v b,lk S v=some b->∃ l,Chn P v l/\wgt l=b/\∃ f∈fs,lk P f=none/\Wk ss f l v/\(f::l.map (·.tgt)).Nodup)/\∀ s∈ss, ∀ a,lk S s.src=some a->∃ b,lk S s.tgt=some b/\b<=a+s.wh:=by
 let(S,r,F,p,k,H):=h.ex;have key:∀ n v b,r v<=n->lk S v=some b->∃ l,Chn P v l/\wgt l=b/\∃ f∈fs,lk P f=none/\Wk ss f l v/\(f::l.map (·.tgt)).Nodup/\∀ x∈f::l.map (·.tgt),x=v\/r x<r v:=by
  intro n;induction n with
  | zero=>
   intro v b I d;cases e:lk P v with
   | none=>
    let(i,g):=p v b d e;show([], .nil e,g.symm,v,i,e, .nil,by simp,λx c=>.inl (by simpa using c))
   | some s=>
    have:=(k v s e).2.2.1;ac_nf
  | succ n ih=>
   intro v b I d;cases e:lk P v with
   | none=>
    let(i,g):=p v b d e;show([], .nil e,g.symm,v,i,e, .nil,by simp,λx c=>.inl (by simpa using c))
   | some s=>
    let(m,q,E,a,i,g):=k v s e;rw[d]at g;cases g;let(l,j,A,f,o,t,u,w,C):=ih s.src a ∅ i;subst q;have B:∀ x∈f::l.map (·.tgt),r x<r s.tgt:=λx c=>by
     rcases C x c with z | z
     .rw[z];show E
     .ac_nf
    show(l++[s], .snoc e j,by rw[Jcu,A],f,o,t, .snoc u m,?_,λx c=>?_)
    .rw[map_append, <- cons_append];show nodup_append.mpr ⟨w,by simp,λx c y G z=>?_⟩;have q:y=s.tgt:=by simpa using G
     have:=B x c;rw[z,q]at this;ac_nf
    .rw[map_append, <- cons_append]at c;rcases mem_append.mp c with c | c
     .show .inr (B x c)
     .show .inl (by simpa using c)
 show(S,λv=>⟨λ⟨b,d⟩=>?_,λD=>?_⟩,λv b d=>?_,H)
 .cases e:lk P v with
  | none=>show .inl (p v b d e).1
  | some s=>show .inr ⟨s,rfl⟩
 .rcases D with e | ⟨s,e⟩
  .show F v e
  .let(_,_,_,a,_,g):=k v s e;show(_,g)
 .let(l,j,A,f,o,t,u,w,_):=key (r v) v b (Nat.le_refl _) d;show(l,j,A,f,o,t,u,w)
end
variable{x:Str->Rat}
theorem Jko{ss:List SpS}(h:∀ s∈ss,x s.tgt<=x s.src+(s.wh:Rat)):Pot (λf=>(x f).floor) ss:=λs b=>by
 have a:=Rat.floor_monotone (h s b);rw[Rat.floor_add_intCast]at a;show a
def Lnk(P:LasD):Str->List SpS->Prop
 | _,[]=>True
 | z,s::r=>s.src=z/\lk P s.tgt=some s/\Lnk P s.tgt r
def lnkE:Str->List SpS->Str
 | z,[]=>z
 | _,s::r=>lnkE s.tgt r
theorem Lnk.add{P:LasD}(h:Lnk P z l)(hs:lk P z=some s)(ht:s.tgt=z):Lnk P s.src (s::l):=⟨rfl,by rw[ht];show hs,by rw[ht];show h⟩
theorem Jiz(ht:s.tgt=z):lnkE s.src (s::l)=lnkE z l:=by
 show lnkE s.tgt l=_;rw[ht]
def Itb(K:W.Frag)(a:Addr)(n:Nat):It :=
 ⟨λi H=>i<n/\∃ xs x,SqL K H a xs/\xs[n-1-i]?=some x,λi H x H'=>H'=H/\∀ xs,SqL K H a xs->xs[n-1-i]?=some x,λi _=>i=n⟩
theorem JlC{w:World}{K:W.Frag}(a it:Addr)(n:Nat):Turn P w K tg (Itb K a n) [it] it (λi h=>h.IsRevIter it a ((n:Int)-1-(i:Int))) where
 mem:=by simp
 obj:=λi h f b j=>by
  have e:b=it:=by simpa using j
  subst e;let(o,e,c,d):=f;show(o,e,λv z=>by rw[d]at z;cases z)
 keep:=λi h r f k=>f.at λo e=>k it (by simp) o e
 item:=by
  intro X t y hK J i g s σ H E I q f m;subst t y hK;let(li,xs,x,G,L):=m;let(Q,O,p,hz):=I.list G;let(u,N,Y):=O.get L;let(A,C,R,D,B,F):=q it (by simp);have U:(n:Int)-1-(i:Int)=((n-1-i:Nat):Int):=by ac_nf
  rw[U]at f;show wpAny_pyNext_rev_item f p.isList (x:=u) (by simpa using N) λr l M=>?_;have I1:Inv X g σ H { s with heap:=r }:=I.turned (t':=s.toks) (λb o j e=>(M.2 b j).trans e) A C D B F;have T:((n-1-i:Nat):Int)-1=(n:Int)-1-((i+1:Nat):Int):=by ac_nf
  rw[T]at l;let(o,e,c,d):=id l;show(u,rfl,go_of (s:={ s with heap:=r }) e c d ⋯ ⟨x,H,I1,Y,⟨rfl,λZ V=>by rw[I.list_inj V G];show L⟩,l,λb j=>(q b j).1⟩)
 done:=by
  intro X t y hK J i g s σ H E I q f m;subst t y hK;have m:i=n:=m;subst m;let(A,C,R,D,B,F):=q it (by simp);have e:(i:Int)-1-(i:Int) = -1:=by ac_nf
  rw[e]at f;show wpAny_pyNext_rev_end (I.ok.hd J) f λr S=>⟨rfl,I.turned (t':=s.toks) (λb o j e=>S b o j e) A C D B F⟩
 self:=λ_ _ _ _ _ f h=>wpAny_pyIter_revIter f h
def iRevL(K:W.Frag)(tl:TE):TI:=λσ H R=>tl σ H λx H1=>∃ a xs,x=.ref a/\SqL K H1 a xs/\R (Itb K a xs.length) H1
variable{p2 pos2:Pos}{y:Str}
theorem Jm0{t:TE}(hy:y="reversed")(hg2:Gl X y)(hm2:X.mg y=none)(hv2:bootBuiltins y=some (.type "reversed"))(ha:PE X e t)(he:autoParam (starEach [e] X.env=(false,eval e X.env)::starEach [] X.env) Au) :
  PI X tg (.Call (.Name y p2) [e] [] pos2) (iRevL X.K t):=by
 intro c s σ H R I h;have k:y≠"__name__":=by rw[hy];decide
 have n:(y == ("__debug__" : Str))=false:=by rw[hy];decide
 show wpAny_Call_Name_kw (JcV I hg2 hm2 hv2 ?_ k n);show PyProof.Rows.callWith_type1 ?_ he rfl;rw[he];show wpAny _ _ (spliced ((false,eval e X.env)::backTo pos2 (starEach [] X.env))) _ _ s;show Calls.spliced_cons (thn (ha c s σ H _ I h) λu d ζ=>?_);let(x,m,I1,l,q):=ζ;show Calls.spliced_nil ?_;let(a,g,rfl,i,q):=q;obtain rfl:u=Value.ref a:=l;let(f,v,p,z):=I1.list i;show call_reversed_list p.isList ?_;show wpAny_pyIter_revIter ⟨_,Heap.get?_push_size _ rfl,rfl,rfl⟩ ?_;have w:=v.length;show(d.heap.objs.size,[d.heap.objs.size],_,_,m,rfl,I1.kept (t':=d.toks) λb o e=>Heap.get?_push_of_some _ e,JlC a _ g.length,?_,λb j=>?_,q)
 .show(_,Heap.get?_push_size _ rfl,rfl,?_);unfold revObj;have r:((f.toArray.size:Nat):Int)-1=(g.length:Int)-1-((0:Nat):Int):=by
   rw[size_toArray];ac_nf
  rw[r]
 .have e:b=d.heap.objs.size:=by simpa using j
  subst e;show I1.fpOk (Nat.le_refl _) (I1.hok.fresh (Nat.le_refl _))
theorem Jlq{K:W.Frag}(hK:X.K=K){e:Expr}{t:TE}{p2 pos2:Pos}{y:Str}(hy:y="reversed")(hg2:Gl X y)(hm2:X.mg y=none)(hv2:bootBuiltins y=some (.type "reversed"))(ha:PE X e t)(he:autoParam (starEach [e] X.env=(false,eval e X.env)::starEach [] X.env) Au) :
  PI X tg (.Call (.Name y p2) [e] [] pos2) (iRevL K t):=hK ▸ Jm0 hy hg2 hm2 hv2 ha he
section
variable{tl:TE}{K:W.Frag}{g:TG}{D:Ends}
theorem y58y:tFor (iRevL K tl) g tb D σ H=tl σ H λx H1=>∃ a xs,x=.ref a/\SqL K H1 a xs/\ForJ (Itb K a xs.length) g tb D σ H1:=rfl
theorem y5ay:tFor (iKeys td) g tb D σ H=td σ H λx H1=>∃(d:Addr)(kvs:List (Key × V))(ss:List Str),x=.ref d/\H1 d=some (.dK kvs)/\kvs.map (·.1)=ss.map Sum.inr/\∀ od,ForJ (Itk d od kvs ss) g tb D σ (upd H1 d (.frz od (.dK kvs))):=rfl
theorem ForJ.rev{a:Addr}(Pv:Nat->St->Hp->Prop)(h0:Pv 0 σ H)(hl:∀ i σ H',Pv i σ H'->SqL K H' a xs)
  (hs:∀ i x σ H,i<xs.length->xs[xs.length-1-i]?=some x->Pv i σ H->∀ N:St->Hp->Prop,(∀ σ' H',Pv (i+1) σ' H'->N σ' H')->g x σ H λσ2 H2=>tb { D with nx:=N,ct:=N,bk:=D.nx } σ2 H2) (hd:∀ σ H,Pv xs.length σ H->D.nx σ H):ForJ (Itb K a xs.length) g tb D σ H:=by
 show(λi m σ H=>m=xs.length-i/\i<=xs.length/\Pv i σ H,⟨xs.length,by simp,Nat.zero_le _,h0⟩,?_);rintro i m σ H ⟨rfl,f,p⟩;by_cases b:i<xs.length
 .have d:=List.getElem?_eq_getElem (by ac_nf:xs.length-1-i<xs.length);show .inr ⟨⟨b,xs,_,hl i σ H p,d⟩,Pv (i+1),λσ' H' c=>⟨xs.length-(i+1),by ac_nf,rfl,b,c⟩,λx H' y=>?_⟩;let(e,y):=y;subst e;show hs i x σ _ b (y xs (hl i σ _ p)) p _ λ_ _ h=>h
 .have e:i=xs.length:=by ac_nf
  subst e;show .inl ⟨rfl,hd σ H p⟩
theorem ForJ.keys(Pv:Nat->St->Hp->Prop)(h0:Pv 0 σ H)(hl:∀ i σ H',Pv i σ H'->H' d=some (.frz od (.dK kvs)))
  (hs:∀ i z σ H,ss[i]?=some z->Pv i σ H->∀ N:St->Hp->Prop,(∀ σ' H',Pv (i+1) σ' H'->N σ' H')->g (.str z) σ H λσ2 H2=>tb { D with nx:=N,ct:=N,bk:=D.nx } σ2 H2) (hd:∀ σ H,Pv ss.length σ H->D.nx σ H):ForJ (Itk d od kvs ss) g tb D σ H:=by
 show(λi m σ H=>m=ss.length-i/\i<=ss.length/\Pv i σ H,⟨ss.length,by simp,Nat.zero_le _,h0⟩,?_);rintro i m σ H ⟨rfl,c,p⟩;by_cases a:i<ss.length
 .show .inr ⟨⟨hl i σ H p,a⟩,Pv (i+1),λσ' H' b=>⟨ss.length-(i+1),by ac_nf,rfl,a,b⟩,λx H' y=>?_⟩;let(e,y):=y;subst e;rw[List.getElem?_map,List.getElem?_eq_getElem a]at y;cases y;show hs i ss[i] σ _ (List.getElem?_eq_getElem a) p _ λ_ _ h=>h
 .have e:i=ss.length:=by ac_nf
  subst e;show .inl ⟨⟨hl _ σ H p,Nat.le_refl _⟩,hd σ H p⟩
end
def bF(ns:List (Int × Int)):Int:=ns.foldl (λb n=>b*n.2.fdiv (Mth.g b n.2)) 1
theorem Jjp{l:List (Int × Int)}{n:Int × Int}:bF (l++[n])=bF l*n.2.fdiv (Mth.g (bF l) n.2):=by
 unfold bF;rw[foldl_append];rfl
theorem JgO{a : α}:∀{P:List (Str × α)},lk P z=some a->z∈P.map (·.1)
 | [],h=>by cases h
 | p::P,h=>by
  unfold lk at h;by_cases c:p.1=z
  .rw[map_cons,c];show mem_cons_self
  .rw[if_neg c]at h;rw[map_cons];show mem_cons_of_mem _ (JgO h)
theorem pu_nd{l:List (Str × α)}{f:Str}{a : α}(h:(l.map (·.1)).Nodup):((pu l f a).map (·.1)).Nodup:=by
 unfold pu;split
 .have e:∀ l:List (Str × α),(l.map λp=>if p.1=f then(p.1,a)else p).map (·.1)=l.map (·.1):=λl=>by
   rw[map_map];show List.map_congr_left λp _=>?_;show(if p.1=f then(p.1,a)else p).1=p.1;split <;> rfl
  rw[e];show h
 .rename_i c;rw[map_append];show nodup_append.mpr ⟨h,by simp,λx g y b e=>?_⟩;have b:y=f:=by simpa using b
  let(p,d,rfl):=mem_map.mp g;show c (List.any_eq_true.mpr ⟨p,d,by simp[e,b]⟩)
section
variable{ss:List SpS}{P:LasD}{fs:List Str}
theorem BE.chn(h:BE ss fs P){v:Str}{l:List SpS}(hv:v∈fs\/∃ s,lk P v=some s)(c:Chn P v l):(∀ s∈l,s∈ss)/\l.length<=ss.length/\∃ f∈fs,lk P f=none/\Wk ss f l v/\(f::l.map (·.tgt)).Nodup:=by
 let(S,n,o,_):=h.chain;let(b,i):=(n v).mpr hv;let(k,m,p,f,g,j,a,d):=o v b i;have e:=Chn.uniq c m;subst e;show(a.mem,a.len d,f,g,j,a,d)
def cs(l:List SpS):Int × Int:=l.foldl (λa s=>addF a s.cost) (0,1)
theorem Jhr:cs (l++[s])=addF (cs l) s.cost:=by
 unfold cs;rw[foldl_append];rfl
theorem JlM:∀(l:List SpS)(a:Int × Int)(n:Nat),FB (201+10*n) (9*n+1) a->(∀ s∈l,FB 200 9 s.cost)->FB (201+10*(n+l.length)) (9*(n+l.length)+1) (l.foldl (λa s=>addF a s.cost) a)
 | [],_,_,h,_=>h
 | s::l,a,n,h,k=>by
  rw[foldl_cons];have h1:FB (201+10*(n+1)) (9*(n+1)+1) (addF a s.cost):=(FB.add (n:=210+10*n) (m:=9*n+1+9) h (k s mem_cons_self) ∅ ∅ ∅).mono ∅ ∅;have:=JlM l _ (n+1) h1 λs hs=>k s (mem_cons_of_mem _ hs);rw[length_cons,show n+(l.length+1)=n+1+l.length by ac_nf];show this
theorem fb01:FB 201 1 (0,1):=⟨by unfold Mth.Sz;show Nat.two_pow_pos _,by unfold Mth.Sz;decide,by decide,by decide⟩
theorem cs_fb(h:∀ s∈l,FB 200 9 s.cost):FB (201+10*l.length) (9*l.length+1) (cs l):=by
 have:=JlM l (0,1) 0 fb01 h
 rwa [Nat.zero_add]at this
structure TBk(P:LasD)(fs:List Str)(tb:List (Str × ((Int × Int) × List SpS))):Prop where
 nd:(tb.map (·.1)).Nodup
 en:∀ v e,lk tb v=some e->(v∈fs\/∃ s,lk P v=some s)/\Chn P v e.2/\e.1=cs e.2
theorem TBk.nil:TBk P fs []:=⟨by simp,λv e h=>by cases h⟩
variable{tb:List (Str × ((Int × Int) × List SpS))}
theorem TBk.one{f:Str}(h:TBk P fs tb)(hf:f∈fs)(hn:lk P f=none):TBk P fs (pu tb f ((0,1),[])) where
 nd:=pu_nd h.nd
 en:=λv e a=>by
  rw[lk_pu]at a;by_cases c:f=v
  .rw[if_pos c]at a;cases a;subst c;show(.inl hf, .nil hn,rfl)
  .rw[if_neg c]at a;show h.en v e a
variable{e:(Int × Int) × List SpS}
theorem TBk.put(h:TBk P fs tb)(he:lk tb s.src=some e)(hs:lk P s.tgt=some s):TBk P fs (pu tb s.tgt (addF e.1 s.cost,e.2++[s])) where
 nd:=pu_nd h.nd
 en:=λv x a=>by
  rw[lk_pu]at a;by_cases c:s.tgt=v
  .rw[if_pos c]at a;cases a;let(_,b,d):=h.en _ _ he;subst c;show(.inr ⟨s,hs⟩, .snoc hs b,by rw[Jhr,d])
  .rw[if_neg c]at a;show h.en v x a
theorem TBk.keep{f:Str}{a:(Int × Int) × List SpS}(h:∃ e,lk tb z=some e):∃ e,lk (pu tb f a) z=some e:=by
 let(e,b):=h;rw[lk_pu];by_cases c:f=z
 .show(_,if_pos c)
 .show(e,(if_neg c).trans b)
theorem BE.tb_len(h:BE ss fs P){tb:List (Str × ((Int × Int) × List SpS))}(k:TBk P fs tb):tb.length<=fs.length+ss.length:=by
 have:=sub_len (tb.map (·.1)) (fs++ss.map (·.tgt)) k.nd λx d=>by
  let(e,b):=Jeo d;let(_,_,_,_,a,_):=h.ex;rcases(k.en x e b).1 with e | ⟨s,hs⟩
  .show mem_append_left _ e
  .let(c,f,_):=a x s hs;show mem_append_right _ (mem_map.mpr ⟨s,c,f⟩)
 rwa [length_map,length_append,length_map]at this
end
section
variable{prog:Program}{A:Around}{s:Shared}{w:World}
end
def toS(b:Int)(s:SD):SpS:=⟨s.src,s.dst,s.c,s.c.1*b.fdiv s.c.2,s.nm,s.fw⟩
def bD_(ts:List TD):Int:=bF ((Ch.all ts).map (·.c))
def ssD(ts:List TD):List SpS:=(Ch.all ts).map (toS (bD_ ts))
def lsD(ts:List TD)(fs:List Str):LasD:=(bfR (ssD ts) ((ssD ts).length+1) (bf0 fs)).P
abbrev Tab:=List (Str × ((Int × Int) × List SpS))
theorem wh_vl(h2:1<=c.2)(hd:c.2∣b):((c.1*b.fdiv c.2:Int):Rat)=vl c*(b:Rat):=by
 let(k,rfl):=hd;rw[Int.mul_fdiv_cancel_left _ ∅];have a:=Jc0 h2;unfold vl;push_cast;generalize(c.1:Rat)=x at *;generalize(c.2:Rat)=y at *;generalize(k:Rat)=z at *;grind
theorem JjA:∀(l:List SpS)(a:Int × Int),1<=a.2->(∀ s∈l,(s.wh:Rat)=vl s.cost*(b:Rat)/\1<=s.cost.2)->vl (l.foldl (λa s=>addF a s.cost) a)*(b:Rat)=vl a*(b:Rat)+(wgt l:Rat)/\1<=(l.foldl (λa s=>addF a s.cost) a).2
 | [],a,ha,_=>by
  show(?_,ha);show vl a*(b:Rat)=vl a*(b:Rat)+((0:Int):Rat);rw[Rat.intCast_zero,Rat.add_zero]
 | s::l,a,ha,h=>by
  rw[foldl_cons];let(h1,h2):=h s mem_cons_self;have hb:1<=(addF a s.cost).2:=Mth.JbQ (Int.mul_ne_zero ∅ ∅);let(i1,i2):=JjA l (addF a s.cost) hb λs hs=>h s (mem_cons_of_mem _ hs);show(?_,i2);rw[i1,Jd5 ha h2];have e:(wgt (s::l):Rat)=(s.wh:Rat)+(wgt l:Rat):=by
   show((s.wh+wgt l:Int):Rat)=_;push_cast;rfl
  rw[e,h1,Rat.add_mul,Rat.add_assoc]
theorem Jjz(h:∀ s∈l,(s.wh:Rat)=vl s.cost*(b:Rat)/\1<=s.cost.2):vl (cs l)*(b:Rat)=(wgt l:Rat)/\1<=(cs l).2:=by
 let(a,c):=JjA (b:=b) l (0,1) ⋯ h;show(?_,c);unfold cs;rw[a,Jfh];grind
theorem ss_wh(hb:∀ s∈Ch.all ts,1<=s.c.2/\s.c.2∣bD_ ts):∀ s∈ssD ts,(s.wh:Rat)=vl s.cost*(bD_ ts:Rat)/\1<=s.cost.2:=λs b=>by
 let(x,a,rfl):=mem_map.mp b;show(wh_vl (hb x a).1 (hb x a).2,(hb x a).1)
theorem Jn8(h1:1<=bD_ ts)(hb:∀ s∈Ch.all ts,1<=s.c.2/\s.c.2∣bD_ ts)(hx:∀ s∈Ch.all ts,x s.dst<=x s.src+vl s.c):Pot (λf=>(x f*(bD_ ts:Rat)).floor) (ssD ts) :=
 Jko (x:=λf=>x f*(bD_ ts:Rat)) λs a=>by
  have b:=(ss_wh hb s a).1;let(y,d,rfl):=mem_map.mp a;have:=hx y d;rw[b];show x y.dst*_<=x y.src*_+vl y.c*_;rw[<- Rat.add_mul];show Rat.mul_le_mul_of_nonneg_right this ?_;have : (0:Int)<=bD_ ts:=by ac_nf
  exact_mod_cast this
structure BkG(ts:List TD)(F:List Str)(x:Str->Rat):Prop where
 l35:ts.length<=35
 ok:∀ t∈ts,TOk t
 fb:∀ s∈Ch.all ts,FB 200 9 s.c
 f8:F.length<=14
 fm:∀ t∈ts,t.st∈F/\t.en∈F
 pot:∀ s∈Ch.all ts,x s.dst<=x s.src+vl s.c
variable{F:List Str}
theorem BkG.l70(h:BkG ts F x):(Ch.all ts).length<=70:=by
 have:=Jhm (ts:=ts) ts.length;rw[take_of_length_le (Nat.le_refl _)]at this;have:=h.l35;ac_nf
theorem Jcf(h:∀ t∈ts,t.st∈F/\t.en∈F):∀ s∈Ch.all ts,s.src∈F/\s.dst∈F:=λs a=>by
 let(t,d,a):=mem_flatMap.mp (show s∈ts.flatMap Ch.steps from a);let(c,b):=h t d;unfold Ch.steps fwd bwd at a;rcases mem_append.mp a with a | a
 .cases e:t.hi with
  | none=>rw[e]at a;cases a
  | some u=>rw[e]at a;rw[mem_singleton.mp a];show(c,b)
 .cases e:t.lo with
  | none=>rw[e]at a;cases a
  | some u=>rw[e]at a;rw[mem_singleton.mp a];show(b,c)
structure TTd(ts:List TD)(fs:List Str)(tb:Tab):Prop where
 b1:1<=bD_ ts
 bb:∀ s∈Ch.all ts,1<=s.c.2/\s.c.2∣bD_ ts
 tk:TBk (lsD ts fs) fs tb
 ks:∀ v,(∃ e,lk tb v=some e)↔(v∈fs\/∃ s,lk (lsD ts fs) v=some s)
 be:BE (ssD ts) fs (lsD ts fs)
section
variable{tb tb':Tab}{v:Str}{e:(Int × Int) × List SpS}{fs:List Str}
theorem TTd.uniq(h:TTd ts fs tb)(k:TTd ts fs tb'):lk tb v=lk tb' v:=by
 cases e1:lk tb v with
 | none=>
  cases e2:lk tb' v with
  | none=>rfl
  | some e=>
   let(b,a):=(h.ks v).mpr ((k.ks v).mp ⟨e,e2⟩);rw[e1]at a;cases a
 | some e=>
  let(b,a):=(k.ks v).mpr ((h.ks v).mp ⟨e,e1⟩);let(_,d,f):=h.tk.en v e e1;let(_,c,g):=k.tk.en v b a;rw[a];have:=d.uniq c
  congr 1
  show Prod.ext (by rw[f,g,this]) this
theorem TTd.ent(h:TTd ts fs tb)(he:lk tb v=some e):e.1=cs e.2/\(∀ s∈e.2,s∈ssD ts)/\e.2.length<=(ssD ts).length/\∃ f∈fs,lk (lsD ts fs) f=none/\Wk (ssD ts) f e.2 v/\(f::e.2.map (·.tgt)).Nodup:=by
 let(b,g,a):=h.tk.en v e he;let(d,i,c):=h.be.chn b g;show(a,d,i,c)
theorem TTd.fb(h:TTd ts fs tb)(hfb:∀ s∈Ch.all ts,FB 200 9 s.c)(hl:(Ch.all ts).length<=70)(he:lk tb v=some e):FB 1000 700 e.1:=by
 let(a,g,i,_):=h.ent he;have d:(ssD ts).length<=70:=by unfold ssD;rw[length_map];ac_nf
 rw[a];show(cs_fb λs f=>?_).mono ∅ ∅;let(y,b,rfl):=mem_map.mp (g s f);show hfb y b
theorem TTd.b2(h:TTd ts fs tb)(he:lk tb v=some e):1<=e.1.2:=by
 let(d,a,_):=h.ent he;rw[d];show(Jjz (b:=bD_ ts) λs c=>ss_wh h.bb s (a s c)).2
theorem TTd.step(h:TTd ts fs tb){s:SD}(hs:s∈Ch.all ts)(he:lk tb s.src=some e):∃ e',lk tb s.dst=some e'/\vl e'.1<=vl e.1+vl s.c:=by
 let(S,o,r,u):=h.be.chain;have k:toS (bD_ ts) s∈ssD ts:=mem_map.mpr ⟨s,hs,rfl⟩;have i:∀ v e,lk tb v=some e->∀ a,lk S v=some a->vl e.1*(bD_ ts:Rat)=(a:Rat):=λv e he a m=>by
  let(_,p,x):=h.tk.en v e he;let(l,q,w,f,_,_,B,_):=r _ a m;have:=p.uniq q;subst this;rw[x, <- w];show(Jjz λs hs=>ss_wh h.bb s (B.mem s hs)).1
 let(a,m):=(o _).mpr ((h.ks _).mp ⟨e,he⟩);let(b,d,n):=u _ k a m;let(e',g):=(h.ks s.dst).mpr ((o _).mp ⟨b,d⟩);show(e',g,?_);have C:=i _ _ he a m;have A:=i _ _ g b d;have t:=(ss_wh h.bb _ k).1;have D:=h.b1;have y:(0:Rat)<(bD_ ts:Rat):=by
  have : (0:Int)<bD_ ts:=by ac_nf
  exact_mod_cast this
 have j:(b:Rat)<=(a:Rat)+((toS (bD_ ts) s).wh:Rat):=by exact_mod_cast n
 rw[t, <- C, <- A]at j;have j:vl e'.1*(bD_ ts:Rat)<=vl e.1*(bD_ ts:Rat)+vl s.c*(bD_ ts:Rat):=j;rw[<- Rat.add_mul]at j;show Rat.not_lt.mp λz=>absurd j (Rat.not_le.mpr (Rat.mul_lt_mul_of_pos_right z y))
theorem TTd.self{f:Str}(h:TTd ts [f] tb):lk tb f=some ((0,1),[]):=by
 let(e,a):=(h.ks f).mpr (.inl (by simp));let(_,c,q):=h.tk.en f e a;let(_,_,_,g,d,b,_):=h.ent a;rw[mem_singleton.mp d]at b;have:=c.uniq (.nil b);rw[a]
 congr 1
 show Prod.ext (by rw[q,this];rfl) this
theorem TTd.root{f:Str}(h:TTd ts [f] tb)(he:lk tb v=some e):Wk (ssD ts) f e.2 v:=by
 let(_,_,_,g,a,_,w,_):=h.ent he;rw[mem_singleton.mp a]at w;show w
end
variable{ss:List SpS}{f0 v:Str}
theorem Wk.at_(h:Wk ss f0 l v):∀ i s,l[i]?=some s->Wk ss f0 (l.take i) s.src/\s∈ss/\Wk ss f0 (l.take (i+1)) s.tgt:=by
 induction h with
 | nil=>intro i s h;simp at h
 | @snoc l s0 hl hs ih=>
  intro i s h;by_cases c:i<l.length
  .rw[List.getElem?_append_left c]at h;rw[List.take_append_of_le_length ∅,List.take_append_of_le_length ∅];show ih i s h
  .have a:=(List.getElem?_eq_some_iff.mp h).1;rw[length_append,length_singleton]at a;have : i=l.length:=by ac_nf
   subst this;rw[List.getElem?_append_right (Nat.le_refl _),Nat.sub_self]at h;cases h;show(by rw[List.take_left];show hl,hs,?_);rw[take_of_length_le (by simp)];show .snoc hl hs
theorem Wk.fin(h:Wk ss f0 l v):(f0::l.map (·.tgt))[l.length]?=some v:=by
 cases h with
 | nil=>rfl
 | snoc _ _=>rw[length_append,length_singleton,List.getElem?_cons_succ,map_append,List.getElem?_append_right (by rw[length_map];show Nat.le_refl _),length_map,Nat.sub_self];rfl
def JbE(a:Int × Int):Int:=a.1.fdiv a.2
def ceilF(a:Int × Int):Int:=-((-a.1).fdiv a.2)
theorem Jf2(h:1<=a.2):(JbE a:Rat)<=vl a:=by
 unfold JbE;have e:=Int.fmod_add_mul_fdiv a.1 a.2;have m:=Mth.fm (x:=a.1) (y:=a.2) ∅;generalize a.1.fdiv a.2=q at *;have b:q*a.2<=a.1:=by
  rw[Int.mul_comm]at e;ac_nf
 rw[<- JiP q];show Rat.not_lt.mp λz=>?_;have:=(JdG (c:=(q,1)) h (show(1:Int)<=1 by decide)).mpr z;unfold lessF at this;simp at this;ac_nf
theorem JmC(h:1<=a.2):vl a<=(ceilF a:Rat):=by
 have:=Jf2 (a:=(-a.1,a.2)) h;have e:vl (-a.1,a.2) = - vl a:=Jd6 a;rw[e]at this;unfold ceilF;have b:((-((-a.1).fdiv a.2):Int):Rat) = - ((JbE (-a.1,a.2):Int):Rat):=by
  unfold JbE;push_cast;rfl
 rw[b];grind
theorem JeS(h:1<=a.2):(JbE a).natAbs<=a.1.natAbs:=by
 unfold JbE;have e:=Int.fmod_add_mul_fdiv a.1 a.2;have m:=Mth.fm (x:=a.1) (y:=a.2) ∅;generalize a.1.fdiv a.2=q at *;generalize a.1.fmod a.2=r at *;have b:q*a.2=a.1-r:=by rw[Int.mul_comm];ac_nf
 by_cases c:0<=q
 .have : q*1<=q*a.2:=Int.mul_le_mul_of_nonneg_left h c;ac_nf
 .have d:(q+1)*a.2<=(q+1)*1:=by
   have:=Int.mul_le_mul_of_nonneg_left h (show 0 <= -(q+1) by ac_nf);rw[Int.neg_mul,Int.neg_mul]at this;ac_nf
  have f:(q+1)*a.2=a.1-r+a.2:=by rw[Int.add_mul,Int.one_mul,b]
  ac_nf
theorem JkV(h:1<=a.2):(ceilF a).natAbs<=a.1.natAbs:=by
 have:=JeS (a:=(-a.1,a.2)) h;unfold JbE at this;unfold ceilF;rw[Int.natAbs_neg];simpa using this
def enS(f g:Str->Option (Int × Int))(m:Int)(s:SpS):Int:=match f s.tgt,f s.src,g s.src with
 | some a,none,some p=>max m (ceilF a-JbE p-JbE s.cost)
 | _,_,_=>m
theorem Jnv{f g:Str->Option (Int × Int)}{m:Int}(h:f s.tgt=none):enS f g m s=m:=by unfold enS;rw[h]
theorem Jnw{f g:Str->Option (Int × Int)}{m:Int}{b:Int × Int}(h:f s.src=some b):enS f g m s=m:=by
 unfold enS;rw[h];split <;> first | rfl | (rename_i q _;cases q) | skip
theorem enS_y{f g:Str->Option (Int × Int)}{m:Int}{p:Int × Int}(h1:f s.tgt=some a)(h2:f s.src=none)(h3:g s.src=some p):enS f g m s=max m (ceilF a-JbE p-JbE s.cost):=by unfold enS;rw[h1,h2,h3]
def enD(ss:List SpS)(f g:Str->Option (Int × Int)):Int:=ss.foldl (enS f g) 0
theorem JlO{f g:Str->Option (Int × Int)}{m:Int}:m<=enS f g m s:=by
 unfold enS;split <;> ac_nf
theorem JlP{f g:Str->Option (Int × Int)}:∀(ss:List SpS)(m:Int),m<=ss.foldl (enS f g) m
 | [],_=>Int.le_refl _
 | s::ss,m=>by
  rw[foldl_cons];show Int.le_trans JlO (JlP ss _)
theorem en_ge{f g:Str->Option (Int × Int)}(ss:List SpS):∀(m:Int)(s:SpS)(a p:Int × Int),s∈ss->f s.tgt=some a->f s.src=none->g s.src=some p->ceilF a-JbE p-JbE s.cost<=ss.foldl (enS f g) m:=by
 induction ss with
 | nil=>
  intro m s a p h;cases h
 | cons x ss ih=>
  intro m s a p h d c b;rw[foldl_cons];rcases mem_cons.mp h with rfl | h
  .show Int.le_trans ?_ (JlP ss _);unfold enS;rw[d,c,b];dsimp only;ac_nf
  .show ih _ s a p h d c b
def rMax:List V->Hp->VK->Prop:=λxs H Q=>∃ i j,xs=[.int i, .int j]/\Q (.int (max i j)) H
theorem Jjv(hc:X.calm=true):CallR X (.builtin "max") rMax:=by
 intro b s σ H e g Q I r h;let(i,j,rfl,q):=h;let(u,f,rfl,(t,rfl),(c,rfl)):=vals2 r;show max_two_ints (I.ok.hd hc) λl d k=>⟨_,H,I.kept k,?_,q⟩;by_cases a:j > i
 .rw[if_pos a,Int.max_eq_right ∅];show(_,rfl)
 .rw[if_neg a,Int.max_eq_left ∅];show(_,rfl)
theorem en_lt{f g:Str->Option (Int × Int)}(hf:∀ v e,f v=some e->FB 1000 700 e)(hg:∀ v e,g v=some e->FB 1000 700 e):∀(ss:List SpS)(m:Int),(∀ s∈ss,FB 1000 700 s.cost)->0<=m->m<2 ^ 1010->0<=ss.foldl (enS f g) m/\ss.foldl (enS f g) m<2 ^ 1010
 | [],m,_,h0,h1=>⟨h0,h1⟩
 | s::ss,m,hc,h0,h1=>by
  rw[foldl_cons];show en_lt hf hg ss _ (λs hs=>hc s (mem_cons_of_mem _ hs)) (Int.le_trans h0 JlO) ?_;unfold enS;split
  .rename_i a p e1 e2 e3;have q1:=hf _ _ e1;have q2:=hg _ _ e3;have q3:=hc s mem_cons_self;have r1:=Nat.lt_of_le_of_lt (JkV q1.b1) q1.s1;have r2:=Nat.lt_of_le_of_lt (JeS q2.b1) q2.s1;have r3:=Nat.lt_of_le_of_lt (JeS q3.b1) q3.s1;have hB:(3*2 ^ 1000:Nat)<2 ^ 1010:=Nat.lt_of_lt_of_le (m:=4*2 ^ 1000) (Nat.mul_lt_mul_of_pos_right ⋯ (Nat.two_pow_pos _)) (by rw[show(4:Nat)=2 ^ 2 from rfl, <- Nat.pow_add];show Nat.pow_le_pow_right ⋯ ⋯);have hC:((2 ^ 1010:Nat):Int)=(2:Int) ^ 1010:=by norm_cast
   rw[<- hC]at h1 ⊢;clear hC;generalize(2 ^ 1000:Nat)=B at *;generalize(2 ^ 1010:Nat)=C at *;ac_nf
  .show h1
def stD(ts:List TD)(f g:Str->Option (Int × Int))(out:List Str):List (Str × (Int × Int)):=out.map λv=>(v,match f v with
 | some e=>e
 | none=>addF ((g v).getD (0,1)) (enD (ssD ts) f g,1))
theorem JlB{f g:Str->Option (Int × Int)}{e:Int × Int}(h:f v=some e):stD ts f g [v]=[(v,e)]:=by
 unfold stD;rw[map_cons,h];rfl
theorem JlA{f g:Str->Option (Int × Int)}{q:Int × Int}(h:f v=none)(k:g v=some q):stD ts f g [v]=[(v,addF q (enD (ssD ts) f g,1))]:=by
 unfold stD;rw[map_cons,h,k];rfl
structure MCalD(P:Program)(w:World)(K:W.Frag)(mg:Str->Option Value)(base:Heap)(k:Nat)(m:Str)(Cs:Addr->Prop)(ps:List Str)(dvs:List V)(sp:Sp):Prop where
 ex:∃(f:Addr)(fd:FuncData)(ds:List Value),FnOk P w K mg base (CX1 P w) k f fd ps sp/\(∀ C,Cs C->Cls K C/\Meth K C m f)/\W.keepIn K (.ref f)=true/\Binds K fd ps ds/\Vals dvs ds
section
variable{k':Nat}{x mn:Str}{C:Addr}{Cs:Addr->Prop}{ps:List Str}{sp:Sp}{E:XK}{p:Pos}{es:List Expr}{dvs:List V}{k:Nat}{t:TA}
end
section
variable{tb tb0:Tab}{one:Str}{out:List Str}
def svD(ts:List TD)(f g:Str->Option (Int × Int))(v:Str):Int × Int:=match f v with
 | some e=>e
 | none=>addF ((g v).getD (0,1)) (enD (ssD ts) f g,1)
theorem Jct{f g:Str->Option (Int × Int)}:(stD ts f g out).map (·.1)=out:=by
 unfold stD;rw[map_map];show List.map_id _
theorem Jd1{f g:Str->Option (Int × Int)}(nd:out.Nodup){v:Str}(hv:v∈out):look (stD ts f g out) v=svD ts f g v:=by
 let(i,a):=List.getElem?_of_mem hv;show JhD (i:=i) (by rw[Jct];show nd) ?_;unfold stD;rw[List.getElem?_map,a];rfl
abbrev fT(tb:Tab):Str->Option (Int × Int):=λv=>(lk tb v).map (·.1)
variable{e:(Int × Int) × List SpS}
theorem Jf0(h:lk tb v=some e):fT tb v=some e.1:=by
 show(lk tb v).map _=_;rw[h];rfl
theorem JjP(h:lk tb v=none):fT tb v=none:=by
 show(lk tb v).map _=_;rw[h];rfl
theorem JdF{g:Str->Option (Int × Int)}(h:lk tb v=some e):svD ts (fT tb) g v=e.1:=by
 unfold svD;rw[Jf0 h]
theorem Jgs{q:(Int × Int) × List SpS}(h:lk tb v=none)(k:lk tb0 v=some q):svD ts (fT tb) (fT tb0) v=addF q.1 (enD (ssD ts) (fT tb) (fT tb0),1):=by
 unfold svD;rw[JjP h,Jf0 k];rfl
theorem JjQ(hF:Ja1 ts out):∀ s∈Ch.all ts,s.src∈out/\s.dst∈out:=Jcf λt a=>⟨(hF.2.2 _).mpr ⟨t,a, .inl rfl⟩,(hF.2.2 _).mpr ⟨t,a, .inr rfl⟩⟩
theorem Jnh(ht:TTd ts [one] tb)(h0:TTd ts out tb0)(hF:Ja1 ts out){s:SD}(hs:s∈Ch.all ts):vl (svD ts (fT tb) (fT tb0) s.dst)<=vl (svD ts (fT tb) (fT tb0) s.src)+vl s.c:=by
 let(o,y):=JjQ hF s hs;let(p,j):=(h0.ks s.src).mpr (.inl o);let(q,i,r):=h0.step hs j;have n:=h0.b2 j;have l:=h0.b2 i;have b:(1:Int)<=1:=by decide
 cases e1:lk tb s.src with
 | some e=>
  let(w,k,h):=ht.step hs e1;rw[JdF e1,JdF k];show h
 | none=>
  rw[Jgs e1 j,Jd5 n b,JiP];cases e2:lk tb s.dst with
  | some a=>
   rw[JdF e2];have d:=en_ge (f:=fT tb) (g:=fT tb0) (ssD ts) 0 (toS (bD_ ts) s) a.1 p.1 (mem_map.mpr ⟨s,hs,rfl⟩) (Jf0 e2) (JjP e1) (Jf0 j);have d:ceilF a.1-JbE p.1-JbE s.c<=enD (ssD ts) (fT tb) (fT tb0):=d;have v:=JmC (a:=a.1) (ht.b2 e2);have u:=Jf2 (a:=p.1) n;have x:=Jf2 (a:=s.c) (ht.bb s hs).1;generalize enD (ssD ts) (fT tb) (fT tb0)=m at *;have t:(ceilF a.1:Rat)-(JbE p.1:Rat)-(JbE s.c:Rat)<=(m:Rat):=by exact_mod_cast d
   generalize(ceilF a.1:Rat)=A at *;generalize(JbE p.1:Rat)=B at *;generalize(JbE s.c:Rat)=C at *;generalize(m:Rat)=M at *;generalize vl a.1=a' at *;generalize vl p.1=b' at *;generalize vl s.c=c' at *;grind
  | none=>
   rw[Jgs e2 i,Jd5 l b,JiP];generalize((enD (ssD ts) (fT tb) (fT tb0):Int):Rat)=M at *;generalize vl q.1=a' at *;generalize vl p.1=b' at *;generalize vl s.c=c' at *;grind
theorem sv_b2(ht:TTd ts [one] tb)(h0:TTd ts out tb0){v:Str}(hv:v∈out):1<=(svD ts (fT tb) (fT tb0) v).2:=by
 cases e:lk tb v with
 | some e=>rw[JdF ‹_›];show ht.b2 ‹_›
 | none=>
  let(p,a):=(h0.ks v).mpr (.inl hv);rw[Jgs e a];have:=h0.b2 a;show Mth.JbQ (Int.mul_ne_zero ∅ (show(1:Int)≠0 by decide))
theorem Job(hg:BkG ts F x)(ht:TTd ts [one] tb)(h0:TTd ts out tb0)(hF:Ja1 ts out):∀ t∈ts,okB t.lo t.hi (addF (svD ts (fT tb) (fT tb0) t.en) (negF (svD ts (fT tb) (fT tb0) t.st)))=true:=λt a=>by
 have i:t.st∈out:=(hF.2.2 _).mpr ⟨t,a, .inl rfl⟩;have g:t.en∈out:=(hF.2.2 _).mpr ⟨t,a, .inr rfl⟩;have k:=sv_b2 ht h0 i;have j:=sv_b2 ht h0 g;have c:=hg.ok t a;have st:=λs (n:s∈Ch.steps t)=>Jnh ht h0 hF (s:=s) (mem_flatMap.mpr ⟨t,a,n⟩);generalize svD ts (fT tb) (fT tb0)=sv at *;have b:1<=(addF (sv t.en) (negF (sv t.st))).2:=Mth.JbQ (Int.mul_ne_zero ∅ (by show(sv t.st).2≠0;ac_nf));have d:vl (addF (sv t.en) (negF (sv t.st)))=vl (sv t.en)-vl (sv t.st):=by
  rw[Jd5 j (show 1<=(negF (sv t.st)).2 from k),Jd6,Rat.sub_eq_add_neg]
 unfold okB;rw[Bool.and_eq_true];constructor
 .cases e:t.lo with
  | none=>rfl
  | some l=>
   have m:=(c.lo l e).b1;have:=st ⟨t.en,t.st,(-l.1,l.2),t.nm,false⟩ (by unfold Ch.steps bwd;rw[e];simp);have this : vl (sv t.st)<=vl (sv t.en)+vl (negF l):=this;rw[Jd6]at this;show(!lessF (addF (sv t.en) (negF (sv t.st))) l)=true;cases z:lessF (addF (sv t.en) (negF (sv t.st))) l with
   | false=>rfl
   | true=>
    have h:=(JdG b m).mp z;rw[d]at h;show absurd h (Rat.not_lt.mpr ?_);grind
 .cases e:t.hi with
  | none=>rfl
  | some u=>
   have f:=(c.hi u e).b1;have:=st ⟨t.st,t.en,u,t.nm,true⟩ (by unfold Ch.steps fwd;rw[e];simp);have this : vl (sv t.en)<=vl (sv t.st)+vl u:=this;show(!lessF u (addF (sv t.en) (negF (sv t.st))))=true;cases z:lessF u (addF (sv t.en) (negF (sv t.st)))with
   | false=>rfl
   | true=>
    have h:=(JdG f b).mp z;rw[d]at h;show absurd h (Rat.not_lt.mpr ?_);grind
variable{e:Int × Int}
theorem JnK(h:Lo e):Lo (negF e):=⟨h.b1,by
 have:=h.g1;unfold negF;rw[Mth.g_neg];show this⟩
theorem sub0(h:Lo e):subF (0,1) e=negF e:=Lo.inj (JnJ (Jl0 (show(1:Int)<=1 by decide) h.b1)) (JnK h) (by
 rw[Jok (show(1:Int)<=1 by decide) h.b1,Jfh,Jd6];grind)
end
variable{tb tb0:Tab}
theorem sv_fb{one:Str}{out:List Str}(hg:BkG ts F x)(ht:TTd ts [one] tb)(h0:TTd ts out tb0){v:Str}(hv:v∈out):FB 1711 701 (svD ts (fT tb) (fT tb0) v):=by
 cases e:lk tb v with
 | some e'=>rw[JdF e];show(ht.fb hg.fb hg.l70 e).mono ⋯ ⋯
 | none=>
  let(p,j):=(h0.ks v).mpr (.inl hv);rw[Jgs e j];have i:∀(t:Tab)(d:List Str),TTd ts d t->∀ v e,fT t v=some e->FB 1000 700 e:=λt d h v e k=>by
   let(a,c,q):=Option.map_eq_some_iff.mp k;rw[<- q];show h.fb hg.fb hg.l70 c
  have b:=en_lt (f:=fT tb) (g:=fT tb0) (i _ _ ht) (i _ _ h0) (ssD ts) 0 (λs o=>by let(y,r,rfl):=mem_map.mp o;show(hg.fb y r).mono ⋯ ⋯) (Int.le_refl _) (by exact_mod_cast Nat.two_pow_pos 1010);have b:0<=enD (ssD ts) (fT tb) (fT tb0)/\enD (ssD ts) (fT tb) (fT tb0)<2 ^ 1010:=b;generalize enD (ssD ts) (fT tb) (fT tb0)=m at *;have l:FB 1010 1 ((m,1):Int × Int):=⟨by
   unfold Mth.Sz;have c:=b.2;have u:((2 ^ 1010:Nat):Int)=(2:Int) ^ 1010:=by norm_cast
   rw[<- u]at c;have h0:=b.1;show m.natAbs<_;generalize(2 ^ 1010:Nat)=C at *;ac_nf,by show(1:Int).natAbs<2 ^ 1;decide,by show(1:Int)<=1;decide,by unfold Mth.g;simp⟩
  show FB.add (n:=1710) (m:=701) (h0.fb hg.fb hg.l70 j) l ⋯ ⋯ ⋯
section
variable{S:SumD}{P:LasD}{fs:List Str}{t:BF}
def Clo(P:LasD)(z:Str)(l:List SpS):Prop:=l≠[]/\Lnk P z l/\lnkE z l=z
structure BX(ss:List SpS)(fs:List Str)(S:SumD)(P:LasD):Prop where
 p0:∀ v b,lk S v=some b->lk P v=none->v∈fs
 st:∀ v s,lk P v=some s->s∈ss/\s.tgt=v/\∃ a b,lk S s.src=some a/\lk S v=some b/\a+s.wh<=b
 rg:∀ z l,Clo P z l->wgt l<0
theorem JiQ:wgt (s::l)=s.wh+wgt l:=by simp[wgt]
theorem Lnk.sum{g:Str->Int}(h:∀ v s,lk P v=some s->g s.src+s.wh<=g v):∀{l:List SpS}{z:Str},Lnk P z l->g z+wgt l<=g (lnkE z l)
 | [],z,_=>by simp[wgt,lnkE]
 | s::r,z,⟨h1,h2,h3⟩=>by
  have:=Lnk.sum h h3;have:=h _ _ h2;rw[h1]at this;rw[JiQ];show _<=g (lnkE s.tgt r);ac_nf
theorem Lnk.sumS{g:Str->Int}{f:Str}(h:∀ v s,lk P v=some s->g s.src+s.wh<=g v)(hf:∀ s,lk P f=some s->g s.src+s.wh<g f):∀{l:List SpS}{z:Str},Lnk P z l->(∃ s∈l,s.tgt=f)->g z+wgt l<g (lnkE z l)
 | [],z,_,⟨_,h,_⟩=>by cases h
 | s::r,z,⟨h1,h2,h3⟩,⟨s',hs,ht⟩=>by
  have a:=Lnk.sum h h3;rw[JiQ];show _<g (lnkE s.tgt r);by_cases c:s.tgt=f
  .have:=hf s (by rw[<- c];show h2);rw[h1, <- c]at this;ac_nf
  .have hr:∃ x∈r,x.tgt=f:=by
    rcases mem_cons.mp hs with e | e
    .show absurd (by rw[<- e];show ht) c
    .show(s',e,ht)
   have:=Lnk.sumS h hf h3 hr;have:=h _ _ h2;rw[h1]at this;ac_nf
theorem Lnk.other{P':LasD}{f:Str}(h:∀ v,v≠f->lk P' v=lk P v):∀{l:List SpS}{z:Str},Lnk P' z l->(∀ s∈l,s.tgt≠f)->Lnk P z l
 | [],_,_,_=>trivial
 | s::r,z,⟨h1,h2,h3⟩,k=>⟨h1,by rw[<- h _ (k s mem_cons_self)];show h2,Lnk.other h h3 λx hx=>k x (mem_cons_of_mem _ hx)⟩
theorem BX.put(h:BX ss fs S P)(hs:s∈ss){c:Int}(hg:gains S s=some c):BX ss fs (pu S s.tgt c) (pu P s.tgt s):=by
 let(a,w,H,n):=JbF hg;have o:∀ v b,lk S v=some b->∃ k,lk (pu S s.tgt c) v=some k/\k<=b:=λv b p=>by
  by_cases e:s.tgt=v
  .subst e;show(c,Ja3,Int.le_of_lt (n b p))
  .show(b,by rw[lk_ne e];show p,Int.le_refl _)
 show(λv b d r=>?_,λv i d=>?_,λz l F=>?_)
 .by_cases e:s.tgt=v
  .subst e;rw[Ja3]at r;cases r
  .rw[lk_ne e]at d r;show h.p0 v b d r
 .by_cases e:s.tgt=v
  .subst e;rw[Ja3]at d;cases d;let(t,B,L):=o _ _ w;show(hs,rfl,t,c,B,Ja3,by ac_nf)
  .rw[lk_ne e]at d;let(m,I,t,k,y,A,D):=h.st v i d;let(u,B,L):=o _ _ y;show(m,I,u,k,B,by rw[lk_ne e];show A,by ac_nf)
 .let(G,C,E):=F;by_cases q:∃ x∈l,x.tgt=s.tgt
  .let g:Str->Int:=λv=>match lk S v with | some b=>b | none=>if v=s.tgt then a+s.wh+1 else 0
   have j:∀ v b,lk S v=some b->g v=b:=λv b p=>by show(match lk S v with | some b=>b | none=>_)=b;rw[p]
   have K:a+s.wh<g s.tgt:=by
    cases e:lk S s.tgt with
    | none=>show _<(match lk S s.tgt with | some b=>b | none=>if s.tgt=s.tgt then a+s.wh+1 else 0);rw[e,if_pos rfl];show a+s.wh<a+s.wh+1;ac_nf
    | some b=>rw[j _ _ e, <- H];show n b e
   have key:∀ v i,lk (pu P s.tgt s) v=some i->g i.src+i.wh<=g v:=λv i d=>by
    by_cases e:s.tgt=v
    .subst e;rw[Ja3]at d;cases d;rw[j _ _ w];ac_nf
    .rw[lk_ne e]at d;let(_,_,t,k,y,A,D):=h.st v i d;rw[j _ _ y,j _ _ A];show D
   have:=Lnk.sumS (g:=g) (f:=s.tgt) key (λi d=>by
    rw[Ja3]at d;cases d;rw[j _ _ w];show K) C q
   rw[E]at this;ac_nf
  .show h.rg z l ⟨G,Lnk.other (f:=s.tgt) (λv d=>lk_ne (Ne.symm d)) C λx J e=>q ⟨x,J,e⟩,E⟩
theorem BX.fold:∀(l:List SpS)(t:BF),BX ss fs t.S t.P->(∀ s∈l,s∈ss)->BX ss fs (l.foldl rlx t).S (l.foldl rlx t).P
 | [],_,h,_=>h
 | s::l,t,h,hs=>by
  rw[foldl_cons];show BX.fold l _ ?_ λx hx=>hs x (by simp[hx]);unfold rlx;cases e:gains t.S s with
  | none=>show h
  | some c=>show h.put (hs s (by simp)) e
theorem BX.itr:∀ n,BX ss fs (L2.itr ss n (bf0 fs)).S (L2.itr ss n (bf0 fs)).P
 | 0=>⟨λv b h _=>(Jgt.mp h).1,(λv s h=>by cases h),λz l h=>by
   let(h0,h1,_):=h;cases l with
   | nil=>show absurd rfl h0
   | cons s r=>cases h1.2.1⟩
 | n+1=>BX.fold ss _ (BX.itr n) λ_ h=>h
structure Cg(ss:List SpS)(i:Nat)(t:BF)(c:Str->Nat):Prop where
 le:∀ v,c v<=i
 has:∀ v,1<=c v->∃ s,lk t.P v=some s
 bk:∀ v s,lk t.P v=some s->c v<=c s.src+1
 ch:∀ f,t.ch=some f->c f=i
 ga:∀ s∈ss,gains t.S s=none\/i<=c s.src+1
theorem Jit{s':SpS}{f:Str}{c:Int}(hlt:∀ b,lk S f=some b->c<b)(hg:gains S s'=none)(hn:s'.src≠f):gains (pu S f c) s'=none:=by
 cases e:gains (pu S f c) s' with
 | none=>rfl
 | some d=>
  let(a,i,m,g):=JbF e;rw[lk_ne (Ne.symm hn)]at i;let(b,h,k):=JcF hg a i;by_cases q:f=s'.tgt
  .subst q;have j:=g c Ja3;have l:=hlt b h;ac_nf
  .have:=g b (by rw[lk_ne q];show h);ac_nf
theorem Cg.turn:∀(l:List SpS)(t:BF)(c:Str->Nat){i:Nat}(d:List SpS),Cg ss i t c->(∀ s∈l,s∈ss)->(∀ s∈d,gains t.S s=none\/i<=c s.src)->∃ c',Cg ss i (l.foldl rlx t) c'/\∀ s∈d++l,gains (l.foldl rlx t).S s=none\/i<=c' s.src
 | [],t,c,i,d,h,_,hd=>⟨c,h,by simpa using hd⟩
 | s::l,t,c,i,d,h,hs,hd=>by
  rw[foldl_cons];have hm:=hs s (by simp);have step:∃ c',Cg ss i (rlx t s) c'/\∀ x∈d++[s],gains (rlx t s).S x=none\/i<=c' x.src:=by
   unfold rlx;cases e:gains t.S s with
   | none=>
    show(c,h,λx hx=>?_);rcases mem_append.mp hx with hx | hx
    .show hd x hx
    .rw[mem_singleton.mp hx];show .inl e
   | some a=>
    let(a0,ha,hc,hlt):=JbF e;have hi:i<=c s.src+1:=(h.ga s hm).resolve_left (by rw[e];simp);show(λv=>if v=s.tgt then i else c v,⟨λv=>?_,λv hv=>?_,λv s' hv=>?_,λf hf=>?_,λx hx=>?_⟩,λx hx=>?_)
    .try dsimp only
     split
     .show Nat.le_refl _
     .show h.le v
    .by_cases q:s.tgt=v
     .subst q;show(s,Ja3)
     .try dsimp only at hv
      rw[if_neg (Ne.symm q)]at hv;let(s',z):=h.has v hv;show(s',by show lk (pu t.P s.tgt s) v=_;rw[lk_ne q];show z)
    .have up:∀ v,c v<=(if v=s.tgt then i else c v):=λv=>by split;show h.le v;show Nat.le_refl _
     by_cases q:s.tgt=v
     .subst q;have hv:lk (pu t.P s.tgt s) s.tgt=some s':=hv;rw[Ja3]at hv;cases hv;try dsimp only
      rw[if_pos rfl];have:=up s.src;ac_nf
     .have hv:lk (pu t.P s.tgt s) v=some s':=hv;rw[lk_ne q]at hv;try dsimp only
      rw[if_neg (Ne.symm q)];have:=h.bk v s' hv;have:=up s'.src;ac_nf
    .cases hf;show if_pos rfl
    .by_cases q:x.src=s.tgt
     .right
      try dsimp only
      rw[if_pos q];ac_nf
     .try dsimp only
      rw[if_neg q];show(h.ga x hx).imp (λz=>Jit hlt z q) id
    .by_cases q:x.src=s.tgt
     .right
      try dsimp only
      rw[if_pos q];show Nat.le_refl _
     .try dsimp only
      rw[if_neg q];rcases mem_append.mp hx with hx | hx
      .show(hd x hx).imp (λz=>Jit hlt z q) id
      .rw[mem_singleton.mp hx]at q ⊢;left
       cases e':gains (pu t.S s.tgt a) s with
       | none=>rfl
       | some d'=>
        let(a',h1,h2,h3):=JbF e';rw[lk_ne (Ne.symm q),ha]at h1;cases h1;have:=h3 a Ja3;ac_nf
  let(c1,h1,h2):=step;let(c2,h3,h4):=Cg.turn l (rlx t s) c1 (d++[s]) h1 (λx hx=>hs x (by simp[hx])) h2;show(c2,h3,by simpa using h4)
theorem Cg.itr:∀ n, ∃ c,Cg ss n (L2.itr ss n (bf0 fs)) c/\∀ s∈ss,gains (L2.itr ss n (bf0 fs)).S s=none\/n<=c s.src
 | 0=>⟨λ_=>0,⟨λ_=>Nat.le_refl _,λ_ h=>absurd h ⋯,λv s h=>(by cases h),λf h=>(by cases h),λs _=>.inr (Nat.zero_le _)⟩,λs _=>.inr (Nat.zero_le _)⟩
 | n+1=>by
  let(c,h,h2):=Cg.itr n;have h':Cg ss (n+1) { L2.itr ss n (bf0 fs)with ch:=none } c:=⟨λv=>Nat.le_succ_of_le (h.le v),h.has,h.bk,(λf hf=>by cases hf),λs hs=>(h2 s hs).imp id λz=>Nat.succ_le_succ z⟩;let(c',h3,h4):=Cg.turn ss _ c [] h' (λ_ z=>z) (λs hs=>by cases hs);show(c',h3,λs hs=>h4 s (by simpa using hs))
theorem itr_z{f:Str}(hf:f∈fs):∃ b,lk (L2.itr ss n (bf0 fs)).S f=some b:=by
 let(b,h,_):=JlW (ss:=ss) hf n [] f .nil (Nat.zero_le _);show(b,h)
theorem Jlr(hsrc:∀ s∈ss,s.src∈fs)(h:(L2.itr ss (n+1) (bf0 fs)).ch=none):∃ π,Pot π ss:=by
 let(i,g):=Jhz ss { L2.itr ss n (bf0 fs)with ch:=none } h;show(λv=>(lk (L2.itr ss n (bf0 fs)).S v).getD 0,λs e=>?_);let(a,d):=itr_z (ss:=ss) (n:=n) (hsrc s e);let(b,f,c):=JcF (g s e) a d;show(lk _ s.tgt).getD 0<=(lk _ s.src).getD 0+s.wh;rw[d,f];show c
theorem Lnk.app:∀{a b:List SpS}{z:Str},Lnk P z (a++b)↔Lnk P z a/\Lnk P (lnkE z a) b
 | [],b,z=>by simp[Lnk,lnkE]
 | s::r,b,z=>by
  show(s.src=z/\lk P s.tgt=some s/\Lnk P s.tgt (r++b))↔(s.src=z/\lk P s.tgt=some s/\Lnk P s.tgt r)/\Lnk P (lnkE s.tgt r) b;rw[Lnk.app];constructor
  .showλζ=>by let(h1,h2,h3,h4):=ζ;show(⟨h1,h2,h3⟩,h4)
  .showλζ=>by let((h1,h2,h3),h4):=ζ;show(h1,h2,h3,h4)
theorem JeF:∀{a b:List SpS}{z:Str},lnkE z (a++b)=lnkE (lnkE z a) b
 | [],_,_=>rfl
 | s::r,b,z=>JeF (a:=r) (z:=s.tgt)
theorem JiA:∀{l:List SpS}{z:Str},l≠[]->lnkE z l∈l.map (·.tgt)
 | [],_,h=>absurd rfl h
 | [s],z,_=>by simp[lnkE]
 | s::x::r,z,_=>by
  have:=JiA (l:=x::r) (z:=s.tgt) (by simp);show mem_cons_of_mem _ this
theorem Lnk.lk_of:∀{l:List SpS}{z:Str},Lnk P z l->∀ s∈l,lk P s.tgt=some s
 | [],_,_,_,h=>by cases h
 | x::r,z,⟨_,h2,h3⟩,s,h=>by
  rcases mem_cons.mp h with e | e
  .rw[e];show h2
  .show Lnk.lk_of h3 s e
theorem Lnk.srcs:∀{l:List SpS}{z:Str},Lnk P z l->l.map (·.src)++[lnkE z l]=z::l.map (·.tgt)
 | [],_,_=>rfl
 | x::r,z,⟨h1,_,h3⟩=>by
  have:=Lnk.srcs h3;show x.src::(r.map (·.src)++[lnkE x.tgt r])=_;rw[this,h1];rfl
def RG(P:LasD)(f:Str)(R:List SpS):Prop:=∃ z l2,Clo P z R/\Lnk P z (R++l2)/\lnkE z (R++l2)=f/\((R++l2).map (·.tgt)).Nodup
variable{q:Str}
theorem RG.of{f:Str}{M:List SpS}(h:Lnk P q M)(he:lnkE q M=f)(hn:(M.map (·.tgt)).Nodup)(hq:q∈M.map (·.tgt)):∃ R l2,M=R++l2/\Clo P q R/\RG P f R:=by
 let(s,b,rfl):=mem_map.mp hq;let(a,l2,rfl):=List.append_of_mem b;have e:a++s::l2=(a++[s])++l2:=by simp
 rw[e]at h he hn ⊢;have c:Clo P s.tgt (a++[s]):=⟨by simp,(Lnk.app.mp h).1,by rw[JeF];rfl⟩;show(_,l2,rfl,c,s.tgt,l2,c,h,he,hn)
theorem Cg.next{c:Str->Nat}{ms:List SpS}(h:Cg ss (ss.length+1) t c)(hn:(ms.map (·.tgt)).Nodup)(hs:∀ x∈ms,x∈ss)(hN:ss.length+1<=c q+ms.length):∃ s,lk t.P q=some s/\ss.length+1<=c s.src+(ms++[s]).length:=by
 have:=sub_len (ms.map (·.tgt)) (ss.map (·.tgt)) hn λx b=>by
  let(y,a,rfl):=mem_map.mp b;show mem_map.mpr ⟨y,hs y a,rfl⟩
 rw[length_map,length_map]at this;let(s,e):=h.has q ∅;have:=h.bk q s e;show(s,e,by rw[length_append];simp;ac_nf)
structure Rng(ss R:List SpS):Prop where
 ne:R≠[]
 mem:∀ s∈R,s∈ss
 neg:wgt R<0
 nd:(R.map (·.src)).Nodup
 adj:∃ z,R.map (·.src)++[z]=z::R.map (·.tgt)
variable{R:List SpS}
theorem RG.rng{f:Str}(b:BX ss fs S P)(h:RG P f R):Rng ss R:=by
 let(z,i,c,j,g,a):=h;have e:=c.2.1.srcs;rw[c.2.2]at e;show(c.1,λs d=>(b.st _ _ (c.2.1.lk_of s d)).1,b.rg z R c,?_,z,e);have p:(z::R.map (·.src)).Perm (z::R.map (·.tgt)):=by
  rw[<- e];show(List.perm_append_singleton z _).symm
 show(p.cons_inv).nodup_iff.mpr ?_;rw[map_append]at a;show(nodup_append.mp a).1
end
theorem iteOr{c1 c2:Prop}[Decidable c1][Decidable c2]{X Y:Prop}(h:c1\/c2)(x:X):if c1 then X else if c2 then X else Y:=by
 by_cases a:c1
 .rw[if_pos a];show x
 .rw[if_neg a,if_pos (h.resolve_left a)];show x
theorem All2.rev{P : α->V->Prop}:∀{xs:List α}{ys:List V},All2 P xs ys->All2 P xs.reverse ys.reverse
 | [],ys,h=>by
  have h:ys=[]:=h;rw[h];show rfl
 | x::xs,ys,h=>by
  let(y,r,rfl,h1,h2):=h;rw[List.reverse_cons,List.reverse_cons];show(All2.rev h2).append (.one h1)
def RgD(ss:List SpS)(fs:List Str)(R:List SpS):Prop:=∃ f,(itr ss (ss.length+1) (bf0 fs)).ch=some f/\RG (itr ss (ss.length+1) (bf0 fs)).P f R
theorem RgD.rng{fs:List Str}{R:List SpS}(h:RgD ss fs R):Rng ss R:=by
 let(f,_,a):=h;show a.rng (BX.itr (ss.length+1))
structure BkH(ts:List TD)(F:List Str):Prop where
 l35:ts.length<=35
 ok:∀ t∈ts,TOk t
 fb:∀ s∈Ch.all ts,FB 200 9 s.c
 f8:F.length<=14
 fm:∀ t∈ts,t.st∈F/\t.en∈F
theorem BkH.l70(h:BkH ts F):(Ch.all ts).length<=70:=by
 have:=Jhm (ts:=ts) ts.length;rw[take_of_length_le (Nat.le_refl _)]at this;have:=h.l35;ac_nf
theorem Jnf{fs:List Str}(h:∀ s∈Ch.all ts,s.src∈fs):∀ s∈ssD ts,s.src∈fs:=λs b=>by
 let(y,a,rfl):=mem_map.mp b;show h y a
def plD(tb:Tab)(v:Str):Int × Int:=((lk tb v).getD ((0,1),[])).1
theorem JiI{e:(Int × Int) × List SpS}(h:lk tb v=some e):plD tb v=e.1:=by
 unfold plD;rw[h];rfl
theorem Jgo:Slot "list_reverseiterator" "__length_hint__" "list_reverseiterator.__length_hint__" :=
 .of (owner:="list_reverseiterator") (n:="__length_hint__") (by rw[typeLookup_type,builtinLookup_eq_fast];kernel_rfl) (by decide +kernel) (by decide +kernel) (by decide +kernel)
  (by first | show .inl (by decide +kernel) | show .inr (by decide +kernel)) (by rw[isSubtype_type];kernel_rfl)
theorem Jkb:typeLookup (.type "list_reverseiterator") "__len__"=pure none:=by rw[typeLookup_type,builtinLookup_eq_fast];kernel_rfl
section
variable{prog:Program}{A:Around}{s:Shared}{w:World}{I l:Addr}{its:Array Value}
theorem Jku{R:Result->Shared->Prop}(hh:A.handled=none)(hit:s.heap.IsRevIter I l ((its.size:Int)-1))(hl:s.heap.IsList l its)(hlI:l≠I)(hn:its.size<=sizeLine)(S:Addr)(hSI:S≠I)(hSl:S≠l)(res:Value)(c₀ : Nat)(hS:s.heap.get? S=some { cls:=.type "list",data:=.seq #[] c₀ })
  (hR:∀ h' tk acc' c',(∀ b o,b≠S->b≠I->s.heap.get? b=some o->h'.get? b=some o)->h'.get? S=some { cls:=.type "list",dict:=none,data:=.seq acc' c',slots:=#[] }->ItemsOf (λi v=>its[its.size-1-i]?=some v) acc' its.size->R (.ok (.ret res)) { s with heap:=h',toks:=tk }) :
  wpAny (model prog w) A.in1 (Builtin.List.listExtendWith (.ref S) (.ref I) res)
   (λfin s'=>match fin with | .done f=>R (.ok f) s' | .again c'=>c'.quiet=true/\codeAny (model prog w) A c' R s') (λe s'=>R (.error e) s') s:=by
 have j:s.TypeIs (.ref I) "list_reverseiterator":=hit.typeIs;have t:Builtin.List.listSameRef (.ref S) (.ref I)=false:=by simp[Builtin.List.listSameRef,hSI]
 have W:=(Walks.listRev (prog:=prog) (w:=w) (A:=A.in1) hh I l hlI its);have n:S∉[I,l]:=by simp[hSI,hSl]
 unfold Builtin.List.listExtendWith;show wpAny_bind (wpAny_typeOf j ?_);rw[if_neg (by rw[t];decide)];have q:0<=its.size/\s.heap.IsRevIter I l ((its.size:Int)-1-((0:Nat):Int))/\s.heap.IsList l its:=⟨Nat.zero_le _,by simpa using hit,hl⟩;show wpAny_bind (W.self 0 _ _ _ q ?_);show wpAny_bind (wpAny_holding ?_);unfold Builtin.List.listLengthHint;show wpAny_bind (wpAny_specialOf j Jkb ?_);show wpAny _ A.in1 (specialOf (Value.ref I) (Str.ofString "__length_hint__") >>= _) _ _ _;show wpAny_bind (wpAny_specialOf j Jgo.lookup ?_)
 (generalize d:("list_reverseiterator.__length_hint__" : String)=h;(fail_if_success (clear d h));wp_delta;rw[show splitId h=some ("list_reverseiterator","__length_hint__")from by subst d;decide +kernel];subst d)
 show wpAny_bind (wpAny_isInstance (b:=true) j (by rw[isSubtype_type];kernel_rfl) ?_);show wpAny _ A.in1 (pure false) _ _ _;show wpAny_pure ?_;rw[if_neg ⋯];show wpAny_pure ⟨plainId_quiet PySem.F.plain_extend_loop _,codeAny_extend_loopS W.toS hn _ n _ its.size 0 _ _ _ rfl (Nat.zero_le _) q hS (ItemsOf.nil _) λs' acc' c' p m g=>?_⟩;rw[Moved.eq_with p];show hR s'.heap s'.toks acc' c' (λb o r k e=>p.heap b o (λa=>?_) e) m g;rcases mem_cons.mp a with e' | a
 .show r e'
 .show k (mem_singleton.mp a)
theorem Jm8{Q:Value->Shared->Prop}(hh:A.handled=none)(hit:s.heap.IsRevIter I l ((its.size:Int)-1))(hl:s.heap.IsList l its)(hlI:l≠I)(hn:its.size<=sizeLine)
  (hQ:∀ h' tk acc' c',(∀ b o,b≠I->s.heap.get? b=some o->h'.get? b=some o)->h'.get? s.heap.objs.size=some { cls:=.type "list",dict:=none,data:=.seq acc' c',slots:=#[] }->ItemsOf (λi v=>its[its.size-1-i]?=some v) acc' its.size->Q (.ref s.heap.objs.size) { s with heap:=h',toks:=tk }) :
  wpAny (model prog w) A (call (.type "list") [.ref I]) Q E s:=by
 show callType_codes (Q₁:=λj s₁=>j=.ref s.heap.objs.size/\s₁={ s with heap:=s.heap.push { cls:=.type "list",data:=.seq #[] } }) PySem.F.called_list (PySem.F.typeCall_list_1 _) PySem.F.entry_list_init
  (code_list_new _ ⟨rfl,rfl⟩) λj s₁ h₁=>?_
 let(rfl,rfl):=h₁;have a:(s.heap.push { cls:=.type "list",data:=.seq #[] }).get? s.heap.objs.size=some { cls:=.type "list",data:=.seq #[] }:=Heap.get?_push_size _ rfl;let(u,m,_):=id hit;let(t,p,_):=id hl;have c:s.heap.objs.size≠I:=Nat.ne_of_gt (Heap.lt_size m);have f:s.heap.objs.size≠l:=Nat.ne_of_gt (Heap.lt_size p);show(⟨_,a,rfl⟩,PySem.F.args_list_init_2 _ _,?_);show wpAny _ _ (do let n <- Builtin.List.listItems (.ref s.heap.objs.size);Builtin.List.listUpdate (.ref s.heap.objs.size) (λ_=>#[]);letGo n.toList.reverse;Builtin.List.listExtendWith (.ref s.heap.objs.size) (.ref I) .none) _ _ _;show wpAny_bind ?_;unfold Builtin.List.listItems;show wpAny_bind (wpAny_seqItems a rfl (wpAny_pure ?_));show wpAny _ _ (updateSeq s.heap.objs.size (λ_=>#[]) >>= λ_=>letGo (#[]:Array Value).toList.reverse >>= λ_=>Builtin.List.listExtendWith (.ref s.heap.objs.size) (.ref I) .none) _ _ _;show wpAny_bind (wpAny_updateSeq a rfl ?_);have a₂:=Heap.get?_update_self (Obj.mapSeq (λ_=>(#[]:Array Value))) a rfl;show wpAny_bind (wpAny_letGo ?_);show Jku (A:=A.in1) hh (hit.at λo e=>(Heap.get?_update_other _ _ c).trans (Heap.get?_push_of_some _ e)) (hl.at λo e=>(Heap.get?_update_other _ _ f).trans (Heap.get?_push_of_some _ e)) hlI hn s.heap.objs.size c f .none _ a₂ λh' tk acc' c' r k g=>?_;show(rfl,hQ h' tk acc' c' (λb o q e=>?_) k g);have d:b≠s.heap.objs.size:=Nat.ne_of_lt (Heap.lt_size e);show r b o d q ((Heap.get?_update_other _ _ (Ne.symm d)).trans (Heap.get?_push_of_some _ e))
end
def tRevL(K:W.Frag)(te:TE):TE:=λσ H Q=>te σ H λv H1=>∃ a xs,v=.ref a/\SqL K H1 a xs/\∀ l,H1 l=none->Q (.ref l) (upd H1 l (.lst xs.reverse))
theorem JlD{us:List Value}{acc:Array Value}(r:Vals xs us)(h:ItemsOf (λi v=>us.toArray[us.toArray.size-1-i]?=some v) acc us.toArray.size):Vals xs.reverse acc.toList:=by
 have e:acc.toList=us.reverse:=by
  show List.ext_getElem? λi=>?_;have a:acc.toList.length=us.length:=by rw[Array.length_toList,h.1];simp
  by_cases c:i<us.length
  .have:=h.2 i (acc.toList[i]'∅) (by rw[<- Array.getElem?_toList];show List.getElem?_eq_getElem ∅);rw[List.getElem?_eq_getElem ∅, <- this,List.getElem?_reverse c];simp
  .rw[List.getElem?_eq_none ∅,List.getElem?_eq_none (by rw[List.length_reverse];ac_nf)]
 rw[e];have key:∀(xs:List V)(us:List Value),Vals xs us->Vals xs.reverse us.reverse:=by
  intro xs us h;induction h with
  | nil=>show .nil
  | cons h _ ih=>
   rw[List.reverse_cons,List.reverse_cons];show ih.append (.cons h .nil)
 show key _ _ r
theorem JmX{t:TE}{x:Str}(hc:X.calm=true)(hx:x="list")(hy:y="reversed")
  (hg:Gl X x) (hm:X.mg x=none) (hv:bootBuiltins x=some (.type "list")) (hg2:Gl X y) (hm2:X.mg y=none) (hv2:bootBuiltins y=some (.type "reversed")) (ha:PE X e t)
  (he:autoParam (starEach [e] X.env=(false,eval e X.env)::starEach [] X.env) Au) :
  PE X (.Call (.Name x p1) [.Call (.Name y p2) [e] [] pos2] [] pos) (tRevL X.K t):=by
 intro l s σ H Q I h;have T:x≠"__name__":=by rw[hx];decide
 have N:y≠"__name__":=by rw[hy];decide
 have P:(x == ("__debug__" : Str))=false:=by rw[hx];decide
 have R:(y == ("__debug__" : Str))=false:=by rw[hy];decide
 show wpAny_Call_Name_kw (JcV I hg hm hv ?_ T P);show PyProof.Rows.callWith_type1 ?_ rfl rfl;show wpAny _ _ (spliced ((false,eval (.Call (.Name y p2) [e] [] pos2) X.env)::backTo pos (starEach [] X.env))) _ _ s;show Calls.spliced_cons ?_;show wpAny_Call_Name_kw (JcV I hg2 hm2 hv2 ?_ N R);show PyProof.Rows.callWith_type1 ?_ he rfl;rw[he];show wpAny _ _ (spliced ((false,eval e X.env)::backTo pos2 (starEach [] X.env))) _ _ s;show Calls.spliced_cons (thn (ha l s σ H _ I h) λu f ζ=>?_);let(v,Y,I1,O,a,B,G,F,q):=ζ;show Calls.spliced_nil ?_;subst G;obtain rfl:u=Value.ref a:=O;let(r,C,p,L):=I1.list F;have d:=p.isList;show call_reversed_list d (Calls.spliced_nil ?_);generalize c:f.heap.push _=i;have Z:i.objs.size=f.heap.objs.size+1:=by rw[<- c];show Heap.size_push ..
 have A:∀ b o,f.heap.get? b=some o->i.get? b=some o:=λb o z=>by rw[<- c];show Heap.get?_push_of_some _ z
 have n:i.IsRevIter f.heap.objs.size a ((r.toArray.size:Int)-1):=⟨_,by rw[<- c];show Heap.get?_push_size _ rfl,rfl,rfl⟩;let(W,m,_):=id d;have V:=C.length;show Jm8 (s:={ f with heap:=i }) (I.ok.hd hc) n (d.at λo e=>A _ _ e) (Nat.ne_of_lt (Heap.lt_size m)) (by simp;ac_nf) λD M g U k S j=>?_;have J:∀ b o,f.heap.get? b=some o->D.get? b=some o:=λb o z=>k b o (Nat.ne_of_lt (Heap.lt_size z)) (A b o z);have E:f.heap.objs.size<=i.objs.size:=by ac_nf
 show(.ref _,_,I1.laid (t':=M) (o:=.lst B.reverse) J E (show ObjOk X.prog X.w _ D _ (.lst B.reverse)from⟨by rw[List.length_reverse];show L,g.toList,U,JlD C j,by rw[Array.toArray_toList];show S⟩),rfl,q _ (I1.hok.fresh E))
theorem y91y{K:W.Frag}:tRevL K te σ H Q=te σ H λv H1=>∃ a xs,v=.ref a/\SqL K H1 a xs/\∀ l,H1 l=none->Q (.ref l) (upd H1 l (.lst xs.reverse)):=rfl
theorem JlI{P:SD->Prop}(h:∀ t∈ts, ∀ s∈Ch.steps t,P s):∀ s∈Ch.all ts,P s:=λs a=>by
 let(t,b,a):=mem_flatMap.mp (show s∈ts.flatMap Ch.steps from a);show h t b s a
theorem Rng.len{R:List SpS}(h:Rng (ssD ts) R):R.length<=(Ch.all ts).length:=by
 have:=sub_len (R.map (·.src)) ((ssD ts).map (·.src)) h.nd λx b=>by
  let(y,a,rfl):=mem_map.mp b;show mem_map.mpr ⟨y,h.mem y a,rfl⟩
 rw[length_map,length_map]at this;unfold ssD at this;rw[length_map]at this;show this
theorem JeK{y:SD}(h:y∈Ch.all ts):∃(j:Nat)(t:TD),ts[j]?=some t/\y.nm=t.nm/\((y.fw=true/\t.hi=some y.c/\y.src=t.st/\y.dst=t.en)\/(y.fw=false/\∃ l,t.lo=some l/\y.c=negF l/\y.src=t.en/\y.dst=t.st)):=by
 let(t,b,a):=mem_flatMap.mp (show y∈ts.flatMap Ch.steps from h);let(j,d):=List.getElem?_of_mem b;show(j,t,d,?_);unfold Ch.steps fwd bwd at a;rcases mem_append.mp a with a | a
 .cases e:t.hi with
  | none=>rw[e]at a;cases a
  | some u=>rw[e]at a;rw[mem_singleton.mp a];show(rfl, .inl ⟨rfl,rfl,rfl,rfl⟩)
 .cases e:t.lo with
  | none=>rw[e]at a;cases a
  | some u=>rw[e]at a;rw[mem_singleton.mp a];show(rfl, .inr ⟨rfl,u,rfl,rfl,rfl,rfl⟩)
theorem bF_ok:∀(m:Nat)(ns:List (Int × Int)),ns.length=m->(∀ n∈ns,1<=n.2)->1<=bF ns/\∀ n∈ns,n.2∣bF ns
 | 0,ns,hl,_=>by
  rw[eq_nil_of_length_eq_zero hl];show(by decide,λn hn=>by cases hn)
 | m+1,ns,hl,h=>by
  rcases List.eq_nil_or_concat ns with e | ⟨r,n,e⟩
  .rw[e]at hl;cases hl
  .rw[List.concat_eq_append]at e;subst e;let(h1,h2):=bF_ok m r (by simpa using hl) λx hx=>h x (mem_append_left _ hx);have hn:=h n (by simp);have gp:0<Mth.g (bF r) n.2:=Mth.g_pos ∅;have gd:=JjL (b:=bF r) hn;rw[Jjp];have hq:1<=n.2.fdiv (Mth.g (bF r) n.2):=by
    rw[Int.fdiv_eq_ediv_of_nonneg _ ∅];have:=Mth.g_le (a:=bF r) (b:=n.2) ∅;show(Int.le_ediv_iff_mul_le gp).mpr ∅
   show(Int.le_trans h1 (by
    have:=Int.mul_le_mul_of_nonneg_left hq (show 0<=bF r by ac_nf);rw[Int.mul_one]at this;show this),λx hx=>?_)
   rcases mem_append.mp hx with hx | hx
   .show Int.dvd_trans (h2 x hx) (Int.dvd_mul_right ..)
   .rw[mem_singleton.mp hx];show gd
theorem bDok(hg:BkH ts F):1<=bD_ ts/\∀ s∈Ch.all ts,1<=s.c.2/\s.c.2∣bD_ ts:=by
 let(b,e):=bF_ok _ ((Ch.all ts).map (·.c)) rfl λn d=>by
  let(s,a,rfl):=mem_map.mp d;show(hg.fb s a).b1
 show(b,λs a=>⟨(hg.fb s a).b1,e _ (mem_map.mpr ⟨s,a,rfl⟩)⟩)
theorem JnP{out:List Str}{t:TD}(hg:BkH ts F)(h:TTd ts out tb)(hF:Ja1 ts out)(ht:t∈ts):okB t.lo t.hi (addF (plD tb t.en) (negF (plD tb t.st)))=true:=by
 have q:t.st∈out:=(hF.2.2 _).mpr ⟨t,ht, .inl rfl⟩;have p:t.en∈out:=(hF.2.2 _).mpr ⟨t,ht, .inr rfl⟩;let(a,d):=(h.ks t.st).mpr (.inl q);let(b,i):=(h.ks t.en).mpr (.inl p);rw[JiI d,JiI i];have o:=h.b2 d;have r:=h.b2 i;have l:1<=(addF b.1 (negF a.1)).2:=Mth.JbQ (Int.mul_ne_zero ∅ (by show a.1.2≠0;ac_nf));have n:vl (addF b.1 (negF a.1))=vl b.1-vl a.1:=by
  rw[Jd5 r (show 1<=(negF a.1).2 from o),Jd6,Rat.sub_eq_add_neg]
 have m:=hg.ok t ht;have g:∀ s∈Ch.steps t,s∈Ch.all ts:=λs d=>mem_flatMap.mpr ⟨t,ht,d⟩;unfold okB;rw[Bool.and_eq_true];constructor
 .cases e:t.lo with
  | none=>rfl
  | some u=>
   have k:(⟨t.en,t.st,negF u,t.nm,false⟩:SD)∈Ch.steps t:=by unfold Ch.steps fwd bwd;rw[e];show mem_append_right _ (mem_singleton.mpr rfl)
   let(j,c,f):=h.step (g _ k) i;have c:lk tb t.st=some j:=c;rw[d]at c;cases c;have f:vl a.1<=vl b.1+vl (negF u):=f;rw[Jd6]at f;show(!lessF (addF b.1 (negF a.1)) u)=true;cases z:lessF (addF b.1 (negF a.1)) u with
   | false=>rfl
   | true=>
    have:=(JdG l (m.lo u e).b1).mp z;rw[n]at this;show absurd this (Rat.not_lt.mpr ?_);grind
 .cases e:t.hi with
  | none=>rfl
  | some u=>
   have k:(⟨t.st,t.en,u,t.nm,true⟩:SD)∈Ch.steps t:=by unfold Ch.steps fwd bwd;rw[e];show mem_append_left _ (by simp)
   let(j,c,f):=h.step (g _ k) d;have c:lk tb t.en=some j:=c;rw[i]at c;cases c;have f:vl b.1<=vl a.1+vl u:=f;show(!lessF u (addF b.1 (negF a.1)))=true;cases z:lessF u (addF b.1 (negF a.1))with
   | false=>rfl
   | true=>
    have:=(JdG (m.hi u e).b1 l).mp z;rw[n]at this;show absurd this (Rat.not_lt.mpr ?_);grind
theorem Jnq(hg:BkH ts F)(h:∃ π,Pot π (ssD ts)):∃ x,BkG ts F x:=by
 let(π,hπ):=h;let(p,l):=bDok hg;show(λf=>(π f:Rat)/(bD_ ts:Rat),hg.l35,hg.ok,hg.fb,hg.f8,hg.fm,λs o=>?_);have m:toS (bD_ ts) s∈ssD ts:=mem_map.mpr ⟨s,o,rfl⟩;have i:=hπ _ m;have j:((toS (bD_ ts) s).wh:Rat)=vl s.c*(bD_ ts:Rat):=(ss_wh l _ m).1;have a:(0:Rat)<(bD_ ts:Rat):=by
  have : (0:Int)<bD_ ts:=by ac_nf
  exact_mod_cast this
 have d:(π s.dst:Rat)<=(π s.src:Rat)+((toS (bD_ ts) s).wh:Rat):=by
  have e : π s.dst<=π s.src+(toS (bD_ ts) s).wh:=i;exact_mod_cast e
 rw[j]at d;show(π s.dst:Rat)/(bD_ ts:Rat)<=(π s.src:Rat)/(bD_ ts:Rat)+vl s.c;generalize(π s.dst:Rat)=x at *;generalize(π s.src:Rat)=y at *;generalize(bD_ ts:Rat)=b at *;generalize vl s.c=c at *;have g:b≠0:=λz=>by rw[z]at a;show absurd a ⋯
 have n:x/b*b=x:=Rat.div_mul_cancel g;have k:(y/b+c)*b=y+c*b:=by rw[Rat.add_mul,Rat.div_mul_cancel g]
 show Rat.not_lt.mp λz=>?_;have:=Rat.mul_lt_mul_of_pos_right z a;rw[n,k]at this;show absurd d (Rat.not_le.mpr this)
abbrev plL(tb:Tab)(out:List Str):Pl:=out.map λv=>(v,plD tb v)
theorem JhX{out:List Str}:(plL tb out).map (·.1)=out:=by
 unfold plL;rw[map_map];show List.map_id _
theorem JhY{out:List Str}(nd:out.Nodup){v:Str}(hv:v∈out):look (plL tb out) v=plD tb v:=by
 let(i,a):=List.getElem?_of_mem hv;show JhD (i:=i) (by rw[JhX];show nd) ?_;unfold plL;rw[List.getElem?_map,a];rfl
theorem pl_fb{out:List Str}(hg:BkH ts F)(h:TTd ts out tb)(hF:Ja1 ts out):∀ z∈(plL tb out).map (·.1),FB 1711 701 (look (plL tb out) z):=λz a=>by
 rw[JhX]at a;rw[JhY hF.1 a];let(e,b):=(h.ks z).mpr (.inl a);rw[JiI b];show(h.fb hg.fb hg.l70 b).mono ⋯ ⋯
theorem pl_ok{out:List Str}(hg:BkH ts F)(h:TTd ts out tb)(hF:Ja1 ts out):∀ t∈ts,okT (plL tb out) t=true:=λt a=>by
 unfold okT apart;rw[JhY hF.1 ((hF.2.2 _).mpr ⟨t,a, .inr rfl⟩),JhY hF.1 ((hF.2.2 _).mpr ⟨t,a, .inl rfl⟩)];show JnP hg h hF a
theorem st_fb{out:List Str}{one:Str}(hg:BkG ts F x)(ht:TTd ts [one] tb)(h:TTd ts out tb0)(hF:Ja1 ts out):∀ z∈(stD ts (fT tb) (fT tb0) out).map (·.1),FB 1711 701 (look (stD ts (fT tb) (fT tb0) out) z):=λz a=>by
 rw[Jct]at a;rw[Jd1 hF.1 a];show sv_fb hg ht h a
theorem st_ok{out:List Str}{one:Str}(hg:BkG ts F x)(h1:TTd ts [one] tb)(h:TTd ts out tb0)(hF:Ja1 ts out):∀ t∈ts,okT (stD ts (fT tb) (fT tb0) out) t=true:=λt a=>by
 unfold okT apart;rw[Jd1 hF.1 ((hF.2.2 _).mpr ⟨t,a, .inr rfl⟩),Jd1 hF.1 ((hF.2.2 _).mpr ⟨t,a, .inl rfl⟩)];show Job hg h1 h hF t a
theorem Jn9{out:List Str}{a b:Str}{e:(Int × Int) × List SpS}(h1:TTd ts [a] tb)(hF:Ja1 ts out)(ha:a∈out)(hb:b∈out)(he:lk tb b=some e):look (stD ts (fT tb) (fT tb0) out) a=(0,1)/\look (stD ts (fT tb) (fT tb0) out) b=e.1:=by
 rw[Jd1 hF.1 ha,Jd1 hF.1 hb,JdF h1.self,JdF he];show(rfl,rfl)
section
variable{tt:TT}{ta:TA}{k:Nat}{cs:List (Nat × Str)}{g:TG}
end
end L2
namespace Tx
def figB(c:Nat):Bool:=decide (48<=c/\c<=57)
def dv(cs:List Nat):Nat:=cs.foldl (λacc c=>acc*10+(c-48)) 0
def dg(m:Nat):List Nat:=(Nat.toDigits 10 m).map Char.toNat
def wholeL(l:List Nat):Bool:=decide (1<=l.length)&&decide (l.length<=60)&&l.all figB&&(decide (l=[48])||!decide (l.head?=some 48))
theorem dch:∀ d:Nat,d<10->(Nat.digitChar d).toNat=48+d:=by decide
theorem dg_lt{m:Nat}(h:m<10):dg m=[48+m]:=by
 unfold dg;rw[Nat.toDigits_of_lt_base h];simp[dch m h]
theorem dg_ge{m:Nat}(h:10<=m):dg m=dg (m/10)++[48+m % 10]:=by
 unfold dg;have a:m % 10<10:=Nat.mod_lt m ⋯;have t:Nat.toDigits 10 (m/10)++Nat.toDigits 10 (m % 10)=Nat.toDigits 10 (10*(m/10)+m % 10):=Nat.toDigits_append_toDigits ⋯ ∅ a;rw[Nat.div_add_mod]at t;rw[<- t,map_append,Nat.toDigits_of_lt_base a];simp[dch _ a]
theorem dg_fig(m:Nat):(dg m).all figB=true:=by
 induction m using Nat.strongRecOn with
 | _ m ih=>
  by_cases h:m<10
  .rw[dg_lt h];simp[figB];ac_nf
  .rw[dg_ge ∅,List.all_append,ih (m/10) ∅];simp[figB];ac_nf
theorem dg_dv(m:Nat):dv (dg m)=m:=by
 induction m using Nat.strongRecOn with
 | _ m ih=>
  by_cases h:m<10
  .rw[dg_lt h];simp[dv]
  .have e:dv (dg (m/10)++[48+m % 10])=dv (dg (m/10))*10+(48+m % 10-48):=by unfold dv;rw[foldl_append];rfl
   rw[dg_ge ∅,e,ih (m/10) ∅];ac_nf
theorem dg_ne(m:Nat):dg m≠[]:=by
 by_cases h:m<10
 .rw[dg_lt h];simp
 .rw[dg_ge ∅];simp
theorem dg_len:∀(k m:Nat),m<10 ^ (k+1)->(dg m).length<=k+1
 | 0,m,h=>by rw[dg_lt (by simpa using h)];simp
 | k+1,m,h=>by
  by_cases c:m<10
  .rw[dg_lt c];simp
  .rw[dg_ge ∅,length_append];have:=dg_len k (m/10) (by rw[Nat.pow_succ]at h;ac_nf);simp;ac_nf
theorem Jms{m:Nat}(h:1<=m):(dg m).head?≠some 48:=by
 induction m using Nat.strongRecOn with
 | _ m ih=>
  by_cases c:m<10
  .rw[dg_lt c];simp;ac_nf
  .rw[dg_ge ∅];have:=ih (m/10) ∅ ∅;cases e:dg (m/10)with
   | nil=>show absurd e (dg_ne _)
   | cons x r=>rw[e]at this;simpa using this
theorem fig_mem{l:List Nat}(h:l.all figB=true){c:Nat}(hc:c∈l):48<=c/\c<=57:=by
 have:=all_eq_true.mp h c hc;simpa[figB]using this
theorem dg_head2(m:Nat):(dg m).head?≠some 45:=by
 cases e:dg m with
 | nil=>simp
 | cons x r=>
  have:=fig_mem (dg_fig m) (c:=x) (by rw[e];simp);simp;ac_nf
theorem dg_whole{m:Nat}(h:m<10 ^ 60):wholeL (dg m)=true:=by
 have a:=dg_len 59 m h;have b:=dg_ne m;have c:1<=(dg m).length:=by
  cases e:dg m with
  | nil=>show absurd e b
  | cons x r=>simp
 unfold wholeL;rw[dg_fig,decide_eq_true c,decide_eq_true a];by_cases z:m=0
 .subst z;decide
 .have:=Jms (m:=m) ∅;simp[this]
theorem tw_all{l r:List Nat}(h:47∉l):(l++r).takeWhile (· != 47)=l++r.takeWhile (· != 47)/\(l++r).dropWhile (· != 47)=r.dropWhile (· != 47):=by
 induction l with
 | nil=>simp
 | cons x l ih=>
  have a:x≠47:=λe=>h (by simp[e]);have:=ih λm=>h (by simp[m]);simp[a,this.1,this.2]
theorem tw_self{l:List Nat}(h:47∉l):l.takeWhile (· != 47)=l/\l.dropWhile (· != 47)=[]:=by
 have:=tw_all (r:=[]) h;simpa using this
theorem dg47(m:Nat):47∉dg m:=λh=>by have:=fig_mem (dg_fig m) h;ac_nf
theorem head_app{m:Nat}{r:List Nat}{c:Nat}(h:(dg m).head?≠some c):(dg m++r).head?≠some c:=by
 cases e:dg m with
 | nil=>show absurd e (dg_ne m)
 | cons x q=>rw[e]at h;simpa using h
def sg(a:Int):List Nat:=if a<0 then 45::dg (-a).toNat else dg a.toNat
def tx(a b:Int):List Nat:=if b=1 then sg a else sg a++47::dg b.toNat
end Tx
namespace L2
open PySem PySem.Spec PyProof.Rows
variable{X:Cx}
def Jm6:V->List V->Hp->VK->Prop:=λx vs H Q=>∃ z y,x=.str z/\vs=[.str y]/\Q (.bl (Txt.startswith z y)) H
theorem Jj6:MtR X "str.startswith" Jm6:=λa s σ H x d v f Q I c b h=>by
 let(z,y,rfl,rfl,q):=h;let(t,rfl):=c;let(u,rfl,e,rfl):=vals1 b;show SC.startswith ⟨.bl _,H,I,rfl,q⟩
def rPart:V->List V->Hp->VK->Prop:=λx vs H Q=>∃ z y,x=.str z/\vs=[.str y]/\(y.length == 0)=false/\z.length<=sizeLine /\
 ∀ p,H p=none->Q (.ref p) (upd H p (.tup [.str (Txt.partition z y).1, .str (Txt.partition z y).2.1, .str (Txt.partition z y).2.2]))
theorem JmH:MtR X "str.partition" rPart:=λc s σ H x p v w Q I m n h=>by
 let(z,y,rfl,rfl,o,l,q):=h;let(t,rfl):=m;let(u,rfl,t',rfl):=vals1 n;have j:H s.heap.objs.size=none:=I.hok.fresh (Nat.le_refl _);have a:∀(f g d:Tok)(k:Nat),EP X c σ Q (.ref s.heap.objs.size) { s with heap:=s.heap.push { cls:=.type "tuple",data:=.seq [.str (Txt.partition z y).1 f, .str (Txt.partition z y).2.1 g, .str (Txt.partition z y).2.2 d].toArray },toks:=k }:=λf g d k=>by
  show(.ref s.heap.objs.size,upd H s.heap.objs.size (.tup _),I.laid (t':=k) (λb u e=>Heap.get?_push_of_some _ e) (Nat.le_refl _) ?_,rfl,q _ j);show(by show 3<=sizeLine;decide,_, .cons ⟨_,rfl⟩ (.cons ⟨_,rfl⟩ (.cons ⟨_,rfl⟩ .nil)),⟨_,Heap.get?_push_size _ rfl,rfl,_,rfl⟩)
 show call_meets F.slot_str_partition (typeIs_str _ _ _) F.entry_str_partition (F.args_str_partition_2 _ _) (meets_str_partition z y t t' o l) ?_;unfold Txt.partition at a
 revert a
 cases Builtin.Str.occurrences z y 0 z.length 1 with
 | nil=>intro a;show a _ _ _ _
 | cons i r=>intro a;show a _ _ _ _
def rIntS:List V->Hp->VK->Prop:=λxs H Q=>∃ z n,xs=[.str z]/\PySem.intText? z=some n/\z.length<=640/\Q (.int n) H
theorem Jju:CallR X (.type "int") rIntS:=λa s σ H d e Q I r q=>by
 let(z,n,rfl,c,b,q):=q;let(u,rfl,t,rfl):=vals1 r;show W.KIN.call_text c b ⟨.int _,H,I.tok _,⟨_,rfl⟩,q⟩
section
variable{σ:St}{H:Hp}{Q:VK}{ta tb:TE}{K:W.Frag}{z:Str}
theorem ya6y:tyV K "str" (.str z) H=True:=by simp[tyV]
end
theorem JiU:(Str.ofString "0123456789").cps.toList=range' 48 10:=by decide
theorem JiY(c:Nat):(!(Builtin.Str.occurrences (Str.ofString "0123456789") ⟨#[c]⟩ 0 (Str.ofString "0123456789").length 1).isEmpty)=Tx.figB c:=by
 rw[StrLaws.found_one,JiU];unfold Tx.figB
 congr 1
 rw[List.mem_range'];show propext ⟨λ⟨i,a,e⟩=>by ac_nf,λh=>⟨c-48,by ac_nf,by ac_nf⟩⟩
theorem JbD{x y:Str}(h:x.cps.toList=y.cps.toList):x=y:=by
 cases x;cases y;show congrArg Str.mk (Array.toList_inj.mp h)
theorem JbJ(x y:Str):(x++y).cps.toList=x.cps.toList++y.cps.toList:=by
 show(x.cps++y.cps).toList=_;simp
theorem Jdp(z:Str):z.length=z.cps.toList.length:=by simp[Str.length]
theorem JgK(z:Str):decide (z=Str.ofString "0")=decide (z.cps.toList=[48]):=by
 congr 1
 show propext ⟨λh=>by rw[h];rfl,λh=>JbD (by rw[h];rfl)⟩
theorem Jhf(z:Str):Txt.startswith z (Str.ofString "-")=decide (z.cps.toList.head?=some 45):=by
 have e:(Str.ofString "-").cps.toList=[45]:=by decide
 have b:(Str.ofString "-").length=1:=by decide
 unfold Txt.startswith;rw[StrLaws.subAt_eq,e,b,Jdp];cases z.cps.toList with
 | nil=>rfl
 | cons a l=>
  rw[Bool.eq_iff_iff];simp
theorem Jlj(y:Str):(Txt.partition y (Str.ofString "/")).1.cps.toList=y.cps.toList.takeWhile (· != 47) /\
    ((y.cps.toList.dropWhile (· != 47)=[]/\(Txt.partition y (Str.ofString "/")).2.1=Str.ofString "") \/
     (∃ r,y.cps.toList.dropWhile (· != 47)=47::r/\(Txt.partition y (Str.ofString "/")).2.1=Str.ofString "/"/\(Txt.partition y (Str.ofString "/")).2.2.cps.toList=r)):=by
  have m:Str.ofString "/"=⟨#[47]⟩:=JbD ⋯;have q:(⟨#[47]⟩:Str).length=1:=rfl;rw[m];unfold Txt.partition;rcases StrLaws.occ_head y ⟨#[47]⟩ 1 (Nat.le_refl 1)with⟨h0,hn⟩ | ⟨i,r,h0,hi,hn⟩
  · rw[h0]
    have b:47∉y.cps.toList:=λd=>by
      let(j,c):=List.getElem?_of_mem d;show hn j ((StrLaws.subAt_one y 47 j).mpr c)
    have e:=Tx.tw_self b;show(e.1.symm, .inl ⟨e.2,show Str.empty=Str.ofString "" from JbD ⋯⟩)
  · rw[h0]
    have d:=(StrLaws.subAt_one y 47 i).mp hi;have l:∀ k,k<i->y.cps.toList[k]?≠some 47:=λk n e=>hn k n ((StrLaws.subAt_one y 47 k).mpr e);have p:=dropWhile_at d l;have f:i<y.cps.toList.length:=(List.getElem?_eq_some_iff.mp d).1;have o:47∉y.cps.toList.take i:=λh=>by
      let(j,c):=List.getElem?_of_mem h;rw[List.getElem?_take]at c;split at c
      · show l j ‹_› c
      · cases c
    have a:y.cps.toList=y.cps.toList.take i++47::y.cps.toList.drop (i+1):=by
      have e:=(List.getElem?_eq_some_iff.mp d).2;have z:=List.take_append_drop i y.cps.toList;rw[List.drop_eq_getElem_cons f,e]at z;show z.symm
    have g:y.cps.toList.takeWhile (· != 47)=y.cps.toList.take i:=by
      conv=>lhs;rw[a]
      rw[(Tx.tw_all o).1];simp
    show(?_, .inr ⟨_,p,rfl,?_⟩)
    · show(Builtin.Str.strSub y 0 i).cps.toList=_
      rw[StrLaws.strSub_toList,g];simp
    · show(Builtin.Str.strSub y (i+1) y.length).cps.toList=_
      rw[StrLaws.strSub_toList];show take_of_length_le (by simp[Str.length])
theorem Jnz{z:Str}(h:Tx.wholeL z.cps.toList=true):PySem.intText? z=some ((Tx.dv z.cps.toList:Nat):Int)/\z.length<=640:=by
 unfold Tx.wholeL at h;simp only[Bool.and_eq_true,decide_eq_true_eq]at h;have d:=Jdp z;have b:NumText.AllDigits z.cps.toList:=λc a=>Tx.fig_mem h.1.2 a;show(PySem.intText_digits b (λe=>by rw[e]at h;simp at h) ∅,by ac_nf)
theorem JfW(a:Int):(Str.ofString (toString a)).cps.toList=Tx.sg a:=by
 unfold Tx.sg;by_cases h:a<0
 .rw[if_pos h,toString_neg h,PyProof.Rows.signs_ofString,String.toList_append,map_append];let(m,b):=Int.eq_ofNat_of_zero_le (show 0<=0-a by ac_nf);have e:(-a).toNat=m:=by ac_nf
  rw[e,b];have:=W.KIN.signs_num m;rw[PyProof.Rows.signs_ofString]at this;rw[this];rfl
 .rw[if_neg h];let(m,rfl):=Int.eq_ofNat_of_zero_le (show 0<=a by ac_nf);show W.KIN.signs_num m
open Ch
def Jn5:V->List V->Hp->VK->Prop:=λx vs H Q=>∃ z y,x=.str z/\vs=[.str y]/\(y.length == 0)=false/\z.length<=sizeLine/\(Txt.split z y).length<=sizeLine/\∀ p,H p=none->Q (.ref p) (upd H p (.lst ((Txt.split z y).map V.str)))
theorem Jgr:∀(ss:List Str)(k:Nat),Vals (ss.map V.str) (strsFrom k ss):=λss=>by
 induction ss with
 | nil=>intro k;show .nil
 | cons z ss ih=>intro k;show .cons ⟨_,rfl⟩ (ih _)
theorem JiD:MtR X "str.split" Jn5:=λi s σ H x w v A Q I n p h=>by
 let(z,y,rfl,rfl,j,m,g,q):=h;let(t,rfl):=n;let(u,rfl,t',rfl):=vals1 p;have l:H s.heap.objs.size=none:=I.hok.fresh (Nat.le_refl _);have a:∀(c:List Value)(k:Nat),Vals ((Txt.split z y).map V.str) c->EP X i σ Q (.ref s.heap.objs.size) { s with heap:=s.heap.push { cls:=.type "list",data:=.seq c.toArray },toks:=k }:=λc k r=>by
  show(.ref s.heap.objs.size,upd H s.heap.objs.size (.lst _),I.laid (t':=k) (o:=.lst ((Txt.split z y).map V.str)) (λb u e=>Heap.get?_push_of_some _ e) (Nat.le_refl _) ?_,rfl,q _ l);show(by rw[length_map];show g,c,0,r,Heap.get?_push_size _ rfl)
 unfold Txt.split at a g;by_cases d:(decide (z.length<y.length)||decide (Builtin.Str.strKind z<Builtin.Str.strKind y))=true
 .rw[if_pos d]at a;show call_meets F.slot_str_split (typeIs_str _ _ _) F.entry_str_split (F.args_str_split_2 _ _) (meets_str_split_cannot_occur z y t t' d) ?_;show a [.str z t] _ (.cons ⟨_,rfl⟩ .nil)
 .rw[if_neg d]at a g;have d:=Bool.eq_false_iff.mpr d;by_cases f:(Builtin.Str.occurrences z y 0 z.length (z.length+1)).isEmpty=true
  .rw[if_pos f]at a;show call_meets F.slot_str_split (typeIs_str _ _ _) F.entry_str_split (F.args_str_split_2 _ _) (meets_str_split_not_found z y t t' d j f) ?_;show a [.str z t] _ (.cons ⟨_,rfl⟩ .nil)
  .rw[if_neg f]at a g;have f:=Bool.eq_false_iff.mpr f;show call_meets F.slot_str_split (typeIs_str _ _ _) F.entry_str_split (F.args_str_split_2 _ _) (meets_str_split_sep z y t t' d j f m g) ?_;show a _ _ (Jgr _ _)
variable{c:Nat}
theorem Jco{w:Str}:(⟨#[c]⟩:Str).join [w]=w:=by
 rw[Str.join]
variable{ws:List Str}
theorem Jcp{w v:Str}:((⟨#[c]⟩:Str).join (w::v::ws)).cps.toList=w.cps.toList++c::((⟨#[c]⟩:Str).join (v::ws)).cps.toList:=by
 rw[Str.join]
 .rw[JbJ,JbJ,List.append_assoc];rfl
 .intro z;cases z
theorem Jis:∀{a b r t:List Nat},c∉a->c∉b->a++c::r=b++c::t->a=b/\r=t
 | [],[],_,_,_,_,h=>by simpa using h
 | [],y::b,_,_,_,hb,h=>by
  simp at h;show absurd (by simp[h.1]:c∈y::b) hb
 | x::a,[],_,_,ha,_,h=>by
  simp at h;show absurd (by simp[h.1]:c∈x::a) ha
 | x::a,y::b,_,_,ha,hb,h=>by
  simp only[cons_append,List.cons.injEq]at h;have:=Jis (a:=a) (b:=b) (λz=>ha (mem_cons_of_mem _ z)) (λz=>hb (mem_cons_of_mem _ z)) h.2;show(by rw[h.1,this.1],this.2)
theorem Jix:∀{ws vs:List Str},ws≠[]->vs≠[]->(∀ w∈ws,c∉w.cps.toList)->(∀ v∈vs,c∉v.cps.toList)->((⟨#[c]⟩:Str).join ws).cps.toList=((⟨#[c]⟩:Str).join vs).cps.toList->ws=vs
 | [],_,h,_,_,_,_=>absurd rfl h
 | _,[],_,h,_,_,_=>absurd rfl h
 | [w],[v],_,_,_,_,e=>by
  rw[Jco,Jco]at e;rw[JbD e]
 | [w],v::u::vs,_,_,hw,_,e=>by
  rw[Jco,Jcp]at e;show absurd (by rw[e];simp) (hw w (by simp))
 | w::u::ws,[v],_,_,_,hv,e=>by
  rw[Jco,Jcp]at e;show absurd (by rw[<- e];simp) (hv v (by simp))
 | w::u::ws,v::x::vs,_,_,hw,hv,e=>by
  rw[Jcp,Jcp]at e;let(e1,e2):=Jis (hw w (by simp)) (hv v (by simp)) e;rw[JbD e1,Jix (by simp) (by simp) (λz hz=>hw z (mem_cons_of_mem _ hz)) (λz hz=>hv z (mem_cons_of_mem _ hz)) e2]
theorem JfO(h0:ws≠[])(h:∀ w∈ws,c∉w.cps.toList):Txt.split ((⟨#[c]⟩:Str).join ws) ⟨#[c]⟩=ws:=by
 show(Jix h0 (λz=>?_) h (λv a=>StrLaws.split_free _ c v a) (by rw[StrLaws.join_split])).symm;unfold Txt.split at z;split at z
 .cases z
 .split at z
  .cases z
  .rw[StrLaws.partsBetween_eq]at z;let(p,r,e):=StrLaws.partsFrom_ne ((⟨#[c]⟩:Str).join ws) (⟨#[c]⟩:Str).length 0 (Builtin.Str.occurrences ((⟨#[c]⟩:Str).join ws) ⟨#[c]⟩ 0 ((⟨#[c]⟩:Str).join ws).length (((⟨#[c]⟩:Str).join ws).length+1));rw[e]at z;cases z
def getK(K:W.Frag)(b:Addr):Option Obj:=match K.lookup b with
 | some o=>(match o.data with | .freed=>none | _=>some o)
 | none=>none
def hK(K:W.Frag):Heap:={ objs:=((List.range ((K.map (·.1)).foldl max 0+1)).map λi=>(K.lookup i).getD { cls:=.none,data:=.freed }).toArray }
theorem Jlb:∀{l:List Nat}{m:Nat},m<=l.foldl max m/\∀ b∈l,b<=l.foldl max m:=λ{l}=>by
 induction l with
 | nil=>intro m;show(Nat.le_refl _,λb c=>by cases c)
 | cons a l ih=>
  intro m;have:=ih (m:=max m a);show(Nat.le_trans (Nat.le_max_left ..) this.1,λb c=>?_);rcases mem_cons.mp c with rfl | c
  .show Nat.le_trans (Nat.le_max_right ..) this.1
  .show this.2 b c
variable{b:Addr}
theorem hK_at{K:W.Frag}:(hK K).objs[b]?=if b<(K.map (·.1)).foldl max 0+1 then some ((K.lookup b).getD { cls:=.none,data:=.freed })else none:=by
 unfold hK;rw[List.getElem?_toArray,List.getElem?_map];by_cases c:b<(K.map (·.1)).foldl max 0+1
 .rw[if_pos c,List.getElem?_range c];rfl
 .rw[if_neg c,List.getElem?_eq_none (by rw[List.length_range];show Nat.le_of_not_lt c)];rfl
variable{o:Obj}
theorem JlU{K:W.Frag}(h:(hK K).get? b=some o):K.lookup b=some o:=by
 unfold Heap.get? at h;rw[hK_at]at h;by_cases c:b<(K.map (·.1)).foldl max 0+1
 .rw[if_pos c]at h;cases e:K.lookup b with
  | none=>rw[e]at h;simp at h
  | some o'=>
   rw[e]at h;simp only[Option.getD_some]at h;split at h
   .cases h
   .show h
 .rw[if_neg c]at h;simp at h
theorem Ji4:∀{K:List (Addr × Obj)},K.lookup b=some o->(b,o)∈K:=λ{K}=>by
 induction K with
 | nil=>intro h;cases h
 | cons p K ih=>
  intro h;rw[List.lookup_cons]at h;split at h
  .rename_i e;cases h;have:=eq_of_beq e;subst this;show mem_cons_self ..
  .show mem_cons_of_mem _ (ih h)
theorem Jmx{K:W.Frag}(h:getK K b=some o):(hK K).get? b=some o:=by
 unfold getK at h;split at h
 .rename_i a e;have d:b<(K.map (·.1)).foldl max 0+1:=Nat.lt_succ_of_le (Jlb.2 b (mem_map.mpr ⟨(b,a),Ji4 e,rfl⟩));unfold Heap.get?;rw[hK_at,if_pos d,e];split at h
  .cases h
  .cases h;rename_i c;simp only[Option.getD_some];split
   .rename_i z;cases z;show absurd rfl c
   .rfl
 .cases h
def tupD(D:List (Str × List Str)):List (Str × KTD.Dat):=D.map λp=>(p.1, .tup (p.2.map PyData.str))
def fDict(K:W.Frag)(a:Addr)(D:List (Str × List Str)):Bool:=KTD.tabLook (KTD.datLooks (getK K)) (getK K) a (tupD D)
variable{a:Addr}
theorem JfJ{K:W.Frag}{D:List (Str × List Str)}{h:Heap}(d:fDict K a D=true)(kin:K.In h):KTD.Here (hK K) h a (tupD D):=⟨KTD.text_of_look (λ_ _ e=>Jmx e) d,λb o e=>kin b o (JlU e)⟩
theorem JiV{K:W.Frag}:∀{ss:List Str}{vs:List Value},KTD.Flats vs (ss.map PyData.str)->Vals (ss.map V.str) vs:=λ{ss}=>by
 induction ss with
 | nil=>intro vs h;cases h;show .nil
 | cons z ss ih=>
  intro vs h;cases h with
  | cons f r=>
   show .cons ?_ (ih r);have:=f {};cases this;show(_,rfl)
theorem JjE{k:Str}:∀{D:List (Str × List Str)}{d:KTD.Dat},KTD.datumAt k (tupD D)=some d->∃ ss,KTD.datumAt k D=some ss/\d=.tup (ss.map PyData.str):=λ{D}=>by
 induction D with
 | nil=>intro d h;simp[tupD,KTD.datumAt]at h
 | cons p D ih=>
  intro d h;unfold tupD at h;rw[map_cons,KTD.datumAt]at h;rw[KTD.datumAt];by_cases c:k=p.1
  .rw[if_pos (decide_eq_true c)]at h ⊢;show(_,rfl,(Option.some.inj h).symm)
  .rw[if_neg (λz=>c (of_decide_eq_true z))]at h ⊢;show ih h
theorem JiT{k:Str}:∀{D:List (Str × List Str)},KTD.datumAt k (tupD D)=none->KTD.datumAt k D=none:=λ{D}=>by
 induction D with
 | nil=>intro h;rfl
 | cons p D ih=>
  intro h;unfold tupD at h;rw[map_cons,KTD.datumAt]at h;rw[KTD.datumAt];by_cases c:k=p.1
  .rw[if_pos (decide_eq_true c)]at h;cases h
  .rw[if_neg (λz=>c (of_decide_eq_true z))]at h ⊢;show ih h
theorem JjD{k:Str}:∀{D:List (Str × List Str)}{ss:List Str},KTD.datumAt k D=some ss->∃ p∈D,p.2=ss:=λ{D}=>by
 induction D with
 | nil=>intro ss h;simp[KTD.datumAt]at h
 | cons p D ih=>
  intro ss h;rw[KTD.datumAt]at h;by_cases c:k=p.1
  .rw[if_pos (decide_eq_true c)]at h;show(p,by simp,Option.some.inj h)
  .rw[if_neg (λz=>c (of_decide_eq_true z))]at h;let(q,b,a):=ih h;show(q,mem_cons_of_mem _ b,a)
def tGetF(K:W.Frag)(D:List (Str × List Str))(td ty:TE):TE:=λσ H Q=>td σ H λx H1=>∃ a,x=.ref a/\fDict K a D=true/\ty σ H1 λy H2=>∃ k,y=.str k/\(∀ ss b,KTD.datumAt k D=some ss->(∀ H,SqT K H b (ss.map V.str))->Q (.ref b) H2)/\(KTD.datumAt k D=none->Q .non H2)
section
variable{o e:Expr}{apos cpos:Pos}{td ty:TE}{D:List (Str × List Str)}
theorem JmV(hl:∀ p∈D,p.2.length<=sizeLine)(ho:PE X o td)(he:PE X e ty)(m:M1 X o "get" apos e cpos):PE X (.Call (.Attribute o "get" apos) [e] [] cpos) (tGetF X.K D td ty):=by
 intro c s σ H Q I h;show wpAny_Call_method m.base m.few m.line PySem.F.plainAttrs_dict PySem.F.slot_dict_get PySem.F.type_dict_get (thn (ho c s σ H _ I h) λu V ζ=>?_);let(x,R,I1,P,a,L,d,M):=ζ;subst L;obtain rfl:u=Value.ref a:=P;have f:∀{s:Shared}{H:Hp},Inv X c σ H s->s.TypeIs (.ref a) "dict"/\∃ g,s.heap.get? a=some g/\g.dict=none:=λ{s H} I=>by
  let((_,g,es,Y,j,l,_),A):=JfJ d I.kIn;show(⟨g,A _ _ j,l.1⟩,g,A _ _ j,l.2.1)
 show((f I1).1,λb q=>by cases q;show(f I1).2,?_);rw[m.trees];show Calls.callWith_builtin rfl (Calls.evalArgs_plain (Calls.spliced_cons (thn (he c V σ R _ I1 M) λiv W ⟨y,z,I2,T,k,U,G,N⟩=>Calls.spliced_nil ?_)));subst U;let(t,rfl):=T;show call_meetsIn PySem.F.slot_dict_get (f I2).1 PySem.F.entry_dict_get (PySem.F.args_dict_get_2 _ _) (KTD.meets_get1 (h₀:=hK X.K) (D:=tupD D)) ⟨JfJ d I2.kIn,λZ v w r=>?_,λw=>⟨.non,z,I2.tok _,rfl,N (JiT w)⟩⟩;let(C,B,rfl):=JjE w;let(b,J,rfl,(g,j,l,n,E),O):=r;have i:=JiV (K:=X.K) O;show(.ref b,z,I2.tok _,rfl,G C b B λH=>.inr ⟨g,J.toArray,n,JlU j,l,E,?_,by simpa using i⟩);have:=i.length;rw[length_map]at this;rw[size_toArray, <- this];let(p,S,rfl):=JjD B;show hl p S
end
section
variable{prog:Program}{A:Around}{E:Value->Shared->Prop}{s:Shared}{w:World}{j:Addr}{i:Nat}{its:Array Value}{x:Value}{Q:Value->Shared->Prop}
theorem JnO{t:Addr}(hj:s.heap.IsTupleIter j t i)(ht:s.heap.IsTuple t its)(hx:its[i]?=some x)
  (hQ:∀ h',h'.IsTupleIter j t (i+1)->Heap.SameBut j s.heap h'->Q x { s with heap:=h' }):wpAny (model prog w) A (Builtin.SmallTypes.nextOf (.ref j)) Q E s:=by
 let(o,b,c,a):=id hj;let(u,e,_,m,d):=ht;unfold Builtin.SmallTypes.nextOf;show wpAny_bind (wpAny_callSpecial?_slot (name:=Str.ofString "__next__") hj.typeIs F.slot_tuple_iterator_next (wpAny_call_entry F.slot_tuple_iterator_next hj.typeIs F.entry_tuple_iterator_next ?_ (F.args_tuple_iterator_next_1 _)));show wpAny _ _ (field (.ref j) 0 >>= _) _ _ s;show wpAny_bind (wpAny_field b a (i:=0) (x:=.ref t) rfl ?_);show wpAny _ _ (if(Value.ref t == Value.none)=true then _ else _) _ _ s;rw[if_neg (show¬(Value.ref t == Value.none)=true fromλz=>Bool.false_ne_true z)];show wpAny _ _ (field (.ref j) 1 >>= _) _ _ s;show wpAny_bind (wpAny_field b a (i:=1) (x:=.int i 0) rfl ?_);show wpAny _ _ (seqItems? (.ref t) >>= _) _ _ s;show wpAny_bind (wpAny_seqItems e d ?_);simp only[Int.toNat_natCast,hx];show wpAny_bind (wpAny_setField b a (by simp) (wpAny_pure ⟨x,rfl,wpAny_pure (hQ _ ?_ (Heap.SameBut.update ..))⟩));show(_,Heap.get?_update_self _ b (Obj.isFreed_of_fields (Obj.data_mapFields a _)),(Obj.cls_mapFields ..).trans c,by rw[Obj.data_mapFields a];simp[rawInt])
theorem JmK{t:Addr}(hh:A.handled=none)(hj:s.heap.IsTupleIter j t i)(ht:s.heap.IsTuple t its)(hx:its[i]?=none)
  (hE:∀ h' e,Heap.ExtBut j s.heap h'->(∃ o,h'.get? e=some o/\o.cls=.type "StopIteration")->E (.ref e) { s with heap:=h' }):wpAny (model prog w) A (Builtin.SmallTypes.nextOf (.ref j)) Q E s:=by
 let(o,b,g,c):=id hj;let(u,f,_,m,d):=ht;unfold Builtin.SmallTypes.nextOf;show wpAny_bind (wpAny_callSpecial?_slot (name:=Str.ofString "__next__") hj.typeIs F.slot_tuple_iterator_next (wpAny_call_entry F.slot_tuple_iterator_next hj.typeIs F.entry_tuple_iterator_next ?_ (F.args_tuple_iterator_next_1 _)));show wpAny _ _ (field (.ref j) 0 >>= _) _ _ s;show wpAny_bind (wpAny_field b c (i:=0) (x:=.ref t) rfl ?_);show wpAny _ _ (if(Value.ref t == Value.none)=true then _ else _) _ _ s;rw[if_neg (show¬(Value.ref t == Value.none)=true fromλz=>Bool.false_ne_true z)];show wpAny _ _ (field (.ref j) 1 >>= _) _ _ s;show wpAny_bind (wpAny_field b c (i:=1) (x:=.int i 0) rfl ?_);show wpAny _ _ (seqItems? (.ref t) >>= _) _ _ s;show wpAny_bind (wpAny_seqItems f d ?_);simp only[Int.toNat_natCast,hx];show wpAny_bind (wpAny_rule (wpAny_bind (wpAny_setField b c (by simp) (wpAny_bind ?_))));simp only[newExc,newTuple];show wpAny_bind (wpAny_newObj_type ?_ (by size_fits));show wpAny_bind (m:=firstArgMember _ _) (wpAny_of_eq (a:=Value.none) (by first | rfl | (simp only[firstArgMember];rfl)) ?_);show wpAny_newObj_type ?_ (by size_fits);simp only[raiseNew];show wpAny_bind (wpAny_handled ?_);first | rw[show A.in1.handled=none from hh] | rw[hh]
 show wpAny_bind (wpAny_pure (wpAny_throw (hE _ _ (((Heap.SameBut.update ..).extBut.push _).push _) ⟨_,Heap.get?_push_size _ rfl,rfl⟩)))
variable{z c d j1 j2:Addr}{xs ys:Array Value}{Q:Option Value->Shared->Prop}
theorem JkR{k:Nat}{y u v:Value}(D:ZipApart z c d j1 j2 a b)
  (hz:IsZip s.heap z c d .none) (hc:IsPair s.heap c (.ref j1) (.ref j2)) (hd:IsPair s.heap d u v) (h1:s.heap.IsTupleIter j1 a k) (h2:s.heap.IsListIter j2 b k) (ha:s.heap.IsTuple a xs) (hb:s.heap.IsList b ys) (hx:xs[k]?=some x) (hy:ys[k]?=some y)
  (hQ:∀ h',IsZip h' z c d (rawInt s.heap.objs.size)->IsPair h' d x y->h'.IsTupleIter j1 a (k+1)->h'.IsListIter j2 b (k+1)->IsPair h' s.heap.objs.size x y->(∀ e o,e≠z->e≠d->e≠j1->e≠j2->s.heap.get? e=some o->h'.get? e=some o)->Q (some (.ref s.heap.objs.size)) { s with heap:=h' }) :
  wpAny (model prog w) A (pyNext (.ref z)) Q E s:=by
 have P:s.TypeIs (.ref z) "zip":=⟨_,hz,rfl⟩;unfold pyNext;show wpAny_bind (wpAny_attempt (wpAny_callSpecial?_slot (name:=Str.ofString "__next__") P F.slot_zip_next (wpAny_call_entry F.slot_zip_next P F.entry_zip_next ?_ (F.args_zip_next_1 _))));show wpAny _ _ (field (Value.ref z) 2 >>= _) _ _ s;show wpAny_bind (wpAny_field hz rfl (i:=2) (x:=.bool false) rfl ?_);show wpAny _ _ (field (Value.ref z) 3 >>= _) _ _ s;show wpAny_bind (wpAny_field hz rfl (i:=3) (x:=.ref c) rfl ?_);show wpAny_bind (wpAny_seqItems hc rfl ?_);show wpAny_bind (m:=Builtin.SmallTypes.ownedTupleIsFree (.ref z)) ?_;unfold Builtin.SmallTypes.ownedTupleIsFree;show wpAny_bind (wpAny_field hz rfl (x:=.none) rfl (wpAny_pure ?_));simp only[if_true];show wpAny_bind (wpAny_rule (wpAny_bind (wpAny_field hz rfl (x:=.ref d) rfl ?_)));show wpAny_bind (wpAny_setField_rec hz (by simp) λg1 L h=>wpAny_bind ?_);replace L:IsZip g1 z c d .ellipsis:=L;simp only[List.zipIdx_cons,List.zipIdx_nil,List.forIn_cons,List.forIn_nil];show wpAny_bind (wpAny_bind (wpAny_onRaise (wpAny_bind (m:=Builtin.SmallTypes.nextOf (.ref j1)) ?_)));show JnO (h1.extBut h.extBut D.i1z) (ha.extBut h.extBut D.l1z) hx λg2 i2 j=>wpAny_pure ?_;have V:IsPair g2 d u v:=j.extBut _ _ D.TOi1 (h.extBut _ _ D.TOz hd);show wpAny_bind (wpAny_seqItems V rfl (wpAny_bind (wpAny_updateSeq_pair V λg3 K l=>wpAny_bind (wpAny_letGo (wpAny_pure ?_)))));replace K:IsPair g3 d x v:=K;show wpAny_bind (wpAny_bind (wpAny_onRaise (wpAny_bind (m:=Builtin.SmallTypes.nextOf (.ref j2)) ?_)));show wpAny_nextOf_list_item (((h2.extBut h.extBut D.i2z).extBut j.extBut D.i12.symm).extBut l.extBut D.TOi2.symm) (((hb.extBut h.extBut D.l2z).extBut j.extBut D.l2i1).extBut l.extBut D.l2TO) hy λg4 i4 n=>wpAny_pure ?_;have O:IsPair g4 d x v:=n.extBut _ _ D.TOi2 K;show wpAny_bind (wpAny_seqItems O rfl (wpAny_bind (wpAny_updateSeq_pair O λf t r=>wpAny_bind (wpAny_letGo (wpAny_pure (wpAny_pure ?_))))));replace t:IsPair f d x y:=t;show wpAny_bind (wpAny_seqItems t rfl (wpAny_bind (wpAny_newTuple ?_)));have p:f.objs.size=s.heap.objs.size:=by rw[r.1,n.1,l.1,j.1,h.1]
 have T:IsZip f z c d .ellipsis:=r.extBut _ _ D.TOz.symm (n.extBut _ _ D.i2z.symm (l.extBut _ _ D.TOz.symm (j.extBut _ _ D.i1z.symm L)));have W:∀ e o,e≠z->e≠d->e≠j1->e≠j2->s.heap.get? e=some o->f.get? e=some o:=λe o g H I J q=>r.extBut _ _ H (n.extBut _ _ J (l.extBut _ _ H (j.extBut _ _ I (h.extBut _ _ g q))));have Z:f.IsTupleIter j1 a (k+1):=((i2.extBut l.extBut D.TOi1.symm).extBut n.extBut D.i12).extBut r.extBut D.TOi1.symm;have Y:f.IsListIter j2 b (k+1):=i4.extBut r.extBut D.TOi2.symm;have R:z<f.objs.size:=Heap.lt_size T;show wpAny_bind (m:=Builtin.SmallTypes.ownedTupleHandOut (.ref z) (.ref f.objs.size)) ?_;unfold Builtin.SmallTypes.ownedTupleHandOut;have X:IsZip (f.push { cls:=.type "tuple",data:=.seq #[x,y] }) z c d .ellipsis:=Heap.get?_push_of_some _ T;show wpAny_bind (wpAny_setField_rec X (by simp) λg7 M U=>?_);replace M:IsZip g7 z c d (rawInt f.objs.size):=M;show wpAny_setField_rec M (by simp) λG C N=>?_;replace C:IsZip G z c d (rawInt f.objs.size):=C;have B:∀ e o,e≠z->f.get? e=some o->G.get? e=some o:=λe o g q=>N.extBut _ _ g (U.extBut _ _ g (Heap.get?_push_of_some _ q));have S:IsPair G f.objs.size x y:=N.extBut _ _ (Nat.ne_of_gt R) (U.extBut _ _ (Nat.ne_of_gt R) (Heap.get?_push_size _ rfl));rw[p]at C S;show wpAny_pure ⟨_,rfl,wpAny_pure ?_⟩;rw[p];show hQ G C (B _ _ D.TOz t) (Z.at λo q=>B _ o D.i1z q) (Y.at λo q=>B _ o D.i2z q) S λe o g H I J q=>B e o g (W e o g H I J q)
theorem JlG{k:Nat}(hh:A.handled=none)(D:ZipApart z c d j1 j2 a b)
  (hz:IsZip s.heap z c d .none) (hc:IsPair s.heap c (.ref j1) (.ref j2)) (h1:s.heap.IsTupleIter j1 a k) (ha:s.heap.IsTuple a xs) (hx:xs[k]?=none)
  (hQ:∀ h',(∀ e o,e≠z->e≠j1->s.heap.get? e=some o->h'.get? e=some o)->Q none { s with heap:=h' }):wpAny (model prog w) A (pyNext (.ref z)) Q E s:=by
 have t:s.TypeIs (.ref z) "zip":=⟨_,hz,rfl⟩;unfold pyNext;show wpAny_bind (wpAny_attempt (wpAny_callSpecial?_slot (name:=Str.ofString "__next__") t F.slot_zip_next (wpAny_call_entry F.slot_zip_next t F.entry_zip_next ?_ (F.args_zip_next_1 _))));show wpAny _ _ (field (Value.ref z) 2 >>= _) _ _ s;show wpAny_bind (wpAny_field hz rfl (i:=2) (x:=.bool false) rfl ?_);show wpAny _ _ (field (Value.ref z) 3 >>= _) _ _ s;show wpAny_bind (wpAny_field hz rfl (i:=3) (x:=.ref c) rfl ?_);show wpAny_bind (wpAny_seqItems hc rfl ?_);show wpAny_bind (m:=Builtin.SmallTypes.ownedTupleIsFree (.ref z)) ?_;unfold Builtin.SmallTypes.ownedTupleIsFree;show wpAny_bind (wpAny_field hz rfl (x:=.none) rfl (wpAny_pure ?_));simp only[if_true];show wpAny_bind (wpAny_rule (wpAny_bind (wpAny_field hz rfl (x:=.ref d) rfl ?_)));show wpAny_bind (wpAny_setField_rec hz (by simp) λB j l=>wpAny_bind ?_);replace j:IsZip B z c d .ellipsis:=j;simp only[List.zipIdx_cons,List.zipIdx_nil,List.forIn_cons,List.forIn_nil];show wpAny_bind (wpAny_bind (wpAny_onRaise (wpAny_bind (m:=Builtin.SmallTypes.nextOf (.ref j1)) ?_)));show JmK hh (h1.extBut l.extBut D.i1z) (ha.extBut l.extBut D.l1z) hx λC e n y=>?_;let(G,g,v):=y;have r:IsZip C z c d .ellipsis:=n _ _ D.i1z.symm j;have h:e≠z:=λq=>by subst q;rw[r]at g;cases g;simp at v
 show wpAny_setField_rec r (by simp) λI _ p=>?_;show wpAny_bind (wpAny_isInstance (T:="StopIteration") (b:=true) ⟨G,p.extBut _ _ h g,v⟩ isSubtype_stop ?_);show wpAny_pure (hQ _ λf o u H q=>p.extBut _ _ u (n _ _ H (l.extBut _ _ u q)))
abbrev zt1(h:Heap)(a:Addr):Heap:=h.push { cls:=.type "tuple_iterator",data:=.fields #[.ref a, .int 0 0] }
abbrev zt2(h:Heap)(a b:Addr):Heap:=(zt1 h a).push { cls:=.type "list_iterator",data:=.fields #[.ref b, .int 0 0] }
abbrev zt3(h:Heap)(a b:Addr):Heap:=(zt2 h a b).push { cls:=.type "tuple",data:=.seq #[.ref h.objs.size, .ref (zt1 h a).objs.size] }
abbrev zt4(h:Heap)(a b:Addr):Heap:=(zt3 h a b).push { cls:=.type "tuple",data:=.seq #[.none, .none] }
abbrev zt5(h:Heap)(a b:Addr):Heap:=(zt4 h a b).push { cls:=.type "zip",data:=.fields #[.none, .bool false, .bool false, .ref (zt2 h a b).objs.size, .ref (zt3 h a b).objs.size] }
theorem Ji8(a b:Addr)(xs ys:Array Value):Meets (Builtin.«zip.__new__» ⟨[.type "zip", .ref a, .ref b],[]⟩) (λ_ R s=>s.heap.IsTuple a xs/\s.heap.IsList b ys/\R (.ok (.ret (.ref (zt4 s.heap a b).objs.size))) { s with heap:=zt5 s.heap a b }) :=
 .of_wp λi w A R s h=>by
  let(c,g,d,f,j):=s;let(m,k,h):=h;have e:=sub_zip;have n:Heap.IsTuple (Shared.heap ⟨c,g,d,f,j⟩) a xs:=m;have l:Heap.IsList (Shared.heap ⟨zt1 c a,g,d,f,j⟩) b ys:=Heap.IsList.push k _
  wp_walk using wpAny_pyIter_tuple n,wpAny_pyIter_list l
  show(_,rfl,h)
theorem Jjw{Q:Value->Shared->Prop}(ha:s.heap.IsTuple a xs)(hb:s.heap.IsList b ys)
  (h:∀ h' n,n=s.heap.objs.size->IsZip h' (n+4) (n+2) (n+3) .none->IsPair h' (n+2) (.ref n) (.ref (n+1))->IsPair h' (n+3) .none .none->h'.IsTupleIter n a 0->h'.IsListIter (n+1) b 0->(∀ c o,s.heap.get? c=some o->h'.get? c=some o)->Q (.ref (n+4)) { s with heap:=h' }) :
  wpAny (model prog w) A (call (.type "zip") [.ref a, .ref b]) Q E s:=by
 show callType_new F.called_zip ⋯ (F.typeCall_zip_2 _ _) (F.newCall_zip_2 _ _) (λf=>F.args_object_init_3 f _ _) F.entry_zip_new (Ji8 a b xs ys) ⟨ha,hb,?_⟩;have e:(zt1 s.heap a).objs.size=s.heap.objs.size+1:=Heap.size_push ..;have g:(zt2 s.heap a b).objs.size=s.heap.objs.size+2:=by rw[Heap.size_push,e]
 have i:(zt3 s.heap a b).objs.size=s.heap.objs.size+3:=by rw[Heap.size_push,g]
 have l:(zt4 s.heap a b).objs.size=s.heap.objs.size+4:=by rw[Heap.size_push,i]
 have d:∀{c:Addr}{o:Obj}{h:Heap}{p:Obj},h.get? c=some o->(h.push p).get? c=some o:=λx=>Heap.get?_push_of_some _ x;have j:(zt5 s.heap a b).get? (zt4 s.heap a b).objs.size=some _:=Heap.get?_push_size _ rfl;have k:(zt5 s.heap a b).get? (zt3 s.heap a b).objs.size=some _:=d (Heap.get?_push_size _ rfl);have q:(zt5 s.heap a b).get? (zt2 s.heap a b).objs.size=some _:=d (d (Heap.get?_push_size _ rfl));have m:(zt5 s.heap a b).get? (zt1 s.heap a).objs.size=some _:=d (d (d (Heap.get?_push_size _ rfl)));have r:(zt5 s.heap a b).get? s.heap.objs.size=some _:=d (d (d (d (Heap.get?_push_size _ rfl))));show _/\_;rw[g,i,l]at j;rw[e,g]at q;rw[i]at k;rw[e]at m;rw[l];show(⟨_,j,rfl⟩,h _ _ rfl j q k ⟨_,r,rfl,rfl⟩ ⟨_,m,rfl,rfl⟩ λc o x=>d (d (d (d (d x)))))
end
def Ity(K:W.Frag)(a b:Addr):It :=
  ⟨λi H=>∃ xs ys x y,SqT K H a xs/\SqL K H b ys/\xs[i]?=some x/\ys[i]?=some y,
   λi H v H'=>∃ p x y,(∀ xs,SqT K H a xs->xs[i]?=some x)/\(∀ ys,SqL K H b ys->ys[i]?=some y)/\H p=none/\v=.ref p/\H'=upd H p (.tup [x,y]),
   λi H=>∃ xs,SqT K H a xs/\xs.length<=i⟩
variable{elts:List Expr}{x1:Nat}{tp:Pos}
theorem JkK{P:Program}{w:World}{K:W.Frag}{z c d j1 j2:Addr}(D:ZipApart z c d j1 j2 a b) :
  Turn P w K (.Tuple elts x1 tp) (Ity K a b) [z,c,d,j1,j2] z (λi h=>IsZip h z c d .none/\IsPair h c (.ref j1) (.ref j2)/\(∃ u v,IsPair h d u v)/\h.IsTupleIter j1 a i/\h.IsListIter j2 b i) where
 mem:=by simp
 obj:=λi h m e f=>by
  let(r,l,(u,v,C),(o1,e1,_,d1),o2,e2,_,d2):=m;simp only[mem_cons,not_mem_nil,or_false]at f;rcases f with rfl | rfl | rfl | rfl | rfl
  .show(_,r,λv z=>by cases z)
  .show(_,l,λv z=>by cases z)
  .show(_,C,λv z=>by cases z)
  .show(o1,e1,λv z=>by rw[d1]at z;cases z)
  .show(o2,e2,λv z=>by rw[d2]at z;cases z)
 keep:=λi h S m k=>by
  let(r,l,(u,v,C),G,L):=m;show(k z (by simp) _ r,k c (by simp) _ l,⟨u,v,k d (by simp) _ C⟩,G.at λo e=>k j1 (by simp) o e,L.at λo e=>k j2 (by simp) o e)
 item:=by
  intro X T hw hK J i t s σ H E I O m Z;subst T hw hK;let(r,l,(u,v,C),G,L):=m;let(xs,ys,x,y,N,sy,hx,hy):=Z;let(F,rx,px,zx):=I.tuple N;let(a7,ry,py,zy):=I.list sy;let(Y,V,a0):=rx.get hx;let(uy,a6,R):=ry.get hy;show JkR D r l C G L (show s.heap.IsTuple a F.toArray from px) py.isList (x:=Y) (y:=uy) (by simpa using V) (by simpa using a6) λS a1 a2 a3 a4 a5 M=>?_;show(_,rfl,wpAny_letOwnedTupleGo_zip (s:={ s with heap:=S }) a1 λg U j=>?_);have B:∀{e o},s.heap.get? e=some o->e≠s.heap.objs.size:=λe=>Nat.ne_of_lt (Heap.lt_size e);have nz:s.heap.objs.size≠z:=λq=>B r q.symm;have I1:Inv X t σ H { s with heap:=g,toks:=s.toks }:=I.turnedL (ch:=[z,c,d,j1,j2]) (λe o f q=>by
   simp only[mem_cons,not_mem_nil,or_false,not_or]at f;show j.extBut _ _ f.1 (M e o f.1 f.2.2.1 f.2.2.2.1 f.2.2.2.2 q)) O
  have fr:H s.heap.objs.size=none:=I.hok.fresh (Nat.le_refl _);have hT:g.get? s.heap.objs.size=some { cls:=.type "tuple",data:=.seq #[Y,uy] }:=j.extBut _ _ nz a5;have I2:=I1.track (a:=s.heap.objs.size) (o:=.tup [x,y]) fr (Heap.get?_none_of_le I.sz) (Nat.ne_of_gt I.lt) (λn c e q=>by
   let(v,o,ho,_):=I.cell n c e;show B ho q) (λp hp q=>B (I.pin p hp).1 q) ⟨by show 2<=sizeLine;decide,[Y,uy], .cons a0 (.cons R .nil),⟨_,hT,rfl,_,rfl⟩⟩
  show(.ref s.heap.objs.size,_,I2,rfl,⟨_,x,y,λzs q=>by rw[I.tuple_inj q N];show hx,λzs q=>by rw[I.list_inj q sy];show hy,fr,rfl,rfl⟩,?_,λe f=>?_)
  .show(U,j.extBut _ _ D.TIz (M _ _ D.TIz D.TITO D.TIi1 D.TIi2 l),⟨_,_,j.extBut _ _ D.TOz a2⟩,a3.extBut j.extBut D.i1z,a4.extBut j.extBut D.i2z)
  .rw[Jai (show e≠s.heap.objs.size by
    simp only[mem_cons,not_mem_nil,or_false]at f;rcases f with rfl | rfl | rfl | rfl | rfl
    .show B r
    .show B l
    .show B C
    .let(o,q,_):=G;show B q
    .let(o,q,_):=L;show B q)]
   show(O e f).1
 done:=by
  intro X T hw hK J i t s σ H E I O m Z;subst T hw hK;let(r,l,(u,v,C),G,L):=m;let(xs,N,f):=Z;let(F,rx,px,zx):=I.tuple N;have lx:=rx.length;show JlG (I.ok.hd J) D r l G (show s.heap.IsTuple a F.toArray from px) (by simp;ac_nf) λS M=>⟨rfl,?_⟩;show I.turnedL (t':=s.toks) (ch:=[z,c,d,j1,j2]) (λe o f q=>by
   simp only[mem_cons,not_mem_nil,or_false,not_or]at f;show M e o f.1 f.2.2.2.1 q) O
 self:=λA i s Q E m q=>wpAny_pyIter_zip m.1 q
def iZipT(K:W.Frag)(ta:TA):TI:=λσ H R=>ta σ H λvs H1=>∃ a b,vs=[.ref a, .ref b]/\(∃ xs,SqT K H1 a xs)/\(∃ ys,SqL K H1 b ys)/\R (Ity K a b) H1
variable{ta:TA}{pos:Pos}
theorem Jm1{a b:Expr}{p:Pos}(hg:Gl X "zip")(hm:X.mg "zip"=none)(hv:bootBuiltins "zip"=some (.type "zip"))(ha:PA X [a,b] ta)
  (he:autoParam (starEach [a,b] X.env=(false,eval a X.env)::starEach [b] X.env) Au) (hpl:autoParam ((backTo pos (starEach [b] X.env)).any (·.1)=false) Au) :
  PI X (.Tuple elts x1 tp) (.Call (.Name "zip" p) [a,b] [] pos) (iZipT X.K ta):=by
 intro f s σ H R I h;show wpAny_Call_Name_kw (JcV I hg hm hv (PyProof.Rows.callWith_type1 (thn (ha pos f s σ H _ I h) λW g ζ=>?_) he hpl));let(Q,F,I1,y,D):=ζ;let(i,k,e,(S,J),(P,E),q):=D;subst e;let(u,v,rfl,N,M):=vals2 y;cases(show u=Value.ref i from N);cases(show v=Value.ref k from M);let(j,U,x,O):=I1.tuple J;let(B,V,l,T):=I1.list E;have o:i<g.heap.objs.size:=by let(_,e,_):=x;show Heap.lt_size e
 have r:k<g.heap.objs.size:=by let(_,e,_):=l.isList;show Heap.lt_size e
 show Jjw (show g.heap.IsTuple i j.toArray from x) l.isList λY n t m A G L C z=>wpAny_pyIter_zip m ?_;rw[<- t]at o r;show(n+4,[n+4,n+2,n+3,n,n+1],_,_,F,rfl,I1.kept (t':=g.toks) z,JkK (za _ i k o r),⟨m,A,⟨_,_,G⟩,L,C⟩,λc w=>?_,q);have d:g.heap.objs.size<=c:=by
  rw[<- t];simp only[mem_cons,not_mem_nil,or_false]at w;rcases w with rfl | rfl | rfl | rfl | rfl
  .show Nat.le_add_right _ _
  .show Nat.le_add_right _ _
  .show Nat.le_add_right _ _
  .show Nat.le_refl _
  .show Nat.le_add_right _ _
 show I1.fpOk d (I1.hok.fresh d)
def rTupL(K:W.Frag):List V->Hp->VK->Prop:=λxs H Q=>∃ l ys,xs=[.ref l]/\SqL K H l ys/\∀ p,H p=none->Q (.ref p) (upd H p (.tup ys))
theorem Jhp:CallR X (.type "tuple") (rTupL X.K):=λd s σ H p t Q I r q=>by
 let(l,g,rfl,f,q):=q;let(u,rfl,k):=vals1 r;cases(show u=Value.ref l from k);let(a,c,m,i):=I.list f;have n:=c.length;show call_tuple_list m.isList (λj h=>?_) (by rw[size_toArray];ac_nf);have I1:=I.kept (t':=s.toks) h;show(.ref j.objs.size,_,I1.laid (t':=s.toks) (o:=.tup g) (λb u e=>Heap.get?_push_of_some _ e) (Nat.le_refl _) ⟨i,a,c,⟨_,Heap.get?_push_size _ rfl,rfl,_,rfl⟩⟩,rfl,q _ (I1.hok.fresh (Nat.le_refl _)))
def rIntT:List V->Hp->VK->Prop:=λxs H Q=>match xs with
 | [.bl k]=>Q (.int (if k=true then 1 else 0)) H
 | [.str z]=>∃ n,PySem.intText? z=some n/\z.length<=640/\Q (.int n) H
 | _=>False
theorem JcE:CallR X (.type "int") rIntT:=λa s σ H f b Q I r q=>by
 unfold rIntT at q;split at q
 .show Jjt a s σ H _ b Q I r (.inr ⟨_,rfl,q⟩)
 .let(n,e,d,c):=q;show Jju a s σ H _ b Q I r ⟨_,n,rfl,e,d,c⟩
 .show q.elim
def rFmtU:V->Hp->VK->Prop:=λx H Q=>match x with
 | .int i=>i.natAbs.log2<1920/\Q (.str (toString i)) H
 | .str z=>z.length<=sizeLine/\Q (.str z) H
 | _=>False
variable{te:TE}
theorem JeJ{value:Expr}(h:PE X value te):PE X (.FormattedValue value (-1) none pos) (tUn rFmtU te):=λb s σ H Q I q=>by
 show wpAny_FormattedValue_plain (thn (h b s σ H _ I q) λu e ζ=>?_);let(x,c,I1,d,a):=ζ;replace a:rFmtU x c Q:=a;unfold rFmtU at a;split at a
 .let(t,rfl):=d;show wpAny_formatField_int a.1 ⟨.str _,c,I1.tok _,⟨_,rfl⟩,a.2⟩
 .let(t,rfl):=d;show wpAny_formatField_str (hx:=a.1) ⟨.str _,c,I1,⟨_,rfl⟩,a.2⟩ ⟨.str _,c,I1.tok _,⟨_,rfl⟩,a.2⟩
 .show a.elim
def rSIdx:V->List V->Hp->VK->Prop:=λx vs H Q=>∃ z y i r,x=.str z/\vs=[.str y]/\Builtin.Str.occurrences z y 0 z.length 1=i::r/\Q (.int (i:Int)) H
theorem JmI:MtR X "str.index" rSIdx:=λa s σ H x f v g Q I c d h=>by
 let(z,y,i,r,rfl,rfl,b,q):=h;let(t,rfl):=c;let(u,rfl,e,rfl):=vals1 d;show SC.index b ⟨.int _,H,I.tok _,⟨_,rfl⟩,q⟩
section
variable{tb:TS}{σ:St}{H:Hp}{Q:VK}{K:W.Frag}{g:TG}{D:Ends}
theorem y69y{k:Bool}:rIntT [.bl k] H Q=Q (.int (if k=true then 1 else 0)) H:=rfl
variable{z:Str}
theorem y6ay:rIntT [.str z] H Q=∃ n,PySem.intText? z=some n/\z.length<=640/\Q (.int n) H:=rfl
theorem y53y{i:Int}:rFmtU (.int i) H Q=(i.natAbs.log2<1920/\Q (.str (toString i)) H):=rfl
theorem y54y:rFmtU (.str z) H Q=(z.length<=sizeLine/\Q (.str z) H):=rfl
theorem y61y{D:List (Str × List Str)}{td ty:TE}:tGetF K D td ty σ H Q=td σ H λx H1=>∃ a,x=.ref a/\fDict K a D=true/\ty σ H1 λy H2=>∃ k,y=.str k/\(∀ ss b,KTD.datumAt k D=some ss->(∀ H,SqT K H b (ss.map V.str))->Q (.ref b) H2)/\(KTD.datumAt k D=none->Q .non H2):=rfl
theorem y59y:tFor (iEnum K ta) g tb D σ H=ta σ H λvs H1=>∃ a,vs=[.ref a]/\(∃ xs,SqL K H1 a xs)/\ForJ (Ite K a) g tb D σ H1:=rfl
variable{xs:List V}
theorem ForJ.enum(Pv:Nat->St->Hp->Prop)(h0:Pv 0 σ H)(hl:∀ i σ H',Pv i σ H'->SqL K H' a xs)
  (hs:∀ i x σ H p H',xs[i]?=some x->Pv i σ H->H p=none->Same H H'->H' p=some (.tup [.int i,x])->∀ N:St->Hp->Prop,(∀ σ' H',Pv (i+1) σ' H'->N σ' H')->g (.ref p) σ H' λσ2 H2=>tb { D with nx:=N,ct:=N,bk:=D.nx } σ2 H2)
  (hd:∀ σ H,Pv xs.length σ H->D.nx σ H):ForJ (Ite K a) g tb D σ H:=by
 show(λi m σ H=>Pv i σ H/\i<=xs.length/\m=xs.length-i,⟨_,h0,Nat.zero_le _,rfl⟩,?_);rintro i m σ H ⟨b,k,rfl⟩;have c:=hl i σ H b;by_cases d:i<xs.length
 .show .inr ⟨⟨xs,xs[i],c,List.getElem?_eq_getElem d⟩,Pv (i+1),λσ' H' p=>⟨_,Nat.sub_lt_sub_left d (Nat.lt_succ_self i),p,d,rfl⟩,?_⟩;intro v H' z_;let(p,x,j,f,rfl,rfl):=z_;show hs i x σ H p _ (j xs c) b f (newS f rfl) (newE rfl) _ λ_ _ h=>h
 .have e:i=xs.length:=by ac_nf
  subst e;show .inl ⟨⟨xs,c,Nat.le_refl _⟩,hd σ H b⟩
variable{k:Nat}{cs:List (Nat × Str)}
theorem y3ey:tComp k cs (iZipT K ta) g te σ H Q=ta σ H λvs H1=>∃ a b,vs=[.ref a, .ref b]/\(∃ xs,SqT K H1 a xs)/\(∃ ys,SqL K H1 b ys)/\CompJ (Ity K a b) k cs g te σ Q H1:=rfl
variable{H1:Hp}
theorem CompJ.zipT{ys:List V}(hxy:xs.length=ys.length)(Pv:Nat->List V->Hp->Prop)(h0:Pv 0 [] H1)(hl:∀ i zs H',i<=xs.length->Pv i zs H'->(SqT K H' a xs/\SqL K H' b ys)/\zs.length<=sizeLine)
  (hs:∀ i x y zs H2 p H3,xs[i]?=some x->ys[i]?=some y->Pv i zs H2->H2 p=none->Same H2 H3->H3 p=some (.tup [x,y])->g (.ref p) (List.replicate k none++JaJ cs σ) H3 λσ4 H4=>te σ4 H4 λz H5=>Pv (i+1) (zs++[z]) H5)
  (hd:∀ zs H2,Pv xs.length zs H2->∀ p,H2 p=none->Q (.ref p) (upd H2 p (.lst zs))):CompJ (Ity K a b) k cs g te σ Q H1:=by
 show(λi m ys H'=>Pv i ys H'/\i<=xs.length/\m=xs.length-i,⟨_,h0,Nat.zero_le _,rfl⟩,?_);rintro i m zs H2 ⟨f,o,rfl⟩;let((d,j),l):=hl i zs H2 o f;show(l,?_);by_cases c:i<xs.length
 .show .inr ⟨⟨xs,ys,_,_,d,j,List.getElem?_eq_getElem c,List.getElem?_eq_getElem (hxy ▸ c)⟩,?_⟩;intro v H3 z_;let(p,x,y,n,s,h,rfl,rfl):=z_;have e:(λ(σ4:St)(H4:Hp)=>te σ4 H4 λy H5=>Pv (i+1) (zs++[y]) H5)=λσ4 H4=>te σ4 H4 λy H5=>∃ m',m'<xs.length-i/\Pv (i+1) (zs++[y]) H5/\i+1<=xs.length/\m'=xs.length-(i+1):=by
   funext σ4 H4
   congr 1
   funext y H5
   show propext ⟨λq=>⟨_,Nat.sub_lt_sub_left c (Nat.lt_succ_self i),q,c,rfl⟩,λ⟨_,_,q,_⟩=>q⟩
  rw[<- e];show hs i x y zs H2 p _ (n xs d) (s ys j) f h (newS h rfl) (newE rfl)
 .have r:i=xs.length:=by ac_nf
  subst r;show .inl ⟨⟨xs,d,Nat.le_refl _⟩,hd zs H2 f⟩
end
theorem JiJ{b:List Stmt}:PSs X b (λ_ _ _=>False):=λ_ _ _ _ _ _ h=>h.elim
section
variable{σ:St}{H1:Hp}{Q:VK}{xs:List V}{K:W.Frag}{k:Nat}{cs:List (Nat × Str)}{g:TG}
theorem CompJ.tuple(Pv:Nat->List V->Hp->Prop)(h0:Pv 0 [] H1)(hl:∀ i ys H',i<=xs.length->Pv i ys H'->SqT K H' a xs/\ys.length<=sizeLine)
  (hs:∀ i x ys H2,xs[i]?=some x->Pv i ys H2->g x (List.replicate k none++JaJ cs σ) H2 λσ4 H4=>te σ4 H4 λy H5=>Pv (i+1) (ys++[y]) H5) (hd:∀ ys H2,Pv xs.length ys H2->∀ p,H2 p=none->Q (.ref p) (upd H2 p (.lst ys))) :
  CompJ (Itt K a) k cs g te σ Q H1:=by
 show(λi m ys H'=>Pv i ys H'/\i<=xs.length/\m=xs.length-i,⟨_,h0,Nat.zero_le _,rfl⟩,?_);rintro i m ys H2 ⟨d,j,rfl⟩;let(b,f):=hl i ys H2 j d;show(f,?_);by_cases c:i<xs.length
 .show .inr ⟨⟨xs,_,b,List.getElem?_eq_getElem c⟩,?_⟩;rintro v n ⟨rfl,h⟩;have e:(λ(σ4:St)(H4:Hp)=>te σ4 H4 λy H5=>Pv (i+1) (ys++[y]) H5)=λσ4 H4=>te σ4 H4 λy H5=>∃ m',m'<xs.length-i/\Pv (i+1) (ys++[y]) H5/\i+1<=xs.length/\m'=xs.length-(i+1):=by
   funext σ4 H4
   congr 1
   funext y H5
   show propext ⟨λq=>⟨_,Nat.sub_lt_sub_left c (Nat.lt_succ_self i),q,c,rfl⟩,λ⟨_,_,q,_⟩=>q⟩
  rw[<- e];show hs i v ys _ (h xs b) d
 .have l:i=xs.length:=by ac_nf
  subst l;show .inl ⟨⟨xs,b,Nat.le_refl _⟩,hd ys H2 d⟩
end
def txS(a:Int × Int):Str:=⟨(Tx.tx a.1 a.2).toArray⟩
theorem Jem(a:Int × Int):(txS a).cps.toList=Tx.tx a.1 a.2:=by simp[txS]
def bdS:Option (Int × Int)->Str
 | none=>Str.ofString "-"
 | some a=>txS a
def stS(nm:Str)(fw:Bool):Str:=if fw=true then nm else Str.ofString "-"++nm
theorem JdJ:(Str.ofString "-").cps.toList=[45]:=by decide
variable{a:Int}
theorem sg_sz(h:Mth.Sz 1711 a):(Tx.sg a).length<=700:=by
 have e:(2:Nat) ^ 1711<=10 ^ 600:=by decide +kernel
 unfold Mth.Sz at h;unfold Tx.sg;split
 .have:=Tx.dg_len 599 (-a).toNat (Nat.lt_of_lt_of_le ∅ e);simp;ac_nf
 .have:=Tx.dg_len 599 a.toNat (Nat.lt_of_lt_of_le ∅ e);ac_nf
theorem lg_sz(h:Mth.Sz 1711 a):a.natAbs.log2<1920:=by
 by_cases z:a.natAbs=0
 .rw[z];decide
 .show Nat.lt_trans ((Nat.log2_lt (k:=1711) z).mpr h) ⋯
theorem JiF(h:Mth.Sz 1711 a):(Str.ofString (toString a)).length<=700:=by rw[Jdp,JfW];show sg_sz h
variable{a:Int × Int}
theorem Jmf(c:a.2=1):Str.ofString (toString a.1)=txS a:=JbD (by rw[JfW,Jem];unfold Tx.tx;rw[if_pos c])
theorem Jmg(c:a.2≠1)(h:1<=a.2):(Str.ofString (toString a.1)++Str.ofString "/")++Str.ofString (toString a.2)=txS a:=JbD (by
 have b:(Str.ofString "/").cps.toList=[47]:=by decide
 rw[JbJ,JbJ,JfW,JfW,Jem,b];unfold Tx.tx;rw[if_neg c];have d:Tx.sg a.2=Tx.dg a.2.toNat:=by unfold Tx.sg;rw[if_neg ∅]
 rw[d];simp)
theorem Joh(h1:Mth.Sz 1711 a.1)(h2:Mth.Sz 1711 a.2)(h3:1<=a.2):(txS a).length<=1401:=by
 rw[Jdp,Jem];have e:=sg_sz h1;have b:=sg_sz h2;have c:Tx.sg a.2=Tx.dg a.2.toNat:=by unfold Tx.sg;rw[if_neg ∅]
 rw[c]at b;unfold Tx.tx;split
 .ac_nf
 .simp;ac_nf
theorem JfB{o:Option (Int × Int)}(h:∀ a,o=some a->FB 1711 701 a):(bdS o).length<=1401:=by
 cases o with
 | none=>decide
 | some a=>show Joh (h a rfl).s1 ((h a rfl).s2.mono ⋯) (h a rfl).b1
variable{z:Str}
theorem e_app:Str.empty++z=z:=JbD (by rw[JbJ];rfl)
theorem sg_nb{a:Int}(h:c∈Tx.sg a):c=45\/48<=c:=by
 unfold Tx.sg at h;split at h
 .rcases mem_cons.mp h with h | h
  .show .inl h
  .show .inr (Tx.fig_mem (Tx.dg_fig _) h).1
 .show .inr (Tx.fig_mem (Tx.dg_fig _) h).1
theorem bd_nb(o:Option (Int × Int)):32∉(bdS o).cps.toList:=λh=>by
 cases o with
 | none=>rw[show(bdS none).cps.toList=[45]from JdJ]at h;simp at h
 | some a=>
  rw[show(bdS (some a)).cps.toList=Tx.tx a.1 a.2 from Jem a]at h;unfold Tx.tx at h;split at h
  .rcases sg_nb h with h | h <;> ac_nf
  .rcases mem_append.mp h with h | h
   .rcases sg_nb h with h | h <;> ac_nf
   .rcases mem_cons.mp h with h | h
    .ac_nf
    .have:=(Tx.fig_mem (Tx.dg_fig _) h).1;ac_nf
theorem Jl2(h:nameS z=true){c:Nat}(hc:c∈z.cps.toList):97<=c:=by
 unfold nameS at h;simp only[Bool.and_eq_true]at h;have:=all_eq_true.mp h.2 c hc;simp[lowB]at this;ac_nf
theorem nm_nb(h:nameS z=true):32∉z.cps.toList:=λq=>by have:=Jl2 h q;ac_nf
variable{b:Bool}
theorem st_nb(h:nameS z=true):32∉(stS z b).cps.toList:=by
 unfold stS;split
 .show nm_nb h
 .rw[JbJ,JdJ];intro q;rcases mem_append.mp q with q | q
  .simp at q
  .show nm_nb h q
variable{y:Str}
theorem Jl7{c:Bool}(h:nameS y=true)(k:nameS z=true)(e:stS y b=stS z c):y=z/\b=c:=by
 have a:∀{u v:Str},nameS u=true->u≠Str.ofString "-"++v:=λ{u v} hu q=>by
  have : (45:Nat)∈(Str.ofString "-"++v).cps.toList:=by rw[JbJ,JdJ];simp
  rw[<- q]at this;have:=Jl2 hu this;ac_nf
 unfold stS at e;cases b <;> cases c <;> simp only[Bool.false_eq_true,if_true,if_false]at e
 .show(JbD ?_,rfl);have:=congrArg (λz=>z.cps.toList) e;simp only[JbJ,JdJ]at this;simpa using this
 .show absurd e.symm (a k)
 .show absurd e (a h)
 .show(e,rfl)
theorem jn_eq:Txt.join (Str.ofString " ") ws=(⟨#[32]⟩:Str).join ws:=by
 rw[show Str.ofString " "=(⟨#[32]⟩:Str)from JbD ⋯];show StrLaws.glued_eq_join _ _
theorem JlX:((⟨#[32]⟩:Str).join ws).length<=(ws.map (·.length)).sum+ws.length:=by
 rw[<- StrLaws.glued_eq_join,size_glued,show(⟨#[32]⟩:Str).length=1 from rfl];ac_nf
theorem Joa(h:z.length<=8):(stS z b).length<=9:=by
 unfold stS;split
 .ac_nf
 .rw[strLen_append,show(Str.ofString "-").length=1 from by decide];ac_nf
theorem Jl8:∀{ps:List (Str × Bool)},(∀ p∈ps,p.1.length<=8)->((ps.map λp=>stS p.1 p.2).map (·.length)).sum<=9*ps.length:=λ{ps}=>by
 induction ps with
 | nil=>intro _;simp
 | cons p ps ih=>
  intro h;have c:=Joa (b:=p.2) (h p mem_cons_self);have d:=ih λq a=>h q (mem_cons_of_mem _ a);simp only[map_cons,List.sum_cons,length_cons];ac_nf
def bodyT(m b:Nat):List Nat:=if b=1 then Tx.dg m else Tx.dg m++47::Tx.dg b
theorem JkL(h:1<=a.2):Tx.tx a.1 a.2=if a.1<0 then 45::bodyT a.1.natAbs a.2.natAbs else bodyT a.1.natAbs a.2.natAbs:=by
 unfold Tx.tx Tx.sg bodyT;have b:a.2.toNat=a.2.natAbs:=by ac_nf
 by_cases c:a.1<0
 .rw[if_pos c,if_pos c,b,show(-a.1).toNat=a.1.natAbs from by ac_nf];by_cases d:a.2=1
  .rw[if_pos d,if_pos ∅]
  .rw[if_neg d,if_neg ∅];rfl
 .rw[if_neg c,if_neg c,b,show a.1.toNat=a.1.natAbs from by ac_nf];by_cases d:a.2=1
  .rw[if_pos d,if_pos ∅]
  .rw[if_neg d,if_neg ∅]
variable{b:Nat}
theorem Jki{m:Nat}(h:y.cps.toList=bodyT m b):(Txt.partition y (Str.ofString "/")).1.cps.toList=Tx.dg m/\((b=1/\(Txt.partition y (Str.ofString "/")).2.1=Str.ofString "")\/(b≠1/\(Txt.partition y (Str.ofString "/")).2.1=Str.ofString "/"/\(Txt.partition y (Str.ofString "/")).2.2.cps.toList=Tx.dg b)):=by
 let(d,a):=Jlj y;rw[d];rw[h]at a ⊢;unfold bodyT at a ⊢;by_cases c:b=1
 .rw[if_pos c]at a ⊢;have e:=Tx.tw_self (Tx.dg47 m);show(e.1, .inl ⟨c,?_⟩);rw[e.2]at a;rcases a with a | ⟨r,a,_⟩
  .show a.2
  .cases a
 .rw[if_neg c]at a ⊢;have e:=Tx.tw_all (l:=Tx.dg m) (r:=47::Tx.dg b) (Tx.dg47 m);rw[e.2]at a;rw[e.1];show(by simp, .inr ⟨c,?_⟩);rcases a with⟨a,_⟩ | ⟨r,a,h3,h4⟩
  .simp at a
  .have : r=Tx.dg b:=by simpa using a.symm
   show(h3,by rw[h4,this])
theorem JkT{m:Nat}(h:m<10 ^ 60)(k:b<10 ^ 60):(bodyT m b).length<=121:=by
 have a:=Tx.dg_len 59 m h;have c:=Tx.dg_len 59 b k;unfold bodyT;split
 .ac_nf
 .simp;ac_nf
theorem Jgy{m:Nat}:(bodyT m b).head?≠some 45:=by
 unfold bodyT;split
 .show Tx.dg_head2 m
 .show Tx.head_app (Tx.dg_head2 m)
abbrev WD:=Str ⊕ Option (Int × Int)
def RdW(k w:Str):WD->Prop
 | .inl z=>k=Str.ofString "name"/\w=z/\nameS z=true
 | .inr o=>k=Str.ofString "bound"/\w=bdS o/\∀ a,o=some a->FB 190 190 a
def WV(K:W.Frag)(H:Hp):WD->V->Prop
 | .inl z,v=>v=.str z
 | .inr o,v=>BV K H o v
variable{H:Hp}{r:WD}
theorem WV.sameT{K:W.Frag}{H':Hp}{v:V}(S:SameT H H')(h:WV K H r v):WV K H' r v:=by
 cases r with
 | inl z=>show h
 | inr o=>show BV.sameT S h
theorem RdW.nb{k w:Str}(h:RdW k w r):32∉w.cps.toList:=by
 cases r with
 | inl z=>rw[h.2.1];show nm_nb h.2.2
 | inr o=>rw[h.2.1];show bd_nb o
structure RowR(z w0:Str)(ks ws:List Str)(rs:List WD)(F:List (Str × List Str)):Prop where
 jn:z=(⟨#[32]⟩:Str).join (w0::ws)
 l:z.length<=4000
 b0:32∉w0.cps.toList
 f:KTD.datumAt w0 F=some ks
 n1:ks.length=ws.length
 n2:rs.length=ws.length
 n6:ws.length<=6
 r:∀(i:Nat)(k w:Str)(r:WD),ks[i]?=some k->ws[i]?=some w->rs[i]?=some r->RdW k w r
theorem RowR.split{w0:Str}{ks:List Str}{rs:List WD}{F:List (Str × List Str)}(h:RowR z w0 ks ws rs F):Txt.split z ⟨#[32]⟩=w0::ws:=by
 rw[h.jn];show JfO (by simp) λw a=>?_;rcases mem_cons.mp a with rfl | a
 .show h.b0
 .let(i,b):=List.getElem?_of_mem a;have c:=(List.getElem?_eq_some_iff.mp b).1;show(h.r i _ w _ (List.getElem?_eq_getElem (h.n1 ▸ c)) b (List.getElem?_eq_getElem (h.n2 ▸ c))).nb
theorem JfP{c:Int × Int}{m n:Int}(ha:1<=a.2)(hc:1<=c.2)(h1:a.2<=m)(h2:c.2<=n):(addF a c).2<=m*n:=by
 have e:0<a.2*c.2:=Int.mul_pos ∅ ∅;have h:=Mth.bot_le (t:=a.1*c.2+c.1*a.2) (b:=a.2*c.2) ∅;have d:a.2*c.2<=m*n:=Int.mul_le_mul h1 h2 ∅ ∅;show Mth.bot _ (a.2*c.2)<=_;ac_nf
theorem FB.cut{A B n:Nat}(h:FB A B a)(k:a.2<2 ^ n):FB A n a:=⟨h.s1, .lit (by have:=h.b1;have : (0:Int)<2 ^ n:=Int.pow_pos ⋯;ac_nf) k,h.b1,h.g1⟩
def nm8L:List Str:=(List.range 8).map λm=>(⟨#[97+m]⟩:Str)
theorem Jl1:∀ z∈nm8L,nameS z=true:=by decide
theorem JiE{k:Nat}(h:k<8):nm8L[k]?=some (⟨#[97+k]⟩:Str):=by
 unfold nm8L;rw[List.getElem?_map,List.getElem?_range h];rfl
theorem JmJ{k:Nat}(h:k<8):∃ r,Builtin.Str.occurrences (Str.ofString "abcdefgh") (⟨#[97+k]⟩:Str) 0 (Str.ofString "abcdefgh").length 1=k::r:=by
 rcases StrLaws.occ_head (Str.ofString "abcdefgh") ⟨#[97+k]⟩ 1 (Nat.le_refl 1)with⟨h0,hn⟩ | ⟨i,r,h0,a,hn⟩
 .show absurd ((StrLaws.subAt_one (Str.ofString "abcdefgh") (97+k) k).mpr (by
   rw[show(Str.ofString "abcdefgh").cps.toList=range' 97 8 from by decide,List.getElem?_range' ∅];simp)) (hn k)
 .have a:=(StrLaws.subAt_one (Str.ofString "abcdefgh") (97+k) i).mp a;rw[show(Str.ofString "abcdefgh").cps.toList=range' 97 8 from by decide]at a;have b:=(List.getElem?_eq_some_iff.mp a).1;rw[List.length_range']at b;rw[List.getElem?_range' ∅]at a;have : i=k:=by simp at a;ac_nf
  subst this;show(r,h0)
theorem JlZ{α:Type}:∀(fs:List Str)(ls:List α)(i:Nat)(f:Str)(a : α),fs.Nodup->fs[i]?=some f->ls[i]?=some a->lk (fs.zip ls) f=some a
 | [],_,i,f,a,_,h,_=>by simp at h
 | _::_,[],i,f,a,_,_,h=>by simp at h
 | f0::fs,l0::ls,0,f,a,_,h,k=>by
  cases h;cases k;rw[List.zip_cons_cons];show if_pos rfl
 | f0::fs,l0::ls,i+1,f,a,nd,h,k=>by
  rw[List.getElem?_cons_succ]at h k;rw[nodup_cons]at nd;rw[List.zip_cons_cons];unfold lk;rw[if_neg (λ(e:f0=f)=>nd.1 (e ▸ List.mem_of_getElem? h))];show JlZ fs ls i f a nd.2 h k
def plcL(ls:List (Int × Int))(f:Str):Rat:=((lk (faceL.zip ls) f).map vl).getD 0
variable{ls:List (Int × Int)}{i:Nat}
theorem Jkm{f:Str}(h:faceL[i]?=some f)(k:ls[i]?=some a):plcL ls f=vl a:=by
 unfold plcL;rw[JlZ faceL ls i f a ⋯ h k];rfl
structure TG8(z:Bool)(ls:List (Int × Int))(t:TD):Prop where
 ok:TOk t
 nm:t.nm∈nm8L
 ex:∃(i j:Nat)(li lj A:Int × Int),faceL[i]?=some t.st/\faceL[j]?=some t.en/\ls[i]?=some li/\ls[j]?=some lj/\1<=A.2/\(z=true->vl A=vl lj-vl li)/\okB t.lo t.hi A=true
 lo:∀ u,t.lo=some u->FB 160 9 u
 hi:∀ u,t.hi=some u->FB 160 9 u
variable{z:Bool}
theorem TG8.weak{t:TD}(h:TG8 z ls t):TG8 false ls t:=by
 let(i,j,d,c,A,k,f,a,b,e,_,g):=h.ex;show(h.ok,h.nm,⟨i,j,d,c,A,k,f,a,b,e,(λz=>by cases z),g⟩,h.lo,h.hi)
theorem TG8.fb{t:TD}(h:TG8 z ls t):∀ s∈Ch.steps t,FB 200 9 s.c:=λs a=>by
 unfold Ch.steps fwd bwd at a;rcases mem_append.mp a with a | a
 .cases e:t.hi with
  | none=>rw[e]at a;cases a
  | some u=>
   rw[e]at a;rw[mem_singleton.mp a];show(h.hi u e).mono ⋯ ⋯
 .cases e:t.lo with
  | none=>rw[e]at a;cases a
  | some u=>
   rw[e]at a;rw[mem_singleton.mp a];show((h.lo u e).neg).mono ⋯ ⋯
theorem TG8.pot{t:TD}(h:TG8 true ls t):∀ s∈Ch.steps t,plcL ls s.dst<=plcL ls s.src+vl s.c:=λs a=>by
 let(i,j,w,v,A,p,q,m,r,g,o,b):=h.ex;have f:=o rfl;have k:=Jkm p m;have l:=Jkm q r;unfold okB at b;rw[Bool.and_eq_true]at b;unfold Ch.steps fwd bwd at a;rcases mem_append.mp a with a | a
 .cases e:t.hi with
  | none=>rw[e]at a;cases a
  | some u=>
   rw[e]at a b;rw[mem_singleton.mp a];show plcL ls t.en<=plcL ls t.st+vl u;rw[k,l];have n:¬ vl u<vl A:=λz=>by
    have:=(JdG (h.hi u e).b1 g).mpr z;have d:(!lessF u A)=true:=b.2;rw[this]at d;cases d
   rw[f]at n;have n:=Rat.not_lt.mp n;grind
 .cases e:t.lo with
  | none=>rw[e]at a;cases a
  | some u=>
   rw[e]at a b;rw[mem_singleton.mp a];show plcL ls t.st<=plcL ls t.en+vl (negF u);rw[k,l,Jd6];have n:¬ vl A<vl u:=λz=>by
    have:=(JdG g (h.lo u e).b1).mpr z;have d:(!lessF A u)=true:=b.1;rw[this]at d;cases d
   rw[f]at n;have n:=Rat.not_lt.mp n;grind
structure G8(z:Bool)(ls:List (Int × Int))(ts:List TD):Prop where
 all:∀ t∈ts,TG8 z ls t
 nd:(nms ts).Nodup
variable{ts:List TD}
theorem G8.put{t:TD}(g:G8 z ls ts)(h:TG8 z ls t):G8 z ls (putT ts t) where
 nd:=by
  by_cases c:t.nm∈nms ts
  .rw[Jlu c];show g.nd
  .unfold putT;rw[if_neg c];unfold nms;rw[map_append,nodup_append];show(g.nd,by simp,λa i b f=>?_);rw[map_cons,map_nil,mem_singleton]at f;rw[f];showλe=>c (e ▸ i)
 all:=λu d=>by
  rcases Jlt d with rfl | d
  .show h
  .show g.all u d
theorem G8.drop{n:Str}(g:G8 z ls ts):G8 z ls (dropT ts n) where
 nd:=by
  have : (nms (dropT ts n)).Sublist (nms ts):=List.Sublist.map _ List.filter_sublist;show g.nd.sublist this
 all:=λu a=>g.all u (List.mem_filter.mp a).1
theorem G8.bkh(g:G8 z ls ts):BkH ts faceL/\ts.length<=8:=by
 have b:ts.length<=8:=by
  have:=sub_len (nms ts) nm8L g.nd λx d=>by
   let(t,a,rfl):=mem_map.mp d;show(g.all t a).nm
  have e:nm8L.length=8:=by decide
  unfold nms at this;rw[length_map]at this;ac_nf
 show(⟨by ac_nf,λt a=>(g.all t a).ok,JlI λt a=>(g.all t a).fb,by decide,λt a=>?_⟩,b);let(i,j,_,_,_,f,c,_):=(g.all t a).ex;show(List.mem_of_getElem? f,List.mem_of_getElem? c)
theorem G8.pot(g:G8 true ls ts):∃ π,Pot π (ssD ts):=by
 let(c,b):=bDok g.bkh.1;show(_,Jn8 c b (JlI λt a=>(g.all t a).pot))
theorem Jna{R:List SpS}(h:Rng (ssD ts) R)(h1:1<=bD_ ts)(hb:∀ s∈Ch.all ts,1<=s.c.2/\s.c.2∣bD_ ts):(cs R).1<0:=by
 let(e,g):=Jjz (b:=bD_ ts) λs f=>ss_wh hb s (h.mem s f);show Int.not_le.mp λz=>?_;have d:=(vl_nn g).mpr z;have a:(0:Rat)<=(bD_ ts:Rat):=by
  have : (0:Int)<=bD_ ts:=by ac_nf
  exact_mod_cast this
 have:=Rat.mul_nonneg d a;rw[e]at this;have i:(0:Int)<=wgt R:=by exact_mod_cast this
 have:=h.neg;ac_nf
variable{z:Str}{b:Bool}
theorem stw1(h:nameS y=true)(k:nameS z=true):decide (stS y b=z)=(decide (y=z)&&b):=by
 rw[Bool.eq_iff_iff];simp only[decide_eq_true_iff,Bool.and_eq_true];constructor
 .intro e;have:=Jl7 (b:=b) (c:=true) h k e;show this
 .rintro⟨rfl,rfl⟩;rfl
theorem stw2(h:nameS y=true)(k:nameS z=true):decide (stS y b=Str.ofString "-"++z)=(decide (y=z)&&!b):=by
 rw[Bool.eq_iff_iff];simp only[decide_eq_true_iff,Bool.and_eq_true,Bool.not_eq_true'];constructor
 .intro e;show Jl7 (b:=b) (c:=false) h k e
 .rintro⟨rfl,rfl⟩;rfl
variable{j:Nat}
theorem nd_ne{s t:TD}(h:(nms ts).Nodup)(hi:ts[i]?=some s)(hj:ts[j]?=some t)(n:i≠j):s.nm≠t.nm:=λe=>by
 have a:(nms ts)[i]?=some s.nm:=by unfold nms;rw[List.getElem?_map,hi];rfl
 have b:(nms ts)[j]?=some t.nm:=by unfold nms;rw[List.getElem?_map,hj];rfl
 rcases Nat.lt_or_gt_of_ne n with l | l
 .show JeI h b i l (by rw[a,e])
 .show JeI h a j l (by rw[b,e])
def Jn3(K:W.Frag)(xs:List V)(H:Hp)(Q:VK):Prop:=∃(l:Addr)(ss:List Str),xs=[.ref l]/\SqL K H l (ss.map V.str)/\ss.length<=1000/\(∃ F:List Str,F.length<64/\∀ z∈ss,z∈F)/\(∀ z∈ss, ∃ y∈ss,y≠z)/\∀ p out,H p=none->out.Nodup->(∀ z,z∈out↔z∈ss)->sortedS out=true->Q (.ref p) (upd H p (.lst (out.map V.str)))
theorem Je5{e:Expr}{t:TA}{p1 p2 pos2:Pos}{x:Str}(hc:X.calm=true)(hx:x="sorted")(hy:y="set")(hg:Gl X x)(hm:X.mg x=none)(hv:bootBuiltins x=some (.builtin "sorted"))(hg2:Gl X y)(hm2:X.mg y=none)(hv2:bootBuiltins y=some (.type "set"))(ha:PA X [e] t)
  (he:autoParam (starEach [e] X.env=(false,eval e X.env)::starEach [] X.env) Au) :
  PE X (.Call (.Name x p1) [.Call (.Name y p2) [e] [] pos2] [] pos) (tCB (Jn3 X.K) t):=by
 intro A s σ H Q I h;have nx:x≠"__name__":=by rw[hx];decide
 have ny:y≠"__name__":=by rw[hy];decide
 have dx:(x == ("__debug__" : Str))=false:=by rw[hx];decide
 have dy:(y == ("__debug__" : Str))=false:=by rw[hy];decide
 show wpAny_Call_Name_kw (JcV I hg hm hv ?_ nx dx);show PyProof.Rows.callWith_builtin1 ?_ rfl rfl;show wpAny _ _ (spliced ((false,eval (.Call (.Name y p2) [e] [] pos2) X.env)::backTo pos (starEach [] X.env))) _ _ s;show Calls.spliced_cons ?_;show wpAny_Call_Name_kw (JcV I hg2 hm2 hv2 ?_ ny dy);show PyProof.Rows.callWith_type1 (thn (ha pos2 A s σ H _ I h) λus B ζ=>?_) he rfl;let(vs,H1,I1,r1,q1):=ζ;let(l,ss,rfl,hl,a0,(F,hF,T),h2,q):=q1;let(u,rfl,rx):=vals1 r1;cases rx;let(Z,ri,pl,S):=I1.list hl;have hs:=Jff ri;have ls:=hs.length;have Y:=I1.ok.hd hc;have sb:(1002:Nat)<scanBound:=by decide
 show Jfi Y pl.isList (ss:=ss) (by simpa using hs) (by rw[size_toArray];ac_nf) λL tk R k et=>Calls.spliced_nil ?_;have sz:Z.toArray.size=ss.length:=by rw[size_toArray];show ls
 rw[sz]at R;have v:∀ z,z∈met (λi=>ss.getD i ⟨#[]⟩) ss.length↔z∈ss:=λz=>by
  rw[Jj4];constructor
  .rintro⟨j,J,rfl⟩;rw[List.getD_eq_getElem?_getD,List.getElem?_eq_getElem J];show List.getElem_mem J
  .intro S;let(j,J):=List.getElem?_of_mem S;show(j,(List.getElem?_eq_some_iff.mp J).1,by rw[List.getD_eq_getElem?_getD,J];rfl)
 have ml:=JhE (λi=>ss.getD i ⟨#[]⟩) ss.length;have a2:=sub_len (met (λi=>ss.getD i ⟨#[]⟩) ss.length) F (JiB _ _) λz S=>T z ((v z).mp S);have O:∀ d f (c:Array Value) a C,(∀ b o,L.get? b=some o->d.heap.get? b=some o)->d.gens=B.gens->d.os=B.os->L.objs.size<=f->d.heap.get? f=some (seqObj "list" c C)->StrsAre c.toList a->a.Perm (met (λi=>ss.getD i ⟨#[]⟩) ss.length)->sortedS a=true->EP X A σ Q (.ref f) d:=λd f c a C M N G g D m E p=>by
  have kk:∀ b o,B.heap.get? b=some o->d.heap.get? b=some o:=λb o e=>M b o (k b o e);have P:B.heap.objs.size<=f:=by
   have : B.heap.objs.size<L.objs.size:=by
    let(es,ep,tt,D,_):=R;show Heap.lt_size D
   show Nat.le_of_lt (Nat.lt_of_lt_of_le this g)
  have nd:a.Nodup:=E.nodup_iff.mpr (JiB _ _);have lo:a.length<=sizeLine:=by
   have : (1000:Nat)<=sizeLine:=by decide
   rw[E.length_eq];ac_nf
  show(.ref f,_,Inv.like (s:=B) (I1.laid (t':=d.toks) (o:=.lst (a.map V.str)) kk P (show ObjOk X.prog X.w _ d.heap f (.lst (a.map V.str))from⟨by rw[length_map];show lo,c.toList,C,Jfg m,by rw[Array.toArray_toList];show D⟩)) N G,rfl,q f a (I1.hok.fresh P) nd (λz=>(E.mem_iff).trans (v z)) p)
 have a4:=JiB (λi=>ss.getD i ⟨#[]⟩) ss.length;generalize met (λi=>ss.getD i ⟨#[]⟩) ss.length=ms at *;match hm:ms with
 | []=>
  let(es,ep,tt,D,a3,U,_,hf,_):=R;have e0:es=#[]:=by
   have:=U.length_eq;rw[length_map,Array.length_toList]at this;show Array.eq_empty_of_size_eq_zero (by rw[this];rfl)
  subst e0;show Jib (s:={ B with heap:=L,toks:=tk }) Y D hf λd f c a C M N G W g a1 m E p=>O d f c a C M N G g a1 m E p
 | [x]=>
  let(y,hy,n):=h2 x ((v x).mp mem_cons_self);show absurd (mem_singleton.mp ((v y).mpr hy)) n
 | x::y::r=>show Jji (s:={ B with heap:=L,toks:=tk }) Y R (by simp) ∅ λd f c a C M N G W g D m E p=>O d f c a C M N G g D m E p
def rSlW(K:W.Frag):V->Option Int->Option Int->Hp->VK->Prop:=λx lo hi H Q=>rSlL K x lo hi H Q\/rSlS x lo hi H Q
theorem sl_W:SlR X (rSlW X.K):=SlR.or Jne Jn6
section
variable{Q:VK}{K:W.Frag}
theorem slWl{a:Addr}{xs:List V}(h:SqL K H a xs)(hj:j<=xs.length)(q:∀ p H1,Same H H1->H1 p=some (.lst (xs.drop j))->H p=none->Q (.ref p) H1):rSlW K (.ref a) (some (j:Int)) none H Q :=
 .inl ⟨a,xs,rfl,h,by rw[JkW hj];showλp b=>q p _ (newS b rfl) (newE rfl) b⟩
theorem slWs(hz:z.length<=sizeLine)(hj:j<=z.length)(q:Q (.str ⟨(z.cps.toList.drop j).toArray⟩) H):rSlW K (.str z) (some (j:Int)) none H Q:=by
 show .inr ⟨z,rfl,hz,?_⟩;have a:z.cps.toList.length=z.length:=by simp[Str.length]
 have e:Txt.slice z (some (j:Int)) none=⟨(z.cps.toList.drop j).toArray⟩:=by
  show Eq.trans (StrLaws.sliceText_from (x:=z) (i:=j) ⟨Int.natCast_nonneg _,by ac_nf⟩) ?_
  congr 1
  congr 1
  rw[take_of_length_le (by simp only[List.length_drop];ac_nf)];simp
 rw[e];show q
end
theorem Jhj(h:∀ t∈ts,TOk t):∀ z∈ts.map (·.st)++ts.map (·.en), ∃ y∈ts.map (·.st)++ts.map (·.en),y≠z:=λz b=>by
 rcases mem_append.mp b with b | b
 .let(t,a,rfl):=mem_map.mp b;show(t.en,mem_append_right _ (mem_map.mpr ⟨t,a,rfl⟩),(h t a).ne.symm)
 .let(t,a,rfl):=mem_map.mp b;show(t.st,mem_append_left _ (mem_map.mpr ⟨t,a,rfl⟩),(h t a).ne)
end L2
open PySem L2
local macro_rules|`(tactic|rename_i $p:ident $h:ident $q:ident $H:ident $G:ident $S:ident $e:ident)=>`(tactic|(intro $p:ident $h:ident;generalize $q:ident:upd $H $p _=$G;have $S:ident:=newS $h $q;have $e:ident:=newE $q))
local macro_rules|`(tactic|bv_decide)=>`(tactic|exact ⟨rfl,rfl,rfl,by decide +kernel,rfl,by decide +kernel,by decide +kernel⟩)
local macro_rules|`(tactic|simpa! only [$xs,*])=>do let l<-(("y55y y57y y80y y2by y7by y8fy y4ay y2fy y87y ya7y y31y y3fy y81y y30y y9ay y23y y29y y88y y83y y2ay y89y y85y y65y ya9y y26y y98y y7fy y78y y4fy y77y y8cy y34y y4dy y7dy y4ey y7ey ya1y y72y y6ey ya3y ya5y y25y y24y yby yay y15y y17y y6y y5y y1y y10y y1ay y1dy y1fy y21y y1ey y22y y96y y8by y82y y5ey y70y y71y y53y y54y y97y y9ey y8dy y27y V.int.injEq V.str.injEq V.bl.injEq y60y y63y y2dy y6dy y84y y73y y75y y40y y49y y45y y35y y43y y47y y67y y58y y5ay ya8y y48y y8ey y74y y2cy y95y y51y yaey y91y ya6y y69y y6ay y61y y59y y3ey".splitOn " ").map (`L2++·.toName)++("true_and if_true if_false Bool.not_true Bool.not_false Bool.false_eq_true List.set_cons_zero List.set_cons_succ List.getElem?_cons_zero List.getElem?_cons_succ Option.some.injEq exists_eq_left exists_eq_left' Int.reduceToNat Int.reducePow append_nil List.nil_append cons_append reduceCtorEq decide_false decide_true".splitOn " ").map (·.toName)).toArray.mapM fun s=>`(Lean.Parser.Tactic.simpLemma|$(Lean.mkIdent s):term);`(tactic|simp only [$(Array.append (l.map fun x=>⟨x.raw⟩) xs.getElems),*])
local macro_rules|`(tactic|mstop)=>`(tactic|simpa! only [y93y])
local macro_rules|`(tactic|mstart)=>`(tactic|simpa! only [y93y,y50y])
local macro_rules|`(tactic|cutsat)=>`(tactic|simpa! only [y93y,y94y])
local macro_rules|`(tactic|simp_all only [$xs,*])=>`(tactic|((try simpa! only [$xs,*]);repeat ((first|(with_reducible refine Jgm fun _ _=>?_)|(with_reducible refine Nxt.go (by assumption) ?_));(try simpa! only [$xs,*]))))
local macro_rules|`(tactic|mvcgen)=>`(tactic|simp_all only [y50y,y94y])
local macro_rules|`(tactic|mexact)=>`(tactic|simp_all only [y94y])
local macro_rules|`(tactic|mleave)=>`(tactic|simp_all only [y50y])
local macro_rules|`(tactic|cbv)=>`(tactic|simp_all only [true_and])
local macro_rules|`(tactic|mspec)=>`(tactic|(try ((with_reducible refine Nxt.go (by assumption) ?_);cbv)))
local macro_rules|`(tactic|mframe)=>`(tactic|(mspec;cbv))
local macro_rules|`(tactic|mpure)=>`(tactic|repeat (refine And.intro (by first | exact Jbj ⋯ | exact Jbl ⋯ | exact Jbk ⋯ | exact JaS ⋯ | exact Int.one_ne_zero | decide) ?_))
local macro_rules|`(tactic|simpa only [$xs,*])=>`(tactic|simpa! only [y93y, $xs,*])
namespace Prg
open PySem L2 Ch
variable{fd:FuncData}{dV:Value}{f:Addr}
def top(i:Nat):Stmt:=PySem.Challenge.pw_slackchain_k82_whole_rings_at_the_desk.main.body.getD i (.Pass ⟨0,0,0,0⟩)
set_option genInjectivity false in
structure Adr where
 SlackError:Addr
 Impossible:Addr
 Tie:Addr
 Free:Addr
 AtLeast:Addr
 AtMost:Addr
 Just:Addr
 Between:Addr
 Scale:Addr
 Step:Addr
 Book:Addr
 Joints:Addr
 Thing:Addr
 Desk:Addr
 SMALL_LETTERS:Value
 LONGEST_NAME:Value
 ZERO:Addr
 FIGURES:Value
 MOST_FIGURES:Value
 FORMS:Addr
 CHANGES:Addr
 LACKING:Value
structure TieC(K:W.Frag)(C:Addr):Prop where
 cls:Cls K C
 n1:Ja2 K C "name"
 n2:Ja2 K C "start"
 n3:Ja2 K C "end"
 n4:Ja2 K C "least"
 n5:Ja2 K C "greatest"
def IsTie(Ad:Adr)(C:Addr):Prop:=C=Ad.Free\/C=Ad.AtLeast\/C=Ad.AtMost\/C=Ad.Just\/C=Ad.Between
def TieV(H:Hp)(v:V)(C:Addr)(n s e l g:V):Prop:=∃ p dx,v=.ref p/\H p=some (.ins C dx (tieF n s e l g))
def kindC(Ad:Adr)(l g:D):Addr:=if nonD l then(if nonD g then Ad.Free else Ad.AtMost)else if nonD g then Ad.AtLeast else if eqD l g then Ad.Just else Ad.Between
theorem Jom(Ad:Adr)(l g:D):IsTie Ad (kindC Ad l g):=by
 unfold kindC IsTie;split
 .split
  .show .inl rfl
  .show .inr (.inr (.inl rfl))
 .split
  .show .inr (.inl rfl)
  .split
   .show .inr (.inr (.inr (.inl rfl)))
   .show .inr (.inr (.inr (.inr rfl)))
structure Jnn(K:W.Frag)(C:Addr):Prop where
 cls:Cls K C
 n1:Ja2 K C "bottom"
 n2:Ja2 K C "factors"
def Jhl(Ad:Adr)(C:Addr):Prop:=C=Ad.Scale
structure StepC(K:W.Frag)(C:Addr):Prop where
 cls:Cls K C
 n1:Ja2 K C "source"
 n2:Ja2 K C "target"
 n3:Ja2 K C "cost"
 n4:Ja2 K C "whole"
 n5:Ja2 K C "pair"
def Jnm(Ad:Adr)(C:Addr):Prop:=C=Ad.Step
structure Jmj(K:W.Frag)(C:Addr):Prop where
 cls:Cls K C
 n1:Ja2 K C "leads"
def JkS(Ad:Adr)(C:Addr):Prop:=C=Ad.Joints
structure Jno(K:W.Frag)(C:Addr):Prop where
 cls:Cls K C
 n1:Ja2 K C "parts_by_name"
 n2:Ja2 K C "gaps_by_name"
 n3:Ja2 K C "ways"
def Jmi(Ad:Adr)(C:Addr):Prop:=C=Ad.Thing
structure DeskC(K:W.Frag)(C:Addr):Prop where
 cls:Cls K C
 n1:Ja2 K C "book"
 n2:Ja2 K C "thing"
def JdH(Ad:Adr)(C:Addr):Prop:=C=Ad.Desk
variable{H:Hp}{x a C:Addr}
theorem SqT.put{K:W.Frag}{dx:Addr}{fs fs':List (Str × V)}{xs:List V}(hx:H x=some (.ins C dx fs))(h:SqT K H a xs):SqT K (upd H x (.ins C dx fs')) a xs:=by
 rcases h with(h | ⟨o,h⟩) | h
 .show .inl (.inl (by rw[Jai (ne_of h hx (by intro z;cases z))];show h))
 .show .inl (.inr ⟨o,by rw[Jai (ne_of h hx (by intro z;cases z))];show h⟩)
 .show .inr h
def partF(n s e z m w:V):List (Str × V):=[("name",n),("start",s),("end",e),("size",z),("most",m),("weight",w)]
def gapF(n s e l g:V):List (Str × V):=[("name",n),("one",s),("other",e),("low",l),("high",g)]
variable{H':Hp}{v:V}
theorem TieV.same{n s e l g:V}(S:Same H H')(h:TieV H v C n s e l g):TieV H' v C n s e l g:=by
 let(p,c,a,b):=h;show(p,c,a,S _ _ b)
structure BookC(K:W.Frag)(C:Addr):Prop where
 cls:Cls K C
 n1:Ja2 K C "by_name"
def JaP(Ad:Adr)(C:Addr):Prop:=C=Ad.Book
def Jdj:List (Str × List Str):=[("tie",["name","name","name","bound","bound"]),("part",["name","name","name","number","number","weight"]),("need",["name","name","name","number","number"]),("untie",["name"]),("measure",["name","number"]),("bound",["name","number","number"]),("possible",[]),("gap",["name","name"]),("ring",[]),("room",["name"]),("share",[]),("size",["name"])]
structure Txt(K:W.Frag)(mg:Str->Option Value)(Ad:Adr):Prop where
 Bde:mg "abs"=none
 Baw:mg "isinstance"=none
 BbL:mg "len"=none
 Bdn:mg "all"=none
 Bc3:mg "int"=none
 Bdo:mg "bool"=none
 Bc4:mg "tuple"=none
 Bc5:mg "str"=none
 BcM:mg "range"=none
 Bdc:mg "list"=none
 n_reversed:mg "reversed"=none
 Bcb:mg "sorted"=none
 n_set:mg "set"=none
 n_max:mg "max"=none
 n_dict:mg "dict"=none
 Bdq:mg "zip"=none
 n_enumerate:mg "enumerate"=none
 m_SlackError:mg "SlackError"=some (.ref Ad.SlackError)
 m_Impossible:mg "Impossible"=some (.ref Ad.Impossible)
 m_Tie:mg "Tie"=some (.ref Ad.Tie)
 m_Free:mg "Free"=some (.ref Ad.Free)
 m_AtLeast:mg "AtLeast"=some (.ref Ad.AtLeast)
 m_AtMost:mg "AtMost"=some (.ref Ad.AtMost)
 m_Just:mg "Just"=some (.ref Ad.Just)
 m_Between:mg "Between"=some (.ref Ad.Between)
 Bdr:mg "Scale"=some (.ref Ad.Scale)
 m_Step:mg "Step"=some (.ref Ad.Step)
 m_Book:mg "Book"=some (.ref Ad.Book)
 Bdp:mg "Joints"=some (.ref Ad.Joints)
 Bds:mg "Thing"=some (.ref Ad.Thing)
 m_Desk:mg "Desk"=some (.ref Ad.Desk)
 Bco:mg "SMALL_LETTERS"=some Ad.SMALL_LETTERS
 Bcp:RelV (.str "abcdefghijklmnopqrstuvwxyz") Ad.SMALL_LETTERS
 BcJ:mg "LONGEST_NAME"=some Ad.LONGEST_NAME
 BcK:RelV (.int 8) Ad.LONGEST_NAME
 Bc9:mg "ZERO"=some (.ref Ad.ZERO)
 Bda:RelV (.ref Ad.ZERO) (.ref Ad.ZERO)
 Bdb:∀ H:Hp,SqT K H Ad.ZERO [.int 0, .int 1]
 m_FIGURES:mg "FIGURES"=some Ad.FIGURES
 r_FIGURES:RelV (.str "0123456789") Ad.FIGURES
 m_MOST_FIGURES:mg "MOST_FIGURES"=some Ad.MOST_FIGURES
 r_MOST_FIGURES:RelV (.int 60) Ad.MOST_FIGURES
 m_FORMS:mg "FORMS"=some (.ref Ad.FORMS)
 r_FORMS:RelV (.ref Ad.FORMS) (.ref Ad.FORMS)
 q_FORMS:fDict K Ad.FORMS Jdj=true
 m_CHANGES:mg "CHANGES"=some (.ref Ad.CHANGES)
 r_CHANGES:RelV (.ref Ad.CHANGES) (.ref Ad.CHANGES)
 q_CHANGES:∀ H:Hp,SqT K H Ad.CHANGES [.str "tie", .str "part", .str "need", .str "untie", .str "measure", .str "bound"]
 m_LACKING:mg "LACKING"=some Ad.LACKING
 r_LACKING:RelV (.str "-") Ad.LACKING
 x_SlackError:W.excIn K Ad.SlackError [.type "ValueError", .type "Exception", .type "BaseException", .type "object"] "ValueError.__new__"=true
 tie:∀ C,IsTie Ad C->TieC K C
 BcN:∀ C,Jhl Ad C->Jnn K C
 c_Step:∀ C,Jnm Ad C->StepC K C
 Bdf:∀ C,JkS Ad C->Jmj K C
 Bdi:∀ C,Jmi Ad C->Jno K C
 c_Desk:∀ C,JdH Ad C->DeskC K C
 book:∀ C,JaP Ad C->BookC K C
 xa:ExcA K Ad.Impossible "around"
 xl:ExcL K Ad.Impossible "around"
 slk:SlkI K Ad.SlackError
 xc:JeL K Ad.Impossible Ad.Impossible
def Joo(dl dg:D)(a b:Int):Bool:=!lessD (.tup [.int a, .int b]) dl&&!lessD dg (.tup [.int a, .int b])
def negD:D->D
 | .tup [.int a, .int b]=>.tup [.int (-a), .int b]
 | d=>d
def Jl9(ds de dl dg:D):List D:=(if nonD dg then[]else[.tup [ds,de,dg, .bl true]])++(if nonD dl then[]else[.tup [de,ds,negD dl, .bl false]])
structure Bnd(K:W.Frag)(H:Hp)(d:D)(v:V):Prop where
 rep:Rep K H d v
 ok:Jjq d=true
 sz:szD d
variable{d:D}
theorem Bnd.same{K:W.Frag}(S:Same H H')(b:Bnd K H d v):Bnd K H' d v:=⟨b.rep.same S,b.ok,b.sz⟩
theorem Bnd.frac{K:W.Frag}(b:Bnd K H d v)(h:nonD d=false):∃ x y,d=.tup [.int x, .int y]/\1<=y/\Mth.g x y=1/\FrV K H v x y/\Mth.Sz 4000 x/\Mth.Sz 4000 y:=by
 have f:fracB d=true:=by have:=b.ok;cases d <;> first | show this | (simp[nonD]at h)
 let(x,y,rfl,e,c):=JiW f;have a:=b.sz;simp only[szD,szL]at a;show(x,y,rfl,e,c,FrV.of_rep b.rep,a.1,a.2.1)
section
variable{K:W.Frag}{z:Str}
theorem repS:Rep K H (.str z) (.str z):=by simp only[Rep]
end
theorem Jol(t:TD):Jl9 (.str t.st) (.str t.en) (bD t.lo) (bD t.hi)=(Ch.steps t).map pD:=by
 unfold Jl9 Ch.steps fwd bwd;cases t.lo <;> cases t.hi <;> simp[bD,frD,nonD,negD,pD]
theorem Jon{K:W.Frag}{o:Option (Int × Int)}(h:BV K H o v)(k:∀ a,o=some a->FOk 600 a):Bnd K H (bD o) v:=⟨h.rep,(bD_ok k).1,(bD_ok k).2⟩
def OV(K:W.Frag)(Ad:Adr)(H:Hp)(t:TD)(v:V):Prop:=∃ C vl vg,TieV H v C (.str t.nm) (.str t.st) (.str t.en) vl vg/\IsTie Ad C/\BV K H t.lo vl/\BV K H t.hi vg
variable{Ad:Adr}
theorem OV.same{K:W.Frag}{t:TD}(S:Same H H'):OV K Ad H t v->OV K Ad H' t v:=by rintro⟨C,vl,b,d,e,a,c⟩;show(C,vl,b,d.same S,e,a.sameT S.t,c.sameT S.t)
section
variable{p d:Addr}{kvs:List (Key × V)}{ts:List TD}{K:W.Frag}
def Sx(d:Addr)(H H':Hp):Prop:=∀ b u,b≠d->H b=some u->H' b=some u
theorem Same.sx(S:Same H H'):Sx d H H':=λb u _ h=>S b u h
theorem Sx.t(S:Sx d H H')(hd:H d=some (.dK kvs)):SameT H H':=λb u t h=>S b u (λz=>by rw[z,hd]at h;cases h;simp[isTF]at t) h
theorem OV.sx{t:TD}(S:Sx d H H')(hd:H d=some (.dK kvs)):OV K Ad H t v->OV K Ad H' t v:=λζ=>by let(C,vl,c,(q,g,e,a),h,b,f):=ζ;show(C,vl,c,⟨q,g,e,S _ _ (λz=>by rw[z,hd]at a;cases a) a⟩,h,b.sameT (S.t hd),f.sameT (S.t hd))
def BK(K:W.Frag)(Ad:Adr)(H:Hp)(p d:Addr)(ts:List TD):Prop:=(∃ dx,H p=some (.ins Ad.Book dx [("by_name", .ref d)]))/\∃ kvs,H d=some (.dK kvs)/\BD (OV K Ad H) ts kvs
theorem BK.same(S:Same H H')(h:BK K Ad H p d ts):BK K Ad H' p d ts:=by
 let((c,e),a,f,b):=h;show(⟨c,S _ _ e⟩,a,S _ _ f,b.mono λ_ _ z=>z.same S)
variable{l:Addr}{zs:List V}
theorem BK.sl(h:BK K Ad H p d ts)(hl:H l=some (.lst zs))(S:Sx l H H'):BK K Ad H' p d ts:=by
 let((f,g),a,i,m):=h;have j:SameT H H':=λb u t h=>S b u (λz=>by rw[z,hl]at h;cases h;simp[isTF]at t) h;show(⟨f,S _ _ (λz=>by rw[z,hl]at g;cases g) g⟩,a,S _ _ (λz=>by rw[z,hl]at i;cases i) i,m.mono ?_);intro t v z_;let(C,vl,k,(q,f,e,c),n,r,o):=z_;show(C,vl,k,⟨q,f,e,S _ _ (λz=>by rw[z,hl]at c;cases c) c⟩,n,r.sameT j,o.sameT j)
end
def SCK(Ad:Adr)(H:Hp)(x:Addr)(b:Int)(fs:List Int):Prop:=∃ dx fl,H x=some (.ins Ad.Scale dx [("bottom", .int b),("factors", .ref fl)])/\H fl=some (.lst (fs.map V.int))/\Scl b fs/\Mth.Sz 2000 b/\fs.length<=70
variable{b:Int}
theorem SCK.same{fs:List Int}(S:Same H H'):SCK Ad H x b fs->SCK Ad H' x b fs:=by rintro⟨e,c,f,d,a⟩;show(e,c,S _ _ f,S _ _ d,a)
def TOb(K:W.Frag)(Ad:Adr)(H:Hp)(t:TD)(v:V):Prop:=∃ vl vg,TieV H v (kindC Ad (bD t.lo) (bD t.hi)) (.str t.nm) (.str t.st) (.str t.en) vl vg/\BV K H t.lo vl/\BV K H t.hi vg
theorem TOb.same{K:W.Frag}{t:TD}(S:Same H H'):TOb K Ad H t v->TOb K Ad H' t v:=by
 rintro⟨vl,c,a,d,b⟩;show(vl,c,a.same S,d.sameT S.t,b.sameT S.t)
def SRV(K:W.Frag)(H:Hp)(s:SD)(x:V):Prop:=∃ b v,x=.ref b/\SqT K H b [.str s.nm,v]/\PV K H s v
variable{s:SD}{x:V}
theorem SRV.sameT{K:W.Frag}(S:SameT H H'):SRV K H s x->SRV K H' s x:=by
 rintro⟨b,v,d,c,a⟩;show(b,v,d,c.sameT S,a.sameT S)
def SOV(K:W.Frag)(Ad:Adr)(b:Int)(H:Hp)(s:SD)(x:V):Prop:=∃ p dx vc pr,x=.ref p/\H p=some (.ins Ad.Step dx [("source", .str s.src),("target", .str s.dst),("cost",vc),("whole", .int (s.c.1*b.fdiv s.c.2)),("pair", .ref pr)])/\FrV K H vc s.c.1 s.c.2/\H pr=some (.tup [.str s.nm, .bl s.fw])
theorem SOV.same{K:W.Frag}(S:Same H H'):SOV K Ad b H s x->SOV K Ad b H' s x:=by
 rintro⟨p,g,a,f,e,h,c,d⟩;show(p,g,a,f,e,S _ _ h,c.same S,S _ _ d)
def SOS(K:W.Frag)(Ad:Adr)(H:Hp)(s:SpS)(x:V):Prop:=∃ p dx vc pr,x=.ref p/\H p=some (.ins Ad.Step dx [("source", .str s.src),("target", .str s.tgt),("cost",vc),("whole", .int s.wh),("pair", .ref pr)])/\FrV K H vc s.cost.1 s.cost.2/\H pr=some (.tup [.str s.nm, .bl s.fw])
theorem SOS.same{K:W.Frag}{s:SpS}(S:Same H H'):SOS K Ad H s x->SOS K Ad H' s x:=by
 rintro⟨p,f,a,e,d,g,b,c⟩;show(p,f,a,e,d,S _ _ g,b.same S,S _ _ c)
def RI(a:Int)(v:V):Prop:=v=.int a
def chV:Option Str->V
 | none=>.non
 | some f=>.str f
def RT(K:W.Frag)(H0 H:Hp)(e:(Int × Int) × List SpS)(v:V):Prop:=∃ p qv l xs,v=.ref p/\SqT K H p [qv, .ref l]/\FrV K H qv e.1.1 e.1.2/\H l=some (.lst xs)/\All2 (CV H) (e.2.map λs=>(s.nm,s.fw)) xs/\H0 l=none
variable{H0:Hp}{e:(Int × Int) × List SpS}
theorem RT.same{K:W.Frag}(S:Same H H'):RT K H0 H e v->RT K H0 H' e v:=by
 rintro⟨p,d,l,h,f,i,a,b,g,c⟩;show(p,d,l,h,f,i.same S,a.same S,S _ _ b,(g.mono λ_ _ z=>z.sameT S.t),c)
theorem RT.putL{K:W.Frag}{o:HO}{kv:List (Key × V)}(u:upd H a o=H')(h:H a=some (.dK kv)):RT K H0 H e v->RT K H0 H' e v:=by
 rintro⟨p,f,l,j,k,i,c,b,g,d⟩;have T:SameT H H':=SameT.put u h rfl;have n:l≠a:=λz=>by rw[z,h]at b;cases b
 show(p,f,l,j,k,i.sameT T,c.sameT T,by rw[<- u,Jai n];show b,(g.mono λ_ _ z=>z.sameT T),d)
def RF(K:W.Frag)(H:Hp)(e:Int × Int)(v:V):Prop:=FrV K H v e.1 e.2
def TDk(K:W.Frag)(H0 H:Hp)(tb:Tab)(td:Addr):Prop:=∃ kt,H td=some (.dK kt)/\DV (RT K H0 H) tb kt/\H0 td=none
variable{tb:Tab}{td:Addr}
theorem TDk.same{K:W.Frag}(S:Same H H'):TDk K H0 H tb td->TDk K H0 H' tb td:=by rintro⟨c,b,d,a⟩;show(c,S _ _ b,d.mono λ_ _ z=>z.same S,a)
variable{H1:Hp}
theorem RT.base{K:W.Frag}(S:Same H1 H0):RT K H0 H e v->RT K H1 H e v:=by rintro⟨p,d,l,h,f,i,a,b,g,c⟩;show(p,d,l,h,f,i,a,b,g,JaF S c)
theorem TDk.base{K:W.Frag}(S:Same H1 H0):TDk K H0 H tb td->TDk K H1 H tb td:=by rintro⟨c,b,d,a⟩;show(c,b,d.mono λ_ _ z=>z.base S,JaF S a)
theorem Jn7{K:W.Frag}(h:SOV K Ad b H s x):SOS K Ad H (toS b s) x:=h
theorem Jgp{K:W.Frag}:∀{ss:List SD}{xs:List V},All2 (SOV K Ad b H) ss xs->All2 (SOS K Ad H) (ss.map (toS b)) xs
 | [],_,h=>h
 | s::ss,_,⟨x,r,e,h1,h2⟩=>⟨x,r,e,Jn7 h1,Jgp h2⟩
structure STp(K:W.Frag)(Ad:Adr)(H:Hp)(ts:List TD)(sL:Addr):Prop where
 ex:∃ sx,SqL K H sL sx/\All2 (SOS K Ad H) (ssD ts) sx
 b1:1<=bD_ ts
 bb:∀ s∈Ch.all ts,1<=s.c.2/\s.c.2∣bD_ ts
variable{ts:List TD}
theorem STp.same{K:W.Frag}{sL:Addr}(S:Same H H')(h:STp K Ad H ts sL):STp K Ad H' ts sL:=by
 let((d,c,e),a,b):=h;show(⟨d,c.same S,e.mono λ_ _ z=>z.same S⟩,a,b)
def PDk(K:W.Frag)(H:Hp)(pb:List (Str × (Int × Int)))(pd:Addr):Prop:=∃ kp,H pd=some (.dK kp)/\DV (RF K H) pb kp
theorem PDk.same{K:W.Frag}{pb:List (Str × (Int × Int))}{pd:Addr}(S:Same H H'):PDk K H pb pd->PDk K H' pb pd:=λ⟨b,c,a⟩=>⟨b,S _ _ c,a.mono λ_ _ z=>FrV.same S z⟩
def ShV(K:W.Frag)(H0 H:Hp)(e:(Int × Int) × List SpS)(pl:List (Str × (Int × Int)))(q:Addr):Prop:=∃ qv l cx zl zs,H q=some (.tup [qv, .ref l, .ref zl])/\FrV K H qv e.1.1 e.1.2/\H l=some (.lst cx)/\All2 (CV H) (e.2.map λs=>(s.nm,s.fw)) cx/\H0 l=none/\H zl=some (.lst zs)/\All2 (QV K H) pl zs/\H0 zl=none
theorem ShV.same{K:W.Frag}{pl:List (Str × (Int × Int))}{q:Addr}(S:Same H H'):ShV K H0 H e pl q->ShV K H0 H' e pl q:=by rintro⟨f,l,k,h,j,g,n,a,b,i,d,m,c⟩;show(f,l,k,h,j,S _ _ g,n.same S,S _ _ a,(b.mono λ_ _ z=>z.sameT S.t),i,S _ _ d,(m.mono λ_ _ z=>z.sameT S.t),c)
def DKs(K:W.Frag)(Ad:Adr)(H:Hp)(x p d:Addr)(ts:List TD):Prop:=(∃ dx t,H x=some (.ins Ad.Desk dx [("book", .ref p),("thing",t)]))/\BK K Ad H p d ts
variable{x p d:Addr}
theorem DKs.same{K:W.Frag}(S:Same H H')(h:DKs K Ad H x p d ts):DKs K Ad H' x p d ts:=by
 let((a,t,e),b):=h;show(⟨a,t,S _ _ e⟩,b.same S)
theorem DKs.sl{K:W.Frag}{l:Addr}{zs:List V}(h:DKs K Ad H x p d ts)(hl:H l=some (.lst zs))(S:Sx l H H'):DKs K Ad H' x p d ts:=by
 let((a,t,e),b):=h;show(⟨a,t,S _ _ (λz=>by rw[z,hl]at e;cases e) e⟩,b.sl hl S)
/-! rows of the desk -/
theorem row0{w:Str}(h:32∉w.cps.toList)(l:w.length<=4000)(f:PyProof.Rows.KTD.datumAt w Jdj=some []):RowR w w [] [] [] Jdj:=⟨Jco.symm,l,h,f,rfl,rfl,by decide,λi k w r h=>by cases h⟩
theorem row1{z:Str}(h:nameS z=true):RowR (Str.ofString "untie "++z) (Str.ofString "untie") [Str.ofString "name"] [z] [.inl z] Jdj:=by
 show(JbD ?_,?_,by decide,rfl,rfl,rfl,by show 1<=6;decide,λi k w r c b a=>?_)
 .rw[Jcp,Jco,JbJ,show(Str.ofString "untie ").cps.toList=(Str.ofString "untie").cps.toList++[32]from by decide,List.append_assoc];rfl
 .rw[strLen_append,show(Str.ofString "untie ").length=6 from by decide];have:=len8 h;ac_nf
 .match i,c,b,a with
  | 0,c,b,a=>cases c;cases b;cases a;show(rfl,rfl,h)
variable{a b:Str}
theorem row2(ha:nameS a=true)(hb:nameS b=true):RowR (((Str.ofString "gap "++a)++Str.ofString " ")++b) (Str.ofString "gap") [Str.ofString "name",Str.ofString "name"] [a,b] [.inl a, .inl b] Jdj:=by
 show(JbD ?_,?_,by decide,rfl,rfl,rfl,by show 2<=6;decide,λi k w r e d c=>?_)
 .rw[Jcp,Jcp,Jco,JbJ,JbJ,JbJ,show(Str.ofString "gap ").cps.toList=(Str.ofString "gap").cps.toList++[32]from by decide,show(Str.ofString " ").cps.toList=[32]from by decide];simp
 .rw[strLen_append,strLen_append,strLen_append,show(Str.ofString "gap ").length=4 from by decide,show(Str.ofString " ").length=1 from by decide];have:=len8 ha;have:=len8 hb;ac_nf
 .match i,e,d,c with
  | 0,e,d,c=>cases e;cases d;cases c;show(rfl,rfl,ha)
  | 1,e,d,c=>cases e;cases d;cases c;show(rfl,rfl,hb)
theorem row5{t:TD}(ok:TOk t)(h1:∀ u,t.lo=some u->FB 160 9 u)(h2:∀ u,t.hi=some u->FB 160 9 u):((bdS t.lo).length<=1401/\(bdS t.hi).length<=1401)/\RowR ((⟨#[32]⟩:Str).join [Str.ofString "tie",t.nm,t.st,t.en,bdS t.lo,bdS t.hi]) (Str.ofString "tie") [Str.ofString "name",Str.ofString "name",Str.ofString "name",Str.ofString "bound",Str.ofString "bound"] [t.nm,t.st,t.en,bdS t.lo,bdS t.hi] [.inl t.nm, .inl t.st, .inl t.en, .inr t.lo, .inr t.hi] Jdj:=by
 have f:=JfB λa e=>(h1 a e).mono (show 160<=1711 by decide) (show 9<=701 by decide);have g:=JfB λa e=>(h2 a e).mono (show 160<=1711 by decide) (show 9<=701 by decide);show(⟨f,g⟩,rfl,?_,by decide,rfl,rfl,rfl,by show 5<=6;decide,λi k w r b c d=>?_)
 .have:=JlX (ws:=[Str.ofString "tie",t.nm,t.st,t.en,bdS t.lo,bdS t.hi]);simp only[map_cons,map_nil,List.sum_cons,List.sum_nil,length_cons,length_nil,show(Str.ofString "tie").length=3 from by decide]at this;have:=len8 ok.n1;have:=len8 ok.n2;have:=len8 ok.n3;ac_nf
 .match i,b,c,d with
  | 0,b,c,d=>cases b;cases c;cases d;show(rfl,rfl,ok.n1)
  | 1,b,c,d=>cases b;cases c;cases d;show(rfl,rfl,ok.n2)
  | 2,b,c,d=>cases b;cases c;cases d;show(rfl,rfl,ok.n3)
  | 3,b,c,d=>cases b;cases c;cases d;show(rfl,rfl,λa h=>(h1 a h).mono ⋯ ⋯)
  | 4,b,c,d=>cases b;cases c;cases d;show(rfl,rfl,λa h=>(h2 a h).mono ⋯ ⋯)
theorem jn2:(⟨#[32]⟩:Str).join [a,b]=(a++Str.ofString " ")++b:=JbD (by
 rw[Jcp,Jco,JbJ,JbJ,show(Str.ofString " ").cps.toList=[32]from by decide];simp)
theorem DKs.put{K:W.Frag}{us:List TD}(h:DKs K Ad H x p d ts)(S:Sx d H H')(b:BK K Ad H' p d us):DKs K Ad H' x p d us:=by
 let((c,t,e),_,a,f,_):=h;show(⟨c,t,S _ _ (λz=>by rw[z,f]at e;cases e) e⟩,b)
section
variable{P:Program}{mg:Str->Option Value}{w:World}{K:W.Frag}{base:Heap}
seal PE PA PS PSs PT PW PG PGs PI PO
local macro_rules|`(%[$xs,*|0])=>do let r:Lean.Term<-xs.getElems.foldrM (fun x (a:Lean.Term)=>`(Jaa $x $a)) (<-`(Jad));return r
local macro_rules|`(!$n:num)=>`(pe_ix ix_U (pv $n) Jaf)
local macro_rules|`($k:num∘[$xs,*]∘$s)=>`(FnOk $(Lean.mkIdent `P) $(Lean.mkIdent `w) $(Lean.mkIdent `K) $(Lean.mkIdent `mg) $(Lean.mkIdent `base) (CX1 $(Lean.mkIdent `P) $(Lean.mkIdent `w)) $k $(Lean.mkIdent `f) $(Lean.mkIdent `fd) [$xs,*] $s)|`($k:num∘$n:str∘[$xs,*]∘$s)=>`(Cal $(Lean.mkIdent `P) $(Lean.mkIdent `w) $(Lean.mkIdent `K) $(Lean.mkIdent `mg) $(Lean.mkIdent `base) $k $n [$xs,*] [] $s)|`($k:num∘$n:str∘($c)∘[$xs,*]∘$s)=>`(MCal $(Lean.mkIdent `P) $(Lean.mkIdent `w) $(Lean.mkIdent `K) $(Lean.mkIdent `mg) $(Lean.mkIdent `base) $k $n $c [$xs,*] $s)|`($n:str∘$t:ident)=>`(FunD $(Lean.mkIdent `K) $n $n $t $(Lean.mkIdent `dV) $(Lean.mkIdent `f) $(Lean.mkIdent `fd))|`($n:str∘$q:str∘$t:ident)=>`(FunD $(Lean.mkIdent `K) $n $q $t $(Lean.mkIdent `dV) $(Lean.mkIdent `f) $(Lean.mkIdent `fd))
abbrev Bal:Stmt:=top 17
theorem JaQ:Jao ["one","other","greater","lesser","rest"] ["one","other"] (Jac Bal):=by bv_decide
def JaK  : Sp:=λvs H Q E=>∃(a b:Int),vs=[.int a, .int b]/\Q (.int (Mth.g a b)) H
theorem Jeh(F:"common_divisor"∘Bal)(T:Txt K mg Ad)  : 1∘["one","other"]∘(JaK):=by
 show F.okn JaQ (by subst_eqs) (λn A d s H o Q E r h=>?_)
 let(a,b,rfl,h):=h;have l:=r.units;show(_,(Jab (Jaj 2 JaQ.nd (Jau JdI rfl T.Bde Jij %[pv 0|0])) (Jab (Jaj 3 JaQ.nd (Jau JdI rfl T.Bde Jij %[pv 1|0])) (Jab (JdV PassesOwn.never (Jak (Jcg l) (pv 3) Jaf (Jar _)) (Jab (Jaj 4 JaQ.nd (pe_op JaB (pv 2) (pv 3))) (Jab (Jaj 2 JaQ.nd (pv 3)) (Jae (Jaj 3 JaQ.nd (pv 4)))))) (Jae (Jam (pv 2)))))),?_)
 clear l;show tSeq _ _ _ [some (.int a),some (.int b),none,none,none] H;try mstop
 show(λm σ k=>∃(x y:Int)(z:Option V),σ=[some (.int a),some (.int b),some (.int x),some (.int y),z]/\k=H/\0<=x/\0<=y/\Mth.g x y=Mth.g a b/\y.toNat=m,⟨_,_,_,none,rfl,rfl,Mth.Jig a,Mth.Jig b,Mth.Bdm a b,rfl⟩,?_);intro m σ k z_;let(x,y,z,rfl,rfl,t,p,j,rfl):=z_;try mstop
 by_cases c:y=0
 .subst c;rw[if_neg (by simp)];have e:Mth.g a b=x:=by rw[<- j,Mth.JlT];ac_nf
  rw[e]at h;show h
 .rw[if_pos (by simp[c])];have f:=Mth.fm (x:=x) (y:=y) ∅;show(_,λ_ _ q=>q,c,(x.fmod y).toNat,by ac_nf,y,x.fmod y,_,rfl,rfl,p,f.1,by rw[Mth.JjU ∅];show j,rfl)
abbrev BcL:Stmt:=top 18
theorem Jgj:Jao ["one","other","shared","top","rest"] ["one","other"] (Jac BcL):=by bv_decide
def Jfe(K:W.Frag):Sp:=λvs H Q E=>∃(x y:V)(a b c d:Int),vs=[x,y]/\FrV K H x a b/\FrV K H y c d/\Mth.Sz 4000 a/\Mth.Sz 4000 b/\Mth.Sz 4000 c/\Mth.Sz 4000 d/\1<=b/\1<=d/\Mth.g a b=1/\Mth.g c d=1/\∀ p H',Same H H'->H' p=some (.tup [.int (Mth.top (a*d+c*b) (b*d)), .int (Mth.bot (a*d+c*b) (b*d))])->Q (.ref p) H'
theorem JmM(F:"plus"∘BcL)(T:Txt K mg Ad)(Bac:1∘"common_divisor"∘["one","other"]∘(JaK)):2∘["one","other"]∘(Jfe K):=by
 show F.okn Jgj (by subst_eqs) (λI A m s H G Q E v h=>?_)
 let(x,y,a,b,c,d,rfl,h):=h;show(_,(Jab (Jaj 2 Jgj.nd (Bac.ev v ⋯ rfl passF %[!0,!1|0])) (Jab (Jaj 3 Jgj.nd (pe_op JaH (pe_op Ja4 (!0) (pe_op Jav (!1) (pv 2))) (pe_op Ja4 (!1) (pe_op Jav (!0) (pv 2))))) (Jab (Jaj 4 Jgj.nd (Bac.ev v ⋯ rfl passF %[pv 3,pv 2|0])) (Jae (Jam (JaN %[pe_op Jav (pv 3) (pv 4),pe_op Ja4 (pe_op Jav (!0) (pv 2)) (pe_op Jav (!1) (pv 4))|0])))))),?_)
 let(e,j,O,B,R,n,z,L,C,N,k):=h;show tSeq _ _ _ [some x,some y,none,none,none] H;try mstop
 show ixF1 e (ixF1 j ?_);try mstop
 show(_,_,rfl,?_);try mstop
 have Y:=Mth.g_pos (a:=b) (b:=d) ∅;have W:=Mth.JeT b d;have o:=Mth.JdM b d;have u:Mth.Sz 4000 (Mth.g b d):=Nat.lt_of_le_of_lt (by have:=Mth.g_le (a:=b) (b:=d) ∅;ac_nf:(Mth.g b d).natAbs<=d.natAbs) n;have dv:DivOk (Mth.g b d):=divOk ∅ u;have q:=B.fdiv W ∅;have V:=n.fdiv o ∅;show ixF0 e (ixF1 j ?_);try mstop
 show(dv,mulOk O V,ixF0 j (ixF1 e ?_));try mstop
 show(dv,mulOk R q,?_);show(_,_,rfl,?_);have l:=Mth.Jm2 z L C N (s:=Mth.g b d) rfl rfl rfl;generalize ht:a*d.fdiv (Mth.g b d)+c*b.fdiv (Mth.g b d)=t at l ⊢;have X:=Mth.g_pos (a:=t) (b:=Mth.g b d) ∅;have U:=Mth.JdM t (Mth.g b d);have D:Mth.Sz 4000 (Mth.g t (Mth.g b d)):=Nat.lt_of_le_of_lt (by have:=Mth.g_le (a:=t) (b:=Mth.g b d) ∅;ac_nf:(Mth.g t (Mth.g b d)).natAbs<=(Mth.g b d).natAbs) u;have r:DivOk (Mth.g t (Mth.g b d)):=divOk ∅ D;try mstop
 show(r,ixF1 e ?_);try mstop
 show(dv,ixF1 j ?_);try mstop
 show(r,mulOk q (n.fdiv (Int.dvd_trans U o) ∅),len2,?_);show Jj9 λp J S M=>k p J S ?_;rw[M,l.1,l.2]
abbrev Bcd:Stmt:=top 19
theorem Jlw:Jao ["one","other"] ["one","other"] (Jac Bcd):=by bv_decide
def JdZ(K:W.Frag):Sp:=λvs H Q E=>∃(x y:V)(a b c d:Int),vs=[x,y]/\FrV K H x a b/\FrV K H y c d/\Mth.Sz 4000 a/\Mth.Sz 4000 b/\Mth.Sz 4000 c/\Mth.Sz 4000 d/\1<=b/\1<=d/\Mth.g a b=1/\Mth.g c d=1/\∀ p H',Same H H'->H' p=some (.tup [.int (Mth.top (a*d-c*b) (b*d)), .int (Mth.bot (a*d-c*b) (b*d))])->Q (.ref p) H'
theorem Jlg(F:"minus"∘Bcd)(T:Txt K mg Ad)(Bcc:2∘"plus"∘["one","other"]∘(Jfe K)):3∘["one","other"]∘(JdZ K):=by
 show F.okn Jlw (by subst_eqs) (λn A e s H o Q E J h=>?_)
 let(x,y,a,b,c,d,rfl,h):=h;show(_,(Jae (Jam (Bcc.ev J ⋯ rfl passF %[pv 0,JaN %[pe_un Jdm (!1),!1|0]|0]))),?_);let(r,g,B,j,D,G,i,u,l,z,k):=h;show tRet _ _ [some x,some y] H;try mstop
 show ixF0 g ?_;try mstop
 show ixF1 g ?_;try mstop
 show(len2,?_);rename_i p I t H M S v;show(_,_,a,b, -c,d,rfl,r.same S,FrV.of v,B,j,D.neg,G,i,u,l,by rw[Mth.g_neg];show z,λL m q C=>k L m (S.trans q) ?_);rw[C,Int.neg_mul, <- Int.sub_eq_add_neg]
abbrev Bce:Stmt:=top 22
theorem Jlx:Jao ["one","other"] ["one","other"] (Jac Bce):=by bv_decide
def Jgq(K:W.Frag):Sp:=λvs H Q E=>∃(x y:V)(a b c d:Int),vs=[x,y]/\FrV K H x a b/\FrV K H y c d/\Mth.Sz 4000 a/\Mth.Sz 4000 b/\Mth.Sz 4000 c/\Mth.Sz 4000 d/\Q (.bl (decide (a*d<c*b))) H
theorem Jlh(F:"under"∘Bce)(T:Txt K mg Ad)  : 1∘["one","other"]∘(Jgq K):=by
 show F.okn Jlx (by subst_eqs) (λl A e s H m Q E q h=>?_)
 let(x,y,a,b,c,d,rfl,h):=h;show(_,(Jae (Jam (Jbc JdO (pe_op Ja4 (!0) (!1)) (pe_op Ja4 (!1) (!0)) (Jar _)))),?_);let(g,i,n,j,o,p,k):=h;show tRet _ _ [some x,some y] H;try mstop
 show ixF0 g (ixF1 i ?_);try mstop
 show(mulOk n p,ixF0 i (ixF1 g ?_));try mstop
 show(mulOk o j,k)
abbrev BbG:Stmt:=top 29
theorem Jjf:Jao ["thing"] ["thing"] (Jac BbG):=by bv_decide
def JcI(K:W.Frag):Sp:=λvs H Q E=>∃(z:Str),vs=[.str z]/\nameS z=true/\∀ H',Same H H'->Q (.bl true) H'
theorem Jja(F:"is_name"∘BbG)(T:Txt K mg Ad)  : 1∘["thing"]∘(JcI K):=by
 show F.okn Jjf (by subst_eqs) (λt A j s H u Q E M h=>?_)
 let(z,rfl,h):=h;show(_,(Jab (ps_if (JbH (Ja8 (Jau JaE rfl T.Baw JaW %[pv 0,JcZ (v:=.ty "str") rfl T.Bc5 JeP rfl|0]))) (Jae (Jam pe_bl))
   Jap) (Jab (ps_if (PW.pt (pw_or (Jak JdO (Jau JaD rfl T.BbL JbK %[pv 0|0]) Jaf (Jar _)) (JbP (Jak Jg4 (Jau JaD rfl T.BbL JbK %[pv 0|0]) (Jb0 (v:=.int 8) rfl T.BcJ T.BcK) (Jar _))))) (Jae (Jam pe_bl))
   Jap) (Jae (Jam (Jau (JgA rfl) rfl T.Bdn JlK %[Jcq (Jbi (own:=["sign"]) (cs:=[]) rfl (Jl5 (pv 0)) (λ_ _ _ _=>(Jas 0 (show[("sign" : Str)].Nodup by decide))) (λ_ _ _ _=>JbA) (λ_ _ _ _=>(Jbc (Jl3 (K:=K) rfl) (pv 0) (Jb0 (v:=.str "abcdefghijklmnopqrstuvwxyz") rfl T.Bco T.Bcp) (by with_unfolding_all rfl))) (Jce rfl) ⋯ rfl ⋯ hcs0)|0]))))),?_)
 let(b,k):=h;show tSeq _ _ _ [some (.str z)] H;cbv;have B:=len8 b;have n:z.length<=sizeLine:=Nat.le_trans B ⋯;unfold nameS at b;simp only[Bool.and_eq_true,decide_eq_true_eq]at b;let((I,C),a):=b
 mframe;show(n,?_);cbv;rw[if_neg (by simp;ac_nf)];cbv;show(n,?_);cbv;rw[if_neg (by simp;ac_nf)];cbv;cbv;simpa only[tComp,iStr];show(λi m l d=>d=H/\i<=z.cps.size/\m=z.cps.size-i/\l=(z.cps.toList.take i).map λc=>V.bl (lowB c),⟨_,rfl,Nat.zero_le _,rfl,by simp⟩,?_);rintro i m l d ⟨rfl,L,rfl,rfl⟩;have G:z.cps.size=z.length:=rfl;show(by simp;ac_nf,?_);by_cases e:i<z.cps.size
 .show .inr ⟨e,?_⟩;rintro x o ⟨rfl,c,y,rfl⟩;simpa only[length_singleton,List.replicate,JaJ,map_nil,y68y,JiZ];show(_,Nat.sub_lt_sub_left e (Nat.lt_succ_self i),e,rfl,?_);have g:z.cps.toList[i]?=some c:=by simpa using y
  rw[take_succ,g];simp
 .have q:i=z.cps.size:=by ac_nf
  show .inl ⟨q,?_⟩;subst q;rw[take_of_length_le (by simp)];rename_i p J D d o S r;show(p,z.cps.toList.map lowB,rfl,SqL.of (by rw[r,map_map];rfl),?_);have:=k o S;simpa[List.all_map,a]using this
abbrev Bbj:Stmt:=top 30
theorem Jh4:Jao ["thing"] ["thing"] (Jac Bbj):=by bv_decide
def JdB(K:W.Frag):Sp:=λvs H Q E=>∃(i:Int),vs=[.int i]/\Q (.bl true) H
theorem JhM(F:"is_whole"∘Bbj)(T:Txt K mg Ad)  : 1∘["thing"]∘(JdB K):=by
 show F.okn Jh4 (by subst_eqs) (λb A a s H c Q E d h=>?_)
 let(i,rfl,h):=h;show(_,(Jae (Jam (JdQ (Jau JaE rfl T.Baw JaW %[pv 0,JcZ (v:=.ty "int") rfl T.Bc3 JeN rfl|0]) (Jer (JiG (Jau JaE rfl T.Baw JaW %[pv 0,JcZ (v:=.ty "bool") rfl T.Bdo Jmo rfl|0])))))),?_);show tRet _ _ [some (.int i)] H;cbv;show h
abbrev BaC:Stmt:=top 31
theorem Jfx:Jao ["thing"] ["thing"] (Jac BaC):=by bv_decide
def Jcy(K:W.Frag):Sp:=λvs H Q E=>∃(x:V)(a b:Int),vs=[x]/\FrV K H x a b/\1<=b/\Mth.g a b=1/\Q (.bl true) H
theorem Jfo(F:"is_fraction"∘BaC)(T:Txt K mg Ad)(BbY:1∘"is_whole"∘["thing"]∘(JdB K))(Bac:1∘"common_divisor"∘["one","other"]∘(JaK)):2∘["thing"]∘(Jcy K):=by
 show F.okn Jfx (by subst_eqs) (λl A g s H m Q E d h=>?_)
 let(x,a,b,rfl,h):=h;have e:=d.units;show(_,(Jab (ps_if (PW.pt (pw_or (JbH (Ja8 (Jau JaE rfl T.Baw JaW %[pv 0,JcZ (v:=.ty "tuple") rfl T.Bc4 JfT rfl|0]))) (JbP (Jak (Jcg e) (Jau JaD rfl T.BbL JbK %[pv 0|0]) Jaf (Jar _))))) (Jae (Jam pe_bl))
   Jap) (Jab (ps_if (PW.pt (pw_or (JbH (Ja8 (BbY.ev d ⋯ rfl passF %[!0|0]))) (JbP (JbH (Ja8 (BbY.ev d ⋯ rfl passF %[!0|0])))))) (Jae (Jam pe_bl))
   Jap) (Jae (Jam (JdQ (Jbc JnT (!0) Jaf (Jar _)) (Jer (Jbc (JaM e) (Bac.ev d ⋯ rfl passF %[!0,!0|0]) Jaf (Jar _)))))))),?_)
 clear e;let((p,rfl,c),i,j,k):=h;show tSeq _ _ _ [some (.ref p)] H;cbv;show(_, .inr ⟨rfl,_,c⟩,?_)
 mframe;show(_, .inr c,?_);simpa only[length_cons,length_nil]
 (rw[if_neg (by simp)])
 cbv;show ixT0 c ?_;show(a,rfl,?_);cbv;show ixT1 c ?_;show(b,rfl,?_);cbv;show ixT1 c ?_;cbv;rw[if_pos (by simpa using i)];cbv;show ixT0 c (ixT1 c ?_);show(_,_,rfl,?_);cbv;simpa[j]using k
abbrev Bbk:Stmt:=top 32
theorem Jh3:Jao ["thing"] ["thing"] (Jac Bbk):=by bv_decide
def JdA(K:W.Frag):Sp:=λvs H Q E=>∃(x:V)(o:Option (Int × Int)),vs=[x]/\BV K H o x/\(∀ a,o=some a->FOk 600 a)/\Q (.bl true) H
theorem JhL(F:"is_bound"∘Bbk)(T:Txt K mg Ad)(BbM:2∘"is_fraction"∘["thing"]∘(Jcy K)):3∘["thing"]∘(JdA K):=by
 show F.okn Jh3 (by subst_eqs) (λe A c s H g Q E i h=>?_)
 let(x,o,rfl,h):=h;show(_,(Jae (Jam (pe_or (Jbc JaY (pv 0) Jaz (Jar _)) (Jer (BbM.ev i ⋯ rfl passF %[pv 0|0]))))),?_);let(b,d,k):=h;show tRet _ _ [some x] H;cbv;cases o with
 | none=>
  obtain rfl:x=.non:=b;cbv;show k
 | some a=>
  have b:FrV K H x a.1 a.2:=b;let(p,rfl,_):=id b;cbv;show(_,_,_,rfl,b,(d a rfl).b1,(d a rfl).g1,k)
abbrev Ba1:Stmt:=top 33
theorem Jg9:Jao ["one","other"] ["one","other"] (Jac Ba1):=by bv_decide
def Jc5(K:W.Frag):Sp:=λvs H Q E=>∃(z w:Str),vs=[.str z, .str w]/\nameS z=true/\nameS w=true/\z≠w/\∀ H',Same H H'->Q (.bl true) H'
theorem JgU(F:"are_faces"∘Ba1)(T:Txt K mg Ad)(BaO:1∘"is_name"∘["thing"]∘(JcI K)):2∘["one","other"]∘(Jc5 K):=by
 show F.okn Jg9 (by subst_eqs) (λi A a s H g Q E b h=>?_)
 let(z,w,rfl,h):=h;have c:=b.units;show(_,(Jae (Jam (JdQ (BaO.ev b ⋯ rfl passF %[pv 0|0]) (JdQ (BaO.ev b ⋯ rfl passF %[pv 1|0]) (Jer (Jbc (Jcg c) (pv 0) (pv 1) (Jar _))))))),?_);clear c;let(m,l,e,k):=h;show tRet _ _ [some (.str z),some (.str w)] H;cbv;show(z,rfl,m,λo n=>?_);cbv;show(w,rfl,l,λd j=>?_);cbv;have:=k d (n.trans j);simpa[e]using this
abbrev BaQ:Stmt:=top 34
theorem Jgi:Jao ["least","greatest"] ["least","greatest"] (Jac BaQ):=by bv_decide
def JcN(K:W.Frag):Sp:=λvs H Q E=>∃(x y:V)(l g:Option (Int × Int)),vs=[x,y]/\BV K H l x/\BV K H g y/\(∀ a,l=some a->FOk 600 a)/\(∀ a,g=some a->FOk 600 a)/\lessD (bD g) (bD l)=false/\Q (.bl true) H
theorem Jf7(F:"are_bounds"∘BaQ)(T:Txt K mg Ad)(BbZ:3∘"is_bound"∘["thing"]∘(JdA K))(Bc6:1∘"under"∘["one","other"]∘(Jgq K)):4∘["least","greatest"]∘(JcN K):=by
 show F.okn Jgi (by subst_eqs) (λt A e s H u Q E j h=>?_)
 let(x,y,l,g,rfl,h):=h;show(_,(Jab (ps_if (PW.pt (pw_or (JbH (Ja8 (BbZ.ev j ⋯ rfl passF %[pv 0|0]))) (JbP (JbH (Ja8 (BbZ.ev j ⋯ rfl passF %[pv 1|0])))))) (Jae (Jam pe_bl))
   Jap) (Jab (ps_if (PW.pt (pw_or (Jak JaY (pv 0) Jaz (Jar _)) (JbP (Jak JaY (pv 1) Jaz (Jar _))))) (Jae (Jam pe_bl))
   Jap) (Jae (Jam (JiG (Bc6.ev j ⋯ rfl passF %[pv 1,pv 0|0])))))),?_)
 let(c,d,o,n,i,k):=h;show tSeq _ _ _ [some x,some y] H;cbv;show(x,l,rfl,c,o,?_);cbv;show(y,g,rfl,d,n,?_);cbv
 mframe;cases l with
 | none=>
  obtain rfl:x=.non:=c;cbv;show k
 | some a=>
  have c:FrV K H x a.1 a.2:=c;let(p,rfl,_):=id c;cases g with
  | none=>
   obtain rfl:y=.non:=d;cbv;show k
  | some b=>
   have d:FrV K H y b.1 b.2:=d;let(q,rfl,_):=id d;have r:=o a rfl;have m:=n b rfl;cbv
   mframe;show(_,_,_,_,_,_,rfl,d,c,m.s1.mono ⋯,m.s2.mono ⋯,r.s1.mono ⋯,r.s2.mono ⋯,?_);cbv;have i:decide (b.1*a.2<a.1*b.2)=false:=by simpa[bD,frD,lessD]using i
   rw[i];show k
abbrev Bb0:Stmt:=top 35
theorem Jkx:Jao ["thing"] ["thing"] (Jac Bb0):=by bv_decide
def Jfd(K:W.Frag):Sp:=λvs H Q E=>∃(x:V)(t:TD),vs=[x]/\TV K H t x/\TOk t/\∀ H',Same H H'->Q (.bl true) H'
theorem Jkd(F:"is_tie"∘Bb0)(T:Txt K mg Ad)(BaO:1∘"is_name"∘["thing"]∘(JcI K))(Bb4:2∘"are_faces"∘["one","other"]∘(Jc5 K))(BbU:4∘"are_bounds"∘["least","greatest"]∘(JcN K)):5∘["thing"]∘(Jfd K):=by
 show F.okn Jkx (by subst_eqs) (λp A j s H q Q E e h=>?_)
 let(x,t,rfl,h):=h;have l:=e.units;show(_,(Jab (ps_if (PW.pt (pw_or (JbH (Ja8 (Jau JaE rfl T.Baw JaW %[pv 0,JcZ (v:=.ty "tuple") rfl T.Bc4 JfT rfl|0]))) (JbP (Jak (Jcg l) (Jau JaD rfl T.BbL JbK %[pv 0|0]) Jaf (Jar _))))) (Jae (Jam pe_bl))
   Jap) (Jae (Jam (JdQ (BaO.ev e ⋯ rfl passF %[!0|0]) (JdQ (Bb4.ev e ⋯ rfl passF %[!0,!0|0]) (Jer (BbU.ev e ⋯ rfl passF %[!0,!0|0]))))))),?_)
 clear l;let((a,vl,m,rfl,c,o,u),d,k):=h;show tSeq _ _ _ [some (.ref a)] H;cbv;show(_, .inr ⟨rfl,_,c⟩,?_);cbv;show(_, .inr c,?_);simpa only[length_cons,length_nil];rw[if_neg (by simp)];cbv
 mframe;show ixT (i:=0) c rfl ?_;cbv;show(t.nm,rfl,d.n1,λy g=>?_);cbv;show ixT (i:=1) (c.same g) rfl ?_;cbv;show ixT (i:=2) (c.same g) rfl ?_;cbv;show(t.st,t.en,rfl,d.n2,d.n3,d.ne,λn r=>?_);have b:=g.trans r;cbv;show ixT (i:=3) (c.same b) rfl ?_;cbv;show ixT (i:=4) (c.same b) rfl ?_;cbv;show(vl,m,t.lo,t.hi,rfl,o.sameT b.t,u.sameT b.t,d.lo,d.hi,d.le,k n b)
abbrev Bay:Stmt:=inClass (top 36) 0
theorem Jfa:Jao ["self","row"] ["self","row"] (Jac Bay):=by bv_decide
def Jax(K:W.Frag):Sp:=λvs H Q E=>∃(x C dx a:Addr)(n st en l g:V),vs=[.ref x, .ref a]/\H x=some (.ins C dx [])/\TieC K C/\SqT K H a [n,st,en,l,g]/\∀ H',H' x=some (.ins C dx (tieF n st en l g))->(∀ b,b≠x->H' b=H b)->Q .non H'
theorem Je2(F:"__init__"∘"Tie.__init__"∘Bay)(T:Txt K mg Ad)  : 1∘["self","row"]∘(Jax K):=by
 show F.okn Jfa (by subst_eqs) (λM A v s H J Q E U h=>?_)
 let(x,C,d,a,n,j,q,l,g,rfl,h):=h;show(_,(Jab (JbG (pv 0) (!1) rfl) (Jab (JbG (pv 0) (!1) rfl) (Jab (JbG (pv 0) (!1) rfl) (Jab (JbG (pv 0) (!1) rfl) (Jae (JbG (pv 0) (!1) rfl)))))),?_)
 let(y,e,t,k):=h;show tSeq _ _ _ [some (.ref x),some (.ref a)] H;try cutsat
 show ixT (i:=0) t rfl ?_;try cutsat
 show(x,C,d,_,rfl,y,e.cls,e.n1,by simp,?_);have r:=SqT.put (fs':=putF "name" n []) y t;generalize u1:upd H x _=H1 at r ⊢;have D:H1 x=some (.ins C d [("name",n)]):=by rw[<- u1];show Jat.trans rfl
 have I:∀ b,b≠x->H1 b=H b:=λb c=>by rw[<- u1,Jai c]
 try cutsat
 show ixT (i:=1) r rfl ?_;try cutsat
 show(x,C,d,_,rfl,D,e.cls,e.n2,by simp,?_);have o:=SqT.put (fs':=putF "start" j [("name",n)]) D r;generalize u2:upd H1 x _=H2 at o ⊢;have G:H2 x=some (.ins C d [("name",n),("start",j)]):=by rw[<- u2];show Jat.trans rfl
 have S:∀ b,b≠x->H2 b=H1 b:=λb c=>by rw[<- u2,Jai c]
 try cutsat
 show ixT (i:=2) o rfl ?_;try cutsat
 show(x,C,d,_,rfl,G,e.cls,e.n3,by simp,?_);have p:=SqT.put (fs':=putF "end" q [("name",n),("start",j)]) G o;generalize u3:upd H2 x _=H3 at p ⊢;have z:H3 x=some (.ins C d [("name",n),("start",j),("end",q)]):=by rw[<- u3];show Jat.trans rfl
 have N:∀ b,b≠x->H3 b=H2 b:=λb c=>by rw[<- u3,Jai c]
 try cutsat
 show ixT (i:=3) p rfl ?_;try cutsat
 show(x,C,d,_,rfl,z,e.cls,e.n4,by simp,?_);have m:=SqT.put (fs':=putF "least" l [("name",n),("start",j),("end",q)]) z p;generalize u4:upd H3 x _=H4 at m ⊢;have B:H4 x=some (.ins C d [("name",n),("start",j),("end",q),("least",l)]):=by rw[<- u4];show Jat.trans rfl
 have L:∀ b,b≠x->H4 b=H3 b:=λb c=>by rw[<- u4,Jai c]
 try cutsat
 show ixT (i:=4) m rfl ?_;try cutsat
 show(x,C,d,_,rfl,B,e.cls,e.n5,by simp,?_);have u:=SqT.put (fs':=putF "greatest" g [("name",n),("start",j),("end",q),("least",l)]) B m;generalize u5:upd H4 x _=H5 at u ⊢;have O:H5 x=some (.ins C d [("name",n),("start",j),("end",q),("least",l),("greatest",g)]):=by rw[<- u5];show Jat.trans rfl
 have R:∀ b,b≠x->H5 b=H4 b:=λb c=>by rw[<- u5,Jai c]
 try cutsat
 show k H5 O λb c=>by rw[R b c,L b c,N b c,S b c,I b c]
abbrev Bb1:Stmt:=top 42
theorem Jfb:Jao ["thing","least","greatest"] ["thing"] (Jac Bb1):=by bv_decide
def Jd0(K:W.Frag)(Ad:Adr):Sp:=λvs H Q E=>∃(x:V)(t:TD),vs=[x]/\TV K H t x/\TOk t/\∀ v H',Same H H'->OV K Ad H' t v->Q v H'
theorem Jke(F:"tie_of"∘Bb1)(T:Txt K mg Ad)(BcO:5∘"is_tie"∘["thing"]∘(Jfd K))(k_Free:KCal P w K mg base 1 "Free" Ad.Free ["self","row"] (Jax K))(k_AtLeast:KCal P w K mg base 1 "AtLeast" Ad.AtLeast ["self","row"] (Jax K))(k_AtMost:KCal P w K mg base 1 "AtMost" Ad.AtMost ["self","row"] (Jax K))(k_Just:KCal P w K mg base 1 "Just" Ad.Just ["self","row"] (Jax K))(k_Between:KCal P w K mg base 1 "Between" Ad.Between ["self","row"] (Jax K)):6∘["thing"]∘(Jd0 K Ad):=by
 show F.okn Jfb (by subst_eqs) (λV A z s H U Q E j h=>?_)
 let(x,t,rfl,h):=h;have O:=j.units;show(_,(Jab (ps_if (JbH (Ja8 (BcO.ev j ⋯ rfl passF %[pv 0|0]))) (Jae ps_no)
   Jap) (Jab (Jaj 1 Jfb.nd (!0)) (Jab (Jaj 2 Jfb.nd (!0)) (Jab (ps_if (PW.pt (Jci (Jak JaY (pv 1) Jaz (Jar _)) (JbR (Jak JaY (pv 2) Jaz (Jar _))))) (Jae (Jam (k_Free.ev j ⋯ rfl passF %[pv 0|0])))
   Jap) (Jab (ps_if (Jak JaY (pv 2) Jaz (Jar _)) (Jae (Jam (k_AtLeast.ev j ⋯ rfl passF %[pv 0|0])))
   Jap) (Jab (ps_if (Jak JaY (pv 1) Jaz (Jar _)) (Jae (Jam (k_AtMost.ev j ⋯ rfl passF %[pv 0|0])))
   Jap) (Jab (ps_if (Jak (JaM O) (pv 1) (pv 2) (Jar _)) (Jae (Jam (k_Just.ev j ⋯ rfl passF %[pv 0|0])))
   Jap) (Jae (Jam (k_Between.ev j ⋯ rfl passF %[pv 0|0])))))))))),?_)
 clear O;let(G,W,k):=h;show tSeq _ _ _ [some x,none,none] H;cbv;show(x,t,rfl,G,W,λg J=>?_);let(a,vl,l,rfl,p,m,c):=G.sameT J.t;have n:∀ C,IsTie Ad C->∀ x d,g x=none->g d=none->d≠x->Jax K [.ref x, .ref a] (upd (upd g d (.own x)) x (.ins C d [])) (λv S=>v=.non/\Q (.ref x) S) E0:=by
  intro C R x d N B X;have D:Same g (upd (upd g d (.own x)) x (.ins C d [])):=λb u q=>by rw[Jai (Jah q N),Jai (Jah q B)];show q
  show(x,C,d,a,_,_,_,vl,l,rfl,Jat,T.tie C R,p.same D,λM e o=>?_);have y:Same g M:=λb u q=>by rw[o b (Jah q N)];show D _ _ q
  show(rfl,k _ M (J.trans y) ⟨C,vl,l,⟨x,d,rfl,e⟩,R,m.sameT y.t,c.sameT y.t⟩)
 cbv
 mframe;show ixT (i:=3) p rfl ?_
 mframe;show ixT (i:=4) p rfl ?_
 mframe;cases hlo:t.lo with
 | none=>
  rw[hlo]at m;obtain rfl:vl=.non:=m;cases hhi:t.hi with
  | none=>
   rw[hhi]at c;obtain rfl:l=.non:=c;cbv;show n _ (.inl rfl)
  | some u=>
   rw[hhi]at c;let(q,rfl,_):=id (show FrV K g l u.1 u.2 from c);cbv
   mframe
   mframe;show n _ (.inr (.inr (.inl rfl)))
 | some w=>
  rw[hlo]at m;have L:FrV K g vl w.1 w.2:=m;let(r,rfl,_):=id L;cbv
  mframe;cases hhi:t.hi with
  | none=>
   rw[hhi]at c;obtain rfl:l=.non:=c;cbv;show n _ (.inr (.inl rfl))
  | some u=>
   rw[hhi]at c;have I:FrV K g l u.1 u.2:=c;let(q,rfl,_):=id I;cbv
   mframe
   mframe;show eqF L I ?_;cbv;split
   .cbv;show n _ (.inr (.inr (.inr (.inl rfl))))
   .have Y:=trivial
    mframe;show n _ (.inr (.inr (.inr (.inr rfl))))
abbrev Ba2:Stmt:=inClass (top 36) 3
theorem Jeu:Jao ["self","told"] ["self"] (Jac Ba2):=by bv_decide
def Jc4(K:W.Frag)(Ad:Adr):Sp:=λvs H Q E=>∃(v:V)(t:TD),vs=[v]/\OV K Ad H t v/\TOk t/\∀ p xs H',H p=none->Same H H'->H' p=some (.lst xs)->All2 (PV K H') (Ch.steps t) xs->Q (.ref p) H'
theorem JgT(F:"steps"∘"Tie.steps"∘Ba2)(T:Txt K mg Ad)(BbN:3∘"minus"∘["one","other"]∘(JdZ K)):4∘["self"]∘(Jc4 K Ad):=by
 show F.okn Jeu (by subst_eqs) (λa1 A Z s H vs Q E hr h=>?_)
 let(v,t,rfl,h):=h;show(_,(Jab (Jaj 1 Jeu.nd (Ja6 Jad)) (Jab (ps_if (Jak Jca (Jaw (pv 0) rfl) Jaz (Jar _)) (Jae (JaU (pe_bm PySem.F.plainAttrs_list PySem.F.slot_list_append PySem.F.type_list_append Jbf (pv 1) %[JaN %[Jaw (pv 0) rfl,Jaw (pv 0) rfl,Jaw (pv 0) rfl,pe_bl|0]|0] (hs:=by show Jag rfl))))
   Jap) (Jab (ps_if (Jak Jca (Jaw (pv 0) rfl) Jaz (Jar _)) (Jae (JaU (pe_bm PySem.F.plainAttrs_list PySem.F.slot_list_append PySem.F.type_list_append Jbf (pv 1) %[JaN %[Jaw (pv 0) rfl,Jaw (pv 0) rfl,BbN.ev hr ⋯ rfl passF %[Jb0 (v:=.ref _) rfl T.Bc9 T.Bda,Jaw (pv 0) rfl|0],pe_bl|0]|0] (hs:=by show Jag rfl))))
   Jap) (Jae (Jam (pv 1)))))),?_)
 let((C,l,g,(p,j,rfl,n),hC,M,L),ok,k):=h;have a:=T.tie C hC;have l3:(100000:Nat)<=sizeLine:=by decide
 show tSeq _ _ _ [some (.ref p),none] H;mleave;show(len0,?_);rename_i q e a0 H X x O;mleave
 (try ((with_reducible show Nxt.go (by assumption) ?_);mleave))
 mleave;show(p,C,j,_,g,rfl,x _ _ n,a.cls,a.n5,rfl,?_);mleave;rename_i N hN;have key:∀(G:List V)(d:Hp),Same H d->d q=some (.lst G)->G.length<=1->All2 (PV K d) (fwd t) G->N [some (.ref p),some (.ref q)] d:=by
  intro G d c I l1 hA
  (try ((with_reducible show Nxt.go (by assumption) ?_);mleave))
  mleave;show(p,C,j,_,l,rfl,c _ _ n,a.cls,a.n4,rfl,?_);mleave;have D:Ch.steps t=fwd t++bwd t:=rfl;unfold bwd at D;cases hlo:t.lo with
  | none=>
   rw[hlo]at M D;obtain rfl:l=.non:=M;mleave
   (try ((with_reducible show Nxt.go (by assumption) ?_);mleave))
   mleave;show k q G d e c I ?_;rw[D];simpa using hA
  | some u=>
   rw[hlo]at M D;have fl:FrV K d l u.1 u.2:=FrV.same c M;let(r,rfl,_):=id fl;have o:=ok.lo u hlo;mleave;show(.inl ⟨rfl,_,SqL.of I⟩,?_);show(p,C,j,_,_,rfl,c _ _ n,a.cls,a.n3,rfl,?_);show(p,C,j,_,_,rfl,c _ _ n,a.cls,a.n2,rfl,?_);show(p,C,j,_,_,rfl,c _ _ n,a.cls,a.n4,rfl,?_);show(.ref Ad.ZERO,_,0,1,u.1,u.2,rfl,⟨_,rfl,T.Bdb _⟩,fl, .lit ⋯ ⋯, .lit ⋯ ⋯,o.s1.mono ⋯,o.s2.mono ⋯,by decide,o.b1,by decide,o.g1,λm H4 Y e4=>?_);rw[(Jj8 o.b1 o.g1).1,(Jj8 o.b1 o.g1).2]at e4;mleave;show(len4,?_);rename_i w S U H4 H5 R e5;mleave;have J:=R _ _ (Y _ _ I);show(q,_,_,rfl,rfl,J,by ac_nf,?_);generalize B:upd H5 q _=H6;have e6:=putE B;have W:SameT H5 H6:=SameT.put B J rfl
   (try ((with_reducible show Nxt.go (by assumption) ?_);mleave))
   mleave;show k q _ H6 e (λb u z=>by rw[<- B,Jai (Jah z e)];show R _ _ (Y _ _ (c _ _ z))) e6 ?_;rw[D];show(hA.mono (P':=PV K H6) λ_ _ z=>z.sameT ((Y.trans R).t.trans W)).append (.one ⟨w,_,rfl,(SqT.of e5).sameT W,(FrV.of (R _ _ e4)).sameT W⟩)
 have fw:fwd t=fwd t:=rfl;unfold fwd at fw;cases hhi:t.hi with
 | none=>
  rw[hhi]at L fw;obtain rfl:g=.non:=L
  (try mstart)
  show key [] X x O (by simp) (by unfold fwd;rw[hhi];show rfl)
 | some u=>
  rw[hhi]at L;have fg:FrV K X g u.1 u.2:=FrV.same x L;let(r,rfl,_):=id fg;mleave;show(.inl ⟨rfl,_,SqL.of O⟩,?_);show(p,C,j,_,_,rfl,x _ _ n,a.cls,a.n2,rfl,?_);show(p,C,j,_,_,rfl,x _ _ n,a.cls,a.n3,rfl,?_);show(p,C,j,_,_,rfl,x _ _ n,a.cls,a.n5,rfl,?_);show(len4,?_);rename_i w S U X d c I;show(q,_,_,rfl,rfl,c _ _ O,by show 0<sizeLine;ac_nf,?_);generalize y:upd d q _=H3;have e3:=putE y;have T3:SameT d H3:=SameT.put y (c _ _ O) rfl;show key _ H3 (λb u z=>by rw[<- y,Jai (Jah z e)];show c _ _ (x _ _ z)) e3 (by simp) ?_;unfold fwd;rw[hhi];show .one ⟨w,_,rfl,(SqT.of I).sameT T3,(fg.same c).sameT T3⟩
abbrev Bam:Stmt:=inClass (top 24) 0
theorem JbS:Jao ["self","numbers","number","factor"] ["self","numbers"] (Jac Bam):=by bv_decide
def JbV(K:W.Frag)(Ad:Adr):Sp:=λvs H Q E=>∃(x dx a:Addr)(xs:List V)(ns:List Fr2),vs=[.ref x, .ref a]/\H x=some (.ins Ad.Scale dx [])/\H a=some (.lst xs)/\All2 (FLV K H) ns xs/\ns.length<=70/\(∀ n∈ns,1<=n.2/\Mth.Sz 20 n.2)/\∀ b fs fl H',H' x=some (.ins Ad.Scale dx [("bottom", .int b),("factors", .ref fl)])->H fl=none->H' fl=some (.lst (fs.map V.int))->(∀ c u,c≠x->H c=some u->H' c=some u)->b=bF ns->(∀ n∈ns,n.2∣b)->Scl b fs->Mth.Sz 2000 b->fs.length<=70->Q .non H'
theorem Jef(F:"__init__"∘"Scale.__init__"∘Bam)(T:Txt K mg Ad)(Bac:1∘"common_divisor"∘["one","other"]∘(JaK)):2∘["self","numbers"]∘(JbV K Ad):=by
 show F.okn JbS (by subst_eqs) (λa5 A a3 s H vs Q E hr h=>?_)
 let(x,j,a,xs,C,rfl,h):=h;show(_,(Jab (JbG (pv 0) Jaf rfl) (Jab (JbG (pv 0) (Ja6 Jad) rfl) (Jae (Ja7 PassesOwn.never rfl (pi_U (pv 1)) (Jas 2 JbS.nd) (Jab (Jaj 3 JbS.nd (pe_op Jav (!2) (Bac.ev hr ⋯ rfl passF %[Jaw (pv 0) rfl,!2|0]))) (Jae (ps_if (Jak Jg4 (pv 3) Jaf (Jar _)) (Jab (JbG (pv 0) (pe_op Ja4 (Jaw (pv 0) rfl) (pv 3)) rfl) (Jae (JaU (pe_bm PySem.F.plainAttrs_list PySem.F.slot_list_append PySem.F.type_list_append Jbf (Jaw (pv 0) rfl) %[pv 3|0] (hs:=by show Jag rfl)))))
   Jap))))))),?_)
 let(e0,hA,hN,hl,a1,k):=h;have e:=T.BcN Ad.Scale rfl;have sl:(1000:Nat)<=sizeLine:=by decide
 have lx:=hN.length;show tSeq _ _ _ [some (.ref x),some (.ref a),none,none] H;mvcgen;show(x,_,j,_,rfl,e0,e.cls,e.n1,by simp,?_);generalize u1:upd H x _=H1;mvcgen;have e1:H1 x=some (.ins Ad.Scale j [("bottom", .int 1)]):=by rw[<- u1];show Jat.trans rfl
 have o1:∀ b,b≠x->H1 b=H b:=λb hb=>by rw[<- u1,Jai hb]
 mvcgen;show(len0,?_);rename_i d l a4 H1 H2 Y e2;mvcgen;mvcgen;show(x,_,j,_,rfl,Y _ _ e1,e.cls,e.n2,by simp,?_);generalize W:upd H2 x _=Z;mvcgen;have e3:Z x=some (.ins Ad.Scale j [("bottom", .int 1),("factors", .ref d)]):=by rw[<- W];show Jat.trans rfl
 have X:d≠x:=λz=>by rw[z,e1]at l;cases l
 have f3:Z d=some (.lst []):=by rw[<- W,Jai X];show e2
 have o3:∀ c u,c≠x->H c=some u->Z c=some u:=λc u N h=>by rw[<- W,Jai N];show Y _ _ (by rw[o1 c N];show h)
 have v:H d=none:=by rw[<- o1 d X];show l
 have S:a≠x:=λz=>by rw[z,e0]at hA;cases hA
 have a0:SameT H Z:=(SameT.put u1 e0 rfl).trans (Y.t.trans (SameT.put W (Y _ _ e1) rfl));mvcgen;show(a,rfl,ForA.byL (xs:=xs) (SqL.of (o3 _ _ S hA)) (λi σ O=>i<=xs.length/\∃(v2 v3:Option V)(b:Int)(p:List Int),σ=[some (.ref x),some (.ref a),v2,v3]/\O x=some (.ins Ad.Scale j [("bottom", .int b),("factors", .ref d)])/\O d=some (.lst (p.map V.int))/\(∀ c u,c≠x->H c=some u->O c=some u)/\SameT H O/\b=bF (C.take i)/\(∀ m∈C.take i,m.2∣b)/\Scl b p/\Mth.Sz (1+20*i) b/\p.length<=i) ⟨Nat.zero_le _,none,none,1,[],rfl,e3,f3,o3,a0,rfl,(λm B=>by simp at B),Scl.nil, .lit ⋯ ⋯,Nat.le_refl _⟩ (λi σ O q=>by let(_,_,_,_,_,_,_,_,q,_):=q;show SqL.of (q _ _ S hA)) ?_ ?_)
 .intro i y σ R hy z_;let(hi,v2,v3,b,p,rfl,I,hf,ho,hT,r,o,hs,M,lf):=z_;have li:=(List.getElem?_eq_some_iff.mp hy).1;let(n,hn,fn):=hN.at_ hy;have fn:FrV K R y n.1 n.2:=FrV.sameT hT fn;have G:=a1 n (List.mem_of_getElem? hn);have L:∀ m∈C.take (i+1),m∈C.take i\/m=n:=λm B=>by
   rw[take_succ,hn]at B;simpa using B
  have M:Mth.Sz 2000 b:=M.mono ∅;have gp:=Mth.g_pos (a:=b) (b:=n.2) ∅;have gd:=Mth.JdM b n.2;have J:n.2∣b*n.2.fdiv (Mth.g b n.2):=JjL ∅;have D:b*n.2.fdiv (Mth.g b n.2)=bF (C.take (i+1)):=by
   rw[take_succ,hn];show _=bF (C.take i++[n]);rw[Jjp, <- r]
  have gl:=Mth.g_le (a:=b) (b:=n.2) ∅;have d1:DivOk (Mth.g b n.2):=divOk (n:=20) ∅ (Nat.lt_of_le_of_lt (by ac_nf:(Mth.g b n.2).natAbs<=n.2.natAbs) G.2);have f1:=Mth.JeE gd ∅ G.1;have sf:Mth.Sz 20 (n.2.fdiv (Mth.g b n.2)):=G.2.fdiv gd ∅;mvcgen;show ixF1 fn ?_;show(x,_,j,_, .int b,rfl,I,e.cls,e.n1,rfl,?_);show ixF1 fn ?_;mvcgen;show(_,_,rfl,?_);mvcgen;show(d1,?_);generalize n.2.fdiv (Mth.g b n.2)=f at *;mvcgen;by_cases c:1<f
  .rw[if_pos (by simpa using c)];mvcgen;try simpa only[y50y,y94y]
   show(x,_,j,_, .int b,rfl,I,e.cls,e.n1,rfl,?_);try simpa only[y50y,y94y]
   show(mulOk M sf,?_);show(x,_,j,_,rfl,I,e.cls,e.n1,by simp,?_);generalize u5:upd R x _=U;mvcgen;have e5:U x=some (.ins Ad.Scale j [("bottom", .int (b*f)),("factors", .ref d)]):=by rw[<- u5];show Jat.trans rfl
   have f5:U d=some (.lst (p.map V.int)):=by rw[<- u5,Jai X];show hf
   have T5:SameT R U:=SameT.put u5 I rfl;try simpa only[y50y,y94y]
   show(x,_,j,_, .ref d,rfl,e5,e.cls,e.n2,rfl,?_);show(.inl ⟨rfl,_,SqL.of f5⟩,?_);mvcgen;show(d,_,_,rfl,rfl,f5,by rw[length_map];ac_nf,?_);generalize u6:upd U d _=H6;mvcgen;have f6:=putE u6;have T6:SameT U H6:=SameT.put u6 f5 rfl;mvcgen;show(li,_,_,b*f,p++[f],rfl,by rw[<- u6,Jai (Ne.symm X)];show e5,by rw[f6];simp,λc u N h=>by rw[<- u6,Jai (Jah h v), <- u5,Jai N];show ho c u N h,hT.trans (T5.trans T6),D,(λm B=>(L m B).elim (λh=>Int.dvd_trans (o m h) (Int.dvd_mul_right ..)) λh=>h ▸ J),hs.snoc ∅,?_,by simp;ac_nf);have:=(show Mth.Sz (1+20*i) b by assumption).mul sf;show this.mono ∅
  .rw[if_neg (by simpa using c)];mvcgen;mvcgen;have a2:f=1:=by ac_nf
   rw[a2,Int.mul_one]at J D;show(li,_,_,b,p,rfl,I,hf,ho,hT,D,(λm B=>(L m B).elim (o m) λh=>h ▸ J),hs,(show Mth.Sz (1+20*i) b by assumption).mono ∅,by ac_nf)
 .intro σ R z_;let(hi,v2,v3,b,p,rfl,I,hf,ho,hT,r,o,hs,M,lf):=z_;mvcgen;rw[take_of_length_le ∅]at o r;show k b p d R I v hf ho r o hs (M.mono ∅) ∅
abbrev Baz:Stmt:=inClass (top 24) 1
theorem JaT:Jao ["self","number","top","rest","factor","shared"] ["self","number"] (Jac Baz):=by bv_decide
def Jcl(K:W.Frag)(Ad:Adr):Sp:=λvs H Q E=>∃(x:Addr)(v:V)(n:Fr2)(b:Int)(fs:List Int),vs=[.ref x,v]/\SCK Ad H x b fs/\FrV K H v n.1 n.2/\FB 400 20 n/\n.2∣b/\∀ p H',Same H H'->H' p=some (.tup [.int (n.1*b.fdiv n.2), .int 1])->Q (.ref p) H'
theorem Je1(F:"lifted"∘"Scale.lifted"∘Baz)(T:Txt K mg Ad)(Bac:1∘"common_divisor"∘["one","other"]∘(JaK)):2∘["self","number"]∘(Jcl K Ad):=by
 show F.okn JaT (by subst_eqs) (λy A g s H z Q E o h=>?_)
 let(x,v,n,b,q,rfl,h):=h;have m:=o.units;show(_,(Jab (ps_if (Jak (JaM m) (pe_op JaB (Jaw (pv 0) rfl) (!1)) Jaf (Jar _)) (Jae (Jam (JaN %[pe_op Ja4 (!1) (pe_op Jav (Jaw (pv 0) rfl) (!1)),Jaf|0])))
   Jap) (Jab (Jaj 2 JaT.nd (!1)) (Jab (Jaj 3 JaT.nd (!1)) (Jab (Ja7 PassesOwn.never rfl (pi_U (Jaw (pv 0) rfl)) (Jas 4 JaT.nd) (Jab (Jaj 5 JaT.nd (Bac.ev o ⋯ rfl passF %[pv 3,pv 4|0])) (Jab (Jaj 2 JaT.nd (pe_op Ja4 (pv 2) (pe_op Jav (pv 4) (pv 5)))) (Jae (Jaj 3 JaT.nd (pe_op Jav (pv 3) (pv 5))))))) (Jae (Jam (JaN %[pv 2,pv 3|0]))))))),?_)
 clear m;let((l,N,j,L,M,r,I),d,e,dv,k):=h;have a:=T.BcN Ad.Scale rfl;have t:=e.b1;have u:DivOk n.2:=divOk (n:=20) ∅ e.s2;have c:b.fmod n.2=0:=by
  rw[Int.fmod_eq_emod_of_nonneg _ ∅];show Int.emod_eq_zero_of_dvd dv
 show tSeq _ _ _ [some (.ref x),some v,none,none,none,none] H;mleave;show(x,_,l,_, .int b,rfl,j,a.cls,a.n1,rfl,?_);show ixF1 d ?_;mleave;show(by ac_nf,?_);rw[if_pos (by simpa using c)];mleave;mleave;show ixF0 d ?_;show(x,_,l,_, .int b,rfl,j,a.cls,a.n1,rfl,?_);show ixF1 d ?_;mleave;show(u,mulOk e.s1 (r.fdiv dv t),len2,?_);rename_i p J C H G B D;mleave;show k p G B D
abbrev Baq:Stmt:=inClass (top 46) 0
theorem JeD:Jao ["self","name","row","scale"] ["self","name","row","scale"] (Jac Baq):=by bv_decide
def Jb6(K:W.Frag)(Ad:Adr):Sp:=λvs H Q E=>∃(x dx sc r:Addr)(nm vs_ vt vc:V)(b:Int)(fs:List Int)(n:Fr2)(w:V),vs=[.ref x,nm, .ref r, .ref sc]/\H x=some (.ins Ad.Step dx [])/\SqT K H r [vs_,vt,vc,w]/\FrV K H vc n.1 n.2/\FB 400 20 n/\n.2∣b/\SCK Ad H sc b fs/\∀ pr H',(∀ c u,c≠x->H c=some u->H' c=some u)->H' pr=some (.tup [nm,w])->H' x=some (.ins Ad.Step dx [("source",vs_),("target",vt),("cost",vc),("whole", .int (n.1*b.fdiv n.2)),("pair", .ref pr)])->Q .non H'
theorem Jez(F:"__init__"∘"Step.__init__"∘Baq)(T:Txt K mg Ad)(BcP:2∘"lifted"∘(Jhl Ad)∘["self","number"]∘(Jcl K Ad)):3∘["self","name","row","scale"]∘(Jb6 K Ad):=by
 show F.okn JeD (by subst_eqs) (λa5 A a2 s H vs Q E hr h=>?_)
 let(x,e,v,r,nm,a,G,y,b,S,n,w,rfl,h):=h;show(_,(Jab (JbG (pv 0) (!2) rfl) (Jab (JbG (pv 0) (!2) rfl) (Jab (JbG (pv 0) (!2) rfl) (Jab (JbG (pv 0) (pe_ix ix_U (BcP.m hr ⋯ passF (pv 3) %[!2|0]) Jaf) rfl) (Jae (JbG (pv 0) (JaN %[pv 1,!2|0]) rfl)))))),?_)
 let(I,g,fv,fb,dv,Y,k):=h;have j:=T.c_Step Ad.Step rfl;have a4:=T.BcN Ad.Scale rfl;show tSeq _ _ _ [some (.ref x),some nm,some (.ref r),some (.ref v)] H;mexact;show ixT (i:=0) g rfl ?_;mexact;show(x,_,e,_,rfl,I,j.cls,j.n1,by simp,?_);generalize W:upd H x _=O;mexact;have e1:O x=some (.ins Ad.Step e [("source",a)]):=by rw[<- W];show Jat.trans rfl
 have T1:SameT H O:=SameT.put W I rfl;have o1:∀ c u,c≠x->H c=some u->O c=some u:=λc u d h=>by rw[<- W,Jai d];show h
 mexact;show ixT (i:=1) (g.sameT T1) rfl ?_;mexact;show(x,_,e,_,rfl,e1,j.cls,j.n2,by simp,?_);generalize u2:upd O x _=J;mexact;have e2:J x=some (.ins Ad.Step e [("source",a),("target",G)]):=by rw[<- u2];show Jat.trans rfl
 have T2:SameT H J:=T1.trans (SameT.put u2 e1 rfl);have o2:∀ c u,c≠x->H c=some u->J c=some u:=λc u d h=>by rw[<- u2,Jai d];show o1 c u d h
 mexact;show ixT (i:=2) (g.sameT T2) rfl ?_;mexact;show(x,_,e,_,rfl,e2,j.cls,j.n3,by simp,?_);generalize Z:upd J x _=N;mexact;have e3:N x=some (.ins Ad.Step e [("source",a),("target",G),("cost",y)]):=by rw[<- Z];show Jat.trans rfl
 have X:SameT H N:=T2.trans (SameT.put Z e2 rfl);have M:∀ c u,c≠x->H c=some u->N c=some u:=λc u d h=>by rw[<- Z,Jai d];show o2 c u d h
 let(B,fl,l,q,U):=id Y;have C:v≠x:=λz=>by rw[z,I]at l;simp at l
 have a0:fl≠x:=λz=>by rw[z,I]at q;cases q
 have D:SCK Ad N v b S:=⟨B,fl,M _ _ C l,M _ _ a0 q,U⟩;mexact;show(v,_,B,_,rfl,M _ _ C l,rfl,rfl,?_);show ixT (i:=2) (g.sameT X) rfl ?_;mexact;show(v,y,n,b,S,rfl,D,FrV.sameT X fv,fb,dv,λp H4 R e4=>?_);mexact;show ixT (i:=0) (SqT.of e4) rfl ?_;mexact;show(x,_,e,_,rfl,R _ _ e3,j.cls,j.n4,by simp,?_);generalize V:upd H4 x _=L;mexact;have e5:L x=some (.ins Ad.Step e [("source",a),("target",G),("cost",y),("whole", .int (n.1*b.fdiv n.2))]):=by rw[<- V];show Jat.trans rfl
 have T5:SameT H L:=X.trans (R.t.trans (SameT.put V (R _ _ e3) rfl));have o5:∀ c u,c≠x->H c=some u->L c=some u:=λc u d h=>by rw[<- V,Jai d];show R _ _ (M c u d h)
 mexact;show ixT (i:=3) (g.sameT T5) rfl ?_;mexact;show(len2,?_);rename_i pr o a3 L H6 S6 e6;mexact;mexact;show(x,_,e,_,rfl,S6 _ _ e5,j.cls,j.n5,by simp,?_);generalize u7:upd H6 x _=H7;mexact;have e7:H7 x=some (.ins Ad.Step e [("source",a),("target",G),("cost",y),("whole", .int (n.1*b.fdiv n.2)),("pair", .ref pr)]):=by rw[<- u7];show Jat.trans rfl
 have a1:pr≠x:=λz=>by rw[z,e5]at o;cases o
 mexact;show k pr H7 (λc u d h=>by rw[<- u7,Jai d];show S6 _ _ (o5 c u d h)) (by rw[<- u7,Jai a1];show e6) e7
abbrev Bbl:Stmt:=top 47
theorem JcM:Jao ["ties","rows","tie","scale"] ["ties"] (Jac Bbl):=by bv_decide
def Jcn(K:W.Frag)(Ad:Adr):Sp:=λvs H Q E=>∃(a:Addr)(xs:List V)(ts:List TD),vs=[.ref a]/\SqL K H a xs/\All2 (OV K Ad H) ts xs/\(∀ t∈ts,TOk t)/\(∀ s∈Ch.all ts,FB 400 20 s.c)/\ts.length<=35/\∀ l ys (b:Int) H',Same H H'->H' l=some (.lst ys)->b=bF ((Ch.all ts).map (·.c))->1<=b->Mth.Sz 2000 b->(∀ s∈Ch.all ts,s.c.2∣b)->All2 (SOV K Ad b H') (Ch.all ts) ys->Q (.ref l) H'
theorem JhU(F:"steps_of"∘Bbl)(T:Txt K mg Ad)(m_steps:4∘"steps"∘(IsTie Ad)∘["self"]∘(Jc4 K Ad))(Bc7:KCal P w K mg base 2 "Scale" Ad.Scale ["self","numbers"] (JbV K Ad))(k_Step:KCal P w K mg base 3 "Step" Ad.Step ["self","name","row","scale"] (Jb6 K Ad)):6∘["ties"]∘(Jcn K Ad):=by
 show F.okn JcM (by subst_eqs) (λd0 A b6 s H vs Q E hr h=>?_)
 let(a,xs,l,rfl,h):=h;show(_,(Jab (Jaj 1 JcM.nd (Ja6 Jad)) (Jab (Ja7 PassesOwn.never rfl (pi_U (pv 0)) (Jas 2 JcM.nd rfl (Or.inr rfl)) (Jae (JaU (pe_bm PySem.F.plainAttrs_list PySem.F.slot_list_extend PySem.F.type_list_extend Jj5 (pv 1) %[Jcq (Jbi (own:=["row"]) (cs:=[(2,"tie")]) rfl (pi_U (m_steps.m0 hr ⋯ passF (pv 2))) (λ_ _ _ _=>(Jas 0 (show[("row" : Str),("tie" : Str)].Nodup by decide))) (λ_ _ _ _=>JbA) (λ_ _ _ _=>(JaN %[JmT (K:=K) rfl (pv 1) rfl,pv 0|0])) (Jce rfl) ⋯ rfl ⋯ (hcs1 rfl rfl rfl))|0])))) (Jab (Jaj 3 JcM.nd (Bc7.ev hr ⋯ rfl passF %[Jcq (Jbi (own:=["name","row"]) (cs:=[]) rfl (pi_U (pv 1)) (λ_ _ _ _=>(JhW (K:=K) (n:=2) rfl rfl (JaA (Jas 0 (show[("name" : Str),("row" : Str)].Nodup by decide) (hf:=Or.inr rfl)) (JaA (Jas 1 (show[("name" : Str),("row" : Str)].Nodup by decide) (hf:=Or.inr rfl)) JcL)))) (λ_ _ _ _=>JbA) (λ_ _ _ _=>(pe_ix (ix_UK (K:=K) rfl) (pv 1) Jaf)) (Jce rfl) ⋯ rfl ⋯ hcs0)|0]) rfl (Or.inr rfl)) (Jae (Jam (Jcq (Jbi (own:=["name","row"]) (cs:=[(3,"scale")]) rfl (pi_U (pv 1)) (λ_ _ _ _=>(JhW (K:=K) (n:=2) rfl rfl (JaA (Jas 0 (show[("name" : Str),("row" : Str),("scale" : Str)].Nodup by decide) (hf:=Or.inr rfl)) (JaA (Jas 1 (show[("name" : Str),("row" : Str),("scale" : Str)].Nodup by decide) (hf:=Or.inr rfl)) JcL)))) (λ_ _ _ _=>JbA) (λ_ _ _ _=>(k_Step.ev hr ⋯ rfl passF %[pv 0,pv 1,pv 2|0])) (Jce rfl) ⋯ rfl ⋯ (hcs1 rfl rfl rfl)))))))),?_)
 let(hS,hR,hT,X,hl,k):=h;have sl:(1000:Nat)<=sizeLine:=by decide
 have lR:=hR.length;have O:∀ i,(Ch.all (l.take i)).length<=2*i:=λi=>Jhm i;show tSeq _ _ _ [some (.ref a),none,none,none] H;mleave;show(len0,?_);rename_i Y a3 c3 H H1 S1 e1;mleave;show(a,rfl,ForA.byLN (xs:=xs) (hS.same S1) (λi σ d=>i<=xs.length/\∃(v2:Option V)(J:List V),σ=[some (.ref a),some (.ref Y),v2,none]/\Same H d/\d Y=some (.lst J)/\All2 (SRV K d) (Ch.all (l.take i)) J) ⟨Nat.zero_le _,none,[],rfl,S1,e1,by rw[take_zero];show rfl⟩ (λi σ d z=>by let(_,_,_,_,z,_):=z;show hS.same z) ?_ ?_)
 .intro i x σ H2 hx z_ N0 a8;let(hi,v2,J,rfl,S2,o,W):=z_;have li:=(List.getElem?_eq_some_iff.mp hx).1;let(t,ht,a4):=hR.at_ hx;have ok:=hT t (List.mem_of_getElem? ht);let(C,vl,vg,(p',U,rfl,D),hC,_):=a4.same S2;have tc:=T.tie _ hC;mleave;show(.inl ⟨rfl,_,SqL.of o⟩,?_);show(p',_,U,_,rfl,D,hC,rfl,?_);show(_,t,rfl,a4.same S2,ok,λq ys H4 hn S4 e4 pv=>?_);have l2:(Ch.steps t).length<=2:=by unfold Ch.steps fwd bwd;cases t.hi <;> cases t.lo <;> simp
  have c9:=pv.length;mleave;show(q,rfl, .inl ⟨⟨_,SqL.of e4⟩,CompJ.list (xs:=ys) (λj g d=>Same H4 d/\All2 (SRV K d) ((Ch.steps t).take j) g) ⟨Same.refl _,by rw[take_zero];show rfl⟩ (λj g d hj z=>⟨SqL.of (z.1 _ _ e4),by have:=z.2.length;rw[length_take]at this;ac_nf⟩) ?_ ?_⟩)
  .rintro j y g H5 hy ⟨S5,m⟩;let(s,S,a9):=pv.at_ hy;have nm:s.nm=t.nm:=Jle (List.mem_of_getElem? S);simpa only[length_singleton,length_cons,length_nil,List.replicate,JaJ,map_cons,map_nil,Option.join_some,y50y];show(p',_,U,_, .str t.nm,rfl,S5 _ _ (S4 _ _ D),tc.cls,tc.n1,rfl,?_);mleave;show(by show 2<=sizeLine;ac_nf,?_);rename_i c d1 c8 H5 G Z e6;mleave;show(S5.trans Z,?_);rw[take_succ,S];show(m.mono (P':=SRV K G) λ_ _ z=>z.sameT Z.t).append (.one ⟨c,y,rfl,by rw[nm];show SqT.of e6,a9.sameT (S5.t.trans Z.t)⟩)
  .rintro g H5 ⟨S5,m⟩;rw[take_of_length_le ∅]at m;rename_i cl c5 c7 H5 G Z e6;mleave;have I:=S4.trans (S5.trans Z);have lD:=W.length;have lA:=m.length;have a0:=O i;show(Y,cl,J,g,rfl,rfl,I _ _ o,e6,by ac_nf,?_);generalize u7:upd G Y _=r;mleave;have e7:=putE u7;have T7:SameT G r:=SameT.put u7 (I _ _ o) rfl;show a8 _ _ ⟨li,_,J++g,rfl,λb w h=>by rw[<- u7,Jai (Jah h a3)];show I _ _ (S2 _ _ h),e7,?_⟩;rw[show Ch.all (l.take (i+1))=Ch.all (l.take i)++Ch.steps t by rw[take_succ,ht];simp[Ch.all]];show(W.mono (P':=SRV K r) λ_ _ z=>z.sameT (I.t.trans T7)).append (m.mono (P':=SRV K r) λ_ _ z=>z.sameT (Z.t.trans T7))
 .intro σ H2 z_;let(hi,v2,J,rfl,S2,o,W):=z_;have a0:=O l.length;rw[take_of_length_le ∅]at W;rw[take_of_length_le (Nat.le_refl _)]at a0;have lD:=W.length;mleave;show(Y,rfl, .inl ⟨⟨_,SqL.of o⟩,CompJ.list (xs:=J) (λj g d=>d=H2/\All2 (FLV K H2) (((Ch.all l).map (·.c)).take j) g) ⟨rfl,by rw[take_zero];show rfl⟩ (λj g d hj z=>⟨by rw[z.1];show SqL.of o,by have:=z.2.length;rw[length_take]at this;ac_nf⟩) ?_ ?_⟩)
  .rintro j y g H3 hy ⟨rfl,m⟩;let(s,S,b,v,rfl,hb,b',vc,rfl,b3,hc):=W.at_ hy;simpa only[length_singleton,length_cons,length_nil,List.replicate,JaJ,map_cons,map_nil,Option.join_some];show(b,_,rfl,hb,rfl,?_);mleave;show ixT (i:=2) b3 rfl ?_;mleave;rw[take_succ,List.getElem?_map,S];show m.append (.one hc)
  .rintro g H3 ⟨rfl,m⟩;rw[take_of_length_le (by rw[length_map];ac_nf)]at m;rename_i nl c6 c2 H3 H4 S4 e4;mleave;mleave;intro sc ds S b8 a6;have N:Same H4 (upd (upd H4 ds (.own sc)) sc (.ins Ad.Scale ds [])):=λb u q=>by rw[Jai (Jah q S),Jai (Jah q b8)];show q
   show(sc,ds,nl,g,(Ch.all l).map (·.c),rfl,Jat,N _ _ e4,m.mono (λ_ _ z=>FLV.sameT (S4.t.trans N.t) z),by rw[length_map];ac_nf,λn hn=>?_,λb fs fl G h1 h2 h3 h4 b5 L a5 a2 b0=>⟨rfl,?_⟩)
   .let(s,e,rfl):=mem_map.mp hn;show((X s e).b1,(X s e).s2)
   have b4:Same H4 G:=λc u h=>h4 c u (Jah h S) (N _ _ h);have B:=S4.trans b4;have c0:SCK Ad G sc b fs:=⟨ds,fl,h1,h3,a5,a2,b0⟩;have L:∀ s∈Ch.all l,s.c.2∣b:=λs e=>L s.c (mem_map.mpr ⟨s,e,rfl⟩);have b9:All2 (SRV K G) (Ch.all l) J:=W.mono λ_ _ z=>z.sameT B.t;mleave;show(Y,rfl, .inl ⟨⟨_,SqL.of (B _ _ o)⟩,CompJ.list (xs:=J) (λj g d=>Same G d/\All2 (SOV K Ad b d) ((Ch.all l).take j) g) ⟨Same.refl _,by rw[take_zero];show rfl⟩ (λj g d hj z=>⟨SqL.of (z.1 _ _ (B _ _ o)),by have:=z.2.length;rw[length_take]at this;ac_nf⟩) ?_ ?_⟩)
   .rintro j y a7 r hy ⟨S7,M⟩;let(s,e,b7):=b9.at_ hy;have a1:=List.mem_of_getElem? e;let(p,v,rfl,hp,p',vc,rfl,D,hc):=b7.sameT S7.t;simpa only[length_singleton,length_cons,length_nil,List.replicate,JaJ,map_cons,map_nil,Option.join_some];show(p,_,rfl,hp,rfl,?_);mleave;intro x U hx b2 a6;have N:Same r (upd (upd r U (.own x)) x (.ins Ad.Step U [])):=λb u q=>by rw[Jai (Jah q hx),Jai (Jah q b2)];show q
    show(x,U,sc,p', .str s.nm, .str s.src, .str s.dst,vc,b,fs,s.c, .bl s.fw,rfl,Jat,D.same N,FrV.same N hc,X s a1,L s a1,(c0.same S7).same N,λpr H8 ho e1 o=>?_);have R:Same r H8:=λc u h=>ho c u (Jah h hx) (N _ _ h);show(rfl,S7.trans R,?_);rw[take_succ,e];show(M.mono (P':=SOV K Ad b H8) λ_ _ z=>z.same R).append (.one ⟨x,U,vc,pr,rfl,o,FrV.same R hc,e1⟩)
   .rintro a7 r ⟨S7,M⟩;rw[take_of_length_le (Nat.le_of_eq ∅)]at M;rename_i ol c1 c4 r H8 S8 e8;mleave;show k ol a7 b H8 (S2.trans (B.trans (S7.trans S8))) e8 b5 a5.b1 a2 L (M.mono λ_ _ z=>z.same S8)
abbrev Bae:Stmt:=inClass (top 8) 0
theorem JcX:Jao ["self","words","around"] ["self","words","around"] (Jac Bae):=by bv_decide
def Jbh(K:W.Frag)(Ad:Adr):Sp:=λvs H Q E=>∃(e:Addr)(w:Str)(a:Addr)(xs:List V)(S f:Addr),vs=[.ref e, .str w, .ref a]/\H e=some (ExcN e Ad.Impossible none)/\ExcI K Ad.Impossible S f/\SqL K H a xs/\∀(l dx:Addr)(H':Hp),(∀ b u,b≠e->H b=some u->H' b=some u)->H l=none->H' l=some (.lst xs)->H dx=none->dx≠e->H' e=some (ExcN e Ad.Impossible (some dx))->H' dx=some (.xd [("around", .ref l)])->Q .non H'
theorem JcW(F:"__init__"∘"Impossible.__init__"∘Bae)(T:Txt K mg Ad)  : 1∘["self","words","around"]∘(Jbh K Ad):=by
 show F.okn JcX (by subst_eqs) (λD A p s H C Q E I h=>?_)
 let(e,w,a,r,S,f,rfl,h):=h;show(_,(Jab (JaU (Jlk T.slk rfl T.m_SlackError %[pv 0,pv 1|0])) (Jae (Jm3 (pv 0) (JcK (Jak JaY (pv 2) Jaz (Jar _)) (Ja6 Jad) (Ja5 JiR rfl T.Bdc Jho %[pv 2|0])) rfl))),?_)
 let(j,q,x,k):=h;show tSeq _ _ _ [some (.ref e),some (.str w),some (.ref a)] H;cbv;show(e,_,_,_,_,_,rfl,by show 1<=sizeLine;decide,j,q,?_);rw[show upd H e (ExcN e Ad.Impossible none)=H from funext λb=>by
  by_cases c:b=e
  .rw[c,Jat,j]
  .rw[Jai c]]
 mframe;show(a,r,rfl, .inl x,?_);rename_i l d B H G m v;cbv;show(e,_,S,f,rfl,m _ _ j,q,T.xa,λt g i=>?_);have n:l≠e:=λz=>by rw[z,j]at d;cases d
 have o:l≠t:=Jah v g;show k l t _ (λb u y h=>by rw[Jai (Jah (m _ _ h) g),Jai y];show m _ _ h) d (by rw[Jai o,Jai n];show v) (JaF m g) i (by rw[Jai (Ne.symm i),Jat]) Jat
abbrev BaD:Stmt:=top 48
theorem JaZ:Jao ["lasts","face","passed","at","backward","turn"] ["lasts","face"] (Jac BaD):=by bv_decide
def JcB(K:W.Frag)(Ad:Adr):Sp:=λvs H Q E=>∃(ld:Addr)(f:Str)(kw:List (Key × V))(ss:List SpS)(t:BF)(c:Str->Nat),vs=[.ref ld, .str f]/\H ld=some (.dK kw)/\DV (SOS K Ad H) t.P kw/\Cg ss (ss.length+1) t c/\c f=ss.length+1/\(∀ v s,lk t.P v=some s->s∈ss/\s.tgt=v)/\ss.length<=70/\∀ l xs R H',Same H H'->H l=none->H' l=some (.lst xs)->RG t.P f R->All2 (CV H') (R.map λs=>(s.nm,s.fw)) xs->Q (.ref l) H'
theorem Jfs(F:"ring_behind"∘BaD)(T:Txt K mg Ad)  : 1∘["lasts","face"]∘(JcB K Ad):=by
 show F.okn JaZ (by subst_eqs) (λc8 A b8 s H vs Q E hr h=>?_)
 let(L,f,kw,D,t,c,rfl,h):=h;have J:=hr.units;show(_,(Jab (Jaj 2 JaZ.nd Jbx) (Jab (Jaj 3 JaZ.nd (pv 1)) (Jab (JdV PassesOwn.never (JcG (Jch (hu1 J) (pv 3) (pv 2)) (by with_unfolding_all rfl)) (Jab (Jb1 (hu1 J) (pv 2) (pv 3) pe_bl rfl) (Jae (Jaj 3 JaZ.nd (Jaw (JaI (hu1 J) (pv 0) (pv 3) (λ_ _=>rfl)) rfl))))) (Jab (Jaj 4 JaZ.nd (Ja6 Jad)) (Jab (Jaj 5 JaZ.nd (pv 3)) (Jab (JdV PassesOwn.never (PW.pt (pw_or (Jak (JaM J) (Jau JaD rfl T.BbL JbK %[pv 4|0]) Jaf (Jar _)) (JbP (Jak (Jcg J) (pv 5) (pv 3) (Jar _))))) (Jab (JaU (pe_bm PySem.F.plainAttrs_list PySem.F.slot_list_append PySem.F.type_list_append Jbf (pv 4) %[Jaw (JaI (hu1 J) (pv 0) (pv 5) (λ_ _=>rfl)) rfl|0] (hs:=by show Jag rfl))) (Jae (Jaj 5 JaZ.nd (Jaw (JaI (hu1 J) (pv 0) (pv 5) (λ_ _=>rfl)) rfl))))) (Jae (Jam (JmX rfl rfl rfl rfl T.Bdc Jho rfl T.n_reversed JeO (pv 4)))))))))),?_)
 clear J;let(hd,hD,hC,d0,b3,c6,k):=h;have sl:(100000:Nat)<=sizeLine:=by decide
 have tc:=T.c_Step Ad.Step rfl;show tSeq _ _ _ [some (.ref L),some (.str f),none,none,none,none] H;mleave;rename_i pd a6 c0 H H1 S1 e1;mleave;mleave;show(λm σ r=>∃(q:Str)(d:List SpS)(X:List (Str × Unit))(kp:List (Key × V)),σ=[some (.ref L),some (.str f),some (.ref pd),some (.str q),none,none]/\Same H r/\r pd=some (.dK kp)/\DV (λ_ _=>True) X kp/\(∀ x,(∃ e,lk X x=some e)↔x∈d.map (·.tgt))/\X.length<=d.length/\Lnk t.P q d.reverse/\lnkE q d.reverse=f/\(d.map (·.tgt)).Nodup/\(∀ x∈d,x∈D)/\D.length+1<=c q+d.length/\m+d.length=D.length+1,⟨D.length+1,f,[],[],[],rfl,S1,e1,rfl,(λx=>by simp[lk]),Nat.le_refl _,trivial,rfl, .nil,(λx j=>by cases j),by ac_nf,rfl⟩,?_);intro m σ H7 z_;let(q,d,X,kp,rfl,S7,a3,G,Y,c3,a0,a9,n,C,b0,d1):=z_;mleave;show(pd,_,rfl,DGet.k (k:=Sum.inr q) a3,?_);cases eq_:lk X q with
 | none=>
  rw[G.no eq_];try simpa only[Option.isSome_none]
  let(s,hs,b4):=hC.next n C b0;let(b5,o):=b3 q s hs;let(v,hv,U):=hD.at hs;let(p,dx,vc,pr,rfl,u,b9,I):=id U;have c4:=G.len;have nq:q∉d.map (·.tgt):=λz=>by
   let(e,he):=(Y q).mpr z;rw[eq_]at he;cases he
  have b6:d.length<=D.length:=by
   have:=sub_len (d.map (·.tgt)) (D.map (·.tgt)) n λx j=>by
    let(y,Z,rfl):=mem_map.mp j;show mem_map.mpr ⟨y,C y Z,rfl⟩
   rw[length_map,length_map]at this;show this
  show(_,λ_ _ h=>h,?_);mleave;show(pd,_,rfl,DPut.k (k:=Sum.inr q) a3 ∅,?_);generalize u8:upd H7 pd _=H8;mleave;have e8:=putE u8;have S8:Same H H8:=λb w h=>by rw[<- u8,Jai (Jah h a6)];show S7 _ _ h
  mleave;show(L, .ref p,rfl,by rw[<- hv];show DGet.k (k:=Sum.inr q) (S8 _ _ hd),?_);show(p,_,dx,_, .str s.src,rfl,S8 _ _ u,tc.cls,tc.n1,rfl,?_);mleave;have c7:=Jes (l:=X) (f:=q) (a:=());show(m-1,by ac_nf,s.src,d++[s],pu X q (),_,rfl,S8,e8,G.put trivial,λx=>?_,by rw[length_append];simp;ac_nf,by rw[List.reverse_append];show a0.add hs o,by rw[List.reverse_append];show(Jiz o).trans a9,?_,λx j=>?_,b4,by rw[length_append];simp;ac_nf)
  .rw[lk_pu,map_append];by_cases z:q=x
   .rw[if_pos z];mleave;show(λ_=>mem_append_right _ (by simp[o,z]),λ_=>by simp)
   .rw[if_neg z,Y];mleave;show(λh=>mem_append_left _ h,λh=>?_);rcases mem_append.mp h with h | h
    .show h
    .show absurd (by simpa[o]using h) (Ne.symm z)
  .rw[map_append];show nodup_append.mpr ⟨n,by simp,λx j y Z e=>nq ?_⟩;have Z:y=s.tgt:=by simpa using Z
   rw[<- o, <- Z, <- e];show j
  .rcases mem_append.mp j with j | j
   .show C x j
   .rw[mem_singleton.mp j];show b5
 | some e=>
  rw[(G.at eq_).choose_spec.1];try simpa only[Option.isSome_some]
  (try ((with_reducible show Nxt.go (by assumption) ?_);mleave))
  have hq:q∈d.reverse.map (·.tgt):=by
   rw[List.map_reverse,List.mem_reverse];show(Y q).mp ⟨e,eq_⟩
  let(R,l2,hR,a2,b2):=RG.of a0 a9 (by rw[List.map_reverse];show(List.reverse_perm _).nodup_iff.mpr n) hq;mleave;show(len0,?_);rename_i bl a8 c1 H7 H8 S8 e8;mleave;have a5:=JaF S7 a8
  (try ((with_reducible show Nxt.go (by assumption) ?_);mleave))
  mleave
  (try ((with_reducible show Nxt.go (by assumption) ?_);mleave))
  mleave;have c5:∀ r,Same H r->DV (SOS K Ad r) t.P kw:=λr S=>hD.mono λ_ _ z=>z.same S;let(r0,r1,r2):=a2;have b1:(R.map (·.tgt)).Nodup:=by
   have : ((R++l2).map (·.tgt)).Nodup:=by rw[<- hR,List.map_reverse];show(List.reverse_perm _).nodup_iff.mpr n
   rw[map_append]at this;show(nodup_append.mp this).1
  show(λm σ r=>∃(A B:List SpS)(W:List V),σ=[some (.ref L),some (.str f),some (.ref pd),some (.str q),some (.ref bl),some (.str (lnkE q A))]/\Same H r/\r bl=some (.lst W)/\All2 (CV r) (B.reverse.map λs=>(s.nm,s.fw)) W/\A++B=R/\m=A.length,⟨R.length,R,[],[],by rw[r2],S7.trans S8,e8,rfl,append_nil _,rfl⟩,?_);intro m' σ H9 z_;let(A,B,W,rfl,S9,e9,N,g,rfl):=z_;have a4:=N.length;rw[length_map,List.length_reverse]at a4;have c9:A.length+B.length=R.length:=by rw[<- g,length_append]
  have lR:R.length<=d.length:=by
   have:=congrArg List.length hR;rw[List.length_reverse,length_append]at this;ac_nf
  mleave;show(_, .inl (SqL.of e9),?_);mleave;rcases List.eq_nil_or_concat A with hA | ⟨A',s,hA⟩
  .subst hA;rw[List.nil_append]at g;subst g;have nb:W.length≠0:=by
    have : B.length≠0:=λz=>r0 (eq_nil_of_length_eq_zero z);ac_nf
   rw[if_neg (by simp;intro z;show nb (by rw[z];rfl)),if_neg (by simp[lnkE])];mleave
   (try ((with_reducible show Nxt.go (by assumption) ?_);mleave))
   mleave;show(bl,W,rfl,SqL.of e9,?_);rename_i rl a1 c2 H9 HA O eA;mleave;show k rl _ B HA (S9.trans O) (JaF S9 a1) eA b2 ?_;have:=(N.mono (P':=CV HA) λ_ _ z=>z.sameT O.t).rev;rw[<- List.map_reverse,List.reverse_reverse]at this;show this
  .rw[List.concat_eq_append]at hA;subst hA;have a7:=r1;rw[<- g]at a7;let(q1,q2):=Lnk.app.mp a7;let(_,q3,q4,_):=Lnk.app.mp q1;have eE:lnkE q (A'++[s])=s.tgt:=by rw[JeF];rfl
   rw[eE];show iteOr ?_ ?_
   .by_cases hB:B=[]
    .left
     have : W.length=0:=by rw[a4,hB];rfl
     simp[this]
    .right
     have m1:=JiA (z:=s.tgt) hB;have e1:lnkE s.tgt B=q:=by rw[<- eE, <- JeF,g];show r2
     rw[e1]at m1;have rn:=b1;rw[<- g,map_append]at rn;have:=(nodup_append.mp rn).2.2 s.tgt (by simp) q m1;simpa using this
   let(v,hv,U):=hD.at q4;let(p,dx,vc,pr,rfl,u,b9,I):=id U;have b6:d.length<=D.length:=by
    have:=sub_len (d.map (·.tgt)) (D.map (·.tgt)) n λx j=>by
     let(y,Z,rfl):=mem_map.mp j;show mem_map.mpr ⟨y,C y Z,rfl⟩
    rw[length_map,length_map]at this;show this
   show(_,λ_ _ h=>h,?_);mleave;show(.inl ⟨rfl,_,SqL.of e9⟩,?_);show(L, .ref p,rfl,by rw[<- hv];show DGet.k (k:=Sum.inr s.tgt) (S9 _ _ hd),?_);show(p,_,dx,_, .ref pr,rfl,S9 _ _ u,tc.cls,tc.n5,rfl,?_);mleave;show(bl,W,_,rfl,rfl,e9,by ac_nf,?_);generalize M:upd H9 bl _=HA;mleave;have b7:=putE M;have TA:SameT H9 HA:=SameT.put M e9 rfl;have O:Same H HA:=λb w h=>by rw[<- M,Jai (Jah h a5)];show S9 _ _ h
   mleave;show(L, .ref p,rfl,by rw[<- hv];show DGet.k (k:=Sum.inr s.tgt) (O _ _ hd),?_);show(p,_,dx,_, .str s.src,rfl,O _ _ u,tc.cls,tc.n1,rfl,?_);mleave;show(A'.length,by rw[length_append];simp,A',s::B,_,by rw[<- q3],O,b7,?_,by simpa using g,rfl);rw[List.reverse_cons,map_append];show(N.mono (P':=CV HA) λ_ _ z=>z.sameT TA).append (.one ⟨pr,rfl,O _ _ I⟩)
abbrev BaR:Stmt:=top 49
theorem JaL:Jao ["steps","starts","sums","face","lasts","changed","turn","step","total"] ["steps","starts"] (Jac BaR):=by bv_decide
def JcO(K:W.Frag)(Ad:Adr):Sp:=λvs H Q E=>∃(sL fL:Addr)(sx:List V)(ss:List SpS)(fs:List Str),vs=[.ref sL, .ref fL]/\SqL K H sL sx/\All2 (SOS K Ad H) ss sx/\SqL K H fL (fs.map V.str)/\fs.length<=14/\ss.length<=70/\((∀ s∈ss,s.src∈fs)\/∃ π,Pot π ss)/\(∀ ld kv P H',Same H H'->H ld=none->H' ld=some (.dK kv)->DV (SOS K Ad H) P kv->P=(bfR ss (ss.length+1) (bf0 fs)).P->BE ss fs P->(∃ π,Pot π ss)->Q (.ref ld) H')/\∀(l dx:Addr)(xs:List V)(R:List SpS)(H':Hp),Same H H'->H l=none->H' l=some (.lst xs)->H dx=none->H' dx=some (.xd [("around", .ref l)])->(¬∃ π,Pot π ss)->RgD ss fs R->All2 (CV H') (R.map λs=>(s.nm,s.fw)) xs->E (.ref Ad.Impossible) (some dx) H'
theorem Jf8(F:"last_steps"∘BaR)(T:Txt K mg Ad)(BbO:1∘"ring_behind"∘["lasts","face"]∘(JcB K Ad))(k_Impossible:XCal P w K mg base 1 "Impossible" Ad.Impossible Ad.SlackError ["self","words","around"] (Jbh K Ad)):3∘["steps","starts"]∘(JcO K Ad):=by
 show F.okx JaL (λvs H Q E h=>?_) (λd6 A c6 s H vs Q E hr h=>?_)
 .let(sL,fL,sx,ss,fs,rfl,_):=h;rfl
 let(sL,fL,sx,ss,fs,rfl,h):=h;have C:=hr.units;show(_,(Jab (Jaj 2 JaL.nd Jbx) (Jab (Ja7 PassesOwn.leaving rfl (pi_U (pv 1)) (Jas 3 JaL.nd) (Jae (Jb1 (hu1 C) (pv 2) (pv 3) Jaf rfl))) (Jab (Jaj 4 JaL.nd Jbx) (Jab (Jaj 5 JaL.nd Jaz) (Jab (Ja7 PassesOwn.leaving rfl (JdS rfl T.BcM %[pe_op JaH (Jau JaD rfl T.BbL JbK %[pv 0|0]) Jaf|0]) (Jas 6 JaL.nd) (Jab (Jaj 5 JaL.nd Jaz) (Jab (Ja7 PassesOwn.leaving rfl (pi_U (pv 0)) (Jas 7 JaL.nd) (Jae (ps_if (JcG (JfM (hu1 C) (Jaw (pv 7) rfl) (pv 2)) (by with_unfolding_all rfl)) (Jab (Jaj 8 JaL.nd (pe_op JaH (JaI (hu1 C) (pv 2) (Jaw (pv 7) rfl) (λ_ _=>rfl)) (Jaw (pv 7) rfl))) (Jae (ps_if (PW.pt (pw_or (JcG (Jch (hu1 C) (Jaw (pv 7) rfl) (pv 2)) (by with_unfolding_all rfl)) (JbP (Jak JdO (pv 8) (JaI (hu1 C) (pv 2) (Jaw (pv 7) rfl) (λ_ _=>rfl)) (Jar _))))) (Jab (Jb1 (hu1 C) (pv 2) (Jaw (pv 7) rfl) (pv 8) rfl) (Jab (Jb1 (hu1 C) (pv 4) (Jaw (pv 7) rfl) (pv 7) rfl) (Jae (Jaj 5 JaL.nd (Jaw (pv 7) rfl)))))
   Jap)))
   Jap))) (Jae (ps_if (Jak JaY (pv 5) Jaz (Jar _)) (Jae (Jam (pv 4)))
   Jap))))) (Jae (Jkq (k_Impossible.ev hr ⋯ rfl pass1 %[Jay,BbO.ev hr ⋯ rfl pass1 %[pv 4,pv 5|0]|0])))))))),?_)
 clear C;let(hS,hX,hF,l8,c9,b9,k,kE):=h;have sl:(100000:Nat)<=sizeLine:=by decide
 have lX:=hX.length;have q:=T.c_Step Ad.Step rfl;show tSeq _ _ _ [some (.ref sL),some (.ref fL),none,none,none,none,none,none,none] H;mleave;rename_i B Y d2 H H1 S1 e1;mleave;show(fL,rfl,ForA.byLN (xs:=fs.map V.str) (hF.same S1) (λi σ L=>i<=fs.length/\∃(v3:Option V)(r:List (Key × V)),σ=[some (.ref sL),some (.ref fL),some (.ref B),v3,none,none,none,none,none]/\Same H L/\L B=some (.dK r)/\DV RI ((fs.take i).foldl (λS f=>pu S f 0) []) r/\r.length<=i) ⟨Nat.zero_le _,none,[],rfl,S1,e1,rfl,Nat.le_refl _⟩ (λi σ L z=>by let(_,_,_,_,z,_):=z;show hF.same z) ?_ ?_)
 .intro i y σ H2 hy z_ N0 a6;let(hi,v3,r,rfl,S2,d,hD,d8):=z_;rw[List.getElem?_map]at hy;let(f,hf,rfl):=Option.map_eq_some_iff.mp hy;have li:=(List.getElem?_eq_some_iff.mp hf).1;mleave;show(B,_,rfl,DPut.k (k:=Sum.inr f) d ∅,?_);generalize u3:upd H2 B _=H3;mleave;have e3:=putE u3;have c1:DV RI ((fs.take (i+1)).foldl (λS f=>pu S f 0) []) (putK r (Sum.inr f) (.int 0)):=by
   rw[take_succ,hf,foldl_append];show DV.put hD rfl
  show a6 _ _ ⟨li,_,_,rfl,λc w h=>by rw[<- u3,Jai (Jah h Y)];show S2 _ _ h,e3,c1,?_⟩;have l1:=c1.len;have l2:=hD.len;have l3:=Jes (l:=(fs.take i).foldl (λS f=>pu S f 0) []) (f:=f) (a:=(0:Int));rw[take_succ,hf,foldl_append]at l1;have l4:(putK r (Sum.inr f) (.int 0)).length=(pu ((fs.take i).foldl (λS f=>pu S f 0) []) f (0:Int)).length:=l1;ac_nf
 .intro σ H2 z_;let(_,v3,c3,rfl,S2,a5,U,c2):=z_;rw[length_map]at c2;rw[take_of_length_le (by rw[length_map];show Nat.le_refl _)]at U;have U:DV RI (bf0 fs).S c3:=U;have d4:=U.len;mleave;rename_i J W d1 H2 H3 S3 e3;mleave;have X:=JaF S2 W;have a1:J≠B:=λz=>by rw[z,a5]at W;cases W
  mleave;show(_, .inl ((hS.same S2).same S3),?_);mleave;show(_,rfl,by ac_nf,by ac_nf,?_);show ForR.byN (λi σ L=>∃(v5 v6 v7 v8:Option V)(t:BF)(r x:List (Key × V)),σ=[some (.ref sL),some (.ref fL),some (.ref B),v3,some (.ref J),v5,v6,v7,v8]/\Same H L/\L B=some (.dK r)/\DV RI t.S r/\L J=some (.dK x)/\DV (SOS K Ad H) t.P x/\t=itr ss i (bf0 fs)/\bfR ss (ss.length+1) (bf0 fs)=bfR ss (ss.length+1-i) t/\t.S.length<=14+70*i/\t.P.length<=70*i/\(i≠0->t.ch≠none/\v5=some (chV t.ch))) ⟨_,none,none,none,bf0 fs,c3,[],rfl,S2.trans S3,S3 _ _ a5,U,e3,rfl,rfl,rfl,by ac_nf,by simp[bf0],λz=>absurd rfl z⟩ ?_ ?_
  .intro i σ H4 hi z_ N0 a6;let(v5,v6,v7,v8,t,r,x,rfl,S4,d,g,o,m,ht,b0,lS,lP,a7):=z_;have d5:i<=ss.length:=by ac_nf
   rw[Int.zero_add];mleave;show(sL,rfl,ForA.byLN (xs:=sx) (hS.same S4) (λj σ L=>j<=sx.length/\∃(u:BF)(v7 v8:Option V)(r x:List (Key × V)),σ=[some (.ref sL),some (.ref fL),some (.ref B),v3,some (.ref J),some (chV u.ch),some (.int (i:Int)),v7,v8]/\Same H L/\L B=some (.dK r)/\DV RI u.S r/\L J=some (.dK x)/\DV (SOS K Ad H) u.P x/\u=(ss.take j).foldl rlx { t with ch:=none }/\u.S.length<=14+70*i+j/\u.P.length<=70*i+j) ⟨Nat.zero_le _,{ t with ch:=none },v7,v8,r,x,rfl,S4,d,g,o,m,rfl,lS,lP⟩ (λj σ L z=>by let(_,_,_,_,_,_,_,z,_):=z;show hS.same z) ?_ ?_)
   .clear d g o m lS lP;intro j y σ H5 a2 z_ N1 a0;let(hj,u,v7,v8,r,x,rfl,I,d,g,o,m,C,lS,lP):=z_;have lj:=(List.getElem?_eq_some_iff.mp a2).1;let(s,a8,p,G,vc,pr,rfl,N,e2,d0):=hX.at_ a2;have D:=I _ _ N;have Z:(ss.take (j+1)).foldl rlx { t with ch:=none }=rlx ((ss.take j).foldl rlx { t with ch:=none }) s:=by rw[take_succ,a8,foldl_append];rfl
    have e0:=g.len;have d3:=m.len;mleave;show(p,_,G,_, .str s.src,rfl,D,q.cls,q.n1,rfl,?_);show(B,_,rfl,DGet.k (k:=Sum.inr s.src) d,?_);cases ea:lk u.S s.src with
    | none=>
     have gn:gains u.S s=none:=by unfold gains;rw[ea]
     rw[g.no ea];try simpa only[Option.isSome_none]
     show a0 _ _ ⟨lj,u,_,_,r,x,rfl,I,d,g,o,m,by rw[Z, <- C];unfold rlx;rw[gn],by ac_nf,by ac_nf⟩
    | some a=>
     let(v,hv,rv):=g.at ea;have rv:v=.int a:=rv;subst rv;rw[hv];try simpa only[y50y,Option.isSome_some]
     show(p,_,G,_, .str s.src,rfl,D,q.cls,q.n1,rfl,?_);show(B, .int a,rfl,by rw[<- hv];show DGet.k (k:=Sum.inr s.src) d,?_);show(p,_,G,_, .int s.wh,rfl,D,q.cls,q.n4,rfl,?_);mleave;show(p,_,G,_, .str s.tgt,rfl,D,q.cls,q.n2,rfl,?_);show(B,_,rfl,DGet.k (k:=Sum.inr s.tgt) d,?_);cases eb:lk u.S s.tgt with
     | none=>
      have gn:gains u.S s=some (a+s.wh):=by unfold gains;rw[ea];dsimp only;rw[eb]
      rw[g.no eb];try simpa only[y50y,Option.isSome_none]
      mleave;show(p,_,G,_, .str s.tgt,rfl,D,q.cls,q.n2,rfl,?_);show(B,_,rfl,DPut.k (k:=Sum.inr s.tgt) d ∅,?_);generalize u7:upd H5 B _=H7;mleave;have e7:=putE u7;have M:Same H H7:=λc w h=>by rw[<- u7,Jai (Jah h Y)];show I _ _ h
      have p7:H7 p=_:=M _ _ N;have b1:H7 J=some (.dK x):=by rw[<- u7,Jai a1];show o
      mleave;show(p,_,G,_, .str s.tgt,rfl,p7,q.cls,q.n2,rfl,?_);show(J,_,rfl,DPut.k (k:=Sum.inr s.tgt) b1 ∅,?_);generalize u8:upd H7 J _=H8;mleave;have e8:=putE u8;have O:Same H H8:=λc w h=>by rw[<- u8,Jai (Jah h X)];show M _ _ h
      have p8:H8 p=_:=O _ _ N;mleave;show(p,_,G,_, .str s.tgt,rfl,p8,q.cls,q.n2,rfl,?_);mleave;show a0 _ _ ⟨lj,⟨pu u.S s.tgt (a+s.wh),pu u.P s.tgt s,some s.tgt⟩,_,_,_,_,rfl,O,by rw[<- u8,Jai (Ne.symm a1)];show e7,DV.put g rfl,e8,DV.put m (hX.at_ a2 |> λζ=>by let(s',h1,h2):=ζ;rw[a8]at h1;cases h1;show h2),?_,by have:=Jes (l:=u.S) (f:=s.tgt) (a:=a+s.wh);show(pu u.S s.tgt (a+s.wh)).length<=_;ac_nf,by have:=Jes (l:=u.P) (f:=s.tgt) (a:=s);show(pu u.P s.tgt s).length<=_;ac_nf⟩;rw[Z, <- C];unfold rlx;rw[gn]
     | some b=>
      let(w,hw,a9):=g.at eb;have a9:w=.int b:=a9;subst a9;rw[hw];try simpa only[y50y,Option.isSome_some]
      show(p,_,G,_, .str s.tgt,rfl,D,q.cls,q.n2,rfl,?_);show(B, .int b,rfl,by rw[<- hw];show DGet.k (k:=Sum.inr s.tgt) d,?_);mleave;by_cases c:a+s.wh<b
      .rw[if_pos (by simpa using c)];mleave;have gn:gains u.S s=some (a+s.wh):=by unfold gains;rw[ea];dsimp only;rw[eb];show if_pos c
       mleave;show(p,_,G,_, .str s.tgt,rfl,D,q.cls,q.n2,rfl,?_);show(B,_,rfl,DPut.k (k:=Sum.inr s.tgt) d ∅,?_);generalize u7:upd H5 B _=H7;mleave;have e7:=putE u7;have M:Same H H7:=λc w h=>by rw[<- u7,Jai (Jah h Y)];show I _ _ h
       have p7:H7 p=_:=M _ _ N;have b1:H7 J=some (.dK x):=by rw[<- u7,Jai a1];show o
       mleave;show(p,_,G,_, .str s.tgt,rfl,p7,q.cls,q.n2,rfl,?_);show(J,_,rfl,DPut.k (k:=Sum.inr s.tgt) b1 ∅,?_);generalize u8:upd H7 J _=H8;mleave;have e8:=putE u8;have O:Same H H8:=λc w h=>by rw[<- u8,Jai (Jah h X)];show M _ _ h
       have p8:H8 p=_:=O _ _ N;mleave;show(p,_,G,_, .str s.tgt,rfl,p8,q.cls,q.n2,rfl,?_);mleave;show a0 _ _ ⟨lj,⟨pu u.S s.tgt (a+s.wh),pu u.P s.tgt s,some s.tgt⟩,_,_,_,_,rfl,O,by rw[<- u8,Jai (Ne.symm a1)];show e7,DV.put g rfl,e8,DV.put m (hX.at_ a2 |> λζ=>by let(s',h1,h2):=ζ;rw[a8]at h1;cases h1;show h2),?_,by have:=Jes (l:=u.S) (f:=s.tgt) (a:=a+s.wh);show(pu u.S s.tgt (a+s.wh)).length<=_;ac_nf,by have:=Jes (l:=u.P) (f:=s.tgt) (a:=s);show(pu u.P s.tgt s).length<=_;ac_nf⟩;rw[Z, <- C];unfold rlx;rw[gn]
      .rw[if_neg (by simpa using c)];mleave;have gn:gains u.S s=none:=by unfold gains;rw[ea];dsimp only;rw[eb];show if_neg c
       mleave;show a0 _ _ ⟨lj,u,_,_,r,x,rfl,I,d,g,o,m,by rw[Z, <- C];unfold rlx;rw[gn],by ac_nf,by ac_nf⟩
   .clear d g o m lS lP;intro σ H5 z_;let(hj,u,v7,v8,r,x,rfl,I,d,g,o,m,C,lS,lP):=z_;rw[take_of_length_le ∅]at C;have b6:trn ss t=u:=C.symm;have a3:u=itr ss (i+1) (bf0 fs):=by rw[<- b6,ht];rfl
    have b7:bfR ss (ss.length+1-i) t=if u.ch=none then u else bfR ss (ss.length-i) u:=by
     rw[show ss.length+1-i=(ss.length-i)+1 by ac_nf,bfR,b6]
    mleave;cases ec:u.ch with
    | none=>
     try simpa only[chV]
     let(π,hp):=b9.elim (λh=>Jlr (n:=i) h (by rw[<- a3];show ec)) id;show k J x u.P H5 I X o m (by rw[b0,b7,if_pos ec]) ?_ ⟨π,hp⟩;rw[a3];show BE.of hp (by rw[<- a3];show ec)
    | some f=>
     try simpa only[chV]
     show a6 _ _ ⟨_,_,_,_,u,r,x,rfl,I,d,g,o,m,a3,by rw[b0,b7,if_neg (by rw[ec];simp)];congr 1;ac_nf,by ac_nf,by ac_nf,λ_=>⟨by rw[ec];simp,by rw[ec];rfl⟩⟩
  .intro σ H4 z_;let(v5,v6,v7,v8,t,r,x,rfl,S4,d,g,o,m,ht,b0,lS,lP,a7):=z_;rw[show((sx.length:Int)+1).toNat=ss.length+1 by ac_nf]at ht a7;let(h1,rfl):=a7 ∅;obtain⟨f,hf⟩:∃ f,t.ch=some f:=by
    cases e:t.ch with
    | none=>show absurd e h1
    | some f=>show(f,rfl)
   have np:¬∃ π,Pot π ss:=λ⟨π,hp⟩=>h1 (by
    rw[ht];show(ss.foldl rlx { itr ss ss.length (bf0 fs)with ch:=none }).ch=none;rw[JjR ss { itr ss ss.length (bf0 fs)with ch:=none } (Jk7 hp)])
   let(c,hC,_):=Cg.itr (ss:=ss) (fs:=fs) (ss.length+1);rw[<- ht]at hC;have hB:=BX.itr (ss:=ss) (fs:=fs) (ss.length+1);rw[<- ht]at hB;rw[hf];simp only[chV]
   (try ((with_reducible show Nxt.go (by assumption) ?_);mleave))
   mleave;show(J,f,x,ss,t,c,rfl,o,m.mono λ_ _ z=>z.same S4,hC,hC.ch f hf,λv s h=>⟨(hB.st v s h).1,(hB.st v s h).2.1⟩,c9,λl xs R H5 I d9 e5 c4 c5=>?_);show(by show 2<=sizeLine;ac_nf,λex b2=>?_);let(fI,d7,_,_,hI,_):=k_Impossible.ex;have b8:=JaF I b2;have c0:=JaF S4 b8;show(ex,_,l,xs,_,fI,rfl,Jat,hI,SqL.of (by rw[Jai (Jah e5 b2)];show e5),λl2 G H6 ho a4 e6 b4 b3 c7 c8=>⟨rfl,ex,_,_,fI,some G,rfl,c7,hI,c0,?_⟩);have b5:l2≠ex:=λz=>by rw[z,Jat]at a4;cases a4
   rw[Jai b5]at a4;rw[Jai b3]at b4;have S6:∀ b u,H5 b=some u->unt H6 ex b=some u:=λb u h=>by
    have hb:=Jah h b2;rw[Jdn hb];show ho b u hb (by rw[Jai hb];show h)
   show kE l2 G xs R (unt H6 ex) (λb u h=>S6 _ _ (I _ _ (S4 _ _ h))) (JaF S4 (JaF I a4)) (by rw[Jdn b5];show e6) (JaF S4 (JaF I b4)) (by rw[Jdn b3];show c8) np ⟨f,by rw[<- ht];show hf,by rw[<- ht];show c4⟩ (c5.mono ?_);rintro a v ⟨b,rfl,h⟩;show(b,rfl,S6 _ _ h)
abbrev BaE:Stmt:=top 50
theorem JaC:Jao ["steps","starts","lasts","told","face","missing","at","step","ahead"] ["steps","starts"] (Jac BaE):=by bv_decide
def Jbu(K:W.Frag)(Ad:Adr):Sp:=λvs H Q E=>∃(sL fL:Addr)(sx:List V)(ss:List SpS)(fs:List Str),vs=[.ref sL, .ref fL]/\SqL K H sL sx/\All2 (SOS K Ad H) ss sx/\SqL K H fL (fs.map V.str)/\fs.length<=14/\ss.length<=70/\((∀ s∈ss,s.src∈fs)\/∃ π,Pot π ss)/\(∀ s∈ss,FB 200 9 s.cost)/\(∀(td:Addr)(kt:List (Key × V))(tb:List (Str × ((Int × Int) × List SpS)))(P:LasD)(H':Hp),Same H H'->H td=none->H' td=some (.dK kt)->DV (RT K H H') tb kt->P=(bfR ss (ss.length+1) (bf0 fs)).P->BE ss fs P->(∀ v,(∃ e,lk tb v=some e)↔(v∈fs\/∃ s,lk P v=some s))->TBk P fs tb->(∃ π,Pot π ss)->Q (.ref td) H')/\∀(l dx:Addr)(xs:List V)(R:List SpS)(H':Hp),Same H H'->H l=none->H' l=some (.lst xs)->H dx=none->H' dx=some (.xd [("around", .ref l)])->(¬∃ π,Pot π ss)->RgD ss fs R->All2 (CV H') (R.map λs=>(s.nm,s.fw)) xs->E (.ref Ad.Impossible) (some dx) H'
theorem Jfm(F:"chains_from"∘BaE)(T:Txt K mg Ad)(BbV:3∘"last_steps"∘["steps","starts"]∘(JcO K Ad))(Bcc:2∘"plus"∘["one","other"]∘(Jfe K)):4∘["steps","starts"]∘(Jbu K Ad):=by
 show F.okx JaC (λvs H Q E h=>?_) (λl2 A i7 s H vs Q E hr h=>?_)
 .let(sL,fL,sx,ss,fs,rfl,_):=h;rfl
 let(sL,fL,sx,ss,fs,rfl,h):=h;have hu:=hr.units;show(_,(Jab (Jaj 2 JaC.nd (BbV.ev hr ⋯ rfl pass1 %[pv 0,pv 1|0])) (Jab (Jaj 3 JaC.nd Jbx) (Jab (Ja7 PassesOwn.leaving rfl (pi_U (pv 1)) (Jas 4 JaC.nd) (Jae (ps_if (JcG (Jch (hu1 hu) (pv 4) (pv 2)) (by with_unfolding_all rfl)) (Jae (Jb1 (hu1 hu) (pv 3) (pv 4) (JaN %[Jb0 (v:=.ref _) rfl T.Bc9 T.Bda,Ja6 Jad|0]) rfl))
   Jap))) (Jab (Ja7 PassesOwn.leaving rfl (Jkk (pv 2)) (Jas 4 JaC.nd) (Jab (Jaj 5 JaC.nd (Ja6 Jad)) (Jab (Jaj 6 JaC.nd (pv 4)) (Jab (JdV PassesOwn.leaving (JcG (Jch (hu1 hu) (pv 6) (pv 3)) (by with_unfolding_all rfl)) (Jab (JaU (pe_bm PySem.F.plainAttrs_list PySem.F.slot_list_append PySem.F.type_list_append Jbf (pv 5) %[JaI (hu1 hu) (pv 2) (pv 6) (λ_ _=>rfl)|0] (hs:=by show Jag rfl))) (Jae (Jaj 6 JaC.nd (Jaw (JaI (hu1 hu) (pv 2) (pv 6) (λ_ _=>rfl)) rfl))))) (Jae (Ja7 PassesOwn.leaving rfl (Jlq (K:=K) rfl rfl rfl T.n_reversed JeO (pv 5)) (Jas 7 JaC.nd) (Jab (Jaj 8 JaC.nd (JaI (hu1 hu) (pv 3) (Jaw (pv 7) rfl) (λ_ _=>rfl))) (Jae (Jb1 (hu1 hu) (pv 3) (Jaw (pv 7) rfl) (JaN %[Bcc.ev hr ⋯ rfl pass1 %[!8,Jaw (pv 7) rfl|0],pe_op JaH (!8) (Ja6 %[Jaw (pv 7) rfl|0])|0]) rfl))))))))) (Jae (Jam (pv 3))))))),?_)
 clear hu;let(hS,hX,hF,l8,j9,f5,f7,k,kE):=h;have sl:(100000:Nat)<=sizeLine:=by decide
 have tc:=T.c_Step Ad.Step rfl;show tSeq _ _ _ [some (.ref sL),some (.ref fL),none,none,none,none,none,none,none] H;mleave;show(sL,fL,sx,ss,fs,rfl,hS,hX,hF,l8,j9,f5,λM kv P H1 S1 h0 e1 hD hP hB hp=>?_,kE);have c3:=hB;let(S,r,b1,b2,b3,b5):=hB.ex;mleave;rename_i C X l0 H1 H2 S2 e2;mleave;have d6:C≠M:=λz=>by rw[z,e1]at X;cases X
 mleave;have c6:=JaF S1 X;show(fL,rfl,ForA.byLN (xs:=fs.map V.str) ((hF.same S1).same S2) (λi σ D=>i<=fs.length/\∃(v4:Option V)(G:List (Key × V))(n:List (Str × ((Int × Int) × List SpS))),σ=[some (.ref sL),some (.ref fL),some (.ref M),some (.ref C),v4,none,none,none,none]/\Same H1 D/\D C=some (.dK G)/\DV (RT K H D) n G/\TBk P fs n/\∀ f∈fs.take i,lk P f=none->∃ e,lk n f=some e) ⟨Nat.zero_le _,none,[],[],rfl,S2,e2,rfl,TBk.nil,λf hf=>by simp at hf⟩ (λi σ D z=>by let(_,_,_,_,_,z,_):=z;show(hF.same S1).same z) ?_ ?_)
 .intro i y σ H3 hy z_ N0 b8;let(hi,v4,G,n,rfl,S3,a1,hT,a4,b6):=z_;rw[List.getElem?_map]at hy;let(f,hf,rfl):=Option.map_eq_some_iff.mp hy;have li:=(List.getElem?_eq_some_iff.mp hf).1;have d8:fs.take (i+1)=fs.take i++[f]:=by rw[take_succ,hf];rfl
  have h6:=c3.tb_len a4;have h4:=hT.len;mleave;show(M,_,rfl,DGet.k (k:=Sum.inr f) (S3 _ _ e1),?_);cases ef:lk P f with
  | some s=>
   rw[(hD.at ef).choose_spec.1];try simpa only[Option.isSome_some]
   show b8 _ _ ⟨li,_,G,n,rfl,S3,a1,hT,a4,λg hg hn=>?_⟩;rw[d8]at hg;rcases mem_append.mp hg with hg | hg
   .show b6 g hg hn
   .rw[mem_singleton.mp hg,ef]at hn;cases hn
  | none=>
   rw[hD.no ef];try simpa only[Option.isSome_none]
   show(len0,?_);rename_i el a8 k1 H3 H4 S4 e4;mleave;show(len2,?_);rename_i tp c7 k8 H4 H5 S5 e5;mleave;mleave;have d:=S5 _ _ (S4 _ _ a1);show(C,_,rfl,DPut.k (k:=Sum.inr f) d ∅,?_);generalize u6:upd H5 C _=H6;mleave;have e6:=putE u6;have h5:el≠C:=λz=>by rw[z,a1]at a8;cases a8
   have d4:tp≠C:=λz=>by rw[z,S4 _ _ a1]at c7;cases c7
   have j4:RT K H H6 (((0:Int),(1:Int)),([]:List SpS)) (.ref tp):=⟨tp, .ref Ad.ZERO,el,[],rfl,SqT.of (by rw[<- u6,Jai d4];show e5),⟨Ad.ZERO,rfl,T.Bdb _⟩,by rw[<- u6,Jai h5];show S5 _ _ e4,rfl,JaF S1 (JaF S3 a8)⟩;show b8 _ _ ⟨li,_,_,pu n f ((0,1),[]),rfl,λc w h=>by rw[<- u6,Jai (Jah h X)];show S5 _ _ (S4 _ _ (S3 _ _ h)),e6,(hT.mono λ_ _ z=>(z.same (S4.trans S5)).putL u6 d).put j4,a4.one (List.mem_of_getElem? hf) ef,λg hg hn=>?_⟩;rw[d8]at hg;rcases mem_append.mp hg with hg | hg
   .show TBk.keep (b6 g hg hn)
   .rw[mem_singleton.mp hg];show(_,Ja3)
 .intro σ H3 z_;let(_,v4,G,n,rfl,S3,a1,hT,a4,b6):=z_;rw[take_of_length_le (by rw[length_map];show Nat.le_refl _)]at b6;have ht:C≠M:=d6;mleave;show(M,kv,P.map (·.1),rfl,S3 _ _ e1,hD.keys,λod=>?_);generalize uf:upd H3 M _=H4;mleave;have ef:H4 M=some (.frz od (.dK kv)):=by rw[<- uf];show Jat
  have i0:Same H H4:=λc w h=>by rw[<- uf,Jai (Jah h h0)];show S3 _ _ (S1 _ _ h)
  have e3:H4 C=some (.dK G):=by rw[<- uf,Jai d6];show a1
  show ForJ.keys (λi σ D=>∃(v4 v5 v6 v7 v8:Option V)(G:List (Key × V))(n:List (Str × ((Int × Int) × List SpS))),σ=[some (.ref sL),some (.ref fL),some (.ref M),some (.ref C),v4,v5,v6,v7,v8]/\Same H D/\D M=some (.frz od (.dK kv))/\D C=some (.dK G)/\DV (RT K H D) n G/\TBk P fs n/\(∀ f∈fs,lk P f=none->∃ e,lk n f=some e)/\(∀ j z,j<i->(P.map (·.1))[j]?=some z->∃ e,lk n z=some e)) ⟨v4,none,none,none,none,G,_,rfl,i0,ef,e3,hT.mono λ_ _ z=>z.putL uf (S3 _ _ e1),a4,b6,λj z hj=>absurd hj (Nat.not_lt_zero _)⟩ (λi σ D z=>by let(_,_,_,_,_,_,_,_,_,z,_):=z;show z) ?_ ?_
  .intro i z σ H5 hz z_ N0 b8;let(v4,v5,v6,v7,v8,G,n,rfl,S5,c4,d,R,a0,a2,a6):=z_;mleave;show(len0,?_);rename_i ml I k6 H5 H6 S6 e6;mleave;have l5:ml≠M:=λq=>by rw[q,c4]at I;cases I
   have g4:ml≠C:=λq=>by rw[q,d]at I;cases I
   have l1:=JaF S5 I;have h7:∃ s,lk P z=some s:=Jeo (List.mem_of_getElem? hz);have j5:∃ b,lk S z=some b:=by
    let(s,hs):=h7;let(_,_,_,a,_,k2):=b3 z s hs;show(_,k2)
   mleave;show(λm σ D=>∃(q:Str)(L:List SpS)(mx:List V),σ=[some (.ref sL),some (.ref fL),some (.ref M),some (.ref C),some (.str z),some (.ref ml),some (.str q),v7,v8]/\Same H5 D/\D ml=some (.lst mx)/\All2 (SOS K Ad H) L mx/\Lnk P q L.reverse/\lnkE q L.reverse=z/\(∃ b,lk S q=some b)/\r q=m/\(L.map (·.tgt)).Nodup/\(∀ x∈L.map (·.tgt),r q<r x)/\(∀ x∈L,x∈ss),⟨_,z,[],[],rfl,S6,e6,rfl,trivial,rfl,j5,rfl, .nil,(λx u=>by cases u),λx u=>by cases u⟩,?_);intro m σ H7 z_;let(q,L,mx,rfl,S7,U,c2,d9,f9,i3,rfl,g0,f6,d5):=z_;have c0:=S7 _ _ c4;have W:=S7 _ _ d;mleave;show(C,_,rfl,DGet.k (k:=Sum.inr q) W,?_);cases eq_:lk n q with
   | none=>
    rw[R.no eq_];try simpa only[Option.isSome_none]
    let(bq,j3):=i3;obtain⟨s,hs⟩:∃ s,lk P q=some s:=by
     cases e:lk P q with
     | some s=>show(s,rfl)
     | none=>
      let(e',f0):=a2 q (b2 q bq j3 e).1 e;rw[eq_]at f0;cases f0
    let(i5,c1,f2,sa,h9,l4):=b3 q s hs;let(v,hv,f4):=hD.at hs;let(p,dx,vc,pr,rfl,Z,g2,a3):=id f4;have l3:L.length<=70:=by
     have:=sub_len (L.map (·.tgt)) (ss.map (·.tgt)) g0 λx u=>by
      let(y,hy,rfl):=mem_map.mp u;show mem_map.mpr ⟨y,d5 y hy,rfl⟩
     rw[length_map,length_map]at this;ac_nf
    have h3:=c2.length;show(_,λ_ _ h=>h,?_);mleave;show(.inl ⟨rfl,_,SqL.of U⟩,?_);show(M, .ref p,rfl,by rw[<- hv];show DGet.f (k:=Sum.inr q) c0,?_);show(ml,mx,_,rfl,rfl,U,by ac_nf,?_);generalize u8:upd H7 ml _=H8;mleave;have e8:=putE u8;have T8:SameT H7 H8:=SameT.put u8 U rfl;have S8:Same H5 H8:=λc w h=>by rw[<- u8,Jai (Jah h I)];show S7 _ _ h
    have a5:=S8 _ _ c4;mleave;show(M, .ref p,rfl,by rw[<- hv];show DGet.f (k:=Sum.inr q) a5,?_);show(p,_,dx,_, .str s.src,rfl,S8 _ _ (S5 _ _ Z),tc.cls,tc.n1,rfl,?_);mleave;show(r s.src,f2,s.src,L++[s],mx++[.ref p],rfl,S8,e8,c2.append (.one f4),by rw[List.reverse_append];show d9.add hs c1,by rw[List.reverse_append];show(Jiz c1).trans f9,⟨sa,h9⟩,rfl,?_,λx u=>?_,λx u=>?_)
    .rw[map_append];show nodup_append.mpr ⟨g0,by simp,λx u y hy e=>?_⟩;have hy:y=s.tgt:=by simpa using hy
     have:=f6 x u;rw[e,hy,c1]at this;ac_nf
    .rw[map_append]at u;rcases mem_append.mp u with u | u
     .have:=f6 x u;ac_nf
     .have u:x=s.tgt:=by simpa using u
      rw[u,c1];show f2
    .rcases mem_append.mp u with u | u
     .show d5 x u
     .rw[mem_singleton.mp u];show i5
   | some e=>
    rw[(R.at eq_).choose_spec.1];try simpa only[Option.isSome_some]
    (try ((with_reducible show Nxt.go (by assumption) ?_);mleave))
    have h3:=c2.length;show(ml,mx,rfl,SqL.of U,ForJ.rev (λj σ D=>∃(v7 v8:Option V)(G:List (Key × V))(n:List (Str × ((Int × Int) × List SpS)))(y:Str),σ=[some (.ref sL),some (.ref fL),some (.ref M),some (.ref C),some (.str z),some (.ref ml),some (.str q),v7,v8]/\Same H D/\D M=some (.frz od (.dK kv))/\D ml=some (.lst mx)/\D C=some (.dK G)/\DV (RT K H D) n G/\TBk P fs n/\(∀ f∈fs,lk P f=none->∃ e,lk n f=some e)/\(∀ j z,j<i->(P.map (·.1))[j]?=some z->∃ e,lk n z=some e)/\(∃ e,lk n y=some e)/\Lnk P y (L.reverse.drop j)/\lnkE y (L.reverse.drop j)=z) ⟨v7,v8,G,n,q,rfl,S5.trans S7,c0,U,W,R.mono λ_ _ z=>z.same S7,a0,a2,a6,⟨e,eq_⟩,d9,f9⟩ (λj σ D z=>by let(_,_,_,_,_,_,_,_,z,_):=z;show SqL.of z) ?_ ?_)
    .clear W d R a0 a2 a6 eq_ c0 U;intro j x σ H8 hj u z_ N1 g8;let(v7,v8,G,n,y,rfl,S8,a5,e0,B,a9,b4,c8,d7,(e,b0),c9,O):=z_;let(s,hs,sv):=c2.at_ u;have i4:L.reverse[j]?=some s:=by rw[List.getElem?_reverse ∅,show L.length=mx.length by ac_nf];show hs
     have j8:L.reverse.drop j=s::L.reverse.drop (j+1):=by
      let(h1,h2):=List.getElem?_eq_some_iff.mp i4;rw[<- h2];show List.drop_eq_getElem_cons h1
     rw[j8]at c9 O;let(rfl,j2,j7):=c9;have g9:=d5 s (List.mem_of_getElem? hs);let(p,dx,vc,pr,rfl,Z,g2,a3):=sv.same S8;let(v,hv,i9):=a9.at b0;let(w,qv,l,xs,rfl,hw,h8,hl,f1,_):=id i9;let(g3,i1,j1):=b4.en _ _ b0;let(i2,k5,_):=c3.chn g3 i1;have a7:=cs_fb λs hs=>f7 s (i2 s hs);rw[<- j1]at a7;have b9:=f7 s g9;have h6:=c3.tb_len b4;have h4:=a9.len;have i8:=f1.length;rw[length_map]at i8;mleave;show(p,_,dx,_, .str s.src,rfl,Z,tc.cls,tc.n1,rfl,?_);show(C, .ref w,rfl,by rw[<- hv];show DGet.k (k:=Sum.inr s.src) B,?_);mleave;show ixT (i:=0) hw rfl ?_;show(p,_,dx,_,vc,rfl,Z,tc.cls,tc.n3,rfl,?_);mleave;show(qv,vc,e.1.1,e.1.2,s.cost.1,s.cost.2,rfl,h8,g2,a7.s1.mono ∅,a7.s2.mono ∅,b9.s1.mono ∅,b9.s2.mono ∅,a7.b1,b9.b1,a7.g1,b9.g1,λap H9 S9 e9=>?_);mleave;show ixT (i:=1) (hw.same S9) rfl ?_;show(p,_,dx,_, .ref pr,rfl,S9 _ _ Z,tc.cls,tc.n5,rfl,?_);show(by show 1<=sizeLine;ac_nf,?_);rename_i ol k3 k9 H9 g7 Y i6;mleave;show .inl ⟨l,ol,xs,[.ref pr],rfl,rfl,Y _ _ (S9 _ _ hl),i6,by simp;ac_nf,?_⟩;rename_i nl b7 k7 g7 g6 d3 g5;mleave;show(len2,?_);rename_i np c5 k4 g6 f3 d0 j0;mleave;have o:=S9.trans (Y.trans (d3.trans d0));mleave;show(p,_,dx,_, .str s.tgt,rfl,o _ _ Z,tc.cls,tc.n2,rfl,?_);have N:=o _ _ B;show(C,_,rfl,DPut.k (k:=Sum.inr s.tgt) N ∅,?_);generalize J:upd f3 C _=d2;mleave;have k0:=putE J;have f8:SameT f3 d2:=SameT.put J N rfl;have j6:nl≠C:=λz=>by rw[z,Y _ _ (S9 _ _ B)]at b7;cases b7
     have d4:np≠C:=λz=>by rw[z,d3 _ _ (Y _ _ (S9 _ _ B))]at c5;cases c5
     have e7:RT K H d2 (addF e.1 s.cost,e.2++[s]) (.ref np):=by
      show(np, .ref ap,nl,xs++[.ref pr],rfl,SqT.of (by rw[<- J,Jai d4];show j0),⟨ap,rfl,SqT.sameT f8 (SqT.of (d0 _ _ (d3 _ _ (Y _ _ e9))))⟩,by rw[<- J,Jai j6];show d0 _ _ g5,?_,JaF S8 (JaF S9 (JaF Y b7)));rw[map_append];show(f1.mono (P':=CV d2) λ_ _ z=>z.sameT (o.t.trans f8)).append (.one ⟨pr,rfl,by rw[<- J,Jai (ne_of a3 B (by intro z;cases z))];show o _ _ a3⟩)
     show g8 _ _ ⟨_,_,_,pu n s.tgt (addF e.1 s.cost,e.2++[s]),s.tgt,rfl,λc w h=>by rw[<- J,Jai (Jah h c6)];show o _ _ (S8 _ _ h),by rw[<- J,Jai (Ne.symm d6)];show o _ _ a5,by rw[<- J,Jai g4];show o _ _ e0,k0,(a9.mono λ_ _ z=>(z.same o).putL J N).put e7,b4.put b0 j2,λf hf hn=>TBk.keep (c8 f hf hn),λj z hj hz=>TBk.keep (d7 j z hj hz),⟨_,Ja3⟩,j7,O⟩
    .clear W d R a0 a2 a6 eq_ c0 U;intro σ H8 z_;let(v7,v8,G,n,y,rfl,S8,a5,e0,B,a9,b4,c8,d7,b0,c9,O):=z_;rw[List.drop_of_length_le (by rw[List.length_reverse];ac_nf)]at O;have O:y=z:=O;subst O;show b8 _ _ ⟨_,_,_,_,_,G,n,rfl,S8,a5,B,a9,b4,c8,λj z hj d1=>?_⟩;by_cases c:j<i
     .show d7 j z c d1
     .have : j=i:=by ac_nf
      subst this;rw[hz]at d1;cases d1;show b0
  .intro σ H5 z_;let(v4,v5,v6,v7,v8,G,n,rfl,S5,c4,d,R,a0,a2,a6):=z_;mleave;show k C G n P H5 S5 c6 d R hP c3 (λv=>⟨λ⟨e,he⟩=>(a0.en v e he).1,λhv=>?_⟩) a0 hp;cases hn:lk P v with
   | none=>show a2 v (hv.resolve_right λ⟨s,hs⟩=>by rw[hn]at hs;cases hs) hn
   | some s=>
    have hs:=hn;let(j,hj):=List.getElem?_of_mem (JgO hs);show a6 j v (List.getElem?_eq_some_iff.mp hj).1 hj
abbrev Bbm:Stmt:=top 44
theorem Jdu:Jao ["ties","found","tie"] ["ties"] (Jac Bbm):=by bv_decide
def Jdz(K:W.Frag)(Ad:Adr):Sp:=λvs H Q E=>∃(a:Addr)(xs:List V)(ts:List TD)(F:List Str),vs=[.ref a]/\SqL K H a xs/\All2 (OV K Ad H) ts xs/\ts.length<=35/\F.length<=14/\(∀ t∈ts,t.st∈F/\t.en∈F)/\∀ p out H',Same H H'->H p=none->H' p=some (.lst (out.map V.str))->Ja1 ts out->Q (.ref p) H'
theorem JhK(F:"faces_of"∘Bbm)(T:Txt K mg Ad)  : 1∘["ties"]∘(Jdz K Ad):=by
 show F.okn Jdu (by subst_eqs) (λa5 A Y s H vs Q E hr h=>?_)
 let(a,xs,ts,F,rfl,h):=h;have W:=hr.units;show(_,(Jab (Jaj 1 Jdu.nd Jbx) (Jab (Ja7 PassesOwn.never rfl (pi_U (pv 0)) (Jas 2 Jdu.nd) (Jab (Jb1 (hu1 W) (pv 1) (Jaw (pv 2) rfl) pe_bl rfl) (Jae (Jb1 (hu1 W) (pv 1) (Jaw (pv 2) rfl) pe_bl rfl)))) (Jae (Jam (Jau (Jd8 rfl) rfl T.Bcb JcY %[pv 1|0]))))),?_)
 clear W;let(hS,hR,hl,a6,n,k):=h;show tSeq _ _ _ [some (.ref a),none,none] H;try mstop
 rename_i d r a2 H H1 S1 e1;have sl:(1000:Nat)<=sizeLine:=by decide
 have lx:=hR.length;show(a,rfl,ForA.byL (xs:=xs) (hS.same S1) (λi σ R=>i<=xs.length/\∃(U:Option V)(b:List (Key × V))(c:List Str),σ=[some (.ref a),some (.ref d),U]/\Same H R/\R d=some (.dK b)/\b.map (·.1)=c.map Sum.inr/\c.Nodup/\c.length<=2*i/\∀ z,z∈c↔∃ t∈ts.take i,z=t.st\/z=t.en) ⟨Nat.zero_le _,none,[],[],rfl,S1,e1,rfl,by simp,by simp,by simp⟩ (λi σ R z=>by let(_,_,_,_,_,z,_):=z;show hS.same z) ?_ ?_)
 .intro i x σ H2 hx z_;let(hi,U,b,c,rfl,q,B,y,D,O,v):=z_;have li:i<xs.length:=(List.getElem?_eq_some_iff.mp hx).1;let(t,I,ov):=hR.at_ hx;let(C,vl,vg,(p,dx,rfl,hp),hC,a3,a4):=ov.same q;have G:=T.tie C hC;mstart;show(p,C,dx,_, .str t.st,rfl,hp,G.cls,G.n2,rfl,?_);try mstart
  have lk:b.length=c.length:=by simpa using congrArg List.length y
  show(d,_,rfl,DPut.k (k:=Sum.inr t.st) B ∅,?_);generalize L:upd H2 d _=H3;have e3:=putE L;have a0:=putN L B hp (by intro z;cases z);try mstart
  show(p,C,dx,_, .str t.en,rfl,a0,G.cls,G.n3,rfl,?_);try mstart
  have m:=Jiy y t.st (.bl true);have a1:(putK b (Sum.inr t.st) (V.bl true)).length=(addS c t.st).length:=by simpa using congrArg List.length m
  have la:=Jih c t.st;have lb:=Jih (addS c t.st) t.en;show(d,_,rfl,DPut.k (k:=Sum.inr t.en) e3 ∅,?_);generalize u4:upd H3 d _=H4;have e4:=putE u4;have S:=Jiy m t.en (.bl true);show(li,_,_,addS (addS c t.st) t.en,rfl,λbb u J=>?_,e4,S,Jjn _ (Jjn _ D),by ac_nf,λz=>?_)
  .rw[<- u4,Jai (Jah J r), <- L,Jai (Jah J r)];show q _ _ J
  .rw[Jii,Jii,v,take_succ,I];simp only[mem_append,Option.toList_some,mem_singleton];constructor
   .rintro((⟨N,M,g⟩ | h) | h)
    .show(N, .inl M,g)
    .show(t, .inr rfl, .inl h)
    .show(t, .inr rfl, .inr h)
   .rintro⟨N,M | rfl,g⟩
    .show .inl (.inl ⟨N,M,g⟩)
    .rcases g with g | g
     .show .inl (.inr g)
     .show .inr g
 .intro σ H2 z_;let(hi,U,b,c,rfl,q,B,y,D,O,v):=z_;try mstop
  rw[take_of_length_le ∅]at v;have l8:=sub_len c F D λz hz=>by
   obtain⟨t,I,h | h⟩:=(v z).mp hz
   .rw[h];show(n t I).1
   .rw[h];show(n t I).2
  show(d,b,c,rfl,B,y,by ac_nf,λl X j Z=>?_);have hH:H l=none:=by
   cases e:H l with
   | none=>rfl
   | some o=>rw[q _ _ e]at j;cases j
  show k l X _ (q.trans (newS j rfl)) hH (newE rfl) ⟨Z.1.nodup_iff.mpr D,Z.2,λz=>?_⟩;rw[Z.1.mem_iff,v]
abbrev Ba3:Stmt:=inClass (top 58) 1
theorem Jg8:Jao ["self"] ["self"] (Jac Ba3):=by bv_decide
def JbI(K:W.Frag)(Ad:Adr):Sp:=λvs H Q E=>∃(p d:Addr)(ts:List TD),vs=[.ref p]/\BK K Ad H p d ts/\∀ l ys H',Same H H'->H l=none->H' l=some (.lst ys)->All2 (OV K Ad H') ts ys->Q (.ref l) H'
theorem JgR(F:"kept"∘"Book.kept"∘Ba3)(T:Txt K mg Ad)  : 1∘["self"]∘(JbI K Ad):=by
 show F.okn Jg8 (by subst_eqs) (λm A c s H j Q E x h=>?_)
 let(p,d,v,rfl,h):=h;show(_,(Jae (Jam (JmY rfl rfl rfl T.Bdc Jho (Jaw (pv 0) rfl)))),?_);let(((o,t),a,q,u),k):=h;have e:=T.book Ad.Book rfl;show tRet _ _ [some (.ref p)] H;try mstart
 show(p,_,o,_, .ref d,rfl,t,e.cls,e.n1,rfl,?_);try mstart
 show(d,a,rfl,q,?_);rename_i l b i H r g n;show k l _ r g b n (u.2.mono λ_ _ z=>z.same g)
abbrev BaS:Stmt:=inClass (top 58) 3
theorem Jgh:Jao ["self"] ["self"] (Jac BaS):=by bv_decide
def Jbr(K:W.Frag)(Ad:Adr):Sp:=λvs H Q E=>∃(p d:Addr)(ts:List TD)(F:List Str),vs=[.ref p]/\BK K Ad H p d ts/\ts.length<=35/\F.length<=14/\(∀ t∈ts,t.st∈F/\t.en∈F)/\∀ l out H',Same H H'->H l=none->H' l=some (.lst (out.map V.str))->Ja1 ts out->Q (.ref l) H'
theorem Jf5(F:"faces"∘"Book.faces"∘BaS)(T:Txt K mg Ad)(m_kept:1∘"kept"∘(JaP Ad)∘["self"]∘(JbI K Ad))(Bcf:1∘"faces_of"∘["ties"]∘(Jdz K Ad)):2∘["self"]∘(Jbr K Ad):=by
 show F.okn Jgh (by subst_eqs) (λx A b s H y Q E r h=>?_)
 let(p,d,c,F,rfl,h):=h;show(_,(Jae (Jam (Bcf.ev r ⋯ rfl passF %[m_kept.m0 r ⋯ passF (pv 0)|0]))),?_);let(m,u,i,g,k):=h;let((D,I),_):=id m;show tRet _ _ [some (.ref p)] H;try mstop
 show(p,_,D,_,rfl,I,rfl,rfl,?_);try try mstop
 show(p,d,c,rfl,m,λl t N n J C G=>?_);try try mstop
 show(l,t,c,F,rfl,SqL.of C,G,u,i,g,λq a v z j M L=>?_);have B:H q=none:=by
  cases e:H q with
  | none=>rfl
  | some o=>rw[n _ _ e]at j;cases j
 show k q a v (n.trans z) B M L
abbrev Bar:Stmt:=inClass (top 58) 0
theorem Jb2:Jao ["self","ties","row","tie"] ["self","ties"] (Jac Bar):=by bv_decide
def Jbz(K:W.Frag)(Ad:Adr):Sp:=λvs H Q E=>∃(x dx a:Addr)(xs:List V)(ts:List TD)(H0:Hp),vs=[.ref x, .ref a]/\H x=some (.ins Ad.Book dx [])/\H0 x=none/\Same H0 H/\SqL K H0 a xs/\All2 (TV K H0) ts xs/\(∀ t∈ts,TOk t)/\(nms ts).Nodup/\ts.length<=35/\∀ d H',Same H0 H'->H0 d=none->BK K Ad H' x d ts->Q .non H'
theorem Jex(F:"__init__"∘"Book.__init__"∘Bar)(T:Txt K mg Ad)(Bb2:6∘"tie_of"∘["thing"]∘(Jd0 K Ad)):7∘["self","ties"]∘(Jbz K Ad):=by
 show F.okn Jb2 (by subst_eqs) (λa6 A a3 s H vs Q E hr h=>?_)
 let(x,m,a,xs,g,M,rfl,h):=h;have hu:=hr.units;show(_,(Jab (JbG (pv 0) Jbx rfl) (Jae (Ja7 PassesOwn.never rfl (pi_U (pv 1)) (Jas 2 Jb2.nd) (Jab (Jaj 3 Jb2.nd (Bb2.ev hr ⋯ rfl passF %[pv 2|0])) (Jab (ps_if (JcG (JfM (hu1 hu) (Jaw (pv 3) rfl) (Jaw (pv 0) rfl)) (by with_unfolding_all rfl)) (Jae ps_no)
   Jap) (Jae (Jb1 (hu1 hu) (Jaw (pv 0) rfl) (Jaw (pv 3) rfl) (pv 3) rfl))))))),?_)
 clear hu;let(hx,a2,S0,hS,hE,hT,a0,hl,k):=h;have o:=T.book Ad.Book rfl;have sl:(1000:Nat)<=sizeLine:=by decide
 have le:=hE.length;show tSeq _ _ _ [some (.ref x),some (.ref a),none,none] H;mvcgen;rename_i d G a5 H H1 S1 e1;mvcgen;show(x,_,m,_,rfl,S1 _ _ hx,o.cls,o.n1,by simp,?_);generalize u2:upd H1 x _=H2;mvcgen;have e2:H2 x=some (.ins Ad.Book m [("by_name", .ref d)]):=by rw[<- u2];show Jat.trans rfl
 have r:x≠d:=λz=>by rw[z,G]at hx;cases hx
 have X:H2 d=some (.dK []):=by rw[<- u2,Jai (Ne.symm r)];show e1
 have L:M d=none:=JaF S0 G;have J:Same M H2:=λb u h=>by rw[<- u2,Jai (Jah h a2)];show S1 _ _ (S0 _ _ h)
 mvcgen;show(a,rfl,ForA.byLN (xs:=xs) (hS.same J) (λi σ B=>i<=xs.length/\∃(v2 Z:Option V)(e:List (Key × V)),σ=[some (.ref x),some (.ref a),v2,Z]/\Same M B/\B x=some (.ins Ad.Book m [("by_name", .ref d)])/\B d=some (.dK e)/\BD (OV K Ad B) (g.take i) e) ⟨Nat.zero_le _,none,none,[],rfl,J,e2,X,by rw[take_zero];show(rfl,rfl)⟩ (λi σ B z=>by let(_,_,_,_,_,z,_):=z;show hS.same z) ?_ ?_)
 .intro i y σ H3 hy z_ N0 W;let(hi,v2,Z,e,rfl,N,e3,n,v):=z_;have li:i<xs.length:=(List.getElem?_eq_some_iff.mp hy).1;let(t,ht,a1):=hE.at_ hy;have ok:=hT t (List.mem_of_getElem? ht);have Y:=a1.sameT N.t;have a4:=v.length;rw[length_take]at a4;try simpa only[y50y,y94y]
  show(y,t,rfl,Y,ok,λw H4 R ov=>?_);let(C,_,_,(q,dq,rfl,p),hC,_):=id ov;have O:=T.tie C hC;have j:=R _ _ e3;have l:=R _ _ n;have I:=v.mono (P':=OV K Ad H4) λ_ _ z=>z.same R
  (try ((with_reducible show Nxt.go (by assumption) ?_);mvcgen))
  try simpa only[y50y,y94y]
  show(q,_,dq,_, .str t.nm,rfl,p,O.cls,O.n1,rfl,?_);show(x,_,m,_, .ref d,rfl,j,o.cls,o.n1,rfl,?_);show(d,_,rfl,DGet.k (k:=Sum.inr t.nm) l,?_);rw[I.val];have U:g.take (i+1)=g.take i++[t]:=by rw[take_succ,ht];rfl
  have c:t.nm∉nms (g.take i):=λz=>by
   have e0:g=g.take i++t::g.drop (i+1):=by
    let(h1,h2):=List.getElem?_eq_some_iff.mp ht;rw[<- h2, <- List.drop_eq_getElem_cons h1,List.take_append_drop]
   have nd:=a0;unfold nms at nd z;rw[e0,map_append,map_cons]at nd;show(nodup_append.mp nd).2.2 _ z _ mem_cons_self rfl
  rw[decide_eq_false c];try simpa only[y50y,y94y]
  (try ((with_reducible show Nxt.go (by assumption) ?_);mvcgen))
  try simpa only[y50y,y94y]
  show(x,_,m,_, .ref d,rfl,j,o.cls,o.n1,rfl,?_);show(q,_,dq,_, .str t.nm,rfl,p,O.cls,O.n1,rfl,?_);show(d,_,rfl,DPut.k (k:=Sum.inr t.nm) l ∅,?_);generalize u5:upd H4 d _=H5;mvcgen;have e5:=putE u5;have sx:Sx d H4 H5:=λb u hb h=>by rw[<- u5,Jai hb];show h
  have S:putT (g.take i) t=g.take i++[t]:=by unfold putT;rw[if_neg c]
  have D:=(I.put ov).mono (P':=OV K Ad H5) λ_ _ z=>z.sx sx l;rw[S, <- U]at D;show W _ _ ⟨li,_,_,_,rfl,λb u h=>sx b u (Jah h L) (R _ _ (N _ _ h)),sx _ _ r j,e5,D⟩
 .intro σ H3 z_;let(hi,v2,Z,e,rfl,N,e3,n,v):=z_;rw[take_of_length_le ∅]at v;try simpa only[y50y,y94y]
  show k d H3 N L ⟨⟨m,e3⟩,e,n,v⟩
abbrev Ba4:Stmt:=top 52
theorem Jcr:Jao ["steps","faces","told","places","face"] ["steps","faces"] (Jac Ba4):=by bv_decide
def JbZ(K:W.Frag)(Ad:Adr):Sp:=λvs H Q E=>∃(sL fL:Addr)(ts:List TD)(F:List Str)(fs:List Str),vs=[.ref sL, .ref fL]/\STp K Ad H ts sL/\BkH ts F/\SqL K H fL (fs.map V.str)/\fs.length<=14/\(∀ s∈Ch.all ts,s.src∈fs)/\(∀(pd:Addr)(kp:List (Key × V))(tb:Tab)(pb:List (Str × (Int × Int)))(H':Hp),Same H H'->H pd=none->H' pd=some (.dK kp)->DV (RF K H') pb kp->(pb.map (·.1)).Nodup->TTd ts fs tb->(∀ v,lk pb v=(lk tb v).map (·.1))->(∃ π,Pot π (ssD ts))->Q (.ref pd) H')/\∀(l dx:Addr)(xs:List V)(R:List SpS)(H':Hp),Same H H'->H l=none->H' l=some (.lst xs)->H dx=none->H' dx=some (.xd [("around", .ref l)])->(¬∃ π,Pot π (ssD ts))->RgD (ssD ts) fs R->All2 (CV H') (R.map λs=>(s.nm,s.fw)) xs->E (.ref Ad.Impossible) (some dx) H'
theorem JgZ(F:"places_of"∘Ba4)(T:Txt K mg Ad)(Baj:4∘"chains_from"∘["steps","starts"]∘(Jbu K Ad)):5∘["steps","faces"]∘(JbZ K Ad):=by
 show F.okx Jcr (λvs H Q E h=>?_) (λb7 A b1 s H vs Q E hr h=>?_)
 .let(Z,fL,N,F,fs,rfl,_):=h;rfl
 let(Z,fL,N,F,fs,rfl,h):=h;have hu:=hr.units;show(_,(Jab (Jaj 2 Jcr.nd (Baj.ev hr ⋯ rfl pass1 %[pv 0,pv 1|0])) (Jab (Jaj 3 Jcr.nd Jbx) (Jab (Ja7 PassesOwn.leaving rfl (Jkk (pv 2)) (Jas 4 Jcr.nd) (Jae (Jb1 (hu1 hu) (pv 3) (pv 4) (pe_ix ix_U (JaI (hu1 hu) (pv 2) (pv 4) (λ_ _=>rfl)) Jaf) rfl))) (Jae (Jam (pv 3)))))),?_)
 clear hu;let(a7,hg,hF,l8,S,k,kE):=h;let((sx,hS,hX),a6,a4):=a7;have sl:(1000:Nat)<=sizeLine:=by decide
 have a2:(ssD N).length<=70:=by unfold ssD;rw[length_map];show hg.l70
 show tSeq _ _ _ [some (.ref Z),some (.ref fL),none,none,none] H;cbv;show(Z,fL,sx,ssD N,fs,rfl,hS,hX,hF,l8,a2, .inl (Jnf S),λs hs=>?_,λC Y n P H1 S1 h0 D hT hP hB hi hk U=>?_,kE)
 .let(s',b0,rfl):=mem_map.mp hs;show hg.fb s' b0
 have hP:P=lsD N fs:=hP;subst hP;have b2:TTd N fs n:=⟨a6,a4,hk,hi,hB⟩;have b6:=hB.tb_len hk
 mframe;rename_i u d b3 H1 H2 S2 O;cbv;have X:u≠C:=λz=>by rw[z,D]at d;cases d
 mframe;show(C,Y,n.map (·.1),rfl,S2 _ _ D,hT.keys,λod=>?_);generalize uf:upd H2 C _=H3;cbv;have ef:H3 C=some (.frz od (.dK Y)):=by rw[<- uf];show Jat
 have a1:Same H H3:=λc w h=>by rw[<- uf,Jai (Jah h h0)];show S2 _ _ (S1 _ _ h)
 have a8:H3 u=some (.dK []):=by rw[<- uf,Jai X];show O
 have a5:DV (RT K H H3) n Y:=(hT.mono λ_ _ z=>z.same S2).mono λ_ _ z=>z.putL uf (S2 _ _ D);have r:=JaF S1 d;show ForJ.keys (λi σ I=>i<=n.length/\∃(v4:Option V)(M:List (Key × V))(g:List (Str × (Int × Int))),σ=[some (.ref Z),some (.ref fL),some (.ref C),some (.ref u),v4]/\Same H I/\I C=some (.frz od (.dK Y))/\DV (RT K H I) n Y/\I u=some (.dK M)/\DV (RF K I) g M/\(g.map (·.1)).Nodup/\g.length<=i/\(∀ v e,lk g v=some e->∃ J,lk n v=some J/\J.1=e)/\∀ j z,j<i->(n.map (·.1))[j]?=some z->∃ e,lk g z=some e) ⟨Nat.zero_le _,none,[],[],rfl,a1,ef,a5,a8,rfl,by simp,Nat.le_refl _,(λv e h=>by cases h),λj z L=>absurd L (Nat.not_lt_zero _)⟩ (λi σ I z=>by let(_,_,_,_,_,_,z,_):=z;show z) ?_ ?_
 .intro i z σ H4 hz z_ N0 a0;let(a9,v4,M,g,rfl,S4,x,B,b,m,G,a3,o,t):=z_;have li:=(List.getElem?_eq_some_iff.mp hz).1;rw[length_map]at li;let(e,he):=Jeo (List.mem_of_getElem? hz);let(v,hv,p,qv,l,xs,rfl,hp,hq,hl,b5,hf):=B.at he;have b4:=m.len;cbv;show(C, .ref p,rfl,by rw[<- hv];show DGet.f (k:=Sum.inr z) x,?_);cbv;show ixT (i:=0) hp rfl ?_;cbv;show(u,_,rfl,DPut.k (k:=Sum.inr z) b ∅,?_);generalize R:upd H4 u _=H5;cbv;have e5:=putE R;have T5:SameT H4 H5:=SameT.put R b rfl;show a0 _ _ ⟨li,_,_,pu g z e.1,rfl,λc w h=>by rw[<- R,Jai (Jah h r)];show S4 _ _ h,by rw[<- R,Jai (Ne.symm X)];show x,B.mono (λ_ _ z=>z.putL R b),e5,(m.mono (R':=RF K H5) λ_ _ z=>FrV.sameT T5 z).put (FrV.sameT T5 hq),pu_nd G,by have:=Jes (l:=g) (f:=z) (a:=e.1);ac_nf,λv J h=>?_,λj y L hy=>?_⟩
  .rw[lk_pu]at h;by_cases c:z=v
   .rw[if_pos c]at h;cases h;show(e,by rw[<- c];show he,rfl)
   .rw[if_neg c]at h;show o v J h
  .rw[lk_pu];by_cases c:z=y
   .show(_,if_pos c)
   .rw[if_neg c];cbv;show t j y ?_ hy;have : j≠i:=λq=>by
     rw[q,hz]at hy;cases hy;show c rfl
    ac_nf
 .intro σ H4 z_;let(a9,v4,M,g,rfl,S4,x,B,b,m,G,a3,o,t):=z_;cbv;show k u M n g H4 S4 r b m G b2 (λv=>?_) U;cases D:lk n v with
  | none=>
   cases O:lk g v with
   | none=>rfl
   | some e=>
    let(J,h,_):=o v e O;rw[D]at h;cases h
  | some e=>
   let(j,L):=List.getElem?_of_mem (JgO D);let(O,W):=t j v (List.getElem?_eq_some_iff.mp L).1 L;let(J,h,q):=o v O W;rw[D]at h;cases h;rw[W, <- q];rfl
abbrev BaA:Stmt:=inClass (top 58) 7
theorem Jc1:Jao ["self","places"] ["self"] (Jac BaA):=by bv_decide
def JbM(K:W.Frag)(Ad:Adr):Sp:=λvs H Q E=>∃(p d:Addr)(ts:List TD)(F:List Str),vs=[.ref p]/\BK K Ad H p d ts/\BkH ts F/\(∀(l:Addr)(ys:List V)(out:List Str)(tb:Tab)(H':Hp),Same H H'->H l=none->H' l=some (.lst ys)->Ja1 ts out->TTd ts out tb->All2 (QV K H') (out.map λv=>(v,plD tb v)) ys->(∃ π,Pot π (ssD ts))->Q (.ref l) H')/\∀(l dx:Addr)(xs:List V)(R:List SpS)(H':Hp),Same H H'->H l=none->H' l=some (.lst xs)->H dx=none->H' dx=some (.xd [("around", .ref l)])->(¬∃ π,Pot π (ssD ts))->(∃ out,Ja1 ts out/\RgD (ssD ts) out R)->All2 (CV H') (R.map λs=>(s.nm,s.fw)) xs->E (.ref Ad.Impossible) (some dx) H'
theorem Je0(F:"placing"∘"Book.placing"∘BaA)(T:Txt K mg Ad)(m_kept:1∘"kept"∘(JaP Ad)∘["self"]∘(JbI K Ad))(m_faces:2∘"faces"∘(JaP Ad)∘["self"]∘(Jbr K Ad))(BaF:6∘"steps_of"∘["ties"]∘(Jcn K Ad))(Bax:5∘"places_of"∘["steps","faces"]∘(JbZ K Ad)):8∘["self"]∘(JbM K Ad):=by
 show F.okx Jc1 (λvs H Q E h=>?_) (λb8 A a6 s H vs Q E hr h=>?_)
 .let(p,d,r,F,rfl,_):=h;rfl
 let(p,d,r,F,rfl,h):=h;have hu:=hr.units;show(_,(Jab (Jaj 1 Jc1.nd (Bax.ev hr ⋯ rfl pass1 %[BaF.ev hr ⋯ rfl pass1 %[m_kept.m0 hr ⋯ pass1 (pv 0)|0],m_faces.m0 hr ⋯ pass1 (pv 0)|0]) rfl (Or.inr rfl)) (Jae (Jam (Jcq (Jbi (own:=["face"]) (cs:=[(1,"places")]) rfl (pi_U (Jau (Jd8 rfl) rfl T.Bcb JcY %[pv 1|0])) (λ_ _ _ _=>(Jas 0 (show[("face" : Str),("places" : Str)].Nodup by decide))) (λ_ _ _ _=>JbA) (λ_ _ _ _=>(JaN %[pv 0,JaI (hu1 hu) (pv 1) (pv 0) (λ_ _=>rfl)|0])) (Jce rfl) ⋯ rfl ⋯ (hcs1 rfl rfl rfl)))))),?_)
 clear hu;let(hb,g,k,kE):=h;let((dx,hp),_):=id hb;have sl:(1000:Nat)<=sizeLine:=by decide
 have b5:(ssD r).length<=70:=by unfold ssD;rw[length_map];show g.l70
 show tSeq _ _ _ [some (.ref p),none] H;cbv;show(p,_,dx,_,rfl,hp,rfl,rfl,?_);cbv;show(p,d,r,rfl,hb,λl ys H1 S1 b9 e1 hA=>?_);cbv;show(l,ys,r,rfl,SqL.of e1,hA,g.ok,λs x=>(g.fb s x).mono ⋯ ⋯,g.l35,λsL sx b H2 S2 e2 G a2 b7 a7 a5=>?_);have G:b=bD_ r:=G;subst G;have a4:STp K Ad H2 r sL:=⟨⟨sx,SqL.of e2,Jgp a5⟩,a2,λs x=>⟨(g.fb s x).b1,a7 s x⟩⟩;have I:=S1.trans S2;cbv;show(p,_,dx,_,rfl,I _ _ hp,rfl,rfl,?_);cbv;show(p,d,r,F,rfl,hb.same I,g.l35,g.f8,g.fm,λfl a H3 S3 b0 e3 c=>?_);have Z:a.length<=14:=by
  have:=sub_len a F c.1 λz o=>by
   obtain⟨t,C,h | h⟩:=(c.2.2 z).mp o
   .rw[h];show(g.fm t C).1
   .rw[h];show(g.fm t C).2
  have:=g.f8;ac_nf
 have m:=I.trans S3;have X:∀ s∈Ch.all r,s.src∈a:=λs x=>(Jcf (F:=a) (λt C=>⟨(c.2.2 _).mpr ⟨t,C, .inl rfl⟩,(c.2.2 _).mpr ⟨t,C, .inr rfl⟩⟩) s x).1;cbv;show(sL,fl,r,F,a,rfl,a4.same S3,g,SqL.of e3,Z,X,λpd kp tb N H4 S4 b2 e4 W U n J a0=>?_,λl2 a1 xs R H4 S4 h1 h2 h3 h4 h5 h6 h7=>kE l2 a1 xs R H4 (m.trans S4) (JaF m h1) h2 (JaF m h3) h4 h5 ⟨a,c,h6⟩ h7)
 mframe;have O:∀ z,z∈N.map (·.1)↔z∈a:=λz=>by
  constructor
  .intro o;let(e,he):=Jeo o;rw[J z]at he;let(e',a3,_):=Option.map_eq_some_iff.mp he;rcases(n.ks z).mp ⟨e',a3⟩with q | ⟨s,x⟩
   .show q
   .let(_,_,_,_,b3,_):=n.be.ex;let(m1,m2,_):=b3 z s x;let(y,hy,rfl):=mem_map.mp m1;rw[<- m2];show(Jcf (F:=a) (λt C=>⟨(c.2.2 _).mpr ⟨t,C, .inl rfl⟩,(c.2.2 _).mpr ⟨t,C, .inr rfl⟩⟩) y hy).2
  .intro o;let(e,he):=(n.ks z).mpr (.inl o);have : lk N z=some e.1:=by rw[J z,he];rfl
   show JgO this
 have b6:N.length<=14:=by
  have:=sub_len (N.map (·.1)) a U λz o=>(O z).mp o;rw[length_map]at this;ac_nf
 show(pd,kp,N.map (·.1),rfl,e4,W.keys,by rw[length_map];ac_nf,?_);intro so o2 Y D;generalize B:upd H4 so _=H5;have S5:=newS Y B;have e5:=newE B;have eo:o2=a:=Jfc D.2 c.2.1 (D.1.nodup_iff.mpr U) c.1 λz=>by rw[D.1.mem_iff,O]
 subst eo;show(so,rfl, .inl ⟨⟨_,SqL.of e5⟩,CompJ.list (xs:=o2.map V.str) (λj zs H'=>Same H5 H'/\All2 (QV K H') ((o2.take j).map λv=>(v,plD tb v)) zs) ⟨Same.refl _,by rw[take_zero];show rfl⟩ (λj zs H' hj z=>⟨SqL.of (z.1 _ _ e5),by have:=z.2.length;rw[length_map,length_take]at this;ac_nf⟩) ?_ ?_⟩)
 .rintro j y ws H7 hy ⟨L,u⟩;rw[List.getElem?_map]at hy;let(z,o,rfl):=Option.map_eq_some_iff.mp hy;let(e,he):=(n.ks z).mpr (.inl (List.mem_of_getElem? o));let(v,hv,fv):=W.at (show lk N z=some e.1 by rw[J z,he];rfl);simpa only[length_singleton,length_cons,length_nil,List.replicate,JaJ,map_cons,map_nil,Option.join_some];show(pd,v,rfl,by rw[<- hv];show DGet.k (k:=Sum.inr z) (L _ _ (S5 _ _ e4)),?_);cbv;show(by show 2<=sizeLine;ac_nf,?_);rename_i np a8 a9 H7 H8 M e8;cbv;show(L.trans M,?_);rw[take_succ,o,map_append];show(u.mono (P':=QV K H8) λ_ _ z=>z.sameT M.t).append (.one ⟨np,v,rfl,e8,by
   show FrV K H8 v (plD tb z).1 (plD tb z).2;rw[JiI he];show FrV.same (S5.trans (L.trans M)) fv⟩)
 .rintro zs H7 ⟨L,u⟩;rw[take_of_length_le (by rw[length_map];show Nat.le_refl _)]at u;rename_i ol S b4 H7 H8 M e8;cbv;show k ol zs o2 tb H8 (m.trans (S4.trans (S5.trans (L.trans M)))) (JaF m (JaF S4 (JaF S5 (JaF L S)))) e8 c n (u.mono λ_ _ z=>z.sameT M.t) a0
abbrev Ba5:Stmt:=inClass (top 58) 6
theorem Jet:Jao ["self","e"] ["self"] (Jac Ba5):=by bv_decide
def Jc3(K:W.Frag)(Ad:Adr):Sp:=λvs H Q E=>∃(p d:Addr)(ts:List TD)(F:List Str),vs=[.ref p]/\BK K Ad H p d ts/\BkH ts F/\(∀ H',Same H H'->(∃ π,Pot π (ssD ts))->Q .non H')/\∀(l:Addr)(xs:List V)(R:List SpS)(H':Hp),Same H H'->H l=none->H' l=some (.lst xs)->(¬∃ π,Pot π (ssD ts))->(∃ out,Ja1 ts out/\RgD (ssD ts) out R)->All2 (CV H') (R.map λs=>(s.nm,s.fw)) xs->Q (.ref l) H'
theorem JgS(F:"ring"∘"Book.ring"∘Ba5)(T:Txt K mg Ad)(m_placing:8∘"placing"∘(JaP Ad)∘["self"]∘(JbM K Ad)):9∘["self"]∘(Jc3 K Ad):=by
 show F.okn Jet (by subst_eqs) (λD A o s H C Q E S h=>?_)
 let(p,d,y,F,rfl,h):=h;show(_,(Jab (Jls (i:=1) Jet.nd rfl rfl (m_placing.tr0 S ⋯ (pv 0)) rfl T.m_Impossible (λ_=>
   (Jae (Jam (Jlm (K:=K) rfl (pv 1) rfl))))) (Jae (Jam Jaz))),?_)
 let(q,B,k,N):=h;let((J,L),_):=id q;show tSeq _ _ _ [some (.ref p),none] H;cbv;show(p,_,J,_,rfl,L,rfl,rfl,?_);cbv;show(p,d,y,F,rfl,q,B,λl V M Z g m v r X ht W e=>?_,λl c G R g m v r Y x U O I=>?_)
 .cbv;show k g m e
 .show(_,rfl,T.xc,λn a=>⟨n,_,c,_, .ref l,rfl,Jat,T.xl,by rw[Jai (Jah x a)];show x,rfl,?_⟩);have j:Same g (upd g n (ExcO n Ad.Impossible (some c))):=λb u h=>by rw[Jai (Jah h a)];show h
  show N l G R _ (m.trans j) v (j _ _ r) U O (I.mono λ_ _ z=>z.sameT j.t)
abbrev BaG:Stmt:=top 53
theorem JfA:Jao ["number"] ["number"] (Jac BaG):=by bv_decide
def JcD(K:W.Frag):Sp:=λvs H Q E=>∃(v:V)(n:Int × Int),vs=[v]/\FrV K H v n.1 n.2/\FB 1000 700 n/\Q (.int (JbE n)) H
theorem Jfu(F:"whole_below"∘BaG)(T:Txt K mg Ad)  : 1∘["number"]∘(JcD K):=by
 show F.okn JfA (by subst_eqs) (λd A a s H e Q E g h=>?_)
 let(v,n,rfl,h):=h;show(_,(Jae (Jam (pe_op Jav (!0) (!0)))),?_);let(b,c,k):=h;show tRet _ _ [some v] H;cbv;show ixF0 b (ixF1 b ?_);cbv;show(divOk (n:=700) (by have:=c.b1;ac_nf) c.s2,k)
abbrev BaH:Stmt:=top 54
theorem Jfz:Jao ["number"] ["number"] (Jac BaH):=by bv_decide
def JcC(K:W.Frag):Sp:=λvs H Q E=>∃(v:V)(n:Int × Int),vs=[v]/\FrV K H v n.1 n.2/\FB 1000 700 n/\Q (.int (ceilF n)) H
theorem Jft(F:"whole_above"∘BaH)(T:Txt K mg Ad)  : 1∘["number"]∘(JcC K):=by
 show F.okn Jfz (by subst_eqs) (λd A a s H e Q E g h=>?_)
 let(v,n,rfl,h):=h;show(_,(Jae (Jam (pe_un Jdm (pe_op Jav (pe_un Jdm (!0)) (!0))))),?_);let(b,c,k):=h;show tRet _ _ [some v] H;cbv;show ixF0 b ?_;cbv;show ixF1 b ?_;cbv;show(divOk (n:=700) (by have:=c.b1;ac_nf) c.s2,k)
abbrev BaB:Stmt:=top 55
theorem Jbm:Jao ["steps","reached_chains","places","enough","step","place"] ["steps","reached_chains","places"] (Jac BaB):=by bv_decide
def Jcm(K:W.Frag)(Ad:Adr):Sp:=λvs H Q E=>∃(sL td pd:Addr)(ts:List TD)(tb:Tab)(pb:List (Str × (Int × Int)))(H0:Hp),vs=[.ref sL, .ref td, .ref pd]/\STp K Ad H ts sL/\TDk K H0 H tb td/\PDk K H pb pd/\(∀ s∈Ch.all ts,FB 200 9 s.c)/\(∀ v e,lk tb v=some e->FB 1000 700 e.1)/\(∀ v e,lk pb v=some e->FB 1000 700 e)/\(∀ s∈Ch.all ts, ∃ e,lk pb s.src=some e)/\Q (.int (enD (ssD ts) (λv=>(lk tb v).map (·.1)) (lk pb))) H
theorem Je3(F:"enough_above"∘BaB)(T:Txt K mg Ad)(BbP:1∘"whole_above"∘["number"]∘(JcC K))(Bbi:1∘"whole_below"∘["number"]∘(JcD K)):2∘["steps","reached_chains","places"]∘(Jcm K Ad):=by
 show F.okn Jbm (by subst_eqs) (λa5 A a0 s H vs Q E L h=>?_)
 let(J,o,D,C,c,n,H0,rfl,h):=h;have x:=L.units;show(_,(Jab (Jaj 3 Jbm.nd Jaf) (Jab (Ja7 PassesOwn.never rfl (pi_U (pv 0)) (Jas 4 Jbm.nd) (Jae (ps_if (PW.pt (Jci (JcG (JfM (hu1 x) (Jaw (pv 4) rfl) (pv 1)) (by with_unfolding_all rfl)) (JbR (JcG (Jch (hu1 x) (Jaw (pv 4) rfl) (pv 1)) (by with_unfolding_all rfl))))) (Jab (Jaj 5 Jbm.nd (BbP.ev L ⋯ rfl passF %[pe_ix ix_U (JaI (hu1 x) (pv 1) (Jaw (pv 4) rfl) (λ_ _=>rfl)) Jaf|0])) (Jae (Jaj 3 Jbm.nd (Jau (Jjv rfl) rfl T.n_max Jnr %[pv 3,pe_op JfL (pe_op JfL (pv 5) (Bbi.ev L ⋯ rfl passF %[JaI (hu1 x) (pv 2) (Jaw (pv 4) rfl) (λ_ _=>rfl)|0])) (Bbi.ev L ⋯ rfl passF %[Jaw (pv 4) rfl|0])|0]))))
   Jap))) (Jae (Jam (pv 3))))),?_)
 clear x;let(((sx,hS,hX),_,_),(kt,X,G,_),(kp,ep,hP),O,R,Y,S,k):=h;have g:=T.c_Step Ad.Step rfl;have lX:=hX.length;show tSeq _ _ _ [some (.ref J),some (.ref o),some (.ref D),none,none,none] H;mleave;show(J,rfl,ForA.byLN (xs:=sx) hS (λi σ I=>i<=sx.length/\∃(W r:Option V),σ=[some (.ref J),some (.ref o),some (.ref D),some (.int (((ssD C).take i).foldl (enS (λv=>(lk c v).map (·.1)) (lk n)) 0)),W,r]/\I=H) ⟨Nat.zero_le _,none,none,rfl,rfl⟩ (λi σ I z=>by let(_,_,_,_,rfl):=z;show hS) ?_ ?_)
 .rintro i y σ I hy ⟨hi,W,r,rfl,rfl⟩ N0 l;have Z:=(List.getElem?_eq_some_iff.mp hy).1;let(s,hs,p,B,vc,pr,rfl,d,a2,a4):=hX.at_ hy;let(s0,t,es):=mem_map.mp (List.mem_of_getElem? hs);have j:((ssD C).take (i+1)).foldl (enS (λv=>(lk c v).map (·.1)) (lk n)) 0=enS (λv=>(lk c v).map (·.1)) (lk n) (((ssD C).take i).foldl (enS (λv=>(lk c v).map (·.1)) (lk n)) 0) s:=by rw[take_succ,hs,foldl_append];rfl
  generalize((ssD C).take i).foldl (enS (λv=>(lk c v).map (·.1)) (lk n)) 0=m at j ⊢;have U:FB 1000 700 s.cost:=by rw[<- es];show(O s0 t).mono ⋯ ⋯
  mleave;show(p,_,B,_, .str s.tgt,rfl,d,g.cls,g.n2,rfl,?_);show(o,_,rfl,DGet.k (k:=Sum.inr s.tgt) X,?_);cases ea:lk c s.tgt with
  | none=>
   rw[G.no ea];try simpa only[y50y,Option.isSome_none]
   show l _ _ ⟨Z,some (.ref p),r,?_,rfl⟩;rw[j,Jnv (by show(lk c s.tgt).map _=none;rw[ea];rfl)]
  | some a=>
   let(va,u,pa,qa,la,xa,rfl,a3,a1,_):=G.at ea;rw[u];try simpa only[y50y,Option.isSome_some]
   show(p,_,B,_, .str s.src,rfl,d,g.cls,g.n1,rfl,?_);show(o,_,rfl,DGet.k (k:=Sum.inr s.src) X,?_);cases eb:lk c s.src with
   | some b=>
    rw[(G.at eb).choose_spec.1];try simpa only[y50y,Option.isSome_some]
    show l _ _ ⟨Z,some (.ref p),r,?_,rfl⟩;rw[j,Jnw (b:=b.1) (by show(lk c s.src).map _=some _;rw[eb];rfl)]
   | none=>
    rw[G.no eb];try simpa only[y50y,Option.isSome_none]
    obtain⟨q,M⟩:∃ e,lk n s.src=some e:=by rw[<- es];show S s0 t
    let(vq,N,fq):=hP.at M;show(p,_,B,_, .str s.tgt,rfl,d,g.cls,g.n2,rfl,?_);show(o, .ref pa,rfl,by rw[<- u];show DGet.k (k:=Sum.inr s.tgt) X,?_);mleave;show ixT (i:=0) a3 rfl ?_;mleave;show(_,a.1,rfl,a1,R _ _ ea,?_);mleave
    (try ((with_reducible show Nxt.go (by assumption) ?_);mleave))
    mleave;show(p,_,B,_, .str s.src,rfl,d,g.cls,g.n1,rfl,?_);show(D,vq,rfl,by rw[<- N];show DGet.k (k:=Sum.inr s.src) ep,?_);mleave;show(_,q,rfl,fq,Y _ _ M,?_);mleave;show(p,_,B,_,vc,rfl,d,g.cls,g.n3,rfl,?_);mleave;show(_,s.cost,rfl,a2,U,?_);mleave;show(_,_,rfl,?_);mleave;show l _ _ ⟨Z,some (.ref p),some (.int (ceilF a.1)),?_,rfl⟩;rw[j,enS_y (a:=a.1) (p:=q) (by show(lk c s.tgt).map _=some _;rw[ea];rfl) (by show(lk c s.src).map _=none;rw[eb];rfl) M]
 .rintro σ I ⟨hi,W,r,rfl,rfl⟩;mleave;rw[take_of_length_le ∅];show k
abbrev Bag:Stmt:=top 56
theorem Ja0:Jao ["steps","reached_chains","places","lift","told","face"] ["steps","reached_chains","places"] (Jac Bag):=by bv_decide
def Jbs(K:W.Frag)(Ad:Adr):Sp:=λvs H Q E=>∃(sL td pd:Addr)(ts:List TD)(tb:Tab)(pb:List (Str × (Int × Int)))(H0:Hp),vs=[.ref sL, .ref td, .ref pd]/\STp K Ad H ts sL/\TDk K H0 H tb td/\PDk K H pb pd/\(∀ s∈Ch.all ts,FB 200 9 s.c)/\(∀ v e,lk tb v=some e->FB 1000 700 e.1)/\(∀ v e,lk pb v=some e->FB 1000 700 e)/\(∀ s∈Ch.all ts, ∃ e,lk pb s.src=some e)/\pb.length<64/\∀(l:Addr)(zs:List V)(out:List Str)(H':Hp),Same H H'->H l=none->H' l=some (.lst zs)->Jjm out (pb.map (·.1))->All2 (QV K H') (stD ts (λv=>(lk tb v).map (·.1)) (lk pb) out) zs->Q (.ref l) H'
theorem Jdi(F:"stretched_placing"∘Bag)(T:Txt K mg Ad)(BbE:2∘"enough_above"∘["steps","reached_chains","places"]∘(Jcm K Ad))(Bcc:2∘"plus"∘["one","other"]∘(Jfe K)):3∘["steps","reached_chains","places"]∘(Jbs K Ad):=by
 show F.okn Ja0 (by subst_eqs) (λc1 A b5 s H vs Q E hr h=>?_)
 let(sL,U,S,J,j,u,H0,rfl,h):=h;have hu:=hr.units;show(_,(Jab (Jaj 3 Ja0.nd (JaN %[BbE.ev hr ⋯ rfl passF %[pv 0,pv 1,pv 2|0],Jaf|0])) (Jab (Jaj 4 Ja0.nd (Ja6 Jad)) (Jab (Ja7 PassesOwn.never rfl (pi_U (Jau (Jd8 rfl) rfl T.Bcb JcY %[pv 2|0])) (Jas 5 Ja0.nd) (Jae (ps_if (JcG (JfM (hu1 hu) (pv 5) (pv 1)) (by with_unfolding_all rfl)) (Jae (JaU (pe_bm PySem.F.plainAttrs_list PySem.F.slot_list_append PySem.F.type_list_append Jbf (pv 4) %[JaN %[pv 5,pe_ix ix_U (JaI (hu1 hu) (pv 1) (pv 5) (λ_ _=>rfl)) Jaf|0]|0] (hs:=by show Jag rfl)))) (Jae (JaU (pe_bm PySem.F.plainAttrs_list PySem.F.slot_list_append PySem.F.type_list_append Jbf (pv 4) %[JaN %[pv 5,Bcc.ev hr ⋯ rfl passF %[JaI (hu1 hu) (pv 2) (pv 5) (λ_ _=>rfl),pv 3|0]|0]|0] (hs:=by show Jag rfl))))))) (Jae (Jam (pv 4)))))),?_)
 clear hu;let(a9,a2,a7,a4,a5,N,b3,c2,k):=h;let(kt,et,hT,hf):=id a2;let(kp,ep,hP):=id a7;have sl:(1000:Nat)<=sizeLine:=by decide
 show tSeq _ _ _ [some (.ref sL),some (.ref U),some (.ref S),none,none,none] H;cbv;show(sL,U,S,J,j,u,H0,rfl,a9,a2,a7,a4,a5,N,b3,?_);have G:=en_lt (f:=λv=>(lk j v).map (·.1)) (g:=lk u) (λv e h=>by let(a,h1,h2):=Option.map_eq_some_iff.mp h;rw[<- h2];show a5 v a h1) N (ssD J) 0 (λs hs=>by let(y,hy,rfl):=mem_map.mp hs;show(a4 y hy).mono ⋯ ⋯) (Int.le_refl _) (by exact_mod_cast Nat.two_pow_pos 1010);have G:0<=enD (ssD J) (λv=>(lk j v).map (·.1)) (lk u)/\enD (ssD J) (λv=>(lk j v).map (·.1)) (lk u)<2 ^ 1010:=G;cbv;show(len2,?_);rename_i lf b9 b7 H H1 S1 e1;cbv
 mframe;show(len0,?_);rename_i I n b8 H1 H2 S2 e2;cbv
 mframe;show(S,kp,u.map (·.1),rfl,S2 _ _ (S1 _ _ ep),hP.keys,by rw[length_map];ac_nf,?_);intro so b r M;generalize L:upd H2 so _=H3;have S3:=newS r L;have e3:=newE L;have c0:=S1.trans (S2.trans S3);have lo:b.length=u.length:=by rw[M.1.length_eq,length_map]
 have a3:I≠so:=λz=>by rw[<- z,e2]at r;cases r
 generalize hst':stD J (λv=>(lk j v).map (·.1)) (lk u)=st at k;have b6:∀ i,(st (b.take i)).length=(b.take i).length:=λi=>by rw[<- hst'];unfold stD;rw[length_map]
 have fl:FrV K H1 (.ref lf) (enD (ssD J) (λv=>(lk j v).map (·.1)) (lk u)) 1:=FrV.of e1;generalize hm:enD (ssD J) (λv=>(lk j v).map (·.1)) (lk u)=m at *;show(so,rfl,ForA.byLN (xs:=b.map V.str) (SqL.of e3) (λi σ H'=>i<=b.length/\∃(v5:Option V)(zs:List V),σ=[some (.ref sL),some (.ref U),some (.ref S),some (.ref lf),some (.ref I),v5]/\Same H1 H'/\H' so=some (.lst (b.map V.str))/\H' I=some (.lst zs)/\All2 (QV K H') (st (b.take i)) zs) ⟨Nat.zero_le _,none,[],rfl,S2.trans S3,e3,S3 _ _ e2,by rw[take_zero, <- hst'];show rfl⟩ (λi σ H' z=>by let(_,_,_,_,_,z,_):=z;show SqL.of z) ?_ ?_)
 .intro i y σ H4 hy z_ N0 Y;let(hi,v5,zs,rfl,W,O,d,R):=z_;rw[List.getElem?_map]at hy;let(v,hv,rfl):=Option.map_eq_some_iff.mp hy;have li:=(List.getElem?_eq_some_iff.mp hv).1;have b2:=R.length;rw[b6,length_take]at b2;have o:=S1.trans W;have a0:=o _ _ et;have b4:=o _ _ ep;let(q,hq):=Jeo (M.1.mem_iff.mp (List.mem_of_getElem? hv));have X:∀ e,(st [v])=[(v,e)]->st (b.take (i+1))=st (b.take i)++[(v,e)]:=λe h=>by
   rw[take_succ,hv, <- h, <- hst'];unfold stD;rw[map_append];rfl
  cbv;show(U,_,rfl,DGet.k (k:=Sum.inr v) a0,?_);cases ea:lk j v with
  | some e=>
   let(va,a6,p,qv,l,xs,rfl,hp,b0,_):=hT.at ea;rw[a6];try simpa only[Option.isSome_some]
   show(.inl ⟨rfl,_,SqL.of d⟩,?_);show(U, .ref p,rfl,by rw[<- a6];show DGet.k (k:=Sum.inr v) a0,?_);cbv;show ixT (i:=0) (hp.same o) rfl ?_;cbv;show(len2,?_);rename_i np Z a1 H4 H5 x e5;cbv;show(I,_,_,rfl,rfl,x _ _ d,by ac_nf,?_);generalize u6:upd H5 I _=H6;cbv;have e6:=putE u6;have T6:SameT H5 H6:=SameT.put u6 (x _ _ d) rfl;show Y _ _ ⟨li,_,_,rfl,λc w h=>by rw[<- u6,Jai (Jah h n)];show x _ _ (W _ _ h),by rw[<- u6,Jai (Ne.symm a3)];show x _ _ O,e6,?_⟩;rw[X e.1 (by rw[<- hst'];show JlB (by show(lk j v).map _=some _;rw[ea];rfl))];show(R.mono (P':=QV K H6) λ_ _ z=>z.sameT (x.t.trans T6)).append (.one ⟨np,qv,rfl,T6 _ _ rfl e5,(b0.same (o.trans x)).sameT T6⟩)
  | none=>
   rw[hT.no ea];try simpa only[Option.isSome_none]
   let(vq,a8,fq):=hP.at hq;have B:=N _ _ hq;show(.inl ⟨rfl,_,SqL.of d⟩,?_);show(S,vq,rfl,by rw[<- a8];show DGet.k (k:=Sum.inr v) b4,?_);cbv;show(vq, .ref lf,q.1,q.2,m,1,rfl,FrV.same o fq,fl.same W,B.s1.mono ⋯,B.s2.mono ⋯,?_, .lit ⋯ ⋯,B.b1,by decide,B.g1,by unfold Mth.g;simp,λap H5 x e5=>?_)
   .show(show Mth.Sz 1010 m from ?_).mono ⋯;unfold Mth.Sz;have h1:=G.2;have hC:((2 ^ 1010:Nat):Int)=(2:Int) ^ 1010:=by norm_cast
    rw[<- hC]at h1;have h0:=G.1;generalize(2 ^ 1010:Nat)=C at *;ac_nf
   cbv;show(len2,?_);rename_i np Z a1 H5 H6 S6 e6;cbv;show(I,_,_,rfl,rfl,S6 _ _ (x _ _ d),by ac_nf,?_);generalize u7:upd H6 I _=H7;cbv;have e7:=putE u7;have D:=x.trans S6;have T7:SameT H6 H7:=SameT.put u7 (D _ _ d) rfl;show Y _ _ ⟨li,_,_,rfl,λc w h=>by rw[<- u7,Jai (Jah h n)];show D _ _ (W _ _ h),by rw[<- u7,Jai (Ne.symm a3)];show D _ _ O,e7,?_⟩;rw[X (addF q (m,1)) (by rw[<- hst', <- hm];show JlA (by show(lk j v).map _=none;rw[ea];rfl) hq)];show(R.mono (P':=QV K H7) λ_ _ z=>z.sameT (D.t.trans T7)).append (.one ⟨np, .ref ap,rfl,T7 _ _ rfl e6,⟨ap,rfl,(SqT.of (S6 _ _ e5)).sameT T7⟩⟩)
 .intro σ H4 z_;let(hi,v5,zs,rfl,W,O,d,R):=z_;cbv;rw[take_of_length_le (by rw[length_map];show Nat.le_refl _)]at R;show k I zs b H4 (S1.trans W) (JaF S1 n) d M R
abbrev BaI:Stmt:=top 57
theorem Jbt:Jao ["chains","one","other","least","greatest"] ["chains","one","other"] (Jac BaI):=by bv_decide
def Jcx(K:W.Frag)(Ad:Adr):Sp:=λvs H Q E=>∃(cd:Addr)(one other:Str)(cb:List (Str × Addr))(kc:List (Key × V))(tb1 tb2:Tab)(t1 t2:Addr)(H0:Hp),vs=[.ref cd, .str one, .str other]/\H cd=some (.dK kc)/\DV (λa v=>v=.ref a) cb kc/\lk cb one=some t1/\lk cb other=some t2/\TDk K H0 H tb1 t1/\TDk K H0 H tb2 t2/\(∀ v e,lk tb1 v=some e->FB 1000 700 e.1)/\(∀ v e,lk tb2 v=some e->FB 1000 700 e.1)/\∀(p:Addr)(vl vg:V)(H':Hp),Same H H'->H' p=some (.tup [vl,vg])->BV K H' ((lk tb2 one).map λe=>subF (0,1) e.1) vl->BV K H' ((lk tb1 other).map (·.1)) vg->Q (.ref p) H'
theorem Jfn(F:"gap_between"∘BaI)(T:Txt K mg Ad)(BbN:3∘"minus"∘["one","other"]∘(JdZ K)):4∘["chains","one","other"]∘(Jcx K Ad):=by
 show F.okn Jbt (by subst_eqs) (λa1 A U s H vs Q E hr h=>?_)
 let(n,one,other,cb,kc,u,m,G,z,H0,rfl,h):=h;have d:=hr.units;show(_,(Jab (Jaj 3 Jbt.nd Jaz) (Jab (Jaj 4 Jbt.nd Jaz) (Jab (ps_if (JcG (JfM (hu1 d) (pv 1) (JaI (hu1 d) (pv 0) (pv 2) (λ_ _=>rfl))) (by with_unfolding_all rfl)) (Jae (Jaj 3 Jbt.nd (BbN.ev hr ⋯ rfl passF %[Jb0 (v:=.ref _) rfl T.Bc9 T.Bda,pe_ix ix_U (JaI (hu1 d) (JaI (hu1 d) (pv 0) (pv 2) (λ_ _=>rfl)) (pv 1) (λ_ _=>rfl)) Jaf|0])))
   Jap) (Jab (ps_if (JcG (JfM (hu1 d) (pv 2) (JaI (hu1 d) (pv 0) (pv 1) (λ_ _=>rfl))) (by with_unfolding_all rfl)) (Jae (Jaj 4 Jbt.nd (pe_ix ix_U (JaI (hu1 d) (JaI (hu1 d) (pv 0) (pv 1) (λ_ _=>rfl)) (pv 2) (λ_ _=>rfl)) Jaf)))
   Jap) (Jae (Jam (JaN %[pv 3,pv 4|0]))))))),?_)
 clear d;let(I,Z,h1,h2,(k1,C,D,_),(k2,r,y,_),a0,R,k):=h;let(v1,x,rfl):=Z.at h1;let(v2,B,rfl):=Z.at h2;show tSeq _ _ _ [some (.ref n),some (.str one),some (.str other),none,none] H;cbv;show(n, .ref z,rfl,by rw[<- B];show DGet.k (k:=Sum.inr other) I,?_);cbv;show(z,_,rfl,DGet.k (k:=Sum.inr one) r,?_);rename_i N hN;have b:∀(vl:V)(j:Hp),Same H j->BV K j ((lk m one).map λe=>subF (0,1) e.1) vl->N [some (.ref n),some (.str one),some (.str other),some vl,some .non] j:=by
  intro vl j c Y
  mframe;show(n, .ref G,rfl,by rw[<- x];show DGet.k (k:=Sum.inr one) (c _ _ I),?_);cbv;show(G,_,rfl,DGet.k (k:=Sum.inr other) (c _ _ C),?_);cases ea:lk u other with
  | none=>
   rw[D.no ea];try simpa only[Option.isSome_none]
   mframe;show(len2,?_);rename_i p X O j M o W;cbv;show k p vl .non M (c.trans o) W (Y.sameT o.t) (by rw[ea];rfl)
  | some e=>
   let(va,a,q,L,l,xs,rfl,S,J,_):=D.at ea;rw[a];try simpa only[Option.isSome_some]
   show(n, .ref G,rfl,by rw[<- x];show DGet.k (k:=Sum.inr one) (c _ _ I),?_);cbv;show(G, .ref q,rfl,by rw[<- a];show DGet.k (k:=Sum.inr other) (c _ _ C),?_);cbv;show ixT (i:=0) (S.same c) rfl ?_;cbv
   mframe;show(len2,?_);rename_i p X O j M o W;cbv;show k p vl L M (c.trans o) W (Y.sameT o.t) (by rw[ea];show J.same (c.trans o))
 cases eb:lk m one with
 | none=>
  rw[y.no eb];try simpa only[Option.isSome_none]
  show b .non H (Same.refl _) (by rw[eb];rfl)
 | some e=>
  let(va,a,q,L,l,xs,rfl,S,J,_):=y.at eb;have g:=R _ _ eb;rw[a];try simpa only[Option.isSome_some]
  show(n, .ref z,rfl,by rw[<- B];show DGet.k (k:=Sum.inr other) I,?_);cbv;show(z, .ref q,rfl,by rw[<- a];show DGet.k (k:=Sum.inr one) r,?_);cbv;show ixT (i:=0) S rfl ?_;cbv;show(.ref Ad.ZERO,L,0,1,e.1.1,e.1.2,rfl,⟨Ad.ZERO,rfl,T.Bdb _⟩,J, .lit ⋯ ⋯, .lit ⋯ ⋯,g.s1.mono ⋯,g.s2.mono ⋯,by decide,g.b1,by decide,g.g1,λp j c e1=>?_);show b (.ref p) j c ?_;rw[eb];show(p,rfl,SqT.of e1)
abbrev Bah:Stmt:=inClass (top 58) 8
theorem Jcj:Jao ["self","one","other","faces"] ["self","one","other"] (Jac Bah):=by bv_decide
def Jbe(K:W.Frag)(Ad:Adr):Sp:=λvs H Q E=>∃(p d:Addr)(ts:List TD)(F:List Str)(one other:Str),vs=[.ref p, .str one, .str other]/\BK K Ad H p d ts/\ts.length<=35/\F.length<=14/\(∀ t∈ts,t.st∈F/\t.en∈F)/\((∃ t∈ts,one=t.st\/one=t.en)/\∃ t∈ts,other=t.st\/other=t.en)/\∀ H',Same H H'->Q .non H'
theorem Jdr(F:"check_faces"∘"Book.check_faces"∘Bah)(T:Txt K mg Ad)(m_faces:2∘"faces"∘(JaP Ad)∘["self"]∘(Jbr K Ad)):3∘["self","one","other"]∘(Jbe K Ad):=by
 show F.okn Jcj (by subst_eqs) (λr A g s H t Q E J h=>?_)
 let(p,d,o,F,one,other,rfl,h):=h;show(_,(Jab (Jaj 3 Jcj.nd (m_faces.m0 J ⋯ passF (pv 0))) (Jae (ps_if (PW.pt (pw_or (Jak JdP (pv 1) (pv 3) (by with_unfolding_all rfl)) (JbP (Jak JdP (pv 2) (pv 3) (by with_unfolding_all rfl))))) (Jae ps_no)
   Jap))),?_)
 let(j,c,x,b,(B,I),k):=h;let((y,D),_):=id j;show tSeq _ _ _ [some (.ref p),some (.str one),some (.str other),none] H;cbv;show(p,_,y,_,rfl,D,rfl,rfl,?_);cbv;show(p,d,o,F,rfl,j,c,x,b,λl e C u G m n=>?_)
 mframe;have a:(e.map V.str).all flatV=true:=all_eq_true.mpr (λv q=>by let(z,_,rfl):=mem_map.mp q;rfl);show(l,_,rfl, .inl (SqL.of m),rfl,a,?_);rw[if_pos rfl,Jbw,decide_eq_true ((n.2.2 one).mpr B)];cbv;show(l,_,rfl, .inl (SqL.of m),rfl,a,?_);rw[if_pos rfl,Jbw,decide_eq_true ((n.2.2 other).mpr I)];cbv;show k C u
abbrev Ban:Stmt:=inClass (top 58) 9
theorem Jbp:Jao ["self","faces","steps","told","face"] ["self","faces"] (Jac Ban):=by bv_decide
def JbU(K:W.Frag)(Ad:Adr):Sp:=λvs H Q E=>∃(p d:Addr)(ts:List TD)(F:List Str)(fL:Addr)(gs:List Str),vs=[.ref p, .ref fL]/\BK K Ad H p d ts/\BkH ts F/\SqL K H fL (gs.map V.str)/\gs.length<=14/\(∃ π,Pot π (ssD ts))/\(∀(cd:Addr)(cb:List (Str × Addr))(kc:List (Key × V))(H':Hp),Same H H'->H' cd=some (.dK kc)->DV (λa v=>v=.ref a) cb kc->(∀ g∈gs, ∃ td,lk cb g=some td)->(∀ g td,lk cb g=some td->∃ tb,TDk K H H' tb td/\TTd ts [g] tb)->Q (.ref cd) H')
theorem Jee(F:"chains_of"∘"Book.chains_of"∘Ban)(T:Txt K mg Ad)(m_kept:1∘"kept"∘(JaP Ad)∘["self"]∘(JbI K Ad))(m_faces:2∘"faces"∘(JaP Ad)∘["self"]∘(Jbr K Ad))(BaF:6∘"steps_of"∘["ties"]∘(Jcn K Ad))(Bax:5∘"places_of"∘["steps","faces"]∘(JbZ K Ad))(Baj:4∘"chains_from"∘["steps","starts"]∘(Jbu K Ad)):7∘["self","faces"]∘(JbU K Ad):=by
 show F.okn Jbp (by subst_eqs) (λd7 A b8 s H vs Q E Z h=>?_)
 let(p,d,o,F,fL,W,rfl,h):=h;have hu:=Z.units;show(_,(Jab (Jaj 2 Jbp.nd (BaF.ev Z ⋯ rfl passF %[m_kept.m0 Z ⋯ passF (pv 0)|0])) (Jab (JaU (Bax.ev Z ⋯ rfl passF %[pv 2,m_faces.m0 Z ⋯ passF (pv 0)|0])) (Jab (Jaj 3 Jbp.nd Jbx) (Jab (Ja7 PassesOwn.never rfl (pi_U (pv 1)) (Jas 4 Jbp.nd) (Jae (Jb1 (hu1 hu) (pv 3) (pv 4) (Baj.ev Z ⋯ rfl passF %[pv 2,Ja6 %[pv 4|0]|0]) rfl))) (Jae (Jam (pv 3))))))),?_)
 clear hu;let(hb,j,hF,l8,x,k):=h;let((dx,hp),_):=id hb;have sl:(1000:Nat)<=sizeLine:=by decide
 have b0:(ssD o).length<=70:=by unfold ssD;rw[length_map];show j.l70
 show tSeq _ _ _ [some (.ref p),some (.ref fL),none,none,none] H;cbv;show(p,_,dx,_,rfl,hp,rfl,rfl,?_);cbv;show(p,d,o,rfl,hb,λl ys H1 S1 e0 e1 hA=>?_);cbv;show(l,ys,o,rfl,SqL.of e1,hA,j.ok,λs M=>(j.fb s M).mono ⋯ ⋯,j.l35,λsL sx b H2 S2 e2 R a0 d5 c2 b5=>?_);have R:b=bD_ o:=R;subst R;have O:STp K Ad H2 o sL:=⟨⟨sx,SqL.of e2,Jgp b5⟩,a0,λs M=>⟨(j.fb s M).b1,c2 s M⟩⟩;have m:=S1.trans S2
 mframe;show(p,_,dx,_,rfl,m _ _ hp,rfl,rfl,?_);cbv;show(p,d,o,F,rfl,hb.same m,j.l35,j.f8,j.fm,λfl r H3 X d0 e3 G=>?_);have a6:r.length<=14:=by
  have:=sub_len r F G.1 λz hz=>by
   obtain⟨t,ht,h | h⟩:=(G.2.2 z).mp hz
   .rw[h];show(j.fm t ht).1
   .rw[h];show(j.fm t ht).2
  have:=j.f8;ac_nf
 cbv;have a4:∀ s∈Ch.all o,s.src∈r:=λs M=>(Jcf (F:=r) (λt ht=>⟨(G.2.2 _).mpr ⟨t,ht, .inl rfl⟩,(G.2.2 _).mpr ⟨t,ht, .inr rfl⟩⟩) s M).1;show(sL,fl,o,F,r,rfl,O.same X,j,SqL.of e3,a6,a4,λpd kp d6 pb H4 S4 d1 e4 d4 d2 d8 d9 _=>?_,λ_ _ _ _ _ _ _ _ _ _ np _ _=>absurd x np)
 mframe;rename_i N J c8 H4 H5 S5 e5;cbv
 mframe;have c4:=m.trans (X.trans (S4.trans S5));have c7:=JaF (m.trans (X.trans S4)) J;show(fL,rfl,ForA.byLN (xs:=W.map V.str) (hF.same c4) (λi σ H'=>i<=W.length/\∃(v4:Option V)(D:List (Str × Addr))(kc:List (Key × V)),σ=[some (.ref p),some (.ref fL),some (.ref sL),some (.ref N),v4]/\Same H4 H'/\H' N=some (.dK kc)/\DV (λa v=>v=.ref a) D kc/\D.length<=i/\(∀ g∈W.take i, ∃ e,lk D g=some e)/\∀ g e,lk D g=some e->e≠N/\∃ L,TDk K H H' L e/\TTd o [g] L) ⟨Nat.zero_le _,none,[],[],rfl,S5,e5,rfl,Nat.le_refl _,(λg j=>by simp at j),λg e h=>by cases h⟩ (λi σ H' z=>by let(_,_,_,_,_,z,_):=z;show(hF.same (m.trans (X.trans S4))).same z) ?_ ?_)
 .intro i y σ H6 hy z_ N0 a9;let(hi,v4,D,kc,rfl,S6,B,C,c3,I,U):=z_;rw[List.getElem?_map]at hy;let(g,a3,rfl):=Option.map_eq_some_iff.mp hy;have li:=(List.getElem?_eq_some_iff.mp a3).1;have a8:W.take (i+1)=W.take i++[g]:=by rw[take_succ,a3];rfl
  have d3:=C.len;have a5:Same H2 H6:=X.trans (S4.trans S6);cbv;show(by show 1<=sizeLine;ac_nf,?_);rename_i gl c9 c6 H6 H7 S7 e7;cbv;let(b9,b4,c5):=((O.same a5).same S7).ex;cbv;show(sL,gl,b9,ssD o,[g],rfl,b4,c5,SqL.of e7,by show 1<=14;decide,b0, .inr x,λs M=>?_,λe kt L P H8 S8 u e8 b6 hP hB c0 c1 _=>?_,λ_ _ _ _ _ _ _ _ _ _ np _ _=>absurd x np)
  .let(s',b7,rfl):=mem_map.mp M;show j.fb s' b7
  have hP:P=lsD o [g]:=hP;subst hP;have S:=S7.trans S8;have a7:=S _ _ B;have a2:e≠N:=λz=>by rw[z,S7 _ _ B]at u;cases u
  have b3:Same H H7:=m.trans (a5.trans S7);cbv;show(N,_,rfl,DPut.k (k:=Sum.inr g) a7 ∅,?_);generalize u9:upd H8 N _=H9;cbv;have e9:=putE u9;have a1:∀ L e,e≠N->TDk K H H8 L e->TDk K H H9 L e:=λL e n ζ=>(by let(kt,h1,h2,h3):=ζ;show(kt,by rw[<- u9,Jai n];show h1,h2.mono λ_ _ z=>z.putL u9 a7,h3));show a9 _ _ ⟨li,_,pu D g e,_,rfl,λc w h=>by rw[<- u9,Jai (Jah h J)];show S _ _ (S6 _ _ h),e9,C.put rfl,by have:=Jes (l:=D) (f:=g) (a:=e);ac_nf,λf Y=>?_,λf t q=>?_⟩
  .rw[a8]at Y;rw[lk_pu];by_cases c:g=f
   .show(_,if_pos c)
   .rw[if_neg c];cbv;rcases mem_append.mp Y with Y | Y
    .show I f Y
    .show absurd (mem_singleton.mp Y).symm c
  .rw[lk_pu]at q;by_cases c:g=f
   .rw[if_pos c]at q;cases q;subst c;show(a2,L,a1 _ _ a2 (TDk.base b3 ⟨kt,e8,b6,u⟩),⟨a0,O.bb,c1,c0,hB⟩)
   .rw[if_neg c]at q;let(n,b2,h1,h2):=U f t q;show(n,b2,a1 _ _ n (h1.same S),h2)
 .intro σ H6 z_;let(hi,v4,D,kc,rfl,S6,B,C,c3,I,U):=z_;rw[take_of_length_le (by rw[length_map];show Nat.le_refl _)]at I;cbv;show k N D kc H6 (m.trans (X.trans (S4.trans S6))) B C I (λg e h=>(U g e h).2)
abbrev Bbn:Stmt:=inClass (top 58) 10
theorem Jh2:Jao ["self","one","other"] ["self","one","other"] (Jac Bbn):=by bv_decide
def Jdx(K:W.Frag)(Ad:Adr):Sp:=λvs H Q E=>∃(p d:Addr)(ts:List TD)(F:List Str)(one other:Str),vs=[.ref p, .str one, .str other]/\BK K Ad H p d ts/\BkH ts F/\((∃ t∈ts,one=t.st\/one=t.en)/\∃ t∈ts,other=t.st\/other=t.en)/\(∃ π,Pot π (ssD ts))/\∀(q:Addr)(vl vg:V)(tb1 tb2:Tab)(H':Hp),Same H H'->H' q=some (.tup [vl,vg])->TTd ts [one] tb1->TTd ts [other] tb2->BV K H' ((lk tb2 one).map λe=>subF (0,1) e.1) vl->BV K H' ((lk tb1 other).map (·.1)) vg->Q (.ref q) H'
theorem JhH(F:"gap"∘"Book.gap"∘Bbn)(T:Txt K mg Ad)(m_check_faces:3∘"check_faces"∘(JaP Ad)∘["self","one","other"]∘(Jbe K Ad))(m_chains_of:7∘"chains_of"∘(JaP Ad)∘["self","faces"]∘(JbU K Ad))(BbQ:4∘"gap_between"∘["chains","one","other"]∘(Jcx K Ad)):8∘["self","one","other"]∘(Jdx K Ad):=by
 show F.okn Jh2 (by subst_eqs) (λa0 A u s H Z Q E y h=>?_)
 let(p,d,x,F,one,other,rfl,h):=h;show(_,(Jab (JaU (m_check_faces.m y ⋯ passF (pv 0) %[pv 1,pv 2|0])) (Jae (Jam (BbQ.ev y ⋯ rfl passF %[m_chains_of.m y ⋯ passF (pv 0) %[Ja6 %[pv 1,pv 2|0]|0],pv 1,pv 2|0])))),?_)
 let(r,a,t,o,k):=h;let((I,J),_):=id r;have sl:(1000:Nat)<=sizeLine:=by decide
 show tSeq _ _ _ [some (.ref p),some (.str one),some (.str other)] H;cbv;show(p,_,I,_,rfl,J,rfl,rfl,?_);cbv;show(p,d,x,F,one,other,rfl,r,a.l35,a.f8,a.fm,t,λH1 D=>?_)
 mframe;show(p,_,I,_,rfl,D _ _ J,rfl,rfl,?_);cbv;show(len2,?_);rename_i fl L z H1 V Y e2;cbv;have g:=D.trans Y;cbv;show(p,d,x,F,fl,[one,other],rfl,r.same g,a,SqL.of e2,(show 2<=14 by decide),o,λO cb N H3 S3 X hC j i=>?_);let(M,n):=j one (by simp);let(G,l):=j other (by simp);let(c,W,B):=i one M n;let(b,d2,C):=i other G l;cbv;show(O,one,other,cb,N,c,b,M,G,V,rfl,X,hC,n,l,W,d2,λv e h=>B.fb a.fb a.l70 h,λv e h=>C.fb a.fb a.l70 h,λq vl R H4 S4 e4 S U=>?_);cbv;show k q vl R c b H4 (g.trans (S3.trans S4)) e4 B C S U
abbrev Bas:Stmt:=inClass (top 58) 11
theorem Jby:Jao ["self","one","other","steps","places","told"] ["self","one","other"] (Jac Bas):=by bv_decide
def Jb4(K:W.Frag)(Ad:Adr):Sp:=λvs H Q E=>∃(p d:Addr)(ts:List TD)(F:List Str)(one other:Str),vs=[.ref p, .str one, .str other]/\BK K Ad H p d ts/\BkH ts F/\(∃ π,Pot π (ssD ts))/\(∀ H' tb,Same H H'->TTd ts [one] tb->lk tb other=none->Q .non H')/\(∀(q:Addr)(tb:Tab)(e:(Int × Int) × List SpS)(tb0:Tab)(out:List Str)(H':Hp),Same H H'->TTd ts [one] tb->lk tb other=some e->Ja1 ts out->TTd ts out tb0->ShV K H H' e (stD ts (λv=>(lk tb v).map (·.1)) (λv=>(lk tb0 v).map (·.1)) out) q->Q (.ref q) H')
theorem Jew(F:"farthest"∘"Book.farthest"∘Bas)(T:Txt K mg Ad)(m_kept:1∘"kept"∘(JaP Ad)∘["self"]∘(JbI K Ad))(m_faces:2∘"faces"∘(JaP Ad)∘["self"]∘(Jbr K Ad))(BaF:6∘"steps_of"∘["ties"]∘(Jcn K Ad))(Bax:5∘"places_of"∘["steps","faces"]∘(JbZ K Ad))(Baj:4∘"chains_from"∘["steps","starts"]∘(Jbu K Ad))(BaP:3∘"stretched_placing"∘["steps","reached_chains","places"]∘(Jbs K Ad)):7∘["self","one","other"]∘(Jb4 K Ad):=by
 show F.okn Jby (by subst_eqs) (λc9 A b7 s H vs Q E S h=>?_)
 let(p,d,n,F,one,other,rfl,h):=h;have hu:=S.units;show(_,(Jab (Jaj 3 Jby.nd (BaF.ev S ⋯ rfl passF %[m_kept.m0 S ⋯ passF (pv 0)|0])) (Jab (Jaj 4 Jby.nd (Bax.ev S ⋯ rfl passF %[pv 3,m_faces.m0 S ⋯ passF (pv 0)|0])) (Jab (Jaj 5 Jby.nd (Baj.ev S ⋯ rfl passF %[pv 3,Ja6 %[pv 1|0]|0])) (Jab (ps_if (JcG (Jch (hu1 hu) (pv 2) (pv 5)) (by with_unfolding_all rfl)) (Jae (Jam Jaz))
   Jap) (Jae (Jam (JaN %[pe_ix ix_U (JaI (hu1 hu) (pv 5) (pv 2) (λ_ _=>rfl)) Jaf,pe_ix ix_U (JaI (hu1 hu) (pv 5) (pv 2) (λ_ _=>rfl)) Jaf,BaP.ev S ⋯ rfl passF %[pv 3,pv 5,pv 4|0]|0]))))))),?_)
 clear hu;let(hb,j,r,k0,k):=h;let((dx,hp),_):=id hb;have sl:(1000:Nat)<=sizeLine:=by decide
 have a5:(ssD n).length<=70:=by unfold ssD;rw[length_map];show j.l70
 show tSeq _ _ _ [some (.ref p),some (.str one),some (.str other),none,none,none] H;cbv;show(p,_,dx,_,rfl,hp,rfl,rfl,?_);cbv;show(p,d,n,rfl,hb,λl ys H1 S1 d0 e1 hA=>?_);cbv;show(l,ys,n,rfl,SqL.of e1,hA,j.ok,λs o=>(j.fb s o).mono ⋯ ⋯,j.l35,λsL sx b H2 S2 e2 M X c8 c0 b4=>?_);have M:b=bD_ n:=M;subst M;have x:STp K Ad H2 n sL:=⟨⟨sx,SqL.of e2,Jgp b4⟩,X,λs o=>⟨(j.fb s o).b1,c0 s o⟩⟩;have N:=S1.trans S2
 mframe;show(p,_,dx,_,rfl,N _ _ hp,rfl,rfl,?_);cbv;show(p,d,n,F,rfl,hb.same N,j.l35,j.f8,j.fm,λfl g H3 S3 c5 e3 c=>?_);have a2:g.length<=14:=by
  have:=sub_len g F c.1 λz hz=>by
   obtain⟨t,m,h | h⟩:=(c.2.2 z).mp hz
   .rw[h];show(j.fm t m).1
   .rw[h];show(j.fm t m).2
  have:=j.f8;ac_nf
 cbv;have Z:∀ s∈Ch.all n,s.src∈g:=λs o=>(Jcf (F:=g) (λt m=>⟨(c.2.2 _).mpr ⟨t,m, .inl rfl⟩,(c.2.2 _).mpr ⟨t,m, .inr rfl⟩⟩) s o).1;show(sL,fl,n,F,g,rfl,x.same S3,j,SqL.of e3,a2,Z,λpd kp G pb H4 S4 c7 e4 a9 V u b9 _=>?_,λ_ _ _ _ _ _ _ _ _ _ np _ _=>absurd r np)
 mframe;show(by show 1<=sizeLine;ac_nf,?_);rename_i gl c4 c2 H4 H5 S5 e5;cbv;have D:=S3.trans (S4.trans S5);have a3:=N.trans D;let(b8,b2,c1):=(x.same D).ex;cbv;show(sL,gl,b8,ssD n,[one],rfl,b2,c1,SqL.of e5,by show 1<=14;decide,a5, .inr r,λs o=>?_,λtd kt W P H6 S6 a1 e6 L hP hB b0 b5 _=>?_,λ_ _ _ _ _ _ _ _ _ _ np _ _=>absurd r np)
 .let(s',b6,rfl):=mem_map.mp o;show j.fb s' b6
 have hP:P=lsD n [one]:=hP;subst hP;have m:TTd n [one] W:=⟨X,x.bb,b5,b0,hB⟩;have J:=a3.trans S6
 mframe;show(td,_,rfl,DGet.k (k:=Sum.inr other) e6,?_);cases ea:lk W other with
 | none=>
  rw[L.no ea];try simpa only[Option.isSome_none]
  show k0 H6 W J m ea
 | some e=>
  let(va,O,q,qv,lc,cx,rfl,hq,b3,a7,a4,a8):=L.at ea;rw[O];try simpa only[Option.isSome_some]
  mframe;show(td, .ref q,rfl,by rw[<- O];show DGet.k (k:=Sum.inr other) e6,?_);cbv;show ixT (i:=0) hq rfl ?_;cbv;show(td, .ref q,rfl,by rw[<- O];show DGet.k (k:=Sum.inr other) e6,?_);cbv;show ixT (i:=1) hq rfl ?_;cbv;have R:lk pb=λv=>(lk G v).map (·.1):=funext b9;have I:∀ v,(∃ e,lk pb v=some e)↔v∈g:=λv=>by
   rw[R];show(∃ e,(lk G v).map _=some e)↔_;constructor
   .rintro⟨e,he⟩;let(a,U,_):=Option.map_eq_some_iff.mp he;rcases(u.ks v).mp ⟨a,U⟩with h | ⟨s,o⟩
    .show h
    .let(_,_,_,_,h3,_):=u.be.ex;let(m1,m2,_):=h3 v s o;let(y,hy,rfl):=mem_map.mp m1;have:=(Jcf (F:=g) (λt m=>⟨(c.2.2 _).mpr ⟨t,m, .inl rfl⟩,(c.2.2 _).mpr ⟨t,m, .inr rfl⟩⟩) y hy).2;rw[<- m2];show this
   .intro hv;let(a,U):=(u.ks v).mpr (.inl hv);show(a.1,by rw[U];rfl)
  have a0:=S5.trans S6;have a6:pb.length<64:=by
   have:=sub_len (pb.map (·.1)) g V λz hz=>(I z).mp (Jeo hz);rw[length_map]at this;ac_nf
  show(sL,td,pd,n,W,pb,H5,rfl,(x.same D).same S6,⟨kt,e6,L,a1⟩,⟨kp,a0 _ _ e4,a9.mono λ_ _ z=>FrV.same a0 z⟩,j.fb,λv e h=>m.fb j.fb j.l70 h,λv e h=>?_,λs o=>?_,a6,λzl zs o2 H7 S7 Y e7 C hQ=>?_)
  .rw[R]at h;let(a,U,h2):=Option.map_eq_some_iff.mp h;rw[<- h2];show u.fb j.fb j.l70 U
  .show(I s.src).mpr (Jcf (F:=g) (λt m=>⟨(c.2.2 _).mpr ⟨t,m, .inl rfl⟩,(c.2.2 _).mpr ⟨t,m, .inr rfl⟩⟩) s o).1
  have eo:o2=g:=Jfc C.2 c.2.1 (C.1.nodup_iff.mpr V) c.1 λz=>by
   rw[C.1.mem_iff, <- I z];show(Jeo,λ⟨e,he⟩=>JgO he)
  subst eo;rw[R]at hQ;cbv;show(by show 3<=sizeLine;ac_nf,?_);rename_i rq c6 c3 H7 H8 S8 e8;cbv;have B:=S7.trans S8;show k rq W e G o2 H8 (J.trans B) m ea c u ⟨qv,lc,cx,zl,zs,e8,b3.same B,B _ _ a7,a4.mono (λ_ _ z=>z.sameT B.t),JaF a3 a8,S8 _ _ e7,hQ.mono (λ_ _ z=>z.sameT S8.t),JaF J Y⟩
abbrev BaT:Stmt:=inClass (top 58) 12
theorem JdW:Jao ["self","one","other","most","found"] ["self","one","other","most"] (Jac BaT):=by bv_decide
def Jcb(K:W.Frag)(Ad:Adr):Sp:=λvs H Q E=>∃(p d:Addr)(ts:List TD)(F:List Str)(one other:Str)(most:Bool),vs=[.ref p, .str one, .str other, .bl most]/\BK K Ad H p d ts/\BkH ts F/\((∃ t∈ts,one=t.st\/one=t.en)/\∃ t∈ts,other=t.st\/other=t.en)/\(∃ π,Pot π (ssD ts))/\(∀ H' tb,Same H H'->TTd ts [if most then one else other] tb->lk tb (if most then other else one)=none->Q .non H')/\(∀(q:Addr)(tb:Tab)(e:(Int × Int) × List SpS)(tb0:Tab)(out:List Str)(H':Hp),Same H H'->TTd ts [if most then one else other] tb->lk tb (if most then other else one)=some e->Ja1 ts out->TTd ts out tb0->ShV K H H' (if most then e.1 else subF (0,1) e.1,e.2) (stD ts (λv=>(lk tb v).map (·.1)) (λv=>(lk tb0 v).map (·.1)) out) q->Q (.ref q) H')
theorem Jf6(F:"shown"∘"Book.shown"∘BaT)(T:Txt K mg Ad)(m_check_faces:3∘"check_faces"∘(JaP Ad)∘["self","one","other"]∘(Jbe K Ad))(m_farthest:7∘"farthest"∘(JaP Ad)∘["self","one","other"]∘(Jb4 K Ad))(BbN:3∘"minus"∘["one","other"]∘(JdZ K)):8∘["self","one","other","most"]∘(Jcb K Ad):=by
 show F.okn JdW (by subst_eqs) (λb2 A a0 s H vs Q E G h=>?_)
 let(p,d,D,F,one,other,most,rfl,h):=h;show(_,(Jab (JaU (m_check_faces.m G ⋯ passF (pv 0) %[pv 1,pv 2|0])) (Jab (ps_if (Ja8 (pv 3)) (Jae (Jam (m_farthest.m G ⋯ passF (pv 0) %[pv 1,pv 2|0])))
   Jap) (Jab (Jaj 4 JdW.nd (m_farthest.m G ⋯ passF (pv 0) %[pv 2,pv 1|0])) (Jab (ps_if (Jak JaY (pv 4) Jaz (Jar _)) (Jae (Jam Jaz))
   Jap) (Jae (Jam (JaN %[BbN.ev G ⋯ rfl passF %[Jb0 (v:=.ref _) rfl T.Bc9 T.Bda,!4|0],!4,!4|0]))))))),?_)
 let(C,n,Y,g,k0,k):=h;let((Z,hp),_):=id C;have sl:(1000:Nat)<=sizeLine:=by decide
 show tSeq _ _ _ [some (.ref p),some (.str one),some (.str other),some (.bl most),none] H;cbv;show(p,_,Z,_,rfl,hp,rfl,rfl,?_);cbv;show(p,d,D,F,one,other,rfl,C,n.l35,n.f8,n.fm,Y,λH1 a=>?_)
 mframe;cases most with
 | true=>
  cbv;show(p,_,Z,_,rfl,a _ _ hp,rfl,rfl,?_);cbv;show(p,d,D,F,one,other,rfl,C.same a,n,g,λy x o j X=>?_,λq x e r u y o j he I J O=>?_)
  .cbv;show k0 y x (a.trans o) j X
  .cbv;let(L,l,cx,M,zs,B,S,V,N,R,a6,U,W):=O;show k q x e r u y (a.trans o) j he I J ⟨L,l,cx,M,zs,B,S,V,N,JaF a R,a6,U,JaF a W⟩
 | false=>
  cbv
  mframe;show(p,_,Z,_,rfl,a _ _ hp,rfl,rfl,?_);cbv;show(p,d,D,F,other,one,rfl,C.same a,n,g,λy x o j X=>?_,λq x e r u y o j he I J O=>?_)
  .have u_:=trivial
   mframe;show k0 y x (a.trans o) j X
  .have u_:=trivial
   mframe;let(L,l,cx,M,zs,B,S,V,N,R,a6,U,W):=O;have c:=j.fb n.fb n.l70 he
   mframe;show ixT (i:=0) (SqT.of B) rfl ?_;cbv;show(.ref Ad.ZERO,L,0,1,e.1.1,e.1.2,rfl,⟨Ad.ZERO,rfl,T.Bdb _⟩,S, .lit ⋯ ⋯, .lit ⋯ ⋯,c.s1.mono ⋯,c.s2.mono ⋯,by decide,c.b1,by decide,c.g1,λmp H3 S3 e3=>?_);cbv;show ixT (i:=1) (SqT.of (S3 _ _ B)) rfl ?_;cbv;show ixT (i:=2) (SqT.of (S3 _ _ B)) rfl ?_;cbv;show(by show 3<=sizeLine;ac_nf,?_);rename_i rq b0 a9 H3 H4 S4 e4;cbv;have b:=S3.trans S4;show k rq x e r u H4 (a.trans (o.trans b)) j he I J ⟨.ref mp,l,cx,M,zs,e4,⟨mp,rfl,SqT.of (S4 _ _ e3)⟩,b _ _ V,N.mono (λ_ _ z=>z.sameT b.t),JaF a R,b _ _ a6,U.mono (λ_ _ z=>z.sameT b.t),JaF a W⟩
abbrev Bbo:Stmt:=inClass (top 58) 4
theorem Je8:Jao ["self","tie","made"] ["self","tie"] (Jac Bbo):=by bv_decide
def Jdy(K:W.Frag)(Ad:Adr):Sp:=λvs H Q E=>∃(p d:Addr)(v:V)(ts:List TD)(t:TD),vs=[.ref p,v]/\BK K Ad H p d ts/\TV K H t v/\TOk t/\ts.length<=35/\∀ H',Sx d H H'->BK K Ad H' p d (putT ts t)->Q .non H'
theorem JhI(F:"put"∘"Book.put"∘Bbo)(T:Txt K mg Ad)(Bb2:6∘"tie_of"∘["thing"]∘(Jd0 K Ad)):7∘["self","tie"]∘(Jdy K Ad):=by
 show F.okn Je8 (by subst_eqs) (λN A l s H O Q E I h=>?_)
 let(p,d,v,V,t,rfl,h):=h;have y:=I.units;show(_,(Jab (Jaj 2 Je8.nd (Bb2.ev I ⋯ rfl passF %[pv 1|0])) (Jae (Jb1 (hu1 y) (Jaw (pv 0) rfl) (Jaw (pv 2) rfl) (pv 2) rfl))),?_)
 clear y;let(a,j,S,X,k):=h;have Y:(1000:Nat)<=sizeLine:=by decide
 have n:=T.book Ad.Book rfl;show tSeq _ _ _ [some (.ref p),some v,none] H;try mstart
 show(v,t,rfl,j,S,λw B x J=>?_);let((D,c),M,g,G):=a.same x;try mstart
 show(p,_,D,_, .ref d,rfl,c,n.cls,n.n1,rfl,?_);let(C,_,_,(q,R,rfl,e),W,_):=id J;have o:=T.tie C W;try mstart
 show(q,_,R,_, .str t.nm,rfl,e,o.cls,o.n1,rfl,?_);have lk:=G.length;show(d,_,rfl,DPut.k (k:=Sum.inr t.nm) g ∅,?_);generalize L:upd B d _=r;have U:=putE L;have m:Sx d B r:=λb u a h=>by rw[<- L,Jai a];show h
 show k r (λb u a h=>m b u a (x b u h)) ⟨⟨D,m _ _ (λz=>by rw[z,g]at c;cases c) c⟩,_,U,?_⟩;show(G.put J).mono λ_ _ z=>z.sx m g
abbrev Ba6:Stmt:=inClass (top 58) 5
theorem Jg7:Jao ["self","name"] ["self","name"] (Jac Ba6):=by bv_decide
def Jc2(K:W.Frag)(Ad:Adr):Sp:=λvs H Q E=>∃(p d:Addr)(z:Str)(ts:List TD),vs=[.ref p, .str z]/\BK K Ad H p d ts/\z∈nms ts/\∀ H',Sx d H H'->BK K Ad H' p d (dropT ts z)->Q .non H'
theorem JgQ(F:"drop"∘"Book.drop"∘Ba6)(T:Txt K mg Ad)  : 1∘["self","name"]∘(Jc2 K Ad):=by
 show F.okn Jg7 (by subst_eqs) (λB A m s H C Q E I h=>?_)
 let(p,d,z,G,rfl,h):=h;have r:=I.units;show(_,(Jab (ps_if (JcG (Jch (hu1 r) (pv 1) (Jaw (pv 0) rfl)) (by with_unfolding_all rfl)) (Jae ps_no)
   Jap) (Jae (JaU (Jll (Jaw (pv 0) rfl) (pv 1) ⟨rfl,rfl,rfl,rfl⟩)))),?_)
 clear r;let(((l,g),a,e,o),c,y):=h;have J:(1000:Nat)<=sizeLine:=by decide
 have i:=T.book Ad.Book rfl;show tSeq _ _ _ [some (.ref p),some (.str z)] H;try mstart
 show(p,_,l,_, .ref d,rfl,g,i.cls,i.n1,rfl,?_);show(d,_,rfl,DGet.k (k:=Sum.inr z) e,?_);rw[o.val];rw[decide_eq_true c];try mstart
 show(p,_,l,_, .ref d,rfl,g,i.cls,i.n1,rfl,?_);have j:=o.val (z:=z);rw[decide_eq_true c]at j;let(v,j):=Option.isSome_iff_exists.mp j;show(d,rfl, .inl ⟨a, .inl e⟩,a,Sum.inr z,v,e,rfl,j,?_);generalize t:upd H d _=q;have D:=putE t;have n:Sx d H q:=λb u x h=>by rw[<- t,Jai x];show h
 show y q n ⟨⟨l,n _ _ (λz=>by rw[z,e]at g;cases g) g⟩,_,D,o.drop.mono λ_ _ z=>z.sx n e⟩
abbrev Bat:Stmt:=top 23
theorem Jb3:Jao ["one","top","bottom"] ["one"] (Jac Bat):=by bv_decide
def Jb8(K:W.Frag):Sp:=λvs H Q E=>∃(x:V)(a:Int × Int),vs=[x]/\FrV K H x a.1 a.2/\FB 1711 701 a/\Q (.str (txS a)) H
theorem JeB(F:"show_fraction"∘Bat)(T:Txt K mg Ad)  : 1∘["one"]∘(Jb8 K):=by
 show F.okn Jb3 (by subst_eqs) (λl A d s H m Q E n h=>?_)
 let(x,a,rfl,h):=h;have j:=n.units;show(_,(Jab (Jaj 1 Jb3.nd (!0)) (Jab (Jaj 2 Jb3.nd (!0)) (Jab (ps_if (Jak (JaM j) (pv 2) Jaf (Jar _)) (Jae (Jam (Jln (JeJ (pv 1)))))
   Jap) (Jae (Jam (Jkj (Je7 (JeJ (pv 1)) (Je7 Jay (Je7 (JeJ (pv 2)) Jl6))))))))),?_)
 clear j;let(g,b,k):=h;show tSeq _ _ _ [some x,none,none] H;cbv;show ixF0 g ?_
 mframe;show ixF1 g ?_
 mframe;have e:=b.s2.mono (show 701<=1711 by decide);by_cases c:a.2=1
 .rw[if_pos (by simpa using c)];cbv;cbv;show(lg_sz b.s1,by rw[Jmf c];show k)
 .rw[if_neg (by simpa using c)];cbv
  mframe;have o:=JiF b.s1;have r:=JiF e;have p:(Str.ofString "/").length=1:=by decide
  have q:(100000:Nat)<=sizeLine:=by decide
  show(lg_sz b.s1,?_);simpa only[e_app];show(by ac_nf,by rw[strLen_append];ac_nf,lg_sz e,?_);cbv;show(by rw[strLen_append,strLen_append];ac_nf,by rw[strLen_append,strLen_append];ac_nf,by rw[Jmg c b.b1];show k)
abbrev BaU:Stmt:=top 101
theorem Jgl:Jao ["bound"] ["bound"] (Jac BaU):=by bv_decide
def JcU(K:W.Frag):Sp:=λvs H Q E=>∃(x:V)(o:Option (Int × Int)),vs=[x]/\BV K H o x/\(∀ a,o=some a->FB 1711 701 a)/\Q (.str (bdS o)) H
theorem Jgd(F:"show_bound"∘BaU)(T:Txt K mg Ad)(Bbz:1∘"show_fraction"∘["one"]∘(Jb8 K)):2∘["bound"]∘(JcU K):=by
 show F.okn Jgl (by subst_eqs) (λe A c s H g Q E i h=>?_)
 let(x,o,rfl,h):=h;show(_,(Jae (Jam (JcK (Jak JaY (pv 0) Jaz (Jar _)) (Jb0 (v:=.str "-") rfl T.m_LACKING T.r_LACKING) (Bbz.ev i ⋯ rfl passF %[pv 0|0])))),?_);let(b,d,k):=h;show tRet _ _ [some x] H;cbv;cases o with
 | none=>
  obtain rfl:x=.non:=b;cbv;show k
 | some a=>
  have b:FrV K H x a.1 a.2:=b;let(p,rfl,_):=id b;cbv;show(_,a,rfl,b,d a rfl,k)
abbrev Ba7:Stmt:=top 102
theorem Jev:Jao ["step","name"] ["step"] (Jac Ba7):=by bv_decide
def Jdc(K:W.Frag):Sp:=λvs H Q E=>∃(x:V)(nm:Str)(b:Bool),vs=[x]/\CV H (nm,b) x/\nm.length<=8/\Q (.str (stS nm b)) H
theorem Jg3(F:"show_step"∘Ba7)(T:Txt K mg Ad)  : 1∘["step"]∘(Jdc K):=by
 show F.okn Jev (by subst_eqs) (λd A a s H e Q E n h=>?_)
 let(x,g,b,rfl,h):=h;show(_,(Jab (Jaj 1 Jev.nd (!0)) (Jae (Jam (JcK (Ja8 (!0)) (pv 1) (Jkj (Je7 Jay (Je7 (JeJ (pv 1)) Jl6))))))),?_)
 let((p,rfl,c),j,k):=h;have m:(100000:Nat)<=sizeLine:=by decide
 have l:(Str.ofString "-").length=1:=by decide
 show tSeq _ _ _ [some (.ref p),none] H;cbv;show ixT (i:=0) (SqT.of c) rfl ?_
 mframe;show ixT (i:=1) (SqT.of c) rfl ?_;cbv;unfold stS at k;cases b with
 | true=>show k
 | false=>
  simpa only[e_app];show(by ac_nf,by ac_nf,by rw[strLen_append];ac_nf,by rw[strLen_append];ac_nf,k)
abbrev Ba8:Stmt:=top 103
theorem Jhc:Jao ["ring"] ["ring"] (Jac Ba8):=by bv_decide
def Jdb(K:W.Frag):Sp:=λvs H Q E=>∃(x:V),vs=[x]/\((x=.non/\Q (.str (Str.ofString "none")) H)\/∃(l:Addr)(xs:List V)(ps:List (Str × Bool)),x=.ref l/\H l=some (.lst xs)/\All2 (CV H) ps xs/\(∀ p∈ps,p.1.length<=8)/\ps.length<=100/\∀ H',Same H H'->Q (.str ((⟨#[32]⟩:Str).join (ps.map λp=>stS p.1 p.2))) H')
theorem Jg2(F:"show_ring"∘Ba8)(T:Txt K mg Ad)(Bb5:1∘"show_step"∘["step"]∘(Jdc K)):2∘["ring"]∘(Jdb K):=by
 show F.okn Jhc (by subst_eqs) (λo A c s H n Q E v h=>?_)
 let(x,rfl,h):=h;show(_,(Jab (ps_if (Jak JaY (pv 0) Jaz (Jar _)) (Jae (Jam Jay))
   Jap) (Jae (Jam (pe_bm PySem.F.plainAttrs_str PySem.F.slot_str_join PySem.F.type_str_join JhG Jay %[Jcq (Jbi (own:=["step"]) (cs:=[]) rfl (pi_U (pv 0)) (λ_ _ _ _=>(Jas 0 (show[("step" : Str)].Nodup by decide))) (λ_ _ _ _=>JbA) (λ_ _ _ _=>(Bb5.ev v ⋯ rfl passF %[pv 0|0])) (Jce rfl) ⋯ rfl ⋯ hcs0)|0])))),?_)
 show tSeq _ _ _ [some x] H;cbv;rcases h with⟨rfl,k⟩ | ⟨l,xs,ps,rfl,hl,hA,h8,lp,k⟩
 .cbv;show k
 cbv
 mframe;have B:(100000:Nat)<=sizeLine:=by decide
 have y:=hA.length;show(l,rfl, .inl ⟨⟨xs,SqL.of hl⟩,CompJ.list (xs:=xs) (λi b a=>a=H/\b=((ps.take i).map λp=>stS p.1 p.2).map V.str) ⟨rfl,rfl⟩ (λi b a C z=>⟨by rw[z.1];show SqL.of hl,by rw[z.2];simp only[length_map,length_take];ac_nf⟩) ?_ ?_⟩)
 .rintro i x b a r ⟨rfl,rfl⟩;simpa only[length_singleton,length_cons,length_nil,List.replicate,JaJ,map_cons,map_nil,Option.join_some];let(p,d,u):=hA.at_ r;show(_,p.1,p.2,rfl,u,h8 p (List.mem_of_getElem? d),?_);rw[take_succ,d];simp
 rintro b a ⟨rfl,rfl⟩;rw[take_of_length_le ∅];rename_i q g e a j m t;cbv;have D:=Jl8 h8;show(_,q,_,rfl,rfl,SqL.of t,?_,?_)
 .rw[length_map,show(Str.ofString " ").length=1 from by decide];ac_nf
 .rw[jn_eq];show k j m
abbrev Bai:Stmt:=top 90
theorem Jdv:Jao ["text"] ["text"] (Jac Bai):=by bv_decide
def JbB  : Sp:=λvs H Q E=>∃(z:Str)(n:Nat),vs=[.str z]/\z.cps.toList=Tx.dg n/\n<10 ^ 60/\∀ H',Same H H'->Q (.bl true) H'
theorem Jds(F:"is_written_whole"∘Bai)(T:Txt K mg Ad)  : 1∘["text"]∘(JbB):=by
 show F.okn Jdv (by subst_eqs) (λD A t s H G Q E R h=>?_)
 let(z,n,rfl,h):=h;have o:=R.units;show(_,(Jab (ps_if (PW.pt (pw_or (Jak JdO (Jau JaD rfl T.BbL JbK %[pv 0|0]) Jaf (Jar _)) (JbP (Jak Jg4 (Jau JaD rfl T.BbL JbK %[pv 0|0]) (Jb0 (v:=.int 60) rfl T.m_MOST_FIGURES T.r_MOST_FIGURES) (Jar _))))) (Jae (Jam pe_bl))
   Jap) (Jab (ps_if (JbH (Ja8 (Jau (JgA rfl) rfl T.Bdn JlK %[Jcq (Jbi (own:=["sign"]) (cs:=[]) rfl (Jl5 (pv 0)) (λ_ _ _ _=>(Jas 0 (show[("sign" : Str)].Nodup by decide))) (λ_ _ _ _=>JbA) (λ_ _ _ _=>(Jbc (Jl3 (K:=K) rfl) (pv 0) (Jb0 (v:=.str "0123456789") rfl T.m_FIGURES T.r_FIGURES) (by with_unfolding_all rfl))) (Jce rfl) ⋯ rfl ⋯ hcs0)|0]))) (Jae (Jam pe_bl))
   Jap) (Jae (Jam (pe_or (Jbc (JaM o) (pv 0) Jay (Jar _)) (Jer (Jbc (Jcg o) (!0) Jay (Jar _)))))))),?_)
 clear o;let(N,M,k):=h;have w:=Tx.dg_whole M;rw[<- N]at w;unfold Tx.wholeL at w;simp only[Bool.and_eq_true,decide_eq_true_eq]at w;have W:=Jdp z;have U:(100000:Nat)<=sizeLine:=by decide
 show tSeq _ _ _ [some (.str z)] H;cbv;show(by ac_nf,?_);cbv;rw[if_neg (by simp;ac_nf)];cbv;show(by ac_nf,?_);cbv;rw[if_neg (by simp;ac_nf)];cbv
 mframe;simpa only[tComp,iStr];show(λi m u a=>a=H/\i<=z.cps.size/\m=z.cps.size-i/\u=(z.cps.toList.take i).map λc=>V.bl (Tx.figB c),⟨_,rfl,Nat.zero_le _,rfl,by simp⟩,?_);rintro i m u a ⟨rfl,X,rfl,rfl⟩;have S:z.cps.size=z.length:=rfl;show(by simp;ac_nf,?_);by_cases b:i<z.cps.size
 .show .inr ⟨b,?_⟩;rintro x l ⟨rfl,c,J,rfl⟩;simpa only[length_singleton,List.replicate,JaJ,map_nil,y68y,JiY];show(_,Nat.sub_lt_sub_left b (Nat.lt_succ_self i),b,rfl,?_);have d:z.cps.toList[i]?=some c:=by simpa using J
  rw[take_succ,d];simp
 .have B:i=z.cps.size:=by ac_nf
  show .inl ⟨B,?_⟩;subst B;rw[take_of_length_le (by simp)];rename_i p O L a l y C;cbv;show(p,z.cps.toList.map Tx.figB,rfl,SqL.of (by rw[C,map_map];rfl),?_);rw[show(z.cps.toList.map Tx.figB).all id=z.cps.toList.all Tx.figB from by simp[List.all_map],w.1.2];cbv
  mframe;rw[JgK];by_cases e:z.cps.toList=[48]
  .rw[decide_eq_true e];cbv;show k l y
  .rw[decide_eq_false e];cbv;obtain⟨c,r,g⟩:∃ c r,z.cps.toList=c::r:=by
    cases q:z.cps.toList with
    | nil=>rw[q]at w;simp at w
    | cons c r=>show(c,r,rfl)
   show(c,by ac_nf,Jdo (j:=0) (by rw[g];rfl),?_);cbv;have I:decide ((⟨#[c]⟩:Str)=Str.ofString "0")=false:=by
    rw[JgK];have:=w.2;rw[g]at this;simp at this ⊢;rcases this with h | h
    .showλq=>e (by rw[g,h.1,h.2])
    .show h
   rw[I];cbv;show k l y
abbrev BaV:Stmt:=top 91
theorem Jgk:Jao ["text"] ["text"] (Jac BaV):=by bv_decide
def JbO  : Sp:=λvs H Q E=>∃(z:Str)(n:Nat),vs=[.str z]/\z.cps.toList=Tx.dg n/\n<10 ^ 60/\∀ H',Same H H'->Q (.int (n:Int)) H'
theorem Jgc(F:"read_whole"∘BaV)(T:Txt K mg Ad)(Ba0:1∘"is_written_whole"∘["text"]∘(JbB)):2∘["text"]∘(JbO):=by
 show F.okn Jgk (by subst_eqs) (λd A a s H e Q E l h=>?_)
 let(z,n,rfl,h):=h;show(_,(Jab (ps_if (PW.pt (pw_or (JbH (Ja8 (Jau JaE rfl T.Baw JaW %[pv 0,JcZ (v:=.ty "str") rfl T.Bc5 JeP rfl|0]))) (JbP (JbH (Ja8 (Ba0.ev l ⋯ rfl passF %[pv 0|0])))))) (Jae ps_no)
   Jap) (Jae (Jam (Ja5 JcE rfl T.Bc3 JeN %[pv 0|0])))),?_)
 let(b,c,k):=h;show tSeq _ _ _ [some (.str z)] H;cbv;show(z,n,rfl,b,c,λj g=>?_);cbv
 mframe;have w:Tx.wholeL z.cps.toList=true:=by rw[b];show Tx.dg_whole c
 have i:=Jnz w;rw[b,Tx.dg_dv]at i;show(_,i.1,i.2,k j g)
abbrev BaJ:Stmt:=top 92
theorem Jdl:Jao ["text","bottom"] ["text"] (Jac BaJ):=by bv_decide
def JcA  : Sp:=λvs H Q E=>∃(z:Str)(n:Nat),vs=[.str z]/\z.cps.toList=Tx.dg n/\n<10 ^ 60/\2<=n/\∀ H',Same H H'->Q (.int (n:Int)) H'
theorem Jfr(F:"read_bottom"∘BaJ)(T:Txt K mg Ad)(Bap:2∘"read_whole"∘["text"]∘(JbO)):3∘["text"]∘(JcA):=by
 show F.okn Jdl (by subst_eqs) (λb A a s H c Q E g h=>?_)
 let(z,n,rfl,h):=h;show(_,(Jab (Jaj 1 Jdl.nd (Bap.ev g ⋯ rfl passF %[pv 0|0])) (Jab (ps_if (Jak JdO (pv 1) Jaf (Jar _)) (Jae ps_no)
   Jap) (Jae (Jam (pv 1))))),?_)
 let(e,j,m,k):=h;show tSeq _ _ _ [some (.str z),none] H;cbv;show(z,n,rfl,e,j,λl d=>?_)
 mframe;rw[if_neg (by simp;ac_nf)];cbv
 mframe;show k l d
abbrev Bau:Stmt:=top 93
theorem Jbg:Jao ["text","below","pieces","top","bottom"] ["text"] (Jac Bau):=by bv_decide
def Jb7  : Sp:=λvs H Q E=>∃(z:Str)(a:Int × Int),vs=[.str z]/\z=txS a/\FB 190 190 a/\∀ p H',Same H H'->H' p=some (.tup [.int a.1, .int a.2])->Q (.ref p) H'
theorem JeA(F:"read_fraction"∘Bau)(T:Txt K mg Ad)(Bap:2∘"read_whole"∘["text"]∘(JbO))(BbR:3∘"read_bottom"∘["text"]∘(JcA))(Bac:1∘"common_divisor"∘["one","other"]∘(JaK)):4∘["text"]∘(Jb7):=by
 show F.okn Jbg (by subst_eqs) (λa1 A Y s H vs Q E M h=>?_)
 let(z,a,rfl,h):=h;have B:=M.units;show(_,(Jab (ps_if (JbH (Ja8 (Jau JaE rfl T.Baw JaW %[pv 0,JcZ (v:=.ty "str") rfl T.Bc5 JeP rfl|0]))) (Jae ps_no)
   Jap) (Jab (Jaj 1 Jbg.nd (pe_bm PySem.F.plainAttrs_str PySem.F.slot_str_startswith PySem.F.type_str_startswith Jj6 (pv 0) %[Jay|0])) (Jab (Jaj 2 Jbg.nd (pe_bm PySem.F.plainAttrs_str PySem.F.slot_str_partition PySem.F.type_str_partition JmH (JcK (Ja8 (pv 1)) (JdR sl_W (pv 0) (Jei Jaf) Jge) (pv 0)) %[Jay|0])) (Jab (Jaj 3 Jbg.nd (Bap.ev M ⋯ rfl passF %[!2|0])) (Jab (Jaj 4 Jbg.nd (JcK (Jak (JaM B) (!2) Jay (Jar _)) Jaf (BbR.ev M ⋯ rfl passF %[!2|0]))) (Jab (ps_if (Jak (Jcg B) (Bac.ev M ⋯ rfl passF %[pv 3,pv 4|0]) Jaf (Jar _)) (Jae ps_no)
   Jap) (Jab (ps_if (PW.pt (Jci (Ja8 (pv 1)) (JbR (Jak (JaM B) (pv 3) Jaf (Jar _))))) (Jae ps_no)
   Jap) (Jae (Jam (JaN %[JcK (Ja8 (pv 1)) (pe_un Jdm (pv 3)) (pv 3),pv 4|0])))))))))),?_)
 clear B;let(ez,u,k):=h;have p1:(2:Nat) ^ 190<=10 ^ 60:=by decide
 have s1:=u.s1;have s2:=u.s2;have b1:=u.b1;unfold Mth.Sz at s1 s2;obtain⟨m,hm⟩:∃ m,m=a.1.natAbs:=⟨_,rfl⟩;obtain⟨b,hb⟩:∃ b,b=a.2.natAbs:=⟨_,rfl⟩;have p:m<10 ^ 60:=by ac_nf
 have t:b<10 ^ 60:=by ac_nf
 have eb:a.2=(b:Int):=by ac_nf
 have hg:Mth.g (m:Int) (b:Int)=1:=by
  rw[<- eb, <- u.g1];by_cases c:a.1<0
  .rw[show(m:Int) = -a.1 from by ac_nf,Mth.g_neg]
  .rw[show(m:Int)=a.1 from by ac_nf]
 have n:z.cps.toList=if a.1<0 then 45::bodyT m b else bodyT m b:=by rw[ez,Jem,JkL b1,hm,hb]
 clear ez;have l3:(100000:Nat)<=sizeLine:=by decide
 have lb:=JkT p t;have R:=Jdp z;show tSeq _ _ _ [some (.str z),none,none,none,none] H;cbv
 mframe;show(z,_,rfl,rfl,?_);rw[Jhf]
 mframe;rename_i N hN;have key:∀(q:Addr)(L G D:Str)(C:Hp),Same H C->C q=some (.tup [.str L, .str G, .str D])->L.cps.toList=Tx.dg m->((b=1/\G=Str.ofString "")\/(b≠1/\G=Str.ofString "/"/\D.cps.toList=Tx.dg b))->N [some (.str z),some (.bl (decide (a.1<0))),some (.ref q),none,none] C:=by
  intro q L G D C S1 S ha V
  mframe;show ixT (i:=0) (SqT.of S) rfl ?_;cbv;show(L,m,rfl,ha,p,λH2 x=>?_)
  mframe;show ixT (i:=1) (SqT.of (x _ _ S)) rfl ?_;cbv;rename_i N2 a0;have e:∀ l,Same H l->N2 [some (.str z),some (.bl (decide (a.1<0))),some (.ref q),some (.int (m:Int)),some (.int (b:Int))] l:=by
   intro l I
   mframe;show(_,_,rfl,?_);rw[hg];cbv
   mframe;by_cases c:a.1<0
   .rw[decide_eq_true c];cbv;rw[if_neg (by simp;ac_nf)];cbv
    mframe;show(len2,?_);rename_i r U Z l X W O;cbv;show k r X (I.trans W) ?_;rw[O,eb,show -(m:Int)=a.1 from by ac_nf]
   .rw[decide_eq_false c];cbv
    mframe;show(len2,?_);rename_i r U Z l X W O;cbv;show k r X (I.trans W) ?_;rw[O,eb,show(m:Int)=a.1 from by ac_nf]
  rcases V with⟨c1,rfl⟩ | ⟨c1,rfl,hc⟩
  ·(rw[if_pos (by simp)])
   have:=e H2 (S1.trans x);rw[c1]at this;show this
  .rw[if_neg ⋯];cbv;show ixT (i:=2) (SqT.of (x _ _ S)) rfl ?_;cbv;show(D,b,rfl,hc,t,by ac_nf,λl I=>e l ((S1.trans x).trans I))
 have d:∀ y:Str,y.cps.toList=bodyT m b->∀ q,H q=none->N [some (.str z),some (.bl (decide (a.1<0))),some (.ref q),none,none] (upd H q (.tup [.str (Txt.partition y (Str.ofString "/")).1, .str (Txt.partition y (Str.ofString "/")).2.1, .str (Txt.partition y (Str.ofString "/")).2.2])):=λy J q o=>by
  let(h1,h2):=Jki J;show key q _ _ _ _ (newS o rfl) (newE rfl) h1 h2
 by_cases c:a.1<0
 .rw[if_pos c]at n;rw[n]at R ⊢;rw[decide_eq_true (show(45::bodyT m b).head?=some 45 from rfl)];rw[decide_eq_true c]at d;cbv;simp only[length_cons]at R;show slWs (j:=1) ∅ ∅ ?_;cbv;have J:(⟨(z.cps.toList.drop 1).toArray⟩:Str).cps.toList=bodyT m b:=by rw[n];simp
  show(_,_,rfl,rfl,by decide,?_,λq o=>d _ J q o);rw[Jdp,J];ac_nf
 .rw[if_neg c]at n;rw[decide_eq_false (show¬ z.cps.toList.head?=some 45 from by rw[n];show Jgy)];rw[decide_eq_false c]at d;rw[n]at R;cbv;show(_,_,rfl,rfl,by decide,by ac_nf,λq o=>d _ n q o)
abbrev Ba9:Stmt:=top 98
theorem Jha:Jao ["word"] ["word"] (Jac Ba9):=by bv_decide
def Jc9(K:W.Frag):Sp:=λvs H Q E=>∃(z:Str),vs=[.str z]/\nameS z=true/\∀ H',Same H H'->Q (.str z) H'
theorem Jg0(F:"read_name"∘Ba9)(T:Txt K mg Ad)(BaO:1∘"is_name"∘["thing"]∘(JcI K)):2∘["word"]∘(Jc9 K):=by
 show F.okn Jha (by subst_eqs) (λb A a s H c Q E g h=>?_)
 let(z,rfl,h):=h;show(_,(Jab (ps_if (JbH (Ja8 (BaO.ev g ⋯ rfl passF %[pv 0|0]))) (Jae ps_no)
   Jap) (Jae (Jam (pv 0)))),?_)
 let(d,k):=h;show tSeq _ _ _ [some (.str z)] H;cbv;show(z,rfl,d,λi e=>?_);cbv
 mframe;show k i e
abbrev Bba:Stmt:=top 99
theorem Jhb:Jao ["kind","word"] ["kind","word"] (Jac Bba):=by bv_decide
def Jda(K:W.Frag):Sp:=λvs H Q E=>∃(kd w:Str)(r:WD),vs=[.str kd, .str w]/\RdW kd w r/\∀ v H',Same H H'->WV K H' r v->Q v H'
theorem Jg1(F:"read_word"∘Bba)(T:Txt K mg Ad)(Bb6:2∘"read_name"∘["word"]∘(Jc9 K))(Bap:2∘"read_whole"∘["text"]∘(JbO))(BbA:4∘"read_fraction"∘["text"]∘(Jb7)):5∘["kind","word"]∘(Jda K):=by
 show F.okn Jhb (by subst_eqs) (λu A l s H x Q E g h=>?_)
 let(n,w,r,rfl,h):=h;have b:=g.units;show(_,(Jab (ps_if (Jak (JaM b) (pv 0) Jay (Jar _)) (Jae (Jam (Bb6.ev g ⋯ rfl passF %[pv 1|0])))
   Jap) (Jab (ps_if (Jak (JaM b) (pv 0) Jay (Jar _)) (Jae (Jam (Bap.ev g ⋯ rfl passF %[pv 1|0])))
   Jap) (Jab (ps_if (PW.pt (Jci (Jak (JaM b) (pv 0) Jay (Jar _)) (JbR (Jak (JaM b) (pv 1) (Jb0 (v:=.str "-") rfl T.m_LACKING T.r_LACKING) (Jar _))))) (Jae (Jam Jaz))
   Jap) (Jae (Jam (BbA.ev g ⋯ rfl passF %[pv 1|0])))))),?_)
 clear b;let(d,k):=h;show tSeq _ _ _ [some (.str n),some (.str w)] H;cbv;cases r with
 | inl z=>
  let(rfl,rfl,y):=d;rw[if_pos (by simp)];cbv;cbv;show(w,rfl,y,λj i=>k _ j i rfl)
 | inr o=>
  let(rfl,rfl,t):=d;rw[if_neg ⋯];cbv
  mframe;rw[if_neg ⋯];cbv
  mframe;cases o with
  | none=>
   rw[if_pos (by simp[bdS])];cbv;cbv;show k .non H (Same.refl _) rfl
  | some a=>
   have m:=t a rfl;rw[if_neg (by
    intro q;have q:=of_decide_eq_true q;have:=congrArg (λz=>z.cps.toList) q;simp only[show bdS (some a)=txS a from rfl,Jem,JdJ,JkL m.b1]at this;split at this
    .rename_i c;have e:bodyT a.1.natAbs a.2.natAbs=[]:=by simpa using this
     unfold bodyT at e;split at e
     .show Tx.dg_ne _ e
     .simp at e
    .have:=congrArg List.head? this;show Jgy this)]
   mframe;show(_,a,rfl,rfl,m,λp j i B=>k _ j i (FrV.of B))
abbrev Bbp:Stmt:=top 100
theorem Jdw:Jao ["row","words","form"] ["row"] (Jac Bbp):=by bv_decide
def JdE(K:W.Frag):Sp:=λvs H Q E=>∃(z w0:Str)(ks ws:List Str)(rs:List WD),vs=[.str z]/\RowR z w0 ks ws rs Jdj/\∀(l:Addr)(xs:List V)(H':Hp),Same H H'->H l=none->H' l=some (.lst (.str w0::xs))->All2 (WV K H') rs xs->Q (.ref l) H'
theorem JhT(F:"read_row"∘Bbp)(T:Txt K mg Ad)(Bb7:5∘"read_word"∘["kind","word"]∘(Jda K)):6∘["row"]∘(JdE K):=by
 show F.okn Jdw (by subst_eqs) (λa5 A S s H vs Q E hr h=>?_)
 let(z,W,ks,ws,J,rfl,h):=h;have hu:=hr.units;show(_,(Jab (ps_if (JbH (Ja8 (Jau JaE rfl T.Baw JaW %[pv 0,JcZ (v:=.ty "str") rfl T.Bc5 JeP rfl|0]))) (Jae ps_no)
   Jap) (Jab (Jaj 1 Jdw.nd (pe_bm PySem.F.plainAttrs_str PySem.F.slot_str_split PySem.F.type_str_split JiD (pv 0) %[Jay|0])) (Jab (Jaj 2 Jdw.nd (JmV (D:=Jdj) ⋯ (Jb0 (v:=.ref _) rfl T.m_FORMS T.r_FORMS) (!1) ⟨rfl,rfl,rfl,rfl⟩)) (Jab (ps_if (PW.pt (pw_or (Jak JaY (pv 2) Jaz (Jar _)) (JbP (Jak (Jcg hu) (Jau JaD rfl T.BbL JbK %[pv 1|0]) (pe_op JaH (Jau JaD rfl T.BbL JbK %[pv 2|0]) Jaf) (Jar _))))) (Jae ps_no)
   Jap) (Jae (Jam (pe_op JaH (Ja6 %[!1|0]) (Jcq (Jbi (own:=["kind","word"]) (cs:=[]) rfl (Jm1 rfl T.Bdq Jns %[pv 2,JdR sl_W (pv 1) (Jei Jaf) Jge|0]) (λ_ _ _ _=>(JhW (K:=K) (n:=2) rfl rfl (JaA (Jas 0 (show[("kind" : Str),("word" : Str)].Nodup by decide) (hf:=Or.inr rfl)) (JaA (Jas 1 (show[("kind" : Str),("word" : Str)].Nodup by decide) (hf:=Or.inr rfl)) JcL)))) (λ_ _ _ _=>JbA) (λ_ _ _ _=>(Bb7.ev hr ⋯ rfl passF %[pv 0,pv 1|0])) (Jce rfl) ⋯ rfl ⋯ hcs0))))))))),?_)
 clear hu;let(d,k):=h;have l3:(100000:Nat)<=sizeLine:=by decide
 have L:=d.split;rw[<- show Str.ofString " "=(⟨#[32]⟩:Str)from JbD ⋯]at L;have lw:=d.n6;have lz:=d.l;have n1:=d.n1;have n2:=d.n2;show tSeq _ _ _ [some (.str z),none,none] H;cbv
 mframe;show(z,_,rfl,rfl,by decide,by ac_nf,by rw[L,length_cons];ac_nf,?_);rw[L];rename_i p1 a4 X H Z S1 I;cbv
 mframe;show(_,rfl,T.q_FORMS,?_);show ixL (i:=0) (SqL.of I) rfl ?_;show(W,rfl,λss b e O=>?_,λe=>absurd e (by rw[d.f];simp));rw[d.f]at e;cases e
 mframe;show(_, .inl (SqL.of I),?_);cbv;show(_, .inr (O Z),?_);simpa only[length_map,length_cons];rw[if_neg (by simp;ac_nf)];cbv
 mframe;show ixL (i:=0) (SqL.of I) rfl ?_;cbv;show(by show 1<=sizeLine;ac_nf,?_);rename_i l1 a0 a1 Z H2 M e2;cbv;cbv;show slWl (j:=1) (SqL.of (M _ _ I)) (by simp) λp3 Y S3 R f3=>?_;rw[map_cons,List.drop_one,List.tail_cons]at R;cbv;show(b,p3,rfl,⟨_,O Y⟩,⟨_,SqL.of R⟩,CompJ.zipT (xs:=ks.map V.str) (ys:=ws.map V.str) (by simp only[length_map];show n1) (λi B G=>Same Y G/\All2 (WV K G) (J.take i) B) ⟨Same.refl _,rfl⟩ (λi B G hi z=>⟨⟨O G,SqL.of (z.1 _ _ R)⟩,by have:=z.2.length;rw[length_take]at this;ac_nf⟩) ?_ ?_)
 .rintro i x y B H4 p H5 hx hy ⟨U,o⟩ hp m N;rw[List.getElem?_map]at hx hy;let(kd,hk,rfl):=Option.map_eq_some_iff.mp hx;let(w,hw,rfl):=Option.map_eq_some_iff.mp hy;have li:=(List.getElem?_eq_some_iff.mp hw).1;obtain⟨r,C⟩:∃ r,J[i]?=some r:=⟨_,List.getElem?_eq_getElem (n2 ▸ li)⟩;simpa only[length_singleton,length_cons,length_nil,List.replicate,JaJ,map_cons,map_nil,Option.join_some];show(p,_,rfl,SqT.of N,rfl,?_);simpa only[length_singleton,length_cons,length_nil,List.replicate,JaJ,map_cons,map_nil,Option.join_some];show(kd,w,r,rfl,d.r i kd w r hk hw C,λv H6 u hv=>⟨U.trans (m.trans u),?_⟩);rw[take_succ,C];show(o.mono λ_ _ z=>z.sameT (m.trans u).t).append (.one hv)
 rintro B H4 ⟨U,o⟩;rw[length_map,take_of_length_le ∅]at o;rename_i l2 a3 a2 H4 H5 m N;cbv;have g:=S3.trans (U.trans m);have a6:=o.length;show .inl ⟨l1,l2,_,_,rfl,rfl,g _ _ e2,N,by simp only[length_singleton];ac_nf,?_⟩;intro q c;generalize a:upd H5 q _=H6;have u:=newS c a;have e6:=newE a;cbv;show k q B H6 ((S1.trans M).trans (g.trans u)) ?_ e6 (o.mono λ_ _ z=>z.sameT (m.trans u).t);show JaF ((S1.trans M).trans g) c
abbrev Bak:Stmt:=inClass (top 78) 0
theorem JdX:Jao ["self"] ["self"] (Jac Bak):=by bv_decide
def JbN(K:W.Frag)(Ad:Adr):Sp:=λvs H Q E=>∃(x dx:Addr),vs=[.ref x]/\H x=some (.ins Ad.Joints dx [])/\∀ H',(∀ b u,b≠x->H b=some u->H' b=some u)->Q .non H'
theorem JdN(F:"__init__"∘"Joints.__init__"∘Bak)(T:Txt K mg Ad)  : 1∘["self"]∘(JbN K Ad):=by
 show F.okn JdX (by subst_eqs) (λm A a s H n Q E r h=>?_)
 let(x,g,rfl,h):=h;show(_,(Jae (JbG (pv 0) Jbx rfl)),?_);let(j,k):=h;have c:=T.Bdf Ad.Joints rfl;show sFld _ _ _ _ _ [some (.ref x)] H;mexact;rename_i d l o H q e p;mexact;show(x,_,g,_,rfl,e _ _ j,c.cls,c.n1,by simp,?_);show k _ λb u i h=>by rw[Jai i];show e _ _ h
abbrev Bao:Stmt:=inClass (top 79) 0
theorem Jbq:Jao ["self","parts","gaps","joints","row","part","gap","found"] ["self","parts","gaps"] (Jac Bao):=by bv_decide
def JbW(K:W.Frag)(Ad:Adr):Sp:=λvs H Q E=>∃(x dx a b:Addr),vs=[.ref x, .ref a, .ref b]/\H x=some (.ins Ad.Thing dx [])/\H a=some (.lst [])/\H b=some (.lst [])/\∀ H',(∀ b u,b≠x->H b=some u->H' b=some u)->Q .non H'
theorem Jeg(F:"__init__"∘"Thing.__init__"∘Bao)(T:Txt K mg Ad)(BcQ:KCal P w K mg base 1 "Joints" Ad.Joints ["self"] (JbN K Ad)):3∘["self","parts","gaps"]∘(JbW K Ad):=by
 show F.okn Jbq (by subst_eqs) (λa3 A I s H vs Q E hr h=>?_)
 let(x,j,a,b,rfl,h):=h;show(_,(Jab (Jaj 3 Jbq.nd (BcQ.ev0 hr ⋯ rfl passF)) (Jab (JbG (pv 0) Jbx rfl) (Jab (Ja7 PassesOwn.never rfl (pi_U (pv 1)) (Jas 4 Jbq.nd)
   JiJ) (Jab (JbG (pv 0) Jbx rfl) (Jab (JbG (pv 0) Jbx rfl) (Jae (Ja7 PassesOwn.never rfl (pi_U (pv 2)) (Jas 4 Jbq.nd)
   JiJ))))))),?_)
 let(v,r,p,k):=h;have g:=T.Bdi Ad.Thing rfl;have o:a≠x:=λz=>by rw[z,v]at r;cases r
 have l:b≠x:=λz=>by rw[z,v]at p;cases p
 show tSeq _ _ _ [some (.ref x),some (.ref a),some (.ref b),none,none,none,none,none] H;mexact;intro t B n m a2;generalize Z:upd (upd H B _) t _=V;have S1:Same H V:=λc u q=>by rw[<- Z,Jai (Jah q n),Jai (Jah q m)];show q
 have e1:V t=some (.ins Ad.Joints B []):=by rw[<- Z];show Jat
 show(t,B,rfl,e1,λN o2=>⟨rfl,?_⟩);have O:Same H N:=λc u q=>o2 c u (Jah q n) (S1 _ _ q)
 (try ((with_reducible show Nxt.go (by assumption) ?_);mexact))
 mexact;rename_i S M Y N H3 S3 e3;mexact;show(x,_,j,_,rfl,S3 _ _ (O _ _ v),g.cls,g.n1,by simp,?_);generalize u4:upd H3 x _=G;mexact;have e4:G x=some (.ins Ad.Thing j [("parts_by_name", .ref S)]):=by rw[<- u4];show Jat.trans rfl
 have C:∀ c u,c≠x->H c=some u->G c=some u:=λc u e h=>by rw[<- u4,Jai e];show S3 _ _ (O _ _ h)
 (try ((with_reducible show Nxt.go (by assumption) ?_);mexact))
 mexact;show(a,rfl,ForA.byLN (xs:=[]) (SqL.of (C _ _ o r)) (λi σ d=>σ=[some (.ref x),some (.ref a),some (.ref b),some (.ref t),none,none,none,none]/\d=G) ⟨rfl,rfl⟩ (λi σ d z=>by rw[z.2];show SqL.of (C _ _ o r)) (λi y σ d L=>by simp at L) ?_);rintro σ d ⟨rfl,rfl⟩
 (try ((with_reducible show Nxt.go (by assumption) ?_);mexact))
 mexact;rename_i d5 a1 a0 d H5 W e5;mexact;show(x,_,j,_,rfl,W _ _ e4,g.cls,g.n2,by simp,?_);generalize u6:upd H5 x _=J;mexact;have e6:J x=some (.ins Ad.Thing j [("parts_by_name", .ref S),("gaps_by_name", .ref d5)]):=by rw[<- u6];show Jat.trans rfl
 have o6:∀ c u,c≠x->H c=some u->J c=some u:=λc u e h=>by rw[<- u6,Jai e];show W _ _ (C c u e h)
 (try ((with_reducible show Nxt.go (by assumption) ?_);mexact))
 mexact;rename_i d7 X U J H7 S7 e7;mexact;show(x,_,j,_,rfl,S7 _ _ e6,g.cls,g.n3,by simp,?_);generalize u8:upd H7 x _=R;mexact;have D:∀ c u,c≠x->H c=some u->R c=some u:=λc u e h=>by rw[<- u8,Jai e];show S7 _ _ (o6 c u e h)
 (try ((with_reducible show Nxt.go (by assumption) ?_);mexact))
 mexact;show(b,rfl,ForA.byLN (xs:=[]) (SqL.of (D _ _ l p)) (λi σ d=>d=R) rfl (λi σ d z=>by rw[z];show SqL.of (D _ _ l p)) (λi y σ d L=>by simp at L) ?_);rintro σ d rfl;show k _ D
abbrev Bav:Stmt:=inClass (top 105) 0
theorem JeC:Jao ["self"] ["self"] (Jac Bav):=by bv_decide
def Jb5(K:W.Frag)(Ad:Adr):Sp:=λvs H Q E=>∃(x dx:Addr),vs=[.ref x]/\H x=some (.ins Ad.Desk dx [])/\∀(p d:Addr)(H':Hp),(∀ b u,b≠x->H b=some u->H' b=some u)->H d=none->DKs K Ad H' x p d []->Q .non H'
theorem Jey(F:"__init__"∘"Desk.__init__"∘Bav)(T:Txt K mg Ad)(k_Book:KCal P w K mg base 7 "Book" Ad.Book ["self","ties"] (Jbz K Ad))(Bc8:KCal P w K mg base 3 "Thing" Ad.Thing ["self","parts","gaps"] (JbW K Ad)):9∘["self"]∘(Jb5 K Ad):=by
 show F.okn JeC (by subst_eqs) (λa8 A W s H vs Q E hr h=>?_)
 let(x,j,rfl,h):=h;show(_,(Jab (JbG (pv 0) (k_Book.ev hr ⋯ rfl passF %[Ja6 Jad|0]) rfl) (Jae (JbG (pv 0) (Bc8.ev hr ⋯ rfl passF %[Ja6 Jad,Ja6 Jad|0]) rfl))),?_)
 let(Y,k):=h;have D:=T.c_Desk Ad.Desk rfl;show tSeq _ _ _ [some (.ref x)] H;mexact;show(len0,?_);rename_i l1 a1 a2 H O B e1;mexact;intro p R e l a7;have Sm:Same O (upd (upd O R (.own p)) p (.ins Ad.Book R [])):=λb u q=>by rw[Jai (Jah q e),Jai (Jah q l)];show q
 show(p,R,l1,[],[],O,rfl,Jat,e,Sm,SqL.of e1,rfl,(λt ht=>by cases ht),by simp[nms],by simp,λd H2 S2 C U=>⟨rfl,?_⟩);mexact;have v:=B.trans S2;have r:p≠x:=λz=>by rw[z]at e;rw[B _ _ Y]at e;cases e
 have o:d≠x:=λz=>by rw[z]at C;rw[B _ _ Y]at C;cases C
 show(x,_,j,_,rfl,v _ _ Y,D.cls,D.n1,by simp,?_);generalize u3:upd H2 x _=y;mexact;have e3:y x=some (.ins Ad.Desk j [("book", .ref p)]):=by rw[<- u3];show Jat.trans rfl
 have I:∀ b u,b≠x->H2 b=some u->y b=some u:=λb u i h=>by rw[<- u3,Jai i];show h
 have V:BK K Ad y p d []:=by
  let((L,Z),a,N,g3):=U;show(⟨L,I _ _ r Z⟩,a,I _ _ o N,?_);have : a=[]:=by simpa using g3.length
  rw[this];show(rfl,rfl)
 (try ((with_reducible show Nxt.go (by assumption) ?_);mexact))
 mexact;show(len0,?_);rename_i l4 a0 a3 y H4 S4 e4;mexact;show(len0,?_);rename_i l5 a4 a5 H4 S S5 e5;mexact;intro t M n m a6;generalize qt:upd (upd S M _) t _=H6;have X:Same S H6:=λc u q=>by rw[<- qt,Jai (Jah q n),Jai (Jah q m)];show q
 have e6:H6 t=some (.ins Ad.Thing M []):=by rw[<- qt];show Jat
 show(t,M,l4,l5,rfl,e6,X _ _ (S5 _ _ e4),X _ _ e5,λG o7=>⟨rfl,?_⟩);have S7:Same S G:=λc u q=>o7 c u (Jah q n) (X _ _ q);have g:=S4.trans (S5.trans S7);mexact;show(x,_,j,_,rfl,g _ _ e3,D.cls,D.n2,by simp,?_);generalize u8:upd G x _=J;mexact;have o8:∀ b u,b≠x->G b=some u->J b=some u:=λb u i h=>by rw[<- u8,Jai i];show h
 have e8:J x=some (.ins Ad.Desk j [("book", .ref p),("thing", .ref t)]):=by rw[<- u8];show Jat.trans rfl
 show k p d J (λb u i h=>o8 b u i (g _ _ (I b u i (v _ _ h)))) (JaF B C) ⟨⟨j,_,e8⟩,?_⟩;let((L,Z),a,N,g3):=V.same g;show(⟨L,o8 _ _ r Z⟩,a,o8 _ _ o N,?_);have : a=[]:=by simpa using g3.length
 rw[this];show(rfl,rfl)
abbrev BaK:Stmt:=inClass (top 105) 2
theorem Jfw:Jao ["self","first","rest"] ["self","first","rest"] (Jac BaK):=by bv_decide
def Jcw(K:W.Frag)(Ad:Adr):Sp:=λvs H Q E=>∃(x p d:Addr)(ts:List TD)(w:Str)(l:Addr)(xs:List V),vs=[.ref x, .str w, .ref l]/\DKs K Ad H x p d ts/\H l=some (.lst xs)/\ts.length<=35/\((w=Str.ofString "tie"/\∃(t:TD)(vl vg:V),xs=[.str t.nm, .str t.st, .str t.en,vl,vg]/\BV K H t.lo vl/\BV K H t.hi vg/\TOk t/\∀ H',Sx d H H'->DKs K Ad H' x p d (putT ts t)->Q .non H')\/(w=Str.ofString "untie"/\∃ z,xs=[.str z]/\z∈nms ts/\∀ H',Sx d H H'->DKs K Ad H' x p d (dropT ts z)->Q .non H'))
theorem Jfl(F:"change"∘"Desk.change"∘BaK)(T:Txt K mg Ad)(m_put:7∘"put"∘(JaP Ad)∘["self","tie"]∘(Jdy K Ad))(m_drop:1∘"drop"∘(JaP Ad)∘["self","name"]∘(Jc2 K Ad)):8∘["self","first","rest"]∘(Jcw K Ad):=by
 show F.okn Jfw (by subst_eqs) (λR A v s H S Q E C h=>?_)
 let(x,p,d,B,w,l,U,rfl,h):=h;have r:=C.units;show(_,(Jae (ps_if (Jak (JaM r) (pv 1) Jay (Jar _)) (Jae (JaU (m_put.m C ⋯ passF (Jaw (pv 0) rfl) %[Ja5 Jhp rfl T.Bc4 JfT %[pv 2|0]|0]))) (Jae (ps_if (Jak (JaM r) (pv 1) Jay (Jar _)) (Jae (JaU (m_drop.m C ⋯ passF (Jaw (pv 0) rfl) %[!2|0])))
   JiJ)))),?_)
 clear r;let(y,D,o,h):=h;let((I,X,G),j):=id y;let((L,J),N,Y,_):=id j;have g:=T.c_Desk Ad.Desk rfl;show tIfS _ _ _ _ [some (.ref x),some (.str w),some (.ref l)] H;rcases h with⟨rfl,t,vl,vg,rfl,bl,bg,ok,k⟩ | ⟨rfl,z,rfl,hz,k⟩
 .mleave;try rw[if_pos (by simp)]
  mleave;show(x,_,I,_, .ref p,rfl,G,g.cls,g.n1,rfl,?_);mleave;show(p,_,L,_,rfl,J,rfl,rfl,?_);mleave;show(l,_,rfl,SqL.of D,?_);rename_i q O M H Z c V;mleave;show(p,d, .ref q,B,t,rfl,j.same c,⟨q,vl,vg,rfl,SqT.of V,bl.sameT c.t,bg.sameT c.t⟩,ok,o,λn e a=>k n (λb u W h=>e b u W (c _ _ h)) ((y.same c).put e a))
 .mleave;try rw[if_neg ⋯]
  try rw[if_pos (by simp)]
  mleave;show(x,_,I,_, .ref p,rfl,G,g.cls,g.n1,rfl,?_);mleave;show(p,_,L,_,rfl,J,rfl,rfl,?_);mleave;show ixL (i:=0) (SqL.of D) rfl ?_;mleave;show(p,d,z,B,rfl,j,hz,λn e a=>k n e (y.put e a))
abbrev BaL:Stmt:=inClass (top 105) 3
theorem Jfv:Jao ["self","first","rest"] ["self","first","rest"] (Jac BaL):=by bv_decide
def Jcv(K:W.Frag)(Ad:Adr):Sp:=λvs H Q E=>∃(x p d:Addr)(ts:List TD)(F:List Str)(w:Str)(l:Addr)(xs:List V),vs=[.ref x, .str w, .ref l]/\DKs K Ad H x p d ts/\BkH ts F/\H l=some (.lst xs)/\((w=Str.ofString "possible"/\(∀ H',Same H H'->(∃ π,Pot π (ssD ts))->Q (.str (Str.ofString "yes")) H')/\∀ H',Same H H'->(¬∃ π,Pot π (ssD ts))->Q (.str (Str.ofString "no")) H')\/(w=Str.ofString "ring"/\(∀ H',Same H H'->(∃ π,Pot π (ssD ts))->Q (.str (Str.ofString "none")) H')/\∀(R:List SpS)(H':Hp),Same H H'->(¬∃ π,Pot π (ssD ts))->(∃ out,Ja1 ts out/\RgD (ssD ts) out R)->Q (.str ((⟨#[32]⟩:Str).join (R.map λs=>stS s.nm s.fw))) H')\/(w=Str.ofString "gap"/\∃(one other:Str),xs=[.str one, .str other]/\((∃ t∈ts,one=t.st\/one=t.en)/\∃ t∈ts,other=t.st\/other=t.en)/\(∃ π,Pot π (ssD ts))/\∀(tb1 tb2:Tab)(H':Hp),Same H H'->TTd ts [one] tb1->TTd ts [other] tb2->Q (.str ((⟨#[32]⟩:Str).join [bdS ((lk tb2 one).map λe=>subF (0,1) e.1),bdS ((lk tb1 other).map (·.1))])) H'))
theorem Jfk(F:"answer"∘"Desk.answer"∘BaL)(T:Txt K mg Ad)(m_ring:9∘"ring"∘(JaP Ad)∘["self"]∘(Jc3 K Ad))(m_gap:8∘"gap"∘(JaP Ad)∘["self","one","other"]∘(Jdx K Ad))(BbW:2∘"show_bound"∘["bound"]∘(JcU K))(Bb8:2∘"show_ring"∘["ring"]∘(Jdb K)):10∘["self","first","rest"]∘(Jcv K Ad):=by
 show F.okn Jfv (by subst_eqs) (λa5 A a0 s H vs Q E G h=>?_)
 let(x,p,d,C,F,w,l,xs,rfl,h):=h;have M:=G.units;show(_,(Jab (ps_if (Jak (JaM M) (pv 1) Jay (Jar _)) (Jae (Jam (JcK (Jak JaY (m_ring.m0 G ⋯ passF (Jaw (pv 0) rfl)) Jaz (Jar _)) Jay Jay)))
   Jap) (Jab (ps_if (Jak (JaM M) (pv 1) Jay (Jar _)) (Jae (Jam (pe_bm PySem.F.plainAttrs_str PySem.F.slot_str_join PySem.F.type_str_join JhG Jay %[Jcq (Jbi (own:=["bound"]) (cs:=[]) rfl (pi_U (m_gap.m G ⋯ passF (Jaw (pv 0) rfl) %[!2,!2|0])) (λ_ _ _ _=>(Jas 0 (show[("bound" : Str)].Nodup by decide))) (λ_ _ _ _=>JbA) (λ_ _ _ _=>(BbW.ev G ⋯ rfl passF %[pv 0|0])) (Jce rfl) ⋯ rfl ⋯ hcs0)|0])))
   Jap) (Jab (ps_if (Jak (JaM M) (pv 1) Jay (Jar _)) (Jae (Jam (Bb8.ev G ⋯ rfl passF %[m_ring.m0 G ⋯ passF (Jaw (pv 0) rfl)|0])))
   Jap)
   JiJ))),?_)
 clear M;let(hD,B,hl,h):=h;let((Z,t0,hx),J):=id hD;let((O,hp),a4,hd,_):=id J;have D:=T.c_Desk Ad.Desk rfl;have l3:(100000:Nat)<=sizeLine:=by decide
 show tSeq _ _ _ [some (.ref x),some (.str w),some (.ref l)] H;rcases h with⟨rfl,k1,k2⟩ | ⟨rfl,k1,k2⟩ | ⟨rfl,one,other,rfl,okp,pot,k⟩
 .mleave;try rw[if_pos (by simp)]
  mleave;show(x,_,Z,_, .ref p,rfl,hx,D.cls,D.n1,rfl,?_);mleave;show(p,_,O,_,rfl,hp,rfl,rfl,?_);mleave;show(p,d,C,F,rfl,J,B,λn c b=>?_,λr rx R n c _ _ np _ _=>?_)
  .mleave;show k1 n c b
  .mleave;show k2 n c np
 .mleave;try rw[if_neg ⋯]
  (try ((with_reducible show Nxt.go (by assumption) ?_);mleave))
  mleave;try rw[if_neg ⋯]
  (try ((with_reducible show Nxt.go (by assumption) ?_);mleave))
  mleave;try rw[if_pos (by simp)]
  mleave;show(x,_,Z,_, .ref p,rfl,hx,D.cls,D.n1,rfl,?_);mleave;show(p,_,O,_,rfl,hp,rfl,rfl,?_);mleave;show(p,d,C,F,rfl,J,B,λn c b=>?_,λr rx R n c _ N np hR hc=>?_)
  .show(.non,rfl, .inl ⟨rfl,k1 n c b⟩)
  .have rg:Rng (ssD C) R:=by let(_,_,z):=hR;show z.rng
   have lR:=rg.len;have a3:=B.l70;show(_,rfl, .inr ⟨r,rx,_,rfl,N,hc,λq hq=>?_,by rw[length_map];ac_nf,λU W=>?_⟩)
   .let(s,hs,rfl):=mem_map.mp hq;let(y,g,rfl):=mem_map.mp (rg.mem s hs);let(j,t,ht,e,_):=JeK g;show y.nm.length<=8;rw[e];show len8 (B.ok t (List.mem_of_getElem? ht)).n1
   .have:=k2 R U (c.trans W) np hR;rw[map_map];show this
 .mleave;try rw[if_neg ⋯]
  (try ((with_reducible show Nxt.go (by assumption) ?_);mleave))
  mleave;try rw[if_pos (by simp)]
  mleave;show(x,_,Z,_, .ref p,rfl,hx,D.cls,D.n1,rfl,?_);mleave;show(p,_,O,_,rfl,hp,rfl,rfl,?_);mleave;show ixL (i:=0) (SqL.of hl) rfl ?_;mleave;show ixL (i:=1) (SqL.of hl) rfl ?_;mleave;show(p,d,C,F,one,other,rfl,J,B,okp,pot,λq vl vg o u n c N g1 X b1 b2=>?_);have S:∀{f v:Str}{tb:Tab}{e:(Int × Int) × List SpS},TTd C [f] tb->lk tb v=some e->FB 1000 700 e.1:=λh1 h2=>h1.fb B.fb B.l70 h2;have f1:∀ a,(lk u one).map (λe=>subF (0,1) e.1)=some a->FB 1711 701 a:=λa Y=>by
   let(e,he,rfl):=Option.map_eq_some_iff.mp Y;rw[sub0 (S X he).lo];show(S X he).neg.mono ⋯ ⋯
  have f2:∀ a,(lk o other).map (·.1)=some a->FB 1711 701 a:=λa Y=>by
   let(e,he,rfl):=Option.map_eq_some_iff.mp Y;show(S g1 he).mono ⋯ ⋯
  have k:=k o u;generalize(lk u one).map (λe=>subF (0,1) e.1)=o1 at *;generalize(lk o other).map (·.1)=o2 at *;mleave;show(q,rfl, .inr ⟨⟨_,SqT.of N⟩,CompJ.tuple (xs:=[vl,vg]) (λi L I=>I=n/\L=([bdS o1,bdS o2].take i).map V.str) ⟨rfl,rfl⟩ (λi L I hi z=>⟨by rw[z.1];show SqT.of N,by rw[z.2];simp only[length_map,length_take,length_cons,length_nil];ac_nf⟩) ?_ ?_⟩)
  .rintro i y L I g ⟨rfl,rfl⟩;simpa only[length_singleton,length_cons,length_nil,List.replicate,JaJ,map_cons,map_nil,Option.join_some];match i,g with
   | 0,g=>cases g;show(_,o1,rfl,b1,f1,rfl,rfl)
   | 1,g=>cases g;show(_,o2,rfl,b2,f2,rfl,rfl)
   | i+2,g=>simp at g
  rintro L I ⟨rfl,rfl⟩;rename_i jl a1 a2 I U W e2;mleave;have b1:=JfB f1;have b2:=JfB f2;show(_,jl,[bdS o1,bdS o2],rfl,rfl,SqL.of e2,?_,?_)
  .rw[show(Str.ofString " ").length=1 from by decide];simp only[map_cons,map_nil,List.sum_cons,List.sum_nil,length_cons,length_nil];ac_nf
  .rw[jn_eq];show k U (c.trans W) g1 X
abbrev Bbq:Stmt:=inClass (top 105) 1
theorem Je9:Jao ["self","row","words"] ["self","row"] (Jac Bbq):=by bv_decide
def Jck(K:W.Frag)(Ad:Adr):Sp:=λvs H Q E=>∃(x p d:Addr)(ts:List TD)(F:List Str)(z w:Str)(ks ws:List Str)(rs:List WD),vs=[.ref x, .str z]/\DKs K Ad H x p d ts/\BkH ts F/\RowR z w ks ws rs Jdj/\((w=Str.ofString "tie"/\∃ t:TD,rs=[.inl t.nm, .inl t.st, .inl t.en, .inr t.lo, .inr t.hi]/\TOk t/\∀ H',Sx d H H'->DKs K Ad H' x p d (putT ts t)->Q (.str (Str.ofString "ok")) H')\/(w=Str.ofString "untie"/\∃ z,rs=[.inl z]/\z∈nms ts/\∀ H',Sx d H H'->DKs K Ad H' x p d (dropT ts z)->Q (.str (Str.ofString "ok")) H')\/((w=Str.ofString "possible"/\(∀ H',Same H H'->(∃ π,Pot π (ssD ts))->Q (.str (Str.ofString "yes")) H')/\∀ H',Same H H'->(¬∃ π,Pot π (ssD ts))->Q (.str (Str.ofString "no")) H')\/(w=Str.ofString "ring"/\(∀ H',Same H H'->(∃ π,Pot π (ssD ts))->Q (.str (Str.ofString "none")) H')/\∀(R:List SpS)(H':Hp),Same H H'->(¬∃ π,Pot π (ssD ts))->(∃ out,Ja1 ts out/\RgD (ssD ts) out R)->Q (.str ((⟨#[32]⟩:Str).join (R.map λs=>stS s.nm s.fw))) H')\/(w=Str.ofString "gap"/\∃(one other:Str),rs=[.inl one, .inl other]/\((∃ t∈ts,one=t.st\/one=t.en)/\∃ t∈ts,other=t.st\/other=t.en)/\(∃ π,Pot π (ssD ts))/\∀(tb1 tb2:Tab)(H':Hp),Same H H'->TTd ts [one] tb1->TTd ts [other] tb2->Q (.str ((⟨#[32]⟩:Str).join [bdS ((lk tb2 one).map λe=>subF (0,1) e.1),bdS ((lk tb1 other).map (·.1))])) H')))
theorem JhJ(F:"say"∘"Desk.say"∘Bbq)(T:Txt K mg Ad)(Bcg:6∘"read_row"∘["row"]∘(JdE K))(m_change:8∘"change"∘(JdH Ad)∘["self","first","rest"]∘(Jcw K Ad))(m_answer:10∘"answer"∘(JdH Ad)∘["self","first","rest"]∘(Jcv K Ad)):11∘["self","row"]∘(Jck K Ad):=by
 show F.okn Je9 (by subst_eqs) (λa4 A a1 s H vs Q E hr h=>?_)
 let(x,p,d,S,F,z,w,ks,ws,rs,rfl,h):=h;show(_,(Jab (Jaj 2 Je9.nd (Bcg.ev hr ⋯ rfl passF %[pv 1|0])) (Jab (ps_if (Jak Jep (!2) (Jb0 (v:=.ref _) rfl T.m_CHANGES T.r_CHANGES) (by with_unfolding_all rfl)) (Jab (JaU (m_change.m hr ⋯ passF (pv 0) %[!2,JdR sl_W (pv 2) (Jei Jaf) Jge|0])) (Jae (Jam Jay)))
   Jap) (Jae (Jam (m_answer.m hr ⋯ passF (pv 0) %[!2,JdR sl_W (pv 2) (Jei Jaf) Jge|0]))))),?_)
 let(hD,hg,hR,h):=h;have l3:(100000:Nat)<=sizeLine:=by decide
 let((Y,t0,hx),hb):=id hD;let((dy,hp),a3,hd,_):=id hb;show tSeq _ _ _ [some (.ref x),some (.str z),none] H;cbv;show(z,w,ks,ws,rs,rfl,hR,λl xs D G f1 O Z=>?_);have y:=hD.same G;have r:=G _ _ hx
 mframe;show ixL (i:=0) (SqL.of O) rfl ?_;cbv;show(_,_,rfl, .inr (T.q_CHANGES D),rfl,rfl,?_);rw[if_neg ⋯];cbv;have a2:∀(u:Str),u≠Str.ofString "untie"/\u≠Str.ofString "tie"/\u≠Str.ofString "part"/\u≠Str.ofString "need"/\u≠Str.ofString "measure"/\u≠Str.ofString "bound"->inV (.str u) [.str (Str.ofString "tie"), .str (Str.ofString "part"), .str (Str.ofString "need"), .str (Str.ofString "untie"), .str (Str.ofString "measure"), .str (Str.ofString "bound")]=false:=λu h=>by
  rw[show[V.str (Str.ofString "tie"),V.str (Str.ofString "part"),V.str (Str.ofString "need"),V.str (Str.ofString "untie"),V.str (Str.ofString "measure"),V.str (Str.ofString "bound")]=[Str.ofString "tie",Str.ofString "part",Str.ofString "need",Str.ofString "untie",Str.ofString "measure",Str.ofString "bound"].map V.str from rfl,Jbw];simp[h]
 have q:∀{R:VK},(∀ n C,Same D C->C n=some (.lst xs)->R (.ref n) C)->rSlW K (.ref l) (some 1) none D R:=λ{R} k=>by
  show slWl (j:=1) (SqL.of O) (by simp) λp3 J S3 e3 _=>k p3 J S3 ?_;rw[List.drop_one,List.tail_cons]at e3;show e3
 have lq:Same H D:=G;rcases h with⟨rfl,t,rfl,ok,k⟩ | ⟨rfl,z',rfl,hz,k⟩ | h
 .rw[show inV (.str (Str.ofString "tie")) _=true from by decide];cbv;show(x,_,Y,_,rfl,r,rfl,rfl,?_);cbv;show ixL (i:=0) (SqL.of O) rfl (q λn C c L=>?_);cbv;let(N,U,rfl,I,v2,r2,rfl,h2,v3,r3,rfl,h3,v4,r4,rfl,W,v5,r5,rfl,h5,M):=Z;obtain rfl:N=.str t.nm:=I;obtain rfl:v2=.str t.st:=h2;obtain rfl:v3=.str t.en:=h3;obtain rfl:r5=[]:=M;have W:BV K D t.lo v4:=W;have h5:BV K D t.hi v5:=h5;show(x,p,d,S,_,n,_,rfl,y.same c,L,hg.l35, .inl ⟨rfl,t,v4,v5,rfl,W.sameT c.t,h5.sameT c.t,ok,λJ sx o=>?_⟩)
  mframe;show k J (λb u nb h=>sx b u nb (c _ _ (G _ _ h))) o
 .rw[show inV (.str (Str.ofString "untie")) _=true from by decide];cbv;show(x,_,Y,_,rfl,r,rfl,rfl,?_);cbv;show ixL (i:=0) (SqL.of O) rfl (q λn C c L=>?_);cbv;let(N,U,rfl,I,M):=Z;obtain rfl:N=.str z':=I;obtain rfl:U=[]:=M;show(x,p,d,S,_,n,_,rfl,y.same c,L,hg.l35, .inr ⟨rfl,z',rfl,hz,λJ sx o=>?_⟩)
  mframe;show k J (λb u nb h=>sx b u nb (c _ _ (G _ _ h))) o
 .have B:w=Str.ofString "possible"\/w=Str.ofString "ring"\/w=Str.ofString "gap":=by
   rcases h with h | h | h
   .show .inl h.1
   .show .inr (.inl h.1)
   .show .inr (.inr h.1)
  rw[a2 w (by rcases B with rfl | rfl | rfl <;> decide)];cbv
  mframe;show(x,_,Y,_,rfl,r,rfl,rfl,?_);cbv;show ixL (i:=0) (SqL.of O) rfl (q λn C c L=>?_);cbv;have a:=G.trans c;show(x,p,d,S,F,w,n,xs,rfl,y.same c,hg,L,?_);rcases h with⟨B,k1,k2⟩ | ⟨B,k1,k2⟩ | ⟨B,one,other,rfl,okp,pot,k⟩
  .show .inl ⟨B,λe g=>k1 e (a.trans g),λe g=>k2 e (a.trans g)⟩
  .show .inr (.inl ⟨B,λe g=>k1 e (a.trans g),λR e g=>k2 R e (a.trans g)⟩)
  .let(N,U,rfl,I,v2,r2,rfl,h2,M):=Z;obtain rfl:N=.str one:=I;obtain rfl:v2=.str other:=h2;obtain rfl:r2=[]:=M;show .inr (.inr ⟨B,one,other,rfl,okp,pot,λX a0 e g=>k X a0 e (a.trans g)⟩)
abbrev BaM:Stmt:=top 107
theorem Jfy:Jao ["_law_script","_law_k"] ["_law_script","_law_k"] (Jac BaM):=by bv_decide
def JbY(K:W.Frag):Sp:=λvs H Q E=>∃(a:Addr)(ns:List Int)(k:Int),vs=[.ref a, .int k]/\SqL K H a (ns.map V.int)/\ns.length<=63/\0<=k/\∀ v:Int,Q (.int v) H
theorem Jfp(F:"_law_cell_at"∘BaM)(T:Txt K mg Ad)  : 1∘["_law_script","_law_k"]∘(JbY K):=by
 show F.okn Jfy (by subst_eqs) (λi A b s H j Q E m h=>?_)
 let(a,d,k,rfl,h):=h;show(_,(Jab (ps_if (Jak JdO (pv 1) (Jau JaD rfl T.BbL JbK %[pv 0|0]) (Jar _)) (Jae (Jam (pe_ix ix_U (pv 0) (pv 1))))
   Jap) (Jae (Jam Jaf))),?_)
 let(e,l,g,q):=h;show tSeq _ _ _ [some (.ref a),some (.int k)] H;try mstop
 show(_, .inl e,?_);simpa only[length_map];let(n,rfl):=Int.eq_ofNat_of_zero_le g;by_cases c:n<d.length
 .rw[if_pos (by simp;ac_nf)];try mstop
  show ixL e (by rw[List.getElem?_map,List.getElem?_eq_getElem c];rfl) (q _)
 .rw[if_neg (by simp;ac_nf)];try mstop
  show q 0
abbrev BaN:Stmt:=top 108
theorem JbX:Jao ["_law_one","_law_other"] ["_law_one","_law_other"] (Jac BaN):=by bv_decide
def Jcz  : Sp:=λvs H Q E=>∃(a b:Int),vs=[.int a, .int b]/\Q (.int (Mth.g a b)) H
theorem Jfq(F:"_law_divisor"∘BaN)(T:Txt K mg Ad)  : 1∘["_law_one","_law_other"]∘(Jcz):=by
 show F.okn JbX (by subst_eqs) (λn A d s H o Q E t h=>?_)
 let(a,b,rfl,h):=h;show(_,(Jab (Jaj 0 JbX.nd (Jau JdI rfl T.Bde Jij %[pv 0|0])) (Jab (Jaj 1 JbX.nd (Jau JdI rfl T.Bde Jij %[pv 1|0])) (Jab (JdV PassesOwn.never (Jak Jg4 (pv 1) Jaf (Jar _)) (Jae (JnY (i:=0) (j:=1) rfl JbX.nd rfl rfl ⋯ rfl rfl %[pv 1,pe_op JaB (pv 0) (pv 1)|0] rfl))) (Jae (Jam (pv 0)))))),?_)
 show tSeq _ _ _ [some (.int a),some (.int b)] H;try mstop
 show(λm σ l=>∃(x y:Int),σ=[some (.int x),some (.int y)]/\l=H/\0<=x/\0<=y/\Mth.g x y=Mth.g a b/\y.toNat=m,⟨_,_,_,rfl,rfl,Mth.Jig a,Mth.Jig b,Mth.Bdm a b,rfl⟩,?_);intro m σ l z_;let(x,y,rfl,rfl,r,p,k,rfl):=z_;try mstop
 by_cases c:y=0
 .subst c;rw[if_neg (by simp)];have e:Mth.g a b=x:=by rw[<- k,Mth.JlT];ac_nf
  rw[e]at h;show h
 .rw[if_pos (by simp;ac_nf)];have f:=Mth.fm (x:=x) (y:=y) ∅;show(_,λ_ _ q=>q,?_);simp only[tPar,y93y,y55y,y56y,y57y,y80y,y2by,y7by,y8fy,y90y,y4ay,y2fy,y87y,ya7y,y31y,y3fy,y81y,y30y,y9ay,y23y,y29y,y88y,y83y,y2ay,y89y,y85y,y65y,ya9y,y26y,y98y,y7fy,y78y,y4fy,y77y,y8cy,y34y,y4dy,y7dy,y4ey,y7ey,y4cy,y7cy,ya1y,y72y,y6ey,ya3y,ya5y,ya2y,ya4y,y25y,y76y,y24y,true_and,if_true,if_false,Bool.not_true,Bool.not_false,Bool.false_eq_true,yby,ydy,yay,ycy,yey,y15y,y17y,y14y,y16y,y18y,y6y,y8y,y5y,y7y,y9y,y1y,y3y,y0y,y2y,y4y,y10y,y12y,yfy,y11y,y13y,y1ay,y1cy,y19y,y1by,y1dy,y1fy,y21y,y1ey,y20y,y22y,y96y,y8by,y82y,y5fy,y62y,y32y,y33y,y5ey,y70y,y71y,y52y,y97y,y9ey,yaay,y8dy,y27y,V.int.injEq,V.str.injEq,List.set_cons_zero,List.set_cons_succ,List.getElem?_cons_zero,List.getElem?_cons_succ,Option.some.injEq,exists_eq_left,exists_eq_left',V.bl.injEq,Int.reduceToNat,Int.reducePow,append_nil,List.nil_append,cons_append];show(c,_,_,rfl,(x.fmod y).toNat,by ac_nf,y,x.fmod y,rfl,p,f.1,by rw[Mth.JjU ∅];show k,rfl)
abbrev BaW:Stmt:=top 109
theorem JdY:Jao ["_law_top","_law_bottom","_law_by"] ["_law_top","_law_bottom"] (Jac BaW):=by bv_decide
def Jcc  : Sp:=λvs H Q E=>∃(t b:Int),vs=[.int t, .int b]/\1<=b/\Mth.Sz 8000 b/\∀ p H',Same H H'->H' p=some (.tup [.int (Mth.top t b), .int (Mth.bot t b)])->Q (.ref p) H'
theorem Jga(F:"_law_lowest"∘BaW)(T:Txt K mg Ad)(BbS:1∘"_law_divisor"∘["_law_one","_law_other"]∘(Jcz)):2∘["_law_top","_law_bottom"]∘(Jcc):=by
 show F.okn JdY (by subst_eqs) (λj A c s H l Q E q h=>?_)
 let(t,b,rfl,h):=h;show(_,(Jab (Jaj 2 JdY.nd (BbS.ev q ⋯ rfl passF %[pv 0,pv 1|0])) (Jae (Jam (JaN %[pe_op Jav (pv 0) (pv 2),pe_op Jav (pv 1) (pv 2)|0])))),?_)
 let(r,e,k):=h;show tSeq _ _ _ [some (.int t),some (.int b),none] H;try mstop
 show(_,_,rfl,?_);try mstop
 have u:=Mth.g_pos (a:=t) (b:=b) ∅;have v:=Mth.g_le (a:=t) (b:=b) ∅;have d:DivOk (Mth.g t b):=divOk (n:=8000) ∅ (Nat.lt_of_le_of_lt (by ac_nf:(Mth.g t b).natAbs<=b.natAbs) e);show(d,d,len2,?_);show Jj9 λp m S o=>k p m S ?_;rw[o];unfold Mth.top Mth.bot Mth.by_;rw[if_neg ∅]
abbrev Bbr:Stmt:=top 110
theorem Jh6:Jao ["_law_one","_law_other"] ["_law_one","_law_other"] (Jac Bbr):=by bv_decide
def JbC(K:W.Frag):Sp:=λvs H Q E=>∃(x y:V)(a c:Int × Int),vs=[x,y]/\FrV K H x a.1 a.2/\FrV K H y c.1 c.2/\FW 3000 3000 a/\FW 3000 3000 c/\∀ p H',Same H H'->H' p=some (.tup [.int (addF a c).1, .int (addF a c).2])->Q (.ref p) H'
theorem JhO(F:"_law_plus"∘Bbr)(T:Txt K mg Ad)(BaX:2∘"_law_lowest"∘["_law_top","_law_bottom"]∘(Jcc)):3∘["_law_one","_law_other"]∘(JbC K):=by
 show F.okn Jh6 (by subst_eqs) (λl A i s H m Q E o h=>?_)
 let(x,y,a,c,rfl,h):=h;show(_,(Jae (Jam (BaX.ev o ⋯ rfl passF %[pe_op JaH (pe_op Ja4 (!0) (!1)) (pe_op Ja4 (!1) (!0)),pe_op Ja4 (!0) (!1)|0]))),?_);let(g,j,d,b,k):=h;show tRet _ _ [some x,some y] H;try mstop
 show ixF0 g (ixF1 j ?_);try mstop
 show(mulOk d.s1 b.s2,ixF0 j (ixF1 g ?_));try mstop
 show(mulOk b.s1 d.s2,ixF1 g (ixF1 j ?_));try mstop
 show(mulOk d.s2 b.s2,_,_,rfl,?_,(d.s2.mul b.s2).mono ⋯,λp n S e=>k p n S e);have:=Int.mul_pos (show 0<a.2 by have:=d.b1;ac_nf) (show 0<c.2 by have:=b.b1;ac_nf);ac_nf
abbrev BaY:Stmt:=top 111
theorem Jbd:Jao ["_law_script","_law_faces","_law_places_here","_law_k","_law_cell","_law_mixed","_law_top"] ["_law_script","_law_faces"] (Jac BaY):=by bv_decide
def JcQ(K:W.Frag):Sp:=λvs H Q E=>∃(a:Addr)(ns:List Int)(f:Nat),vs=[.ref a, .int (f:Int)]/\SqL K H a (ns.map V.int)/\ns.length<=63/\f<=6/\∀ p ys ls H',H p=none->Same H H'->H' p=some (.lst ys)->All2 (λ(l:Int × Int) x=>FrV K H' x l.1 l.2) ls ys->ls.length=f->(∀ l∈ls,FB 140 3 l/\l.2<=6)->Q (.ref p) H'
theorem Jgb(F:"_law_places"∘BaY)(T:Txt K mg Ad)(Baf:1∘"_law_cell_at"∘["_law_script","_law_k"]∘(JbY K))(BaX:2∘"_law_lowest"∘["_law_top","_law_bottom"]∘(Jcc)):3∘["_law_script","_law_faces"]∘(JcQ K):=by
 show F.okn Jbd (by subst_eqs) (λa1 A U s H vs Q E X h=>?_)
 let(a,Z,f,rfl,h):=h;have hu:=X.units;show(_,(Jab (Jaj 2 Jbd.nd (Ja6 Jad)) (Jab (Ja7 PassesOwn.never rfl (JdS rfl T.BcM %[pv 1|0]) (Jas 3 Jbd.nd) (Jab (Jaj 4 Jbd.nd (Baf.ev X ⋯ rfl passF %[pv 0,pe_op JaH Jaf (pv 3)|0])) (Jab (Jaj 5 Jbd.nd (pe_op Jav (pe_op JaB (pe_op Ja4 (pv 4) Jaf) Jaf) Jaf)) (Jab (Jaj 6 Jbd.nd (pe_op JfL (pe_op JaB (pv 5) Jaf) Jaf)) (Jab (ps_if (Jak (JaM hu) (pe_op JaB (pe_op Jav (pv 5) Jaf) Jaf) Jaf (Jar _)) (Jae (Jaj 6 Jbd.nd (pe_op JfL (pe_op JaB (pv 4) (pe_op Jkh Jaf Jaf)) (pe_op Ja4 Jaf (pe_op Jkh Jaf Jaf)))))
   Jap) (Jae (JaU (pe_bm PySem.F.plainAttrs_list PySem.F.slot_list_append PySem.F.type_list_append Jbf (pv 2) %[BaX.ev X ⋯ rfl passF %[pv 6,pe_op JaH Jaf (pe_op JaB (pe_op Jav (pv 5) Jaf) Jaf)|0]|0] (hs:=by show Jag rfl))))))))) (Jae (Jam (pv 2))))),?_)
 clear hu;let(hS,hl,hf,k):=h;show tSeq _ _ _ [some (.ref a),some (.int (f:Int)),none,none,none,none,none] H;try mstop
 show(len0,?_);rename_i r e a0 H H1 S1 e1;have sl:(1000:Nat)<=sizeLine:=by decide
 show(_,rfl,by ac_nf,by ac_nf,?_);show ForR.by (λi σ O=>∃(S R L Y:Option V)(p:List V)(n:List (Int × Int)),σ=[some (.ref a),some (.int (f:Int)),some (.ref r),S,R,L,Y]/\Same H O/\O r=some (.lst p)/\All2 (λ(l:Int × Int) x=>FrV K O x l.1 l.2) n p/\n.length=i/\∀ l∈n,FB 140 3 l/\l.2<=6) ⟨none,none,none,none,[],[],rfl,S1,e1,rfl,rfl,by simp⟩ ?_ ?_
 .intro i σ H2 hi z_;let(S,R,L,Y,p,n,rfl,C,o,I,j,J):=z_;have ly:=I.length;try mstop
  show(a,Z,_,rfl,hS.same C,hl,by ac_nf,λc=>?_);try mstop
  mpure
  generalize a2:((c*69621).fmod 2147483629).fdiv 37=d;have q1:=Mth.fm (x:=d) (y:=61) ⋯;have q2:=Mth.fm (x:=d.fdiv 244) (y:=6) ⋯;have q5:=Mth.fm (x:=c) (y:=10000000000000000000000000000000000000000) ⋯;by_cases c3:(d.fdiv 61).fmod 4=1
  .rw[if_pos (by simpa using c3)];try mstop
   mpure
   show(.inl ⟨rfl,_,SqL.of o⟩,?_);try mstop
   mpure
   show(c.fmod 10000000000000000000000000000000000000000-5000000000000000000000000000000000000000,1+(d.fdiv 244).fmod 6,rfl,by ac_nf, .lit ∅ ∅,λM G m N=>?_);show(r,_,_,rfl,rfl,m _ _ o,by ac_nf,?_);generalize q:upd G r _=D;have W:=putE q;have g:SameT G D:=SameT.put q (m _ _ o) rfl;show(_,_,_,_,p++[.ref M],n++[(Mth.top (c.fmod 10000000000000000000000000000000000000000-5000000000000000000000000000000000000000) (1+(d.fdiv 244).fmod 6),Mth.bot (c.fmod 10000000000000000000000000000000000000000-5000000000000000000000000000000000000000) (1+(d.fdiv 244).fmod 6))],rfl,λbb u B=>?_,W,?_,by simp[j],λl v=>?_)
   .rw[<- q,Jai (Jah B e)];show m _ _ (C _ _ B)
   .show(I.mono (P':=λ(l:Int × Int) x=>FrV K D x l.1 l.2) λ_ _ z=>(z.sameT m.t).sameT g).append (.one ((FrV.of N).sameT g))
   .rcases mem_append.mp v with h' | h'
    .show J l h'
    .rw[mem_singleton.mp h'];show(FB.low ∅ (.lit ∅ ∅) (.lit ∅ ∅),by have:=Mth.bot_le (t:=(c.fmod 10000000000000000000000000000000000000000-5000000000000000000000000000000000000000)) (b:=1+(d.fdiv 244).fmod 6) ∅;show Mth.bot _ _<=6;ac_nf)
  .rw[if_neg (by simpa using c3)];try mstop
   show(.inl ⟨rfl,_,SqL.of o⟩,?_);try mstop
   mpure
   show(d.fmod 61-30,1+(d.fdiv 244).fmod 6,rfl,by ac_nf, .lit ∅ ∅,λM G m N=>?_);show(r,_,_,rfl,rfl,m _ _ o,by ac_nf,?_);generalize q:upd G r _=D;have W:=putE q;have g:SameT G D:=SameT.put q (m _ _ o) rfl;show(_,_,_,_,p++[.ref M],n++[(Mth.top (d.fmod 61-30) (1+(d.fdiv 244).fmod 6),Mth.bot (d.fmod 61-30) (1+(d.fdiv 244).fmod 6))],rfl,λbb u B=>?_,W,?_,by simp[j],λl v=>?_)
   .rw[<- q,Jai (Jah B e)];show m _ _ (C _ _ B)
   .show(I.mono (P':=λ(l:Int × Int) x=>FrV K D x l.1 l.2) λ_ _ z=>(z.sameT m.t).sameT g).append (.one ((FrV.of N).sameT g))
   .rcases mem_append.mp v with h' | h'
    .show J l h'
    .rw[mem_singleton.mp h'];show(FB.low ∅ (.lit ∅ ∅) (.lit ∅ ∅),by have:=Mth.bot_le (t:=(d.fmod 61-30)) (b:=1+(d.fdiv 244).fmod 6) ∅;show Mth.bot _ _<=6;ac_nf)
 .intro σ H2 z_;let(S,R,L,Y,p,n,rfl,C,o,I,j,J):=z_;try mstop
  show k r p n H2 e C o I (by rw[j];simp) J
abbrev Bbs:Stmt:=top 112
theorem Jh5:Jao ["_law_k"] ["_law_k"] (Jac Bbs):=by bv_decide
def JdC(K:W.Frag):Sp:=λvs H Q E=>∃(k:Nat),vs=[.int (k:Int)]/\k<5/\∀ z H',Same H H'->faceL[k]?=some z->Q (.str z) H'
theorem JhN(F:"_law_face"∘Bbs)(T:Txt K mg Ad)  : 1∘["_law_k"]∘(JdC K):=by
 show F.okn Jh5 (by subst_eqs) (λd A a s H e Q E r h=>?_)
 let(k,rfl,h):=h;show(_,(Jae (Jam (pe_ix ix_U (Ja6 %[Jay,Jay,Jay,Jay,Jay|0]) (pv 0)))),?_);let(c,q):=h;show tRet _ _ [some (.int (k:Int))] H;try mstop
 show(by show 5<=sizeLine;decide,?_);rename_i p n j H m g l;have o:faceL.length=6:=by decide
 have b:faceL[k]?=some faceL[k]:=List.getElem?_eq_getElem ∅;show ixL (i:=k) (SqL.of l) (v:=.str faceL[k]) ?_ (q _ m g b);have : ((faceL.take 5).map V.str)[k]?=some (.str faceL[k]):=by rw[List.getElem?_map,List.getElem?_take_of_lt c,b];rfl
 show this
abbrev BbH:Stmt:=top 113
theorem Jjg:Jao ["_law_digits","_law_kind"] ["_law_digits","_law_kind"] (Jac BbH):=by bv_decide
def Jek(K:W.Frag):Sp:=λvs H Q E=>∃(c:Int)(w:Nat),vs=[.int c, .int (w:Int)]/\w<3/\∀ p (o:Int × Int) H',Same H H'->FrV K H' (.ref p) o.1 o.2->FW 5 2 o->o.2<=3->(w=0->o=(0,1))->Q (.ref p) H'
theorem Jjb(F:"_law_off"∘BbH)(T:Txt K mg Ad)  : 1∘["_law_digits","_law_kind"]∘(Jek K):=by
 show F.okn Jjg (by subst_eqs) (λm A d s H l Q E u h=>?_)
 let(c,w,rfl,h):=h;have e:=u.units;show(_,(Jab (ps_if (PW.pt (pw_or (Jak (JaM e) (pv 1) Jaf (Jar _)) (JbP (Jak Jg4 (pe_op JaB (pv 0) Jaf) Jaf (Jar _))))) (Jae (Jam (JaN %[Jaf,Jaf|0])))
   Jap) (Jae (Jam (JaN %[pe_op JfL (pe_op JaB (pe_op Jav (pv 0) Jaf) Jaf) Jaf,pe_op JaH Jaf (pe_op JaB (pe_op Jav (pv 0) Jaf) Jaf)|0])))),?_)
 clear e;let(B,q):=h;show tSeq _ _ _ [some (.int c),some (.int (w:Int))] H;cbv;have g:∀ p,H p=none->Q (.ref p) (upd H p (.tup [.int 0, .int 1])):=λp o=>q p (0,1) _ (newS o rfl) (FrV.of (newE rfl)) ⟨.lit (show -(2 ^ 5)<(0:Int) by decide) ⋯, .lit (show -(2 ^ 2)<(1:Int) by decide) ⋯,by decide⟩ ⋯ λ_=>rfl;by_cases a:w=0
 .rw[if_pos (by simp[a])];cbv;show(len2,λp b=>g p b)
 .rw[if_neg (by simp;ac_nf)];cbv;mpure
  by_cases i:0<c.fmod 3
  .rw[if_pos (by simpa using i)];cbv;show(len2,λp b=>g p b)
  .rw[if_neg (by simpa using i)];cbv
   mframe;mpure
   have C:=Mth.fm (x:=c.fdiv 3) (y:=41) ⋯;have v:=Mth.fm (x:=c.fdiv 123) (y:=3) ⋯;show(len2,?_);rename_i p t n H j k r;cbv;show q p ((c.fdiv 3).fmod 41-20,1+(c.fdiv 123).fmod 3) j k (FrV.of r) ⟨.lit (show -(2 ^ 5)<(c.fdiv 3).fmod 41-20 by ac_nf) (show(c.fdiv 3).fmod 41-20<2 ^ 5 by ac_nf), .lit (show -(2 ^ 2)<1+(c.fdiv 123).fmod 3 by ac_nf) (show 1+(c.fdiv 123).fmod 3<2 ^ 2 by ac_nf),(show 1<=1+(c.fdiv 123).fmod 3 by ac_nf)⟩ (show 1+(c.fdiv 123).fmod 3<=3 by ac_nf) λz=>absurd z a
abbrev BbI:Stmt:=top 114
theorem JaV:Jao ["_law_cell","_law_k","_law_places_here","_law_kind","_law_free","_law_digits","_law_deep","_law_start","_law_end","_law_apart","_law_low","_law_high"] ["_law_cell","_law_k","_law_places_here","_law_kind","_law_free"] (Jac BbI):=by bv_decide
def Jdh(K:W.Frag):Sp:=λvs H Q E=>∃(c:Int)(k:Nat)(p:Addr)(w:Nat)(fr:Bool)(ys:List V)(ls:List (Int × Int)),vs=[.int c, .int (k:Int), .ref p, .int (w:Int), .bl fr]/\k<8/\w<3/\SqL K H p ys/\All2 (λ(l:Int × Int) x=>FrV K H x l.1 l.2) ls ys/\2<=ls.length/\ls.length<=5/\(∀ l∈ls,FB 140 3 l/\l.2<=6)/\∀ x t H',Same H H'->TV K H' t x->TG8 (decide (w=0)) ls t->t.nm=⟨#[97+k]⟩->Q x H'
theorem Jjd(F:"_law_tie"∘BbI)(T:Txt K mg Ad)(Bad:3∘"_law_plus"∘["_law_one","_law_other"]∘(JbC K))(Bcq:1∘"_law_off"∘["_law_digits","_law_kind"]∘(Jek K))(Bb3:1∘"_law_face"∘["_law_k"]∘(JdC K)):5∘["_law_cell","_law_k","_law_places_here","_law_kind","_law_free"]∘(Jdh K):=by
 show F.okn JaV (by subst_eqs) (λd7 A c3 s H vs Q E U h=>?_)
 let(c,k,p,w,fr,ys,ls,rfl,h):=h;have g:=U.units;show(_,(Jab (Jaj 5 JaV.nd (pe_op Jav (pe_op JaB (pe_op Ja4 (pv 0) Jaf) Jaf) Jaf)) (Jab (Jaj 6 JaV.nd (pe_op Jav (pe_op JaB (pe_op Ja4 (pv 0) Jaf) Jaf) Jaf)) (Jab (ps_if (Ja8 (pv 4)) (Jab (Jaj 5 JaV.nd (pe_op Jav (pv 0) Jaf)) (Jae (Jaj 6 JaV.nd (pe_op Jav (pv 0) Jaf))))
   Jap) (Jab (Jaj 7 JaV.nd (pe_op JaB (pv 5) (Jau JaD rfl T.BbL JbK %[pv 2|0]))) (Jab (Jaj 8 JaV.nd (pe_op JaB (pe_op JaH (pe_op JaH (pv 7) Jaf) (pe_op JaB (pe_op Jav (pv 5) Jaf) (pe_op JfL (Jau JaD rfl T.BbL JbK %[pv 2|0]) Jaf))) (Jau JaD rfl T.BbL JbK %[pv 2|0]))) (Jab (Jaj 9 JaV.nd (Bad.ev U ⋯ rfl passF %[Bad.ev U ⋯ rfl passF %[pe_ix ix_U (pv 2) (pv 8),JaN %[pe_un Jdm (pe_ix ix_U (pe_ix ix_U (pv 2) (pv 7)) Jaf),pe_ix ix_U (pe_ix ix_U (pv 2) (pv 7)) Jaf|0]|0],Bcq.ev U ⋯ rfl passF %[pv 6,pv 3|0]|0])) (Jab (Jaj 10 JaV.nd (Bad.ev U ⋯ rfl passF %[pv 9,JaN %[pe_un Jdm (pe_op JaB (pe_op Jav (pv 5) Jaf) Jaf),pe_op JaH Jaf (pe_op JaB (pe_op Jav (pv 5) Jaf) Jaf)|0]|0])) (Jab (Jaj 11 JaV.nd (Bad.ev U ⋯ rfl passF %[pv 9,JaN %[pe_op JaB (pe_op Jav (pv 5) Jaf) Jaf,pe_op JaH Jaf (pe_op JaB (pe_op Jav (pv 5) Jaf) Jaf)|0]|0])) (Jab (ps_if (Jak (JaM g) (pe_op JaB (pe_op Jav (pv 5) Jaf) Jaf) Jaf (Jar _)) (Jae (Jaj 10 JaV.nd Jaz))
   Jap) (Jab (ps_if (Jak (JaM g) (pe_op JaB (pe_op Jav (pv 5) Jaf) Jaf) Jaf (Jar _)) (Jae (Jaj 11 JaV.nd Jaz))
   Jap) (Jae (Jam (JaN %[pe_ix ix_U Jay (pv 1),Bb3.ev U ⋯ rfl passF %[pv 7|0],Bb3.ev U ⋯ rfl passF %[pv 8|0],pv 10,pv 11|0]))))))))))))),?_)
 clear g;let(hk,hw,hY,hL,d5,d6,hB,q):=h;show tSeq _ _ _ [some (.int c),some (.int (k:Int)),some (.ref p),some (.int (w:Int)),some (.bl fr),none,none,none,none,none,none,none] H;cbv;mpure
 cbv
 mframe;mpure
 cbv
 mframe;rename_i N hN;have key:∀ d dp:Int,N [some (.int c),some (.int (k:Int)),some (.ref p),some (.int (w:Int)),some (.bl fr),some (.int d),some (.int dp),none,none,none,none,none] H:=by
  intro d dp;have lY:=hL.length;have sl:(1000:Nat)<=sizeLine:=by decide
  mframe;show(_, .inl hY,?_);cbv;show(by ac_nf,?_)
  mframe;mpure
  show(_, .inl hY,?_);cbv;show(by ac_nf,_, .inl hY,?_);cbv;show(by ac_nf,?_);generalize hfy:ys.length=f at *;have q1:=Mth.fm (x:=d) (y:=(f:Int)) ∅;have q2:=Mth.fm (x:=d.fdiv 6) (y:=(f:Int)-1) ∅;have b0:=Jk2 (x:=d.fmod (f:Int)+1+(d.fdiv 6).fmod ((f:Int)-1)) (f:=(f:Int)) ∅ ∅;let(r,a2):=Int.eq_ofNat_of_zero_le q1.1;have q7:=Mth.fm (x:=d.fmod (f:Int)+1+(d.fdiv 6).fmod ((f:Int)-1)) (y:=(f:Int)) ∅;let(v,a4):=Int.eq_ofNat_of_zero_le q7.1;have b4:r≠v:=λz=>by
   have : d.fmod (f:Int)=(d.fmod (f:Int)+1+(d.fdiv 6).fmod ((f:Int)-1)).fmod (f:Int):=by rw[a4,a2,z]
   rcases b0 with e | e <;> ac_nf
  rw[a4,a2];have Z:r<ys.length:=by ac_nf
  have a7:v<ys.length:=by ac_nf
  let(j,a8,frs):=hL.at_ (List.getElem?_eq_getElem Z);let(l,a6,b6):=hL.at_ (List.getElem?_eq_getElem a7);let(bs,c4):=hB j (List.mem_of_getElem? a8);let(be,b7):=hB l (List.mem_of_getElem? a6)
  mframe;show ixL (i:=v) hY (List.getElem?_eq_getElem a7) ?_;show ixL (i:=r) hY (List.getElem?_eq_getElem Z) ?_;cbv;show ixF0 frs ?_;cbv;show ixL (i:=r) hY (List.getElem?_eq_getElem Z) ?_;cbv;show ixF1 frs ?_;cbv;show(len2,?_);rename_i ng d1 c7 H H0 S0 e0;cbv;cbv;show(_,_,l,negF j,rfl,b6.same S0,FrV.of e0,be.w.mono ⋯ ⋯,bs.neg.w.mono ⋯ ⋯,λp5 Hb Sb eb=>?_);have bI:FB 144 6 (addF l (negF j)):=be.w.add (n:=143) (m:=6) bs.neg.w ⋯ ⋯ ⋯;cbv;show(dp,w,rfl,hw,λpo o Hc Sc fo wo o3 ho=>?_);cbv;show(_,_,addF l (negF j),o,rfl,(FrV.of eb).same Sc,fo,bI.w.mono ⋯ ⋯,wo.mono ⋯ ⋯,λpa H2 Sd e2=>?_);have S2:Same H H2:=S0.trans (Sb.trans (Sc.trans Sd));have C:FB 147 8 (addF (addF l (negF j)) o):=bI.w.add (n:=146) (m:=8) wo ⋯ ⋯ ⋯;have a1:FrV K H2 (.ref pa) (addF (addF l (negF j)) o).1 (addF (addF l (negF j)) o).2:=FrV.of e2;have b3:(addF l (negF j)).2<=36:=JfP (m:=6) (n:=6) be.b1 bs.b1 b7 c4;have R:(addF (addF l (negF j)) o).2<=108:=JfP (m:=36) (n:=3) bI.b1 wo.b1 b3 o3;have vA:w=0->vl (addF (addF l (negF j)) o)=vl l-vl j:=λh=>by
   rw[Jd5 bI.b1 wo.b1,Jd5 be.b1 (show 1<=(negF j).2 from bs.b1),ho h,Jd6,Jfh];grind
  generalize addF (addF l (negF j)) o=AA at *
  mframe;mpure
  have m5:=Mth.fm (x:=d.fdiv 36) (y:=9) ⋯;have m3:=Mth.fm (x:=d.fdiv 324) (y:=4) ⋯;have n5:=Mth.fm (x:=d.fdiv 1296) (y:=9) ⋯;have n3:=Mth.fm (x:=d.fdiv 11664) (y:=4) ⋯;have l8:faceL.length=6:=by decide
  have D:faceL[r]?=some faceL[r]:=List.getElem?_eq_getElem ∅;have M:faceL[v]?=some faceL[v]:=List.getElem?_eq_getElem ∅;show(len2,?_);rename_i p1 d3 c6 H2 H3 S3 e3;cbv;have w1:FW 4 3 ((-(d.fdiv 36).fmod 9,1+(d.fdiv 324).fmod 4):Int × Int):=⟨.lit (show -(2 ^ 4) < -(d.fdiv 36).fmod 9 by ac_nf) (show -(d.fdiv 36).fmod 9<2 ^ 4 by ac_nf), .lit (show -(2 ^ 3)<1+(d.fdiv 324).fmod 4 by ac_nf) (show 1+(d.fdiv 324).fmod 4<2 ^ 3 by ac_nf),(show 1<=1+(d.fdiv 324).fmod 4 by ac_nf)⟩;have w2:FW 4 3 (((d.fdiv 1296).fmod 9,1+(d.fdiv 11664).fmod 4):Int × Int):=⟨.lit (show -(2 ^ 4)<(d.fdiv 1296).fmod 9 by ac_nf) (show(d.fdiv 1296).fmod 9<2 ^ 4 by ac_nf), .lit (show -(2 ^ 3)<1+(d.fdiv 11664).fmod 4 by ac_nf) (show 1+(d.fdiv 11664).fmod 4<2 ^ 3 by ac_nf),(show 1<=1+(d.fdiv 11664).fmod 4 by ac_nf)⟩;have a0:=(JlH (x:=AA) (y:=(-(d.fdiv 36).fmod 9,1+(d.fdiv 324).fmod 4)) C.b1 w1.b1).1 (show -(d.fdiv 36).fmod 9<=0 by ac_nf);have X:=(JlH (x:=AA) (y:=((d.fdiv 1296).fmod 9,1+(d.fdiv 11664).fmod 4)) C.b1 w2.b1).2 (show 0<=(d.fdiv 1296).fmod 9 by ac_nf);cbv;show(_,_,AA,(-(d.fdiv 36).fmod 9,1+(d.fdiv 324).fmod 4),rfl,a1.same S3,FrV.of e3,C.w.mono ⋯ ⋯,w1.mono ⋯ ⋯,λb8 H4 S4 e4=>?_);have b1:FB 160 9 (addF AA (-(d.fdiv 36).fmod 9,1+(d.fdiv 324).fmod 4)):=((C.w.add (n:=150) (m:=11) w1 ⋯ ⋯ ⋯).mono ⋯ (Nat.le_refl _)).cut (Int.lt_of_le_of_lt (JfP (m:=108) (n:=4) C.b1 w1.b1 R (show 1+(d.fdiv 324).fmod 4<=4 by ac_nf)) ⋯);have f1:FrV K H4 (.ref b8) (addF AA (-(d.fdiv 36).fmod 9,1+(d.fdiv 324).fmod 4)).1 (addF AA (-(d.fdiv 36).fmod 9,1+(d.fdiv 324).fmod 4)).2:=FrV.of e4;generalize addF AA (-(d.fdiv 36).fmod 9,1+(d.fdiv 324).fmod 4)=LL at *
  mframe;mpure
  show(len2,?_);rename_i p2 c8 c9 H4 H5 S5 e5;cbv;cbv;show(_,_,AA,((d.fdiv 1296).fmod 9,1+(d.fdiv 11664).fmod 4),rfl,a1.same (S3.trans (S4.trans S5)),FrV.of e5,C.w.mono ⋯ ⋯,w2.mono ⋯ ⋯,λa9 H6 S6 e6=>?_);have b2:FB 160 9 (addF AA ((d.fdiv 1296).fmod 9,1+(d.fdiv 11664).fmod 4)):=((C.w.add (n:=150) (m:=11) w2 ⋯ ⋯ ⋯).mono ⋯ (Nat.le_refl _)).cut (Int.lt_of_le_of_lt (JfP (m:=108) (n:=4) C.b1 w2.b1 R (show 1+(d.fdiv 11664).fmod 4<=4 by ac_nf)) ⋯);have f2:FrV K H6 (.ref a9) (addF AA ((d.fdiv 1296).fmod 9,1+(d.fdiv 11664).fmod 4)).1 (addF AA ((d.fdiv 1296).fmod 9,1+(d.fdiv 11664).fmod 4)).2:=FrV.of e6;generalize addF AA ((d.fdiv 1296).fmod 9,1+(d.fdiv 11664).fmod 4)=HH at *;have b9:Same H H6:=S2.trans (S3.trans (S4.trans (S5.trans S6)));have c1:=f1.same (S5.trans S6);have c2:=Ji2 (a:=LL) (b:=AA) (c:=HH) b1.b1 C.b1 b2.b1 a0 X
  mframe;mpure
  rename_i N2 d4;have O:∀(B:Option (Int × Int))(J:V),BV K H6 B J->(∀ u,B=some u->u=LL)->N2 [some (.int c),some (.int (k:Int)),some (.ref p),some (.int (w:Int)),some (.bl fr),some (.int d),some (.int dp),some (.int (r:Int)),some (.int (v:Int)),some (.ref pa),some J,some (.ref a9)] H6:=by
   intro B J c5 G
   mframe;mpure
   rename_i N3 d8;have S:∀(L:Option (Int × Int))(W:V),BV K H6 L W->(∀ u,L=some u->u=HH)->N3 [some (.int c),some (.int (k:Int)),some (.ref p),some (.int (w:Int)),some (.bl fr),some (.int d),some (.int dp),some (.int (r:Int)),some (.int (v:Int)),some (.ref pa),some J,some W] H6:=by
    intro L W b5 I;have c0:∀ m:Nat,m<8->atI (Str.ofString "abcdefgh").cps.toList (m:Int)=some (97+m):=λm hm=>by
     have e:(Str.ofString "abcdefgh").cps.toList=range' 97 8:=by decide
     rw[e];show Jdo ?_;rw[List.getElem?_range' ∅];simp
    mframe;show(97+k,by decide,c0 _ hk,?_);cbv;show(r,rfl,by ac_nf,λz7 H7 S7 a3=>?_);rw[D]at a3;cases a3;cbv;show(v,rfl,by ac_nf,λz8 H8 S8 a5=>?_);rw[M]at a5;cases a5;cbv;show(len5,?_);rename_i px d0 d2 H8 H9 S9 e9;cbv;have Y:=S7.trans (S8.trans S9);have fl:∀ u,B=some u->FB 160 9 u:=λu g=>by rw[G u g];show b1
    have fh:∀ u,L=some u->FB 160 9 u:=λu g=>by rw[I u g];show b2
    show q (.ref px) ⟨⟨#[97+k]⟩,faceL[r],faceL[v],B,L⟩ H9 (b9.trans Y) ⟨px,_,_,rfl,SqT.of e9,c5.sameT Y.t,b5.sameT Y.t⟩ ⟨⟨?_,Jip _ (List.mem_of_getElem? D),Jip _ (List.mem_of_getElem? M),λz=>?_,λu g=>(fl u g).ok ⋯ ⋯,λu g=>(fh u g).ok ⋯ ⋯,?_⟩,List.mem_of_getElem? (JiE hk),⟨r,v,j,l,AA,D,M,a8,a6,C.b1,λh=>vA (by simpa using h),?_⟩,fl,fh⟩ rfl
    .show Jl1 _ (List.mem_of_getElem? (JiE hk))
    .have z':faceL[r]=faceL[v]:=z;show b4 (Jk0 D (by rw[z'];show M))
    .show lessD (bD L) (bD B)=false;cases L with
     | none=>rfl
     | some u=>
      cases B with
      | none=>rfl
      | some w=>
       rw[G w rfl,I u rfl];simpa[bD,frD,lessD,lessF]using c2
    .show okB B L AA=true;cases L with
     | none=>
      cases B with
      | none=>rfl
      | some w=>rw[G w rfl];simp[okB,a0]
     | some u=>
      cases B with
      | none=>rw[I u rfl];simp[okB,X]
      | some w=>rw[G w rfl,I u rfl];simp[okB,a0,X]
   split
   .show S none .non rfl (λu g=>by cases g)
   .show S (some HH) _ f2 (λu g=>by cases g;rfl)
  split
  .show O none .non rfl (λu g=>by cases g)
  .show O (some LL) _ c1 (λu g=>by cases g;rfl)
 split
 .cbv;mpure
  mframe;mpure
  show key _ _
 .show key _ _
abbrev Bbt:Stmt:=top 115
theorem Jh7:Jao ["_law_bound_here"] ["_law_bound_here"] (Jac Bbt):=by bv_decide
def JcS(K:W.Frag):Sp:=λvs H Q E=>∃(x:V)(o:Option (Int × Int)),vs=[x]/\BV K H o x/\(∀ a,o=some a->FB 1711 701 a)/\Q (.str (bdS o)) H
theorem JhR(F:"_law_text"∘Bbt)(T:Txt K mg Ad)  : 1∘["_law_bound_here"]∘(JcS K):=by
 show F.okn Jh7 (by subst_eqs) (λj A e s H l Q E m h=>?_)
 let(x,o,rfl,h):=h;have i:=m.units;show(_,(Jab (ps_if (Jak JaY (pv 0) Jaz (Jar _)) (Jae (Jam Jay))
   Jap) (Jab (ps_if (Jak (JaM i) (!0) Jaf (Jar _)) (Jae (Jam (Ja5 JeR rfl T.Bc5 JeP %[!0|0])))
   Jap) (Jae (Jam (pe_op JaH (pe_op JaH (Ja5 JeR rfl T.Bc5 JeP %[!0|0]) Jay) (Ja5 JeR rfl T.Bc5 JeP %[!0|0])))))),?_)
 clear i;let(b,d,k):=h;show tSeq _ _ _ [some x] H;cbv;cases o with
 | none=>
  obtain rfl:x=.non:=b;cbv;show k
 | some a=>
  have b:FrV K H x a.1 a.2:=b;let(p,rfl,_):=id b;have d:=d a rfl;have g:=d.s2.mono (show 701<=1711 by decide);have n:=JiF d.s1;have t:=JiF g;have q:(Str.ofString "/").length=1:=by decide
  have r:(100000:Nat)<=sizeLine:=by decide
  cbv
  mframe;show ixF1 b ?_;cbv;by_cases c:a.2=1
  .rw[if_pos (by simpa using c)];cbv;show ixF0 b ?_;cbv;show(lg_sz d.s1,by rw[Jmf c];show k)
  .rw[if_neg (by simpa using c)];cbv
   mframe;show ixF0 b ?_;cbv;show(lg_sz d.s1,by ac_nf,?_);show ixF1 b ?_;cbv;show(lg_sz g,by rw[strLen_append];ac_nf,by rw[Jmg c d.b1];show k)
abbrev Bbu:Stmt:=top 116
theorem Jh8:Jao ["_law_desk","_law_tie_here"] ["_law_desk","_law_tie_here"] (Jac Bbu):=by bv_decide
def JcT(K:W.Frag)(Ad:Adr):Sp:=λvs H Q E=>∃(x p d:Addr)(v:V)(ts:List TD)(F:List Str)(t:TD),vs=[.ref x,v]/\DKs K Ad H x p d ts/\BkH ts F/\TV K H t v/\TOk t/\(∀ u,t.lo=some u->FB 160 9 u)/\(∀ u,t.hi=some u->FB 160 9 u)/\∀ H',Sx d H H'->DKs K Ad H' x p d (putT ts t)->Q (.bl true) H'
theorem JhS(F:"_law_told"∘Bbu)(T:Txt K mg Ad)(m_say:11∘"say"∘(JdH Ad)∘["self","row"]∘(Jck K Ad))(Bbb:1∘"_law_text"∘["_law_bound_here"]∘(JcS K)):12∘["_law_desk","_law_tie_here"]∘(JcT K Ad):=by
 show F.okn Jh8 (by subst_eqs) (λR A n s H S Q E g h=>?_)
 let(x,p,d,v,G,F,t,rfl,h):=h;have B:=g.units;show(_,(Jae (Jam (Jbc (JaM B) (m_say.m g ⋯ passF (pv 0) %[pe_bm PySem.F.plainAttrs_str PySem.F.slot_str_join PySem.F.type_str_join JhG Jay %[Ja6 %[Jay,!1,!1,!1,Bbb.ev g ⋯ rfl passF %[!1|0],Bbb.ev g ⋯ rfl passF %[!1|0]|0]|0]|0]) Jay (Jar _)))),?_);clear B;let(D,L,M,e,C,I,k):=h;have sl:(100000:Nat)<=sizeLine:=by decide
 let(b,N,vg,rfl,c,o,q):=id M;let((W,t0,U),_):=id D;let((b1,b2),Z):=row5 e C I;have n1:=len8 e.n1;have n2:=len8 e.n2;have n3:=len8 e.n3;show tRet _ _ [some (.ref x),some (.ref b)] H;cbv;show(x,_,W,_,rfl,U,rfl,rfl,?_);cbv;show ixT (i:=0) c rfl ?_;cbv;show ixT (i:=1) c rfl ?_;cbv;show ixT (i:=2) c rfl ?_;cbv;show ixT (i:=3) c rfl ?_;cbv;show(_,t.lo,rfl,o,λa l=>(C a l).mono ⋯ ⋯,?_);show ixT (i:=4) c rfl ?_;cbv;show(_,t.hi,rfl,q,λa l=>(I a l).mono ⋯ ⋯,?_);show(by show 6<=sizeLine;ac_nf,?_);rename_i J r y H H1 z V;cbv;show(_,J,[Str.ofString "tie",t.nm,t.st,t.en,bdS t.lo,bdS t.hi],rfl,rfl,SqL.of V,?_,?_)
 .simp only[map_cons,map_nil,List.sum_cons,List.sum_nil,length_cons,length_nil,show(Str.ofString "tie").length=3 from by decide,show(Str.ofString " ").length=1 from by decide];ac_nf
 rw[jn_eq];show(x,p,d,G,F,_,_,_,_,_,rfl,D.same z,L,Z, .inl ⟨rfl,t,rfl,e,λO Y j=>?_⟩);cbv;show k O (λb u X h=>Y b u X (z _ _ h)) j
abbrev Bbv:Stmt:=top 117
theorem JbT:Jao ["_law_ties","_law_word","_law_name","_law_start","_law_end","_law_low","_law_high"] ["_law_ties","_law_word"] (Jac Bbv):=by bv_decide
def JcR(K:W.Frag):Sp:=λvs H Q E=>∃(a:Addr)(xs:List V)(ts:List TD)(y:SD),vs=[.ref a, .str (stS y.nm y.fw)]/\SqL K H a xs/\All2 (TV K H) ts xs/\(∀ t∈ts,TOk t)/\(nms ts).Nodup/\y∈Ch.all ts/\∀ p v H',Same H H'->H' p=some (.tup [.str y.src, .str y.dst,v])->FrV K H' v y.c.1 y.c.2->Q (.ref p) H'
theorem JhQ(F:"_law_step"∘Bbv)(T:Txt K mg Ad)  : 1∘["_law_ties","_law_word"]∘(JcR K):=by
 show F.okn JbT (by subst_eqs) (λa2 A N s H vs Q E hr h=>?_)
 let(a,xs,ts,y,rfl,h):=h;have M:=hr.units;show(_,(Jab (Ja7 PassesOwn.never rfl (pi_U (pv 0)) (Je6 rfl (JaA (Jas 2 JbT.nd) (JaA (Jas 3 JbT.nd) (JaA (Jas 4 JbT.nd) (JaA (Jas 5 JbT.nd) (JaA (Jas 6 JbT.nd) JcL)))))) (Jab (ps_if (PW.pt (Jci (Jak (JaM M) (pv 1) (pv 2) (Jar _)) (JbR (Jak Jca (pv 6) Jaz (Jar _))))) (Jae (Jam (JaN %[pv 3,pv 4,pv 6|0])))
   Jap) (Jae (ps_if (PW.pt (Jci (Jak (JaM M) (pv 1) (pe_op JaH Jay (pv 2)) (Jar _)) (JbR (Jak Jca (pv 5) Jaz (Jar _))))) (Jae (Jam (JaN %[pv 4,pv 3,JaN %[pe_un Jdm (!5),!5|0]|0])))
   Jap)))) (Jae (Jam Jaz))),?_)
 clear M;let(hS,hR,X,C,hy,k):=h;have l3:(100000:Nat)<=sizeLine:=by decide
 have ld:(Str.ofString "-").length=1:=by decide
 have lx:=hR.length;let(j0,t0,g,d,hk):=JeK hy;have a0:=(List.getElem?_eq_some_iff.mp g).1;have J:nameS y.nm=true:=by rw[d];show(X t0 (List.mem_of_getElem? g)).n1
 show tSeq _ _ _ [some (.ref a),some (.str (stS y.nm y.fw)),none,none,none,none,none] H;cbv;show(a,rfl,ForA.byLN (xs:=xs) hS (λi σ Y=>i<=j0/\Y=H/\∃(U v3 Z S v6:Option V),σ=[some (.ref a),some (.str (stS y.nm y.fw)),U,v3,Z,S,v6]) ⟨Nat.zero_le _,rfl,_,_,_,_,_,rfl⟩ (λi σ Y z=>by rw[z.2.1];show hS) ?_ ?_)
 .intro i x σ j hx z_ N0 v;let(hi,rfl,U,v3,Z,S,v6,rfl):=z_;let(t,q,b,B,vg,rfl,hq,m,n):=hR.at_ hx;have p:=(X t (List.mem_of_getElem? q)).n1;have l8:=len8 p;cbv;show(b,_,rfl,hq,rfl,?_);cbv;rw[stw1 J p];by_cases c:i=j0
  .subst c;rw[g]at q;cases q;rw[decide_eq_true d];rcases hk with⟨fw,hh,e1,e2⟩ | ⟨fw,l,hl,ec,e1,e2⟩
   .rw[fw];rw[hh]at n;have W:FrV K j vg y.c.1 y.c.2:=n;let(pg,rfl,_):=id W;simpa only[Bool.and_true,Option.isSome_none];try rw[if_pos (by simp)]
    cbv;show(by show 3<=sizeLine;ac_nf,?_);rename_i r L O j D o G;cbv;show k r _ D o (by rw[G,e1,e2]) (W.same o)
   .rw[fw];rw[hl]at m;have I:FrV K j B l.1 l.2:=m;let(pg,rfl,_):=id I;simpa only[Bool.and_false,Option.isSome_none]
    mframe;show(by ac_nf,?_);rw[show(stS y.nm false:Str)=stS y.nm y.fw from by rw[fw],stw2 J p,decide_eq_true d,fw];simpa only[Bool.not_false,Bool.and_true,Option.isSome_none];try rw[if_pos (by simp)]
    show ixF0 I ?_;cbv;show ixF1 I ?_;cbv;show(len2,?_);rename_i u a1 a3 j D o G;cbv;show(by show 3<=sizeLine;ac_nf,?_);rename_i r L O D H3 S3 e4;cbv;show k r _ H3 (o.trans S3) (by rw[e4,e1,e2]) ?_;rw[ec];show FrV.of (S3 _ _ G)
  .have R:¬ y.nm=t.nm:=λe=>nd_ne C q g c (by rw[<- d,e]);rw[decide_eq_false R,Bool.false_and];cbv
   mframe;show(by ac_nf,?_);rw[stw2 J p,decide_eq_false R,Bool.false_and];cbv;show v _ _ ⟨by ac_nf,rfl,_,_,_,_,_,rfl⟩
 .rintro σ j ⟨hi,rfl,_⟩;ac_nf
abbrev Bbw:Stmt:=top 118
theorem Jbo:Jao ["_law_ties","_law_text_here","_law_seen","_law_last","_law_total","_law_word","_law_step_here"] ["_law_ties","_law_text_here"] (Jac Bbw):=by bv_decide
def JdD(K:W.Frag):Sp:=λvs H Q E=>∃(a:Addr)(xs:List V)(ts:List TD)(F:List Str)(R:List SpS),vs=[.ref a, .str ((⟨#[32]⟩:Str).join (R.map λs=>stS s.nm s.fw))]/\SqL K H a xs/\All2 (TV K H) ts xs/\BkH ts F/\(nms ts).Nodup/\Rng (ssD ts) R/\(cs R).1<0/\∀ H',Same H H'->Q (.bl true) H'
theorem JhP(F:"_law_ring"∘Bbw)(T:Txt K mg Ad)(Bbx:1∘"_law_step"∘["_law_ties","_law_word"]∘(JcR K))(Bad:3∘"_law_plus"∘["_law_one","_law_other"]∘(JbC K)):4∘["_law_ties","_law_text_here"]∘(JdD K):=by
 show F.okn Jbo (by subst_eqs) (λb3 A a4 s H vs Q E hr h=>?_)
 let(a,xs,u,F,R,rfl,h):=h;have hu:=hr.units;show(_,(Jab (Jaj 2 Jbo.nd (Ja6 Jad)) (Jab (Jaj 3 Jbo.nd Jaz) (Jab (Jaj 4 Jbo.nd (JaN %[Jaf,Jaf|0])) (Jab (Ja7 PassesOwn.never rfl (pi_U (pe_bm PySem.F.plainAttrs_str PySem.F.slot_str_split PySem.F.type_str_split JiD (pv 1) %[Jay|0])) (Jas 5 Jbo.nd) (Jab (Jaj 6 Jbo.nd (Bbx.ev hr ⋯ rfl passF %[pv 0,pv 5|0])) (Jab (ps_if (PW.pt (pw_or (Jak JaY (pv 6) Jaz (Jar _)) (pw_or (Jak Jep (!6) (pv 2) (by with_unfolding_all rfl)) (JbP (PW.pt (Jci (Jak Jca (pv 3) Jaz (Jar _)) (JbR (Jak (Jcg hu) (!6) (pv 3) (Jar _))))))))) (Jae (Jam pe_bl))
   Jap) (Jab (JaU (pe_bm PySem.F.plainAttrs_list PySem.F.slot_list_append PySem.F.type_list_append Jbf (pv 2) %[!6|0] (hs:=by show Jag rfl))) (Jab (Jaj 3 Jbo.nd (!6)) (Jae (Jaj 4 Jbo.nd (Bad.ev hr ⋯ rfl passF %[pv 4,!6|0])))))))) (Jae (Jam (JdQ (Jbc (JaM hu) (pv 3) (!2) (Jar _)) (Jer (Jbc JdO (!4) Jaf (Jar _)))))))))),?_)
 clear hu;let(hS,hR,Z,a3,D,U,k):=h;have l3:(100000:Nat)<=sizeLine:=by decide
 have lR:=D.len;have b1:=Z.l70;have n:∀ s∈R, ∃ y∈Ch.all u,toS (bD_ u) y=s/\nameS y.nm=true/\FB 200 9 y.c:=λs hs=>by
  let(y,J,rfl):=mem_map.mp (D.mem s hs);let(j,t,ht,e,_):=JeK J;show(y,J,rfl,by rw[e];show(Z.ok t (List.mem_of_getElem? ht)).n1,Z.fb y J)
 have h9:=Jl8 (ps:=R.map λs=>(s.nm,s.fw)) λq G=>by
  let(s,hs,rfl):=mem_map.mp G;let(y,_,rfl,hn,_):=n s hs;show len8 hn
 have jl:=JlX (ws:=R.map λs=>stS s.nm s.fw);rw[length_map]at jl;have h9:((R.map λs=>stS s.nm s.fw).map (·.length)).sum<=9*R.length:=by
  rw[length_map]at h9;rw[show(R.map λs=>stS s.nm s.fw)=(R.map λs=>(s.nm,s.fw)).map λp=>stS p.1 p.2 from by rw[map_map];rfl];show h9
 have sp:Txt.split ((⟨#[32]⟩:Str).join (R.map λs=>stS s.nm s.fw)) (Str.ofString " ")=R.map λs=>stS s.nm s.fw:=by
  rw[show Str.ofString " "=(⟨#[32]⟩:Str)from JbD ⋯];show JfO (by simpa using D.ne) λw hw=>?_;let(s,hs,rfl):=mem_map.mp hw;let(y,_,rfl,hn,_):=n s hs;show st_nb hn
 generalize hz0:(⟨#[32]⟩:Str).join (R.map λs=>stS s.nm s.fw)=z0 at *;let(z,hz):=D.adj;have r0:R.length≠0:=λq=>D.ne (eq_nil_of_length_eq_zero q);show tSeq _ _ _ [some (.ref a),some (.str z0),none,none,none,none,none] H;cbv;show(len0,?_);rename_i I O a8 H H1 S1 e1;cbv
 mframe
 mframe;show(len2,?_);rename_i tz a9 b0 H1 H2 S2 e2;cbv
 mframe;show(z0,_,rfl,rfl,by decide,by ac_nf,by rw[sp,length_map];ac_nf,?_);rw[sp];rename_i wl B a7 H2 H3 S3 e3;cbv;have a1:=S1.trans (S2.trans S3);cbv;show(wl,rfl,ForA.byLN (xs:=(R.map λs=>stS s.nm s.fw).map V.str) (SqL.of e3) (λi σ N=>i<=R.length/\∃(q:Addr)(C:V)(v5 v6:Option V),σ=[some (.ref a),some (.str z0),some (.ref I),some C,some (.ref q),v5,v6]/\Same H N/\N wl=some (.lst ((R.map λs=>stS s.nm s.fw).map V.str))/\N I=some (.lst (((R.take i).map (·.src)).map V.str))/\SqT K N q [.int (cs (R.take i)).1, .int (cs (R.take i)).2]/\((i=0/\C=.non)\/(i≠0/\∃ y,(z::R.map (·.tgt))[i]?=some y/\C=.str y))) ⟨Nat.zero_le _,tz, .non,none,none,rfl,a1,e3,S3 _ _ (S2 _ _ e1),SqT.of (S3 _ _ e2), .inl ⟨rfl,rfl⟩⟩ (λi σ N z=>by let(_,_,_,_,_,_,_,z,_):=z;show SqL.of z) ?_ ?_)
 .intro i x σ H4 hx z_ N0 a0;let(hi,q,C,v5,v6,rfl,Y,w4,e4,G,b):=z_;rw[map_map,List.getElem?_map]at hx;let(s,hs,rfl):=Option.map_eq_some_iff.mp hx;have li:=(List.getElem?_eq_some_iff.mp hs).1;let(y,J,rfl,hn,a6):=n s (List.mem_of_getElem? hs);have L:R.take (i+1)=R.take i++[toS (bD_ u) y]:=by rw[take_succ,hs];rfl
  have M:=cs_fb (l:=R.take i) λs hs=>by let(y,J,rfl,_,f):=n s (List.mem_of_mem_take hs);show f
  have a2:(R.take i).length=i:=by rw[length_take];ac_nf
  rw[a2]at M;have ns:y.src∉(R.take i).map (·.src):=λm=>by
   have nd:=D.nd;have e:R=R.take i++R.drop i:=(List.take_append_drop i R).symm;rw[e,map_append]at nd;show(nodup_append.mp nd).2.2 _ m y.src ?_ rfl;show mem_map.mpr ⟨toS (bD_ u) y,?_,rfl⟩;show List.mem_of_getElem? (i:=0) ?_;rw[List.getElem?_drop,Nat.add_zero];show hs
  have W:(z::R.map (·.tgt))[i]?=some y.src:=by
   rw[<- hz,List.getElem?_append_left (by rw[length_map];ac_nf),List.getElem?_map,hs];rfl
  cbv;show(a,xs,u,y,rfl,hS.same Y,hR.mono (λ_ _ z=>z.sameT Y.t),Z.ok,a3,J,λst v H5 S5 e5 f5=>?_)
  mframe;show ixT (i:=0) (SqT.of e5) rfl ?_;cbv;have S:(((R.take i).map (·.src)).map V.str).all flatV=true:=all_eq_true.mpr (λv hv=>by let(z,_,rfl):=mem_map.mp hv;rfl);have g:=S5 _ _ e4;show(I,_,rfl, .inl (SqL.of g),rfl,S,?_);rw[if_neg ⋯,Jbw,decide_eq_false ns];cbv;cbv;rename_i N2 b2;have o:N2 [some (.ref a),some (.str z0),some (.ref I),some C,some (.ref q),some (.str (stS (toS (bD_ u) y).nm (toS (bD_ u) y).fw)),some (.ref st)] H5:=by
   mframe;show(.inl ⟨rfl,_,SqL.of g⟩,?_);show ixT (i:=0) (SqT.of e5) rfl ?_;cbv;show(I,_,_,rfl,rfl,g,by simp only[length_map,length_take];ac_nf,?_);generalize u6:upd H5 I _=H6;cbv;have e6:=putE u6;have T6:SameT H5 H6:=SameT.put u6 g rfl;have X:SqT K H6 st [.str y.src, .str y.dst,v]:=(SqT.of e5).sameT T6
   mframe;show ixT (i:=1) X rfl ?_;cbv
   mframe;show ixT (i:=2) X rfl ?_;cbv;show(_,_,_,y.c,rfl,⟨q,rfl,(G.same S5).sameT T6⟩,f5.sameT T6,M.w.mono ∅ ∅,a6.w.mono ⋯ ⋯,λap H7 S7 e7=>?_)
   mframe;show a0 _ _ ⟨li,ap, .str y.dst,_,_,rfl,λc w h=>?_,?_,?_,?_, .inr ⟨by ac_nf,y.dst,?_,rfl⟩⟩
   .show S7 _ _ ?_;rw[<- u6,Jai (Jah h O)];show S5 _ _ (Y _ _ h)
   .show S7 _ _ ?_;rw[<- u6,Jai (λq=>by rw[q,S2 _ _ e1]at B;cases B)];show S5 _ _ w4
   .rw[L,map_append,map_append];show S7 _ _ e6
   .rw[L,Jhr];show SqT.of e7
   .rw[List.getElem?_cons_succ,List.getElem?_map,hs];rfl
  rcases b with⟨_,rfl⟩ | ⟨_,yy,d,rfl⟩
  .try simpa only[Option.isSome_none]
   try rw[if_neg (by simp)]
   show o
  .rw[W]at d;cases d;try simpa only[Option.isSome_none]
   show ixT (i:=0) (SqT.of e5) rfl ?_;simpa only[Option.isSome_none]
   (try rw[if_neg (by simp)])
   show o
 .intro σ H4 z_;let(hi,q,C,v5,v6,rfl,Y,w4,e4,G,b):=z_;rw[length_map,length_map,take_of_length_le (Nat.le_refl _)]at e4 G;rw[length_map,length_map]at b;obtain⟨yy,d,rfl⟩:∃ y,(z::R.map (·.tgt))[R.length]?=some y/\C=.str y:=by
   rcases b with⟨h0,_⟩ | ⟨_,h⟩
   .ac_nf
   .show h
  rw[<- hz,List.getElem?_append_right (by rw[length_map];ac_nf),length_map,Nat.sub_self]at d;have d:z=yy:=by simpa using d
  subst d;obtain⟨r,R',rfl⟩:∃ r R',R=r::R':=by
   cases R with
   | nil=>show absurd rfl D.ne
   | cons r R'=>show(r,R',rfl)
  have a5:r.src=z:=by
   rw[map_cons,cons_append]at hz;show(List.cons.inj hz).1
  cbv;show ixL (i:=0) (SqL.of e4) (v:=.str z) (by rw[<- a5];rfl) ?_;cbv;show ixT (i:=0) G rfl ?_;cbv;rw[decide_eq_true U];show k H4 Y
abbrev Bbc:Stmt:=top 119
theorem Jba:Jao ["_law_ties","_law_placing","_law_there","_law_name","_law_start","_law_end","_law_low","_law_high","_law_apart"] ["_law_ties","_law_placing"] (Jac Bbc):=by bv_decide
def Jcs(K:W.Frag):Sp:=λvs H Q E=>∃(a c:Addr)(xs zs:List V)(ts:List TD)(F:List Str)(ps:Pl),vs=[.ref a, .ref c]/\SqL K H a xs/\All2 (TV K H) ts xs/\BkH ts F/\H c=some (.lst zs)/\All2 (QV K H) ps zs/\Ja1 ts (ps.map (·.1))/\(∀ z∈ps.map (·.1),FB 1711 701 (look ps z))/\(∀ t∈ts,okT ps t=true)/\∀ H',Same H H'->Q (.bl true) H'
theorem JgX(F:"_law_holds"∘Bbc)(T:Txt K mg Ad)(Bad:3∘"_law_plus"∘["_law_one","_law_other"]∘(JbC K)):4∘["_law_ties","_law_placing"]∘(Jcs K):=by
 show F.okn Jba (by subst_eqs) (λd6 A c0 s H vs Q E hr h=>?_)
 let(a,c,xs,zs,ts,F,g,rfl,h):=h;have hu:=hr.units;show(_,(Jab (ps_if (Jak (Jcg hu) (Jcq (Jbi (own:=["_law_pair"]) (cs:=[]) rfl (pi_U (pv 1)) (λ_ _ _ _=>(Jas 0 (show[("_law_pair" : Str)].Nodup by decide))) (λ_ _ _ _=>JbA) (λ_ _ _ _=>(pe_ix (ix_UK (K:=K) rfl) (pv 0) Jaf)) (Jce rfl) ⋯ rfl ⋯ hcs0)) (Je5 rfl rfl rfl rfl T.Bcb JcY rfl T.n_set JlL %[pe_op JaH (Jcq (Jbi (own:=["_law_tie_here"]) (cs:=[]) rfl (pi_U (pv 0)) (λ_ _ _ _=>(Jas 0 (show[("_law_tie_here" : Str)].Nodup by decide))) (λ_ _ _ _=>JbA) (λ_ _ _ _=>(pe_ix (ix_UK (K:=K) rfl) (pv 0) Jaf)) (Jce rfl) ⋯ rfl ⋯ hcs0)) (Jcq (Jbi (own:=["_law_tie_here"]) (cs:=[]) rfl (pi_U (pv 0)) (λ_ _ _ _=>(Jas 0 (show[("_law_tie_here" : Str)].Nodup by decide))) (λ_ _ _ _=>JbA) (λ_ _ _ _=>(pe_ix (ix_UK (K:=K) rfl) (pv 0) Jaf)) (Jce rfl) ⋯ rfl ⋯ hcs0))|0]) (Jar _)) (Jae (Jam pe_bl))
   Jap) (Jab (Jaj 2 Jba.nd (Ja5 (JfC rfl) rfl T.n_dict Jjr %[pv 1|0])) (Jab (Ja7 PassesOwn.never rfl (pi_U (pv 0)) (Je6 rfl (JaA (Jas 3 Jba.nd) (JaA (Jas 4 Jba.nd) (JaA (Jas 5 Jba.nd) (JaA (Jas 6 Jba.nd) (JaA (Jas 7 Jba.nd) JcL)))))) (Jab (Jaj 8 Jba.nd (Bad.ev hr ⋯ rfl passF %[JaI (hu1 hu) (pv 2) (pv 5) (λ_ _=>rfl),JaN %[pe_un Jdm (pe_ix ix_U (JaI (hu1 hu) (pv 2) (pv 4) (λ_ _=>rfl)) Jaf),pe_ix ix_U (JaI (hu1 hu) (pv 2) (pv 4) (λ_ _=>rfl)) Jaf|0]|0])) (Jab (ps_if (PW.pt (Jci (Jak Jca (pv 6) Jaz (Jar _)) (JbR (Jak JdO (pe_op Ja4 (!8) (!6)) (pe_op Ja4 (!6) (!8)) (Jar _))))) (Jae (Jam pe_bl))
   Jap) (Jae (ps_if (PW.pt (Jci (Jak Jca (pv 7) Jaz (Jar _)) (JbR (Jak JdO (pe_op Ja4 (!7) (!8)) (pe_op Ja4 (!8) (!7)) (Jar _))))) (Jae (Jam pe_bl))
   Jap))))) (Jae (Jam pe_bl))))),?_)
 clear hu;let(hS,hR,G,hC,hP,J,a4,b9,k):=h;have sl:(1000:Nat)<=sizeLine:=by decide
 have lx:=hR.length;have lz:=hP.length;have d7:=G.l35;have d0:g.length<=14:=by
  have:=sub_len (g.map (·.1)) F J.1 λz l=>by
   obtain⟨t,e,h | h⟩:=(J.2.2 z).mp l
   .rw[h];show(G.fm t e).1
   .rw[h];show(G.fm t e).2
  have:=G.f8;rw[length_map]at *;ac_nf
 show tSeq _ _ _ [some (.ref a),some (.ref c),none,none,none,none,none,none,none] H;cbv;show(c,rfl, .inl ⟨⟨_,SqL.of hC⟩,CompJ.list (xs:=zs) (λj p o=>o=H/\p=((g.take j).map (·.1)).map V.str) ⟨rfl,rfl⟩ (λj p o hj z=>⟨by rw[z.1];show SqL.of hC,by rw[z.2];simp only[length_map,length_take];ac_nf⟩) ?_ ?_⟩)
 .rintro j y p H6 hy ⟨rfl,rfl⟩;let(r,hr,b,v,rfl,hb,hf):=hP.at_ hy;simpa only[length_singleton,length_cons,length_nil,List.replicate,JaJ,map_cons,map_nil,Option.join_some];show ixT (i:=0) (SqT.of hb) rfl ?_;cbv;rw[take_succ,hr];simp
 rintro p H6 ⟨rfl,rfl⟩;rw[take_of_length_le ∅];rename_i nl d3 c8 H6 H0 S0 e0;cbv;cbv;have W:=hS.same S0;have a7:=hR.mono (P':=TV K H0) λ_ _ z=>z.sameT S0.t;show(a,rfl, .inl ⟨⟨xs,W⟩,CompJ.list (xs:=xs) (λi p o=>o=H0/\p=((ts.take i).map (·.st)).map V.str) ⟨rfl,rfl⟩ (λi p o hi z=>⟨by rw[z.1];show W,by rw[z.2];simp only[length_map,length_take];ac_nf⟩) ?_ ?_⟩)
 .rintro i x p o hx ⟨rfl,rfl⟩;simpa only[length_singleton,length_cons,length_nil,List.replicate,JaJ,map_cons,map_nil,Option.join_some];let(t,e,b,vl,vg,rfl,hq,_,_):=a7.at_ hx;show ixT (i:=1) hq rfl ?_;cbv;rw[take_succ,e];simp
 rintro p o ⟨rfl,rfl⟩;rw[take_of_length_le ∅];rename_i b4 b1 a9 o H5 S5 e5;cbv;have b3:=a7.mono (P':=TV K H5) λ_ _ z=>z.sameT S5.t;have a2:=W.same S5;cbv;show(a,rfl, .inl ⟨⟨xs,a2⟩,CompJ.list (xs:=xs) (λi p o=>o=H5/\p=((ts.take i).map (·.en)).map V.str) ⟨rfl,rfl⟩ (λi p o hi z=>⟨by rw[z.1];show a2,by rw[z.2];simp only[length_map,length_take];ac_nf⟩) ?_ ?_⟩)
 .rintro i x p o hx ⟨rfl,rfl⟩;simpa only[length_singleton,length_cons,length_nil,List.replicate,JaJ,map_cons,map_nil,Option.join_some];let(t,e,b,vl,vg,rfl,hq,_,_):=b3.at_ hx;show ixT (i:=2) hq rfl ?_;cbv;rw[take_succ,e];simp
 rintro p c2 ⟨rfl,rfl⟩;rw[take_of_length_le ∅];intro a0 N;generalize C:upd c2 a0 _=H6;have S6:=newS N C;have e6:=newE C;cbv;show .inl ⟨b4,a0,_,_,rfl,rfl,S6 _ _ e5,e6,by simp only[length_map];ac_nf,?_⟩;rename_i lc c9 c6 H6 H7 S7 e7;cbv;cbv;show(lc,ts.map (·.st)++ts.map (·.en),rfl,by rw[map_append];show SqL.of e7,by simp only[length_append,length_map];ac_nf,⟨F,by have:=G.f8;ac_nf,λz l=>?_⟩,Jhj G.ok,λso o2 a3 c5 a1 b8=>?_)
 .rcases mem_append.mp l with l | l
  .let(t,e,rfl):=mem_map.mp l;show(G.fm t e).1
  .let(t,e,rfl):=mem_map.mp l;show(G.fm t e).2
 generalize L:upd H7 so _=H8;have S8:=newS a3 L;have e8:=newE L;have a8:=S5.trans (S6.trans (S7.trans S8));have eo:o2=g.map (·.1):=Jfc b8 J.2.1 c5 J.1 λz=>by
  rw[a1 z,J.2.2];constructor
  .intro l;rcases mem_append.mp l with l | l
   .let(t,e,rfl):=mem_map.mp l;show(t,e, .inl rfl)
   .let(t,e,rfl):=mem_map.mp l;show(t,e, .inr rfl)
  .rintro⟨t,e,rfl | rfl⟩
   .show mem_append_left _ (mem_map.mpr ⟨t,e,rfl⟩)
   .show mem_append_right _ (mem_map.mpr ⟨t,e,rfl⟩)
 subst eo;have S:=S0.trans a8;cbv;show JnN (SqL.of (a8 _ _ e0)) (SqL.of e8) ?_;rw[decide_eq_true rfl];cbv
 mframe;have b5:=hP.mono (P':=QV K H8) λ_ _ z=>z.sameT S.t;let(as,qs,c3,b2,b6,Y,a6):=QV.refs b5;show(c,as,qs,rfl,by rw[<- c3];show S _ _ hC,b2,b6,?_);rename_i dd d2 d4 H8 H9 S9 e9;cbv;have I:=S.trans S9
 mframe;show(a,rfl,ForA.byLN (xs:=xs) (hS.same I) (λi σ o=>∃(v3 v4 v5 v6 v7 v8:Option V),σ=[some (.ref a),some (.ref c),some (.ref dd),v3,v4,v5,v6,v7,v8]/\Same H9 o) ⟨_,_,_,_,_,_,rfl,Same.refl _⟩ (λi σ o z=>by let(_,_,_,_,_,_,_,z):=z;show(hS.same I).same z) ?_ ?_)
 .intro i y σ HD hy z_ N0 X;let(v3,v4,v5,v6,v7,v8,rfl,SD):=z_;let(t,e,b7):=hR.at_ hy;have D:=List.mem_of_getElem? e;let(b,M,vg,rfl,hq,q,u):=b7.sameT (I.trans SD).t;have ok:=G.ok t D;have ms:t.st∈g.map (·.1):=(J.2.2 _).mpr ⟨t,D, .inl rfl⟩;have me:t.en∈g.map (·.1):=(J.2.2 _).mpr ⟨t,D, .inr rfl⟩;let(ve,b0,c4):=JdK Y J.1 a6 me;let(vs,Z,c1):=JdK Y J.1 a6 ms;have fe:=c4.same (S9.trans SD);have fs:=c1.same (S9.trans SD);have eD:=SD _ _ e9;have oe:=a4 _ me;have os:=a4 _ ms;have oa:FB 2413 1402 (apart g t):=FB.add (n:=2412) (m:=1402) oe os.neg ⋯ ⋯ ⋯;have d:=b9 t D;unfold okT okB at d;rw[Bool.and_eq_true]at d;cbv;show(b,_,rfl,hq,rfl,?_);cbv;show(dd,ve,rfl,by rw[<- b0];show DGet.k (k:=Sum.inr t.en) eD,?_);cbv;show(dd,vs,rfl,by rw[<- Z];show DGet.k (k:=Sum.inr t.st) eD,?_);show ixF0 fs ?_;cbv;show(dd,vs,rfl,by rw[<- Z];show DGet.k (k:=Sum.inr t.st) eD,?_);show ixF1 fs ?_;cbv;show(len2,?_);rename_i ng d1 c7 HD HE SE eE;cbv;show(_,_,look g t.en,negF (look g t.st),rfl,fe.same SE,FrV.of eE,oe.w.mono ⋯ ⋯,os.neg.w.mono ⋯ ⋯,λpa HG SG eG=>?_);have fa:FrV K HG (.ref pa) (apart g t).1 (apart g t).2:=FrV.of eG;have U:=SE.trans SG;have a5:=SD.trans U
  mframe;rename_i N2 d5;have B:N2 [some (.ref a),some (.ref c),some (.ref dd),some (.str t.nm),some (.str t.st),some (.str t.en),some M,some vg,some (.ref pa)] HG:=by
   mframe;cases hh:t.hi with
   | none=>
    rw[hh]at u;replace u:vg=.non:=u;subst u;cbv;show X _ _ ⟨_,_,_,_,_,_,rfl,a5⟩
   | some hv=>
    have oh:=ok.hi hv hh;rw[hh]at u d;have fh:FrV K HG vg hv.1 hv.2:=FrV.same U u;let(pg,rfl,_):=id fh;have l:(!lessF hv (apart g t))=true:=d.2;try simpa only[Option.isSome_none]
    try rw[if_pos (by simp)]
    show ixF0 fh ?_;try simpa only[Option.isSome_none]
    show ixF1 fa ?_;try simpa only[Option.isSome_none]
    show(mulOk oh.s1 oa.s2,?_);show ixF0 fa ?_;try simpa only[Option.isSome_none]
    show ixF1 fh ?_;try simpa only[Option.isSome_none]
    show(mulOk oa.s1 oh.s2,?_);try simpa only[Option.isSome_none]
    have O:decide (hv.1*(apart g t).2<(apart g t).1*hv.2)=false:=by simpa[lessF]using l
    rw[O];cbv;show X _ _ ⟨_,_,_,_,_,_,rfl,a5⟩
  cases hlw:t.lo with
  | none=>
   rw[hlw]at q;replace q:M=.non:=q;subst q;try simpa only[Option.isSome_none]
   show B
  | some lv=>
   have ol:=ok.lo lv hlw;rw[hlw]at q d;have R:FrV K HG M lv.1 lv.2:=FrV.same U q;let(pl,rfl,_):=id R;have l:(!lessF (apart g t) lv)=true:=d.1;try simpa only[Option.isSome_none]
   try rw[if_pos (by simp)]
   show ixF0 fa ?_;try simpa only[Option.isSome_none]
   show ixF1 R ?_;try simpa only[Option.isSome_none]
   show(mulOk oa.s1 ol.s2,?_);show ixF0 R ?_;try simpa only[Option.isSome_none]
   show ixF1 fa ?_;try simpa only[Option.isSome_none]
   show(mulOk ol.s1 oa.s2,?_);try simpa only[Option.isSome_none]
   have O:decide ((apart g t).1*lv.2<lv.1*(apart g t).2)=false:=by simpa[lessF]using l
   rw[O];try simpa only[Option.isSome_none]
   show B
 .intro σ HD z_;let(v3,v4,v5,v6,v7,v8,rfl,SD):=z_;cbv;show k HD (I.trans SD)
abbrev Bbd:Stmt:=top 120
theorem Ja9:Jao ["_law_ties","_law_one","_law_other","_law_chain_here","_law_here","_law_total","_law_name","_law_forward","_law_step_here"] ["_law_ties","_law_one","_law_other","_law_chain_here"] (Jac Bbd):=by bv_decide
def Jc7(K:W.Frag):Sp:=λvs H Q E=>∃(a:Addr)(one other:Str)(l:Addr)(xs cx:List V)(ts:List TD)(F:List Str)(ch:List SpS),vs=[.ref a, .str one, .str other, .ref l]/\SqL K H a xs/\All2 (TV K H) ts xs/\BkH ts F/\(nms ts).Nodup/\H l=some (.lst cx)/\All2 (CV H) (ch.map λs=>(s.nm,s.fw)) cx/\Wk (ssD ts) one ch other/\ch.length<=70/\∀ p H',Same H H'->SqT K H' p [.int (cs ch).1, .int (cs ch).2]->Q (.ref p) H'
theorem JgW(F:"_law_chain"∘Bbd)(T:Txt K mg Ad)(Bbx:1∘"_law_step"∘["_law_ties","_law_word"]∘(JcR K))(Bad:3∘"_law_plus"∘["_law_one","_law_other"]∘(JbC K)):4∘["_law_ties","_law_one","_law_other","_law_chain_here"]∘(Jc7 K):=by
 show F.okn Ja9 (by subst_eqs) (λa8 A a1 s H vs Q E hr h=>?_)
 let(a,g,d,l,xs,M,I,F,m,rfl,h):=h;have hu:=hr.units;show(_,(Jab (Jaj 4 Ja9.nd (pv 1)) (Jab (Jaj 5 Ja9.nd (JaN %[Jaf,Jaf|0])) (Jab (Ja7 PassesOwn.never rfl (pi_U (pv 3)) (Je6 rfl (JaA (Jas 6 Ja9.nd) (JaA (Jas 7 Ja9.nd) JcL))) (Jab (Jaj 8 Ja9.nd (Bbx.ev hr ⋯ rfl passF %[pv 0,pe_ix ix_U (Ja6 %[pe_op JaH Jay (pv 6),pv 6|0]) (Ja5 JcE rfl T.Bc3 JeN %[pv 7|0])|0])) (Jab (ps_if (PW.pt (pw_or (Jak JaY (pv 8) Jaz (Jar _)) (JbP (Jak (Jcg hu) (!8) (pv 4) (Jar _))))) (Jae (Jam Jaz))
   Jap) (Jab (Jaj 4 Ja9.nd (!8)) (Jae (Jaj 5 Ja9.nd (Bad.ev hr ⋯ rfl passF %[pv 5,!8|0]))))))) (Jab (ps_if (Jak (Jcg hu) (pv 4) (pv 2) (Jar _)) (Jae (Jam Jaz))
   Jap) (Jae (Jam (pv 5))))))),?_)
 clear hu;let(hS,hR,S,Z,hl,hc,p,a7,k):=h;have l3:(100000:Nat)<=sizeLine:=by decide
 have ld:(Str.ofString "-").length=1:=by decide
 have Y:=hc.length;rw[length_map]at Y;have J:∀ s∈m, ∃ y∈Ch.all I,toS (bD_ I) y=s/\nameS y.nm=true/\FB 200 9 y.c:=λs o=>by
  let(y,B,rfl):=mem_map.mp (p.mem s o);let(j,t,ht,e,_):=JeK B;show(y,B,rfl,by rw[e];show(S.ok t (List.mem_of_getElem? ht)).n1,S.fb y B)
 have G:=p.fin;show tSeq _ _ _ [some (.ref a),some (.str g),some (.str d),some (.ref l),none,none,none,none,none] H;cbv
 mframe;show(len2,?_);rename_i hz a5 a4 H H2 S2 e2;cbv
 mframe;show(l,rfl,ForA.byLN (xs:=M) ((SqL.of hl).same S2) (λi σ H'=>i<=M.length/\∃(q:Addr)(z:Str)(v6 v7 X:Option V),σ=[some (.ref a),some (.str g),some (.str d),some (.ref l),some (.str z),some (.ref q),v6,v7,X]/\Same H H'/\(g::m.map (·.tgt))[i]?=some z/\SqT K H' q [.int (cs (m.take i)).1, .int (cs (m.take i)).2]) ⟨Nat.zero_le _,hz,g,none,none,none,rfl,S2,rfl,SqT.of e2⟩ (λi σ H' z=>by let(_,_,_,_,_,_,_,z,_):=z;show(SqL.of hl).same z) ?_ ?_)
 .intro i x σ N hx z_ N0 W;let(hi,q,z,v6,v7,X,rfl,R,n,O):=z_;have li:=(List.getElem?_eq_some_iff.mp hx).1;let(c0,L,a0):=hc.at_ hx;rw[List.getElem?_map]at L;let(s,o,rfl):=Option.map_eq_some_iff.mp L;let(wa,wm,wb):=p.at_ i s o;let(y,B,rfl,hn,a2):=J s (List.mem_of_getElem? o);have l8:=len8 hn;let(b,rfl,r):=a0.sameT R.t;have r:N b=some (.tup [.str y.nm, .bl y.fw]):=r;have U:m.take (i+1)=m.take i++[toS (bD_ I) y]:=by rw[take_succ,o];rfl
  have C:=cs_fb (l:=m.take i) λs o=>by let(y,B,rfl,_,f):=J s (List.mem_of_mem_take o);show f
  have D:(m.take i).length=i:=by rw[length_take];ac_nf
  rw[D]at C;have ez:z=y.src:=by
   have w1:=wa.fin;rw[D]at w1;have : (g::(m.take i).map (·.tgt))[i]?=(g::m.map (·.tgt))[i]?:=by
    cases i with
    | zero=>rfl
    | succ i=>
     rw[List.getElem?_cons_succ,List.getElem?_cons_succ,List.map_take,List.getElem?_take_of_lt ∅]
   rw[this,n]at w1;cases w1;rfl
  subst ez;cbv;show(b,_,rfl,SqT.of r,rfl,?_);cbv;show(by ac_nf,len2,?_);rename_i wl a6 a3 N H4 S4 e4;cbv;have u:=R.trans S4;have iw:[V.str (Str.ofString "-"++y.nm),V.str y.nm][if y.fw=true then 1 else 0]?=some (V.str (stS y.nm y.fw)):=by
   unfold stS;cases y.fw <;> rfl
  rw[show(if y.fw=true then(1:Int)else 0)=((if y.fw=true then 1 else 0:Nat):Int)from by split <;> rfl];show ixL (SqL.of e4) iw ?_;cbv;show(a,xs,I,y,rfl,hS.same u,hR.mono (λ_ _ z=>z.sameT u.t),S.ok,Z,B,λst v H5 S5 e5 f5=>?_)
  mframe;show ixT (i:=0) (SqT.of e5) rfl ?_;cbv;try rw[if_neg (by simp)]
  mframe;show ixT (i:=1) (SqT.of e5) rfl ?_
  mframe;show ixT (i:=2) (SqT.of e5) rfl ?_;cbv;show(_,_,_,y.c,rfl,⟨q,rfl,O.same (S4.trans S5)⟩,f5,C.w.mono ∅ ∅,a2.w.mono ⋯ ⋯,λap H7 S7 e7=>?_)
  mframe;show W _ _ ⟨li,ap,y.dst,_,_,_,rfl,u.trans (S5.trans S7),?_,?_⟩
  .rw[List.getElem?_cons_succ,List.getElem?_map,o];rfl
  .rw[U,Jhr];show SqT.of e7
 .intro σ N z_;let(hi,q,z,v6,v7,X,rfl,R,n,O):=z_;rw[take_of_length_le ∅]at O;rw[show M.length=m.length by ac_nf,G]at n;cases n;cbv;try rw[if_neg (by simp)]
  mframe;show k q N R O
abbrev Bbe:Stmt:=top 121
theorem Jbb:Jao ["_law_ties","_law_one","_law_other","_law_there","_law_k","_law_name","_law_start","_law_end","_law_low","_law_high"] ["_law_ties","_law_one","_law_other"] (Jac Bbe):=by bv_decide
def Jc8(K:W.Frag):Sp:=λvs H Q E=>∃(a:Addr)(one other:Str)(xs:List V)(ts:List TD)(P0:Str->Prop),vs=[.ref a, .str one, .str other]/\SqL K H a xs/\All2 (TV K H) ts xs/\ts.length<=35/\P0 one/\(∀ s∈Ch.all ts,P0 s.src->P0 s.dst)/\¬ P0 other/\∀ H',Same H H'->Q (.bl false) H'
theorem JgY(F:"_law_leads"∘Bbe)(T:Txt K mg Ad)  : 1∘["_law_ties","_law_one","_law_other"]∘(Jc8 K):=by
 show F.okn Jbb (by subst_eqs) (λa9 A a4 s H vs Q E hr h=>?_)
 let(a,o,g,xs,ts,P0,rfl,h):=h;show(_,(Jab (Jaj 3 Jbb.nd (Ja6 %[pv 1|0])) (Jab (Ja7 PassesOwn.never rfl (JdS rfl T.BcM %[Jau JaD rfl T.BbL JbK %[pv 0|0]|0]) (Jas 4 Jbb.nd) (Jae (Ja7 PassesOwn.never rfl (pi_U (pv 0)) (Je6 rfl (JaA (Jas 5 Jbb.nd) (JaA (Jas 6 Jbb.nd) (JaA (Jas 7 Jbb.nd) (JaA (Jas 8 Jbb.nd) (JaA (Jas 9 Jbb.nd) JcL)))))) (Jab (ps_if (PW.pt (Jci (Jak Jca (pv 9) Jaz (Jar _)) (Jci (Jak Jep (pv 6) (pv 3) (by with_unfolding_all rfl)) (JbR (Jak JdP (pv 7) (pv 3) (by with_unfolding_all rfl)))))) (Jae (JaU (pe_bm PySem.F.plainAttrs_list PySem.F.slot_list_append PySem.F.type_list_append Jbf (pv 3) %[pv 7|0] (hs:=by show Jag rfl))))
   Jap) (Jae (ps_if (PW.pt (Jci (Jak Jca (pv 8) Jaz (Jar _)) (Jci (Jak Jep (pv 7) (pv 3) (by with_unfolding_all rfl)) (JbR (Jak JdP (pv 6) (pv 3) (by with_unfolding_all rfl)))))) (Jae (JaU (pe_bm PySem.F.plainAttrs_list PySem.F.slot_list_append PySem.F.type_list_append Jbf (pv 3) %[pv 6|0] (hs:=by show Jag rfl))))
   Jap)))))) (Jae (Jam (Jbc Jep (pv 2) (pv 3) (by with_unfolding_all rfl)))))),?_)
 let(hS,hR,a8,h1,a1,hn,k):=h;have sl:(100000:Nat)<=sizeLine:=by decide
 have lx:=hR.length;show tSeq _ _ _ [some (.ref a),some (.str o),some (.str g),none,none,none,none,none,none,none] H;cbv;show(by show 1<=sizeLine;ac_nf,?_);rename_i l R a5 H H1 S1 e1;cbv
 mframe;show(_, .inl (hS.same S1),?_);cbv;show(_,rfl,by ac_nf,by ac_nf,?_);show ForR.byN (λi σ Z=>∃(J G N M I O:Option V)(e:List Str),σ=[some (.ref a),some (.str o),some (.str g),some (.ref l),J,G,N,M,I,O]/\Same H Z/\Z l=some (.lst (e.map V.str))/\e.length<=1+70*i/\∀ f∈e,P0 f) ⟨none,none,none,none,none,none,[o],rfl,S1,e1,by simp,λf p=>by rw[mem_singleton.mp p];show h1⟩ ?_ ?_
 .intro i σ H2 hi z_ N0 a2;let(J,G,N,M,I,O,e,rfl,S2,e2,Y,n):=z_;have a6:i<=35:=by ac_nf
  cbv;show(a,rfl,ForA.byLN (xs:=xs) (hS.same S2) (λj σ Z=>∃(J G N M I O:Option V)(e:List Str),j<=xs.length/\σ=[some (.ref a),some (.str o),some (.str g),some (.ref l),J,G,N,M,I,O]/\Same H Z/\Z l=some (.lst (e.map V.str))/\e.length<=1+70*i+2*j/\∀ f∈e,P0 f) ⟨_,G,N,M,I,O,e,Nat.zero_le _,rfl,S2,e2,Y,n⟩ (λj σ Z z=>by let(_,_,_,_,_,_,_,_,_,z,_):=z;show hS.same z) ?_ ?_)
  .clear e2 Y n;intro j y σ L hy z_ N1 x;let(J,G,N,M,I,O,e,hj,rfl,X,r,Y,n):=z_;have lj:=(List.getElem?_eq_some_iff.mp hy).1;let(t,ht,a3):=hR.at_ hy;let(b,S,vg,rfl,hq,B,D):=a3.sameT X.t;have a0:∀ s∈Ch.steps t,s∈Ch.all ts:=λs hs=>mem_flatMap.mpr ⟨t,List.mem_of_getElem? ht,hs⟩;have m:∀ e:List Str,(e.map V.str).all flatV=true:=λe=>all_eq_true.mpr (λv hv=>by let(z,_,rfl):=mem_map.mp hv;rfl);cbv;show(b,_,rfl,hq,rfl,?_);cbv;rename_i N2 a7;have C:∀(q:List Str)(H4:Hp),Same H H4->SameT L H4->H4 l=some (.lst (q.map V.str))->q.length<=1+70*i+2*j+1->(∀ f∈q,P0 f)->N2 [some (.ref a),some (.str o),some (.str g),some (.ref l),J,some (.str t.nm),some (.str t.st),some (.str t.en),some S,some vg] H4:=by
    intro q H4 S4 T4 U lg hG
    mframe;cases hh:t.lo with
    | none=>
     rw[hh]at B;obtain rfl:S=.non:=B;simpa only[Option.isSome_none];show x _ _ ⟨_,_,_,_,_,_,q,lj,rfl,S4,U,by ac_nf,hG⟩
    | some u=>
     rw[hh]at B;let(pg,rfl,_):=id (show FrV K L S u.1 u.2 from B);have hm:(⟨t.en,t.st,negF u,t.nm,false⟩:SD)∈Ch.steps t:=by unfold Ch.steps fwd bwd;rw[hh];show mem_append_right _ (mem_singleton.mpr rfl)
     simpa only[Option.isSome_none];show(l,_,rfl, .inl (SqL.of U),rfl,m q,?_);rw[if_neg ⋯,Jbw];cbv;cbv;by_cases c:t.en∈q
     .rw[decide_eq_true c];cbv;show(l,_,rfl, .inl (SqL.of U),rfl,m q,?_);rw[if_pos rfl,Jbw];cbv;cbv;by_cases d:t.st∈q
      .rw[decide_eq_true d];cbv;show x _ _ ⟨_,_,_,_,_,_,q,lj,rfl,S4,U,by ac_nf,hG⟩
      .rw[decide_eq_false d];cbv;show(.inl ⟨rfl,_,SqL.of U⟩,?_);show(l,_,_,rfl,rfl,U,by rw[length_map];ac_nf,?_);generalize u5:upd H4 l _=H5;cbv;have e5:=putE u5;show x _ _ ⟨_,_,_,_,_,_,q++[t.st],lj,rfl,λc w h=>by rw[<- u5,Jai (Jah h R)];show S4 _ _ h,by rw[e5,map_append];rfl,by rw[length_append,length_singleton];ac_nf,λf p=>?_⟩;rcases mem_append.mp p with p | p
       .show hG f p
       .rw[mem_singleton.mp p];show a1 _ (a0 _ hm) (hG _ c)
     .rw[decide_eq_false c];cbv;show x _ _ ⟨_,_,_,_,_,_,q,lj,rfl,S4,U,by ac_nf,hG⟩
   cases hh:t.hi with
   | none=>
    rw[hh]at D;obtain rfl:vg=.non:=D;simpa only[Option.isSome_none];show C e L X (SameT.refl _) r ∅ n
   | some u=>
    rw[hh]at D;let(pg,rfl,_):=id (show FrV K L vg u.1 u.2 from D);have hm:(⟨t.st,t.en,u,t.nm,true⟩:SD)∈Ch.steps t:=by unfold Ch.steps fwd bwd;rw[hh];show mem_append_left _ (by simp)
    simpa only[Option.isSome_none];show(l,_,rfl, .inl (SqL.of r),rfl,m e,?_);rw[if_neg ⋯,Jbw];cbv;cbv;by_cases c:t.st∈e
    .rw[decide_eq_true c];cbv;show(l,_,rfl, .inl (SqL.of r),rfl,m e,?_);rw[if_pos rfl,Jbw];cbv;cbv;by_cases d:t.en∈e
     .rw[decide_eq_true d]
      (try try mstop)
      show C e L X (SameT.refl _) r ∅ n
     .rw[decide_eq_false d];cbv;show(.inl ⟨rfl,_,SqL.of r⟩,?_);show(l,_,_,rfl,rfl,r,by rw[length_map];ac_nf,?_);generalize W:upd L l _=H5;have e5:=putE W;show C (e++[t.en]) H5 (λc w h=>by rw[<- W,Jai (Jah h R)];show X _ _ h) (SameT.put W r rfl) (by rw[e5,map_append];rfl) (by rw[length_append,length_singleton];ac_nf) λf p=>?_;rcases mem_append.mp p with p | p
      .show n f p
      .rw[mem_singleton.mp p];show a1 _ (a0 _ hm) (n _ c)
    .rw[decide_eq_false c]
     (try try mstop)
     show C e L X (SameT.refl _) r ∅ n
  .clear e2 Y n;intro σ L z_;let(J,G,N,M,I,O,e,hj,rfl,X,r,Y,n):=z_;show a2 _ _ ⟨_,_,_,_,_,_,e,rfl,X,r,by ac_nf,n⟩
 .intro σ H2 z_;let(J,G,N,M,I,O,e,rfl,S2,e2,Y,n):=z_;cbv;show(l,_,rfl, .inl (SqL.of e2),rfl,all_eq_true.mpr (λv hv=>by let(z,_,rfl):=mem_map.mp hv;rfl),?_);rw[if_neg ⋯,Jbw,decide_eq_false λz=>hn (n _ z)];cbv;show k H2 S2
abbrev Bbf:Stmt:=top 122
theorem Jbn:Jao ["_law_book","_law_ties","_law_one","_law_other","_law_most","_law_found","_law_first","_law_last","_law_total","_law_there","_law_apart"] ["_law_book","_law_ties","_law_one","_law_other","_law_most"] (Jac Bbf):=by bv_decide
def Jc6(K:W.Frag)(Ad:Adr):Sp:=λvs H Q E=>∃(p d a:Addr)(xs:List V)(ts:List TD)(F:List Str)(one other:Str)(most:Bool),vs=[.ref p, .ref a, .str one, .str other, .bl most]/\BK K Ad H p d ts/\SqL K H a xs/\All2 (TV K H) ts xs/\BkH ts F/\(nms ts).Nodup/\((∃ t∈ts,one=t.st\/one=t.en)/\∃ t∈ts,other=t.st\/other=t.en)/\(∃ π,Pot π (ssD ts))/\∀(tb:Tab)(H':Hp),Same H H'->TTd ts [if most then one else other] tb->Q (.str (bdS ((lk tb (if most then other else one)).map λe=>if most then e.1 else subF (0,1) e.1))) H'
theorem JgV(F:"_law_bound"∘Bbf)(T:Txt K mg Ad)(m_shown:8∘"shown"∘(JaP Ad)∘["self","one","other","most"]∘(Jcb K Ad))(Bb9:1∘"_law_leads"∘["_law_ties","_law_one","_law_other"]∘(Jc8 K))(Bca:4∘"_law_chain"∘["_law_ties","_law_one","_law_other","_law_chain_here"]∘(Jc7 K))(Bbg:4∘"_law_holds"∘["_law_ties","_law_placing"]∘(Jcs K))(Bad:3∘"_law_plus"∘["_law_one","_law_other"]∘(JbC K))(Bbb:1∘"_law_text"∘["_law_bound_here"]∘(JcS K)):9∘["_law_book","_law_ties","_law_one","_law_other","_law_most"]∘(Jc6 K Ad):=by
 show F.okn Jbn (by subst_eqs) (λe8 A c4 s H vs Q E X h=>?_)
 let(p,d,a,xs,g,F,one,other,most,rfl,h):=h;have O:=X.units;show(_,(Jab (Jaj 5 Jbn.nd (m_shown.m X ⋯ passF (pv 0) %[pv 2,pv 3,pv 4|0])) (Jab (Jkp (pe_ix ix_U (Ja6 %[JaN %[pv 3,pv 2|0],JaN %[pv 2,pv 3|0]|0]) (Ja5 JcE rfl T.Bc3 JeN %[pv 4|0])) (Je6 rfl (JaA (Jas 6 Jbn.nd) (JaA (Jas 7 Jbn.nd) JcL)))) (Jab (ps_if (Jak JaY (pv 5) Jaz (Jar _)) (Jae (Jam (pe_ix ix_U (Ja6 %[Jaz,Jay|0]) (Ja5 JcE rfl T.Bc3 JeN %[JiG (Bb9.ev X ⋯ rfl passF %[pv 1,pv 6,pv 7|0])|0]))))
   Jap) (Jab (Jaj 8 Jbn.nd (Bca.ev X ⋯ rfl passF %[pv 1,pv 6,pv 7,!5|0])) (Jab (ps_if (PW.pt (pw_or (Jak JaY (pv 8) Jaz (Jar _)) (JbP (JbH (Ja8 (Bbg.ev X ⋯ rfl passF %[pv 1,!5|0])))))) (Jae (Jam Jaz))
   Jap) (Jab (Jaj 9 Jbn.nd (Ja5 (JfC rfl) rfl T.n_dict Jjr %[!5|0])) (Jab (Jaj 10 Jbn.nd (Bad.ev X ⋯ rfl passF %[JaI (hu1 O) (pv 9) (pv 3) (λ_ _=>rfl),JaN %[pe_un Jdm (pe_ix ix_U (JaI (hu1 O) (pv 9) (pv 2) (λ_ _=>rfl)) Jaf),pe_ix ix_U (JaI (hu1 O) (pv 9) (pv 2) (λ_ _=>rfl)) Jaf|0]|0])) (Jab (ps_if (Jak (Jcg O) (pv 10) (pe_ix ix_U (Ja6 %[JaN %[pe_un Jdm (!8),!8|0],pv 8|0]) (Ja5 JcE rfl T.Bc3 JeN %[pv 4|0])) (Jar _)) (Jae (Jam Jaz))
   Jap) (Jae (Jam (Bbb.ev X ⋯ rfl passF %[pv 10|0]))))))))))),?_)
 clear O;let(hb,hS,hR,L,c0,U,b4,k):=h;let((dx,hp),_):=id hb;have sl:(100000:Nat)<=sizeLine:=by decide
 let(x,b3):=Jnq L b4;show tSeq _ _ _ [some (.ref p),some (.ref a),some (.str one),some (.str other),some (.bl most),none,none,none,none,none,none] H;cbv;show(p,_,dx,_,rfl,hp,rfl,rfl,?_);cbv;rename_i N hN;have key:∀(v:V)(C:Hp),Same H C->(∃ c,TTd g [if most then one else other] c/\((v=.non/\lk c (if most then other else one)=none)\/∃ q e tb0 b,v=.ref q/\lk c (if most then other else one)=some e/\Ja1 g b/\TTd g b tb0/\ShV K H C (if most then e.1 else subF (0,1) e.1,e.2) (stD g (fT c) (fT tb0) b) q))->N [some (.ref p),some (.ref a),some (.str one),some (.str other),some (.bl most),some v,none,none,none,none,none] C:=by
  rintro v C S1 ⟨c,o,Y⟩
  mframe;show(len2,?_);rename_i pa d5 d3 C H2 S2 e2;cbv;show(len2,?_);rename_i pb d0 d2 H2 H3 S3 e3;cbv;show(len2,?_);rename_i pc d4 e6 H3 H4 S4 e4;cbv;cbv;have y:=S2.trans (S3.trans S4);obtain⟨r,ir,b9⟩:∃ r,[V.ref pa,V.ref pb][if most=true then 1 else 0]?=some (.ref r)/\H4 r=some (.tup [.str (if most then one else other), .str (if most then other else one)]):=by
   cases most
   .show(pa,rfl,S4 _ _ (S3 _ _ e2))
   .show(pb,rfl,S4 _ _ e3)
  have ei:(if most=true then(1:Int)else 0)=((if most=true then 1 else 0:Nat):Int):=by split <;> rfl
  rw[ei];show ixL (SqL.of e4) ir ?_;cbv;show(r,_,rfl,SqT.of b9,rfl,?_);cbv
  mframe;have G:=S1.trans y;rcases Y with⟨rfl,hn⟩ | ⟨q,e,tb0,b,rfl,he,J,h0,hs⟩
  .cbv;show(len2,?_);rename_i nl d9 d1 H4 H5 S5 e5;cbv;have W:=G.trans S5;show(a,_,_,xs,g,λv=>∃ e,lk c v=some e,rfl,hS.same W,hR.mono (λ_ _ z=>z.sameT W.t),L.l35,⟨_,o.self⟩,λs hs Y=>?_,λY=>?_,λH7 S7=>?_)
   .let(e,he):=Y;let(e',c1,_):=o.step hs he;show(e',c1)
   .let(e,he):=Y;rw[hn]at he;cases he
   cbv;show ixL (i:=1) (SqL.of (S7 _ _ e5)) rfl ?_;have:=k c H7 (W.trans S7) o;rw[hn]at this;show this
  .have j:=o.fb L.fb L.l70 he;have b6:e.2.length<=70:=by
    have h1:=(o.ent he).2.2.1;have h2:=L.l70;unfold ssD at h1;rw[length_map]at h1;ac_nf
   have c3:e.1=cs e.2:=(o.ent he).1;have m1:one∈b:=(J.2.2 _).mpr U.1;have m2:other∈b:=(J.2.2 _).mpr U.2;let(qv,l,cx,zl,zz,a1,a2,a3,a4,a5,a6,a7,a8):=hs;have n:=Jn9 (tb0:=tb0) o J (show(if most then one else other)∈b by split <;> assumption) (show(if most then other else one)∈b by split <;> assumption) he;cbv
   mframe;show ixT (i:=1) (SqT.of (y _ _ a1)) rfl ?_;cbv;show(a,_,_,l,xs,cx,g,F,e.2,rfl,hS.same G,hR.mono (λ_ _ z=>z.sameT G.t),L,c0,y _ _ a3,a4.mono (λ_ _ z=>z.sameT y.t),o.root he,b6,λtp H7 S7 c5=>?_);have D:=y.trans S7;have M:=G.trans S7
   mframe;show ixT (i:=2) (SqT.of (D _ _ a1)) rfl ?_;cbv;have S:=st_fb (one:=if most then one else other) b3 o h0 J;show(a,zl,xs,zz,g,F,stD g (fT c) (fT tb0) b,rfl,hS.same M,hR.mono (λ_ _ z=>z.sameT M.t),L,D _ _ a6,a7.mono (λ_ _ z=>z.sameT D.t),by rw[Jct];show J,S,st_ok b3 o h0 J,λH8 S8=>?_);have R:=D.trans S8;cbv
   mframe;show ixT (i:=2) (SqT.of (R _ _ a1)) rfl ?_;cbv;let(as,qs,c7,b8,c2,Z,b5):=QV.refs (a7.mono (P':=QV K H8) λ_ _ z=>z.sameT R.t);show(zl,as,qs,rfl,by rw[<- c7];show R _ _ a6,b8,c2,?_);rename_i dd d8 e0 H8 H9 S9 e9;cbv;have b2:((stD g (fT c) (fT tb0) b).map (·.1)).Nodup:=by rw[Jct];show J.1
   let(ve,b7,fe):=JdK Z b2 b5 (z:=other) (by rw[Jct];show m2);let(vs,a0,fs):=JdK Z b2 b5 (z:=one) (by rw[Jct];show m1);have oe:=S other (by rw[Jct];show m2);have os:=S one (by rw[Jct];show m1);have B:FB 1 1 ((0,1):Int × Int):=⟨.lit ⋯ ⋯, .lit ⋯ ⋯,by decide,by decide⟩;have ea:addF (look (stD g (fT c) (fT tb0) b) other) (negF (look (stD g (fT c) (fT tb0) b) one))=if most then e.1 else negF e.1:=by
    cases most
    .have n:look (stD g (fT c) (fT tb0) b) other=(0,1)/\look (stD g (fT c) (fT tb0) b) one=e.1:=n;rw[n.1,n.2];show(FB.add' B j.neg).inj j.neg (by rw[Jd5 B.b1 j.neg.b1,Jfh];grind)
    .have n:look (stD g (fT c) (fT tb0) b) one=(0,1)/\look (stD g (fT c) (fT tb0) b) other=e.1:=n;rw[n.1,n.2];show(FB.add' j B.neg).inj j (by rw[Jd5 j.b1 B.neg.b1,Jd6,Jfh];grind)
   have c6:=fe.same S9;have a9:=fs.same S9;generalize look (stD g (fT c) (fT tb0) b) other=le at *;generalize look (stD g (fT c) (fT tb0) b) one=lo at *
   mframe;show(dd,ve,rfl,by rw[<- b7];show DGet.k (k:=Sum.inr other) e9,?_);cbv;show(dd,vs,rfl,by rw[<- a0];show DGet.k (k:=Sum.inr one) e9,?_);show ixF0 a9 ?_;cbv;show(dd,vs,rfl,by rw[<- a0];show DGet.k (k:=Sum.inr one) e9,?_);show ixF1 a9 ?_;cbv;show(len2,?_);rename_i ng d7 c9 H9 HA SA eA;cbv;show(_,_,le,negF lo,rfl,c6.same SA,FrV.of eA,oe.w.mono ⋯ ⋯,os.neg.w.mono ⋯ ⋯,λap HB SB eB=>?_);rw[ea]at eB;have I:SqT K HB tp [.int (cs e.2).1, .int (cs e.2).2]:=c5.same (S8.trans (S9.trans (SA.trans SB)));rw[<- c3]at I
   mframe;show ixT (i:=0) I rfl ?_;cbv;show ixT (i:=1) I rfl ?_;cbv;show(len2,?_);rename_i nt e7 c8 HB HC SC eC;cbv;show(len2,?_);rename_i cl d6 e1 HC HD SD eD;cbv;cbv;obtain⟨w,iw,fw⟩:∃ w,[V.ref nt,V.ref tp][if most=true then 1 else 0]?=some (.ref w)/\FrV K HD (.ref w) (if most then e.1 else negF e.1).1 (if most then e.1 else negF e.1).2:=by
    cases most
    .show(nt,rfl,FrV.of (SD _ _ eC))
    .show(tp,rfl,⟨tp,rfl,I.same (SC.trans SD)⟩)
   rw[ei];show ixL (SqL.of eD) iw ?_;cbv;have b0:FrV K HD (.ref ap) (if most then e.1 else negF e.1).1 (if most then e.1 else negF e.1).2:=FrV.of (SD _ _ (SC _ _ eB));show neF b0 fw ?_;simpa only[decide_true,Bool.and_self]
   mframe;show(_,some (if most then e.1 else negF e.1),rfl,b0,λu O=>?_,?_)
   .cases O;cases most
    .show j.neg.mono ⋯ ⋯
    .show j.mono ⋯ ⋯
   .have:=k c HD (M.trans (S8.trans (S9.trans (SA.trans (SB.trans (SC.trans SD)))))) o;rw[he]at this;have e2:(if most then e.1 else subF (0,1) e.1)=if most then e.1 else negF e.1:=by rw[sub0 j.lo]
    rw[Option.map_some,e2]at this;show this
 show(p,d,g,F,one,other,most,rfl,hb,L,U,b4,λC c S1 o hn=>key _ C S1 ⟨c,o, .inl ⟨rfl,hn⟩⟩,λq c e tb0 b C S1 o he J h0 hs=>key _ C S1 ⟨c,o, .inr ⟨q,e,tb0,b,rfl,he,J,h0,hs⟩⟩)
abbrev BbJ:Stmt:=top 124
theorem JcH:Jao ["_law_desk","_law_ties","_law_cell","_law_places_here","_law_kind","_law_free","_law_k","_law_names","_law_name","_law_tie_here"] ["_law_desk","_law_ties","_law_cell","_law_places_here","_law_kind","_law_free"] (Jac BbJ):=by bv_decide
def Jel(K:W.Frag)(Ad:Adr):Sp:=λvs H Q E=>∃(x p d l:Addr)(c:Int)(pl:Addr)(w:Nat)(fr:Bool)(xs:List V)(ts:List TD)(ys:List V)(ls:List (Int × Int)),vs=[.ref x, .ref l, .int c, .ref pl, .int (w:Int), .bl fr]/\DKs K Ad H x p d ts/\H l=some (.lst xs)/\All2 (TV K H) ts xs/\G8 (decide (w=0)) ls ts/\w<3/\SqL K H pl ys/\All2 (λ(l:Int × Int) x=>FrV K H x l.1 l.2) ls ys/\2<=ls.length/\ls.length<=5/\(∀ l∈ls,FB 140 3 l/\l.2<=6)/\∀ ts' xs' H',(∀ b u,b≠d->b≠l->H b=some u->H' b=some u)->DKs K Ad H' x p d ts'->H' l=some (.lst xs')->All2 (TV K H') ts' xs'->G8 (decide (w=0)) ls ts'->Q (.bl true) H'
theorem Jjc(F:"_law_row"∘BbJ)(T:Txt K mg Ad)(m_say:11∘"say"∘(JdH Ad)∘["self","row"]∘(Jck K Ad))(BbK:5∘"_law_tie"∘["_law_cell","_law_k","_law_places_here","_law_kind","_law_free"]∘(Jdh K))(Bby:12∘"_law_told"∘["_law_desk","_law_tie_here"]∘(JcT K Ad)):13∘["_law_desk","_law_ties","_law_cell","_law_places_here","_law_kind","_law_free"]∘(Jel K Ad):=by
 show F.okn JcH (by subst_eqs) (λd0 A b6 s H vs Q E hr h=>?_)
 let(x,p,d,l,c,pl,w,G,xs,q,ys,ls,rfl,h):=h;have D:=hr.units;show(_,(Jab (Jaj 6 JcH.nd (pe_op JaB (pe_ix ix_U (Ja6 %[pe_op Jav (pe_op JaB (pe_op Ja4 (pv 2) Jaf) Jaf) Jaf,pe_op Jav (pv 2) Jaf|0]) (Ja5 JcE rfl T.Bc3 JeN %[pv 5|0])) Jaf)) (Jab (JnX (JhZ (j:=7) (own:=["_law_tie_here"]) (cs:=[]) JcH.nd rfl (Or.inl rfl) rfl (pi_U (pv 1)) (λ_ _ _ _=>(Jas 0 (show[("_law_tie_here" : Str)].Nodup by decide))) (λ_ _ _ _=>JbA) (λ_ _ _ _=>(pe_ix (ix_UK (K:=K) rfl) (pv 0) Jaf)) (Jce rfl) ⋯ rfl ⋯ hcs0)) (Jab (Jaj 8 JcH.nd (pe_ix ix_U Jay (pv 6))) (Jab (ps_if (PW.pt (Jci (Jak (JaM D) (pe_op JaB (pv 2) Jaf) Jaf (Jar _)) (JbR (Jak Jep (pv 8) (pv 7) (by with_unfolding_all rfl))))) (Jab (JaU (pe_bm PySem.F.plainAttrs_list PySem.F.slot_list_pop PySem.F.type_list_pop Jld (pv 1) %[pe_bm PySem.F.plainAttrs_list PySem.F.slot_list_index PySem.F.type_list_index JiC (pv 7) %[pv 8|0]|0])) (Jae (Jam (Jbc (JaM D) (m_say.m hr ⋯ passF (pv 0) %[pe_op JaH Jay (pv 8)|0]) Jay (Jar _)))))
   Jap) (Jab (Jaj 9 JcH.nd (BbK.ev hr ⋯ rfl passF %[pv 2,pv 6,pv 3,pv 4,pv 5|0])) (Jab (ps_if (Jak Jep (pv 8) (pv 7) (by with_unfolding_all rfl)) (Jae (Jkp (pv 9) (Jl4 (pv 1) (pe_bm PySem.F.plainAttrs_list PySem.F.slot_list_index PySem.F.type_list_index JiC (pv 7) %[pv 8|0]) set_list))) (Jae (JaU (pe_bm PySem.F.plainAttrs_list PySem.F.slot_list_append PySem.F.type_list_append Jbf (pv 1) %[pv 9|0] (hs:=by show Jag rfl))))) (Jae (Jam (Bby.ev hr ⋯ rfl passF %[pv 0,pv 9|0]))))))))),?_)
 clear D;let(hD,e0,hA,R,hw,hY,hL,f2,f5,hB,k):=h;have sl:(100000:Nat)<=sizeLine:=by decide
 let(hg,l8):=R.bkh;have la:=hA.length;show tSeq _ _ _ [some (.ref x),some (.ref l),some (.int c),some (.ref pl),some (.int (w:Int)),some (.bl G),none,none,none,none] H;cbv;mpure
 show(len2,?_);rename_i kl c0 c2 H Ha Sa ea;cbv;cbv;obtain⟨m,im⟩:∃ m:Int,[V.int (((c*16807).fmod 2147483587).fdiv 37),V.int (c.fdiv 7)][if G=true then 1 else 0]?=some (.int m):=by cases G <;> show(_,rfl)
 rw[show(if G=true then(1:Int)else 0)=((if G=true then 1 else 0:Nat):Int)from by split <;> rfl];show ixL (SqL.of ea) im ?_;cbv;mpure
 have q8:=Mth.fm (x:=m) (y:=8) ⋯;let(kk,b8):=Int.eq_ofNat_of_zero_le q8.1;have k8:kk<8:=by ac_nf
 rw[b8]
 mframe;have W:=Sa _ _ e0;have b7:=hA.mono (P':=TV K Ha) λ_ _ z=>z.sameT Sa.t;show(l,rfl, .inl ⟨⟨xs,SqL.of W⟩,CompJ.list (xs:=xs) (λi v H'=>H'=Ha/\v=(q.take i).map λt=>V.str t.nm) ⟨rfl,rfl⟩ (λi v H' hi z=>⟨by rw[z.1];show SqL.of W,by rw[z.2,length_map,length_take];ac_nf⟩) ?_ ?_⟩)
 .rintro i x v H' hx ⟨rfl,rfl⟩;simpa only[length_singleton,length_cons,length_nil,List.replicate,JaJ,map_cons,map_nil,Option.join_some];let(t,ht,b,vl,vg,rfl,hq,_,_):=b7.at_ hx;show ixT (i:=0) hq rfl ?_;cbv;rw[take_succ,ht];simp
 rintro v H' ⟨rfl,rfl⟩;rw[take_of_length_le ∅];rename_i B M c1 H' H1 S1 e1;cbv;have I:H1 B=some (.lst ((nms q).map V.str)):=by
  rw[e1,map_map];rfl
 have o:=Sa.trans S1;have a:=o _ _ e0;have d1:B≠l:=λz=>by rw[z,W]at M;cases M
 have a5:((nms q).map V.str).all flatV=true:=by simp[flatV]
 have X:=hD.same o;let((dx,t0,S),b0):=id X;let((dy,c6),c5,b5,_):=id b0;have a4:l≠d:=λz=>by rw[z,b5]at a;cases a
 have a7:=hA.mono (P':=TV K H1) λ_ _ z=>z.sameT o.t
 mframe;show(97+kk,by decide,?_,?_)
 .have e:(Str.ofString "abcdefgh").cps.toList=range' 97 8:=by decide
  rw[e];show Jdo ?_;rw[List.getElem?_range' ∅];simp
 have nk:=Jl1 _ (List.mem_of_getElem? (JiE k8));have c3:=len8 nk;generalize hnm:(⟨#[97+kk]⟩:Str)=nm at *
 mframe;mpure
 rename_i N2 c4;have key:N2 [some (.ref x),some (.ref l),some (.int c),some (.ref pl),some (.int (w:Int)),some (.bl G),some (.int (kk:Int)),some (.ref B),some (.str nm),none] H1:=by
  mframe;show(c,kk,pl,w,G,ys,ls,rfl,k8,hw,hY.same o,hL.mono (λ_ _ z=>z.same o),f2,f5,hB,λvt t N S3 tv tg en=>?_);rw[hnm]at en;have g:=S3 _ _ a;have Y:=S3 _ _ I;have a2:=X.same S3;have a3:=a7.mono (P':=TV K N) λ_ _ z=>z.sameT S3.t;have a8:=o.trans S3
  mframe;show(B,_,rfl, .inl (SqL.of Y),rfl,a5,?_);rw[if_neg ⋯,Jbw];cbv;cbv;rename_i N3 d2;have a6:∀(H4:Hp)(L:List V),upd N l (.lst L)=H4->All2 (TV K H4) (putT q t) L->N3 [some (.ref x),some (.ref l),some (.int c),some (.ref pl),some (.int (w:Int)),some (.bl G),some (.int (kk:Int)),some (.ref B),some (.str nm),some vt] H4:=by
   intro H4 L u4 b2;have e4:=putE u4;have Z:SameT N H4:=SameT.put u4 g rfl;have a0:Sx l N H4:=λb u hb h=>by rw[<- u4,Jai hb];show h
   mframe;show(x,p,d,vt,q,faceL,t,rfl,a2.sl g a0,hg,tv.sameT Z,tg.ok,tg.lo,tg.hi,λH5 U C=>?_);let(_,_,c9,a9,_):=id (a2.sl g a0);show k (putT q t) L H5 (λb u h1 h2 h=>U _ _ h1 (a0 _ _ h2 (a8 _ _ h))) C (U _ _ a4 e4) (b2.mono λ_ _ z=>z.sameT (U.t a9)) (R.put tg)
  by_cases J:nm∈nms q
  .rw[decide_eq_true J]
   (try try mstop)
   let(j,O):=List.getElem?_of_mem J;have r:=O;unfold nms at r;rw[List.getElem?_map]at r;let(u,D,eu):=Option.map_eq_some_iff.mp r;have lj:j<xs.length:=by have:=(List.getElem?_eq_some_iff.mp D).1;ac_nf
   show(.ref l,rfl, .ref B,rfl, .inl ⟨rfl,_,SqL.of Y⟩,?_)
   (try try mstop)
   show(B,nms q,nm,j,rfl,rfl,Y,O,JeI R.nd O,?_);show(l,xs,(j:Int),j,rfl,rfl,g,by unfold ixN;rw[if_pos ∅,if_pos ∅,Int.toNat_natCast],?_);show a6 _ (xs.set j vt) rfl ?_;have Z:SameT N (upd N l (.lst (xs.set j vt))):=SameT.put rfl g rfl;rw[JiK R.nd D (by rw[en];show eu)];show(a3.mono (P':=TV K _) λ_ _ w=>w.sameT Z).set (tv.sameT Z)
  .rw[decide_eq_false J]
   (try try mstop)
   show(.inl ⟨rfl,_,SqL.of g⟩,l,xs,vt,rfl,rfl,g,by ac_nf,?_);show a6 _ (xs++[vt]) rfl ?_;have Z:SameT N (upd N l (.lst (xs++[vt]))):=SameT.put rfl g rfl;have ep:putT q t=q++[t]:=by unfold putT;rw[if_neg (by rw[en];show J)]
   rw[ep];show(a3.mono (P':=TV K _) λ_ _ w=>w.sameT Z).append (.one (tv.sameT Z))
 by_cases c7:c.fmod 7=3
 .rw[decide_eq_true c7]
  (try try mstop)
  show(B,_,rfl, .inl (SqL.of I),rfl,a5,?_);rw[if_neg ⋯,Jbw];cbv
  (try try mstop)
  by_cases J:nm∈nms q
  .rw[decide_eq_true J];cbv;let(j,O):=List.getElem?_of_mem J;have r:=O;unfold nms at r;rw[List.getElem?_map]at r;let(u,D,eu):=Option.map_eq_some_iff.mp r;have lj:j<xs.length:=by have:=(List.getElem?_eq_some_iff.mp D).1;ac_nf
   show(.inl ⟨rfl,_,SqL.of a⟩, .inl ⟨rfl,_,SqL.of I⟩,?_);show(B,nms q,nm,j,rfl,rfl,I,O,JeI R.nd O,?_);show(l,xs,(j:Int),j,_,rfl,rfl,a,by ac_nf,by ac_nf,(by have:=seqIndex_of (k:=(j:Int)) (n:=xs.length) ∅ ∅;rw[Int.toNat_natCast]at this;show this),List.getElem?_eq_getElem lj,?_);generalize u5:upd H1 l _=H5;cbv;have e5:=putE u5;have b4:SameT H1 H5:=SameT.put u5 a rfl;have a1:Sx l H1 H5:=λb u hb h=>by rw[<- u5,Jai hb];show h
   have b1:x≠l:=λz=>by rw[z,a]at S;cases S
   have C:=X.sl a a1
   mframe;show(x,_,dx,_,rfl,a1 _ _ b1 S,rfl,rfl,?_);cbv;show(by rw[show(Str.ofString "untie ").length=6 from by decide];ac_nf,?_);show(x,p,d,q,faceL,_,_,_,_,_,rfl,C,hg,row1 nk, .inr (.inl ⟨rfl,nm,rfl,J,λH6 U b9=>?_⟩));cbv;let(_,_,c8,b3,_):=id C;show k (dropT q nm) (xs.eraseIdx j) H6 (λb u h1 h2 h=>U _ _ h1 (a1 _ _ h2 (o _ _ h))) b9 (U _ _ a4 e5) ?_ R.drop;rw[Jhw R.nd D eu];show(a7.mono (P':=TV K H6) λ_ _ w=>(w.sameT b4).sameT (U.t b3)).erase
  .rw[decide_eq_false J]
   (try try mstop)
   show key
 .rw[decide_eq_false c7]
  (try try mstop)
  show key
abbrev BaZ:Stmt:=top 123
theorem JaX:Jao ["_law_desk","_law_ties","_law_pick","_law_sure","_law_word","_law_ring_here","_law_faces","_law_one","_law_other","_law_low","_law_high"] ["_law_desk","_law_ties","_law_pick","_law_sure"] (Jac BaZ):=by bv_decide
def JcP(K:W.Frag)(Ad:Adr):Sp:=λvs H Q E=>∃(x p d a:Addr)(pk:Int)(sure:Bool)(xs:List V)(ts:List TD)(F:List Str),vs=[.ref x, .ref a, .int pk, .bl sure]/\DKs K Ad H x p d ts/\SqL K H a xs/\All2 (TV K H) ts xs/\BkH ts F/\(nms ts).Nodup/\(sure=true->∃ π,Pot π (ssD ts))/\∀ H',Same H H'->Q (.bl true) H'
theorem Jf9(F:"_law_looked"∘BaZ)(T:Txt K mg Ad)(m_say:11∘"say"∘(JdH Ad)∘["self","row"]∘(Jck K Ad))(m_placing:8∘"placing"∘(JaP Ad)∘["self"]∘(JbM K Ad))(k_Book:KCal P w K mg base 7 "Book" Ad.Book ["self","ties"] (Jbz K Ad))(Bch:4∘"_law_ring"∘["_law_ties","_law_text_here"]∘(JdD K))(Bbg:4∘"_law_holds"∘["_law_ties","_law_placing"]∘(Jcs K))(BbT:9∘"_law_bound"∘["_law_book","_law_ties","_law_one","_law_other","_law_most"]∘(Jc6 K Ad)):12∘["_law_desk","_law_ties","_law_pick","_law_sure"]∘(JcP K Ad):=by
 show F.okn JaX (by subst_eqs) (λi8 A g0 s H vs Q E I h=>?_)
 let(x,p,d,a,pk,B,xs,j,F,rfl,h):=h;have Z:=I.units;show(_,(Jab (Jaj 4 JaX.nd (m_say.m I ⋯ passF (pv 0) %[Jay|0])) (Jab (Jaj 5 JaX.nd (m_say.m I ⋯ passF (pv 0) %[Jay|0])) (Jab (ps_if (Jak (Jcg Z) (pv 4) Jay (Jar _)) (Jae (Jam (JdQ (Jbc (JaM Z) (pv 4) Jay (Jar _)) (JdQ (JiG (pv 3)) (Jer (Bch.ev I ⋯ rfl passF %[pv 1,pv 5|0]))))))
   Jap) (Jab (ps_if (PW.pt (pw_or (Jak (Jcg Z) (pv 5) Jay (Jar _)) (JbP (JbH (Ja8 (Bbg.ev I ⋯ rfl passF %[pv 1,m_placing.m0 I ⋯ passF (k_Book.ev I ⋯ rfl passF %[pv 1|0])|0])))))) (Jae (Jam pe_bl))
   Jap) (Jab (Jaj 6 JaX.nd (Je5 rfl rfl rfl rfl T.Bcb JcY rfl T.n_set JlL %[pe_op JaH (Jcq (Jbi (own:=["_law_tie_here"]) (cs:=[]) rfl (pi_U (pv 1)) (λ_ _ _ _=>(Jas 0 (show[("_law_tie_here" : Str)].Nodup by decide))) (λ_ _ _ _=>JbA) (λ_ _ _ _=>(pe_ix (ix_UK (K:=K) rfl) (pv 0) Jaf)) (Jce rfl) ⋯ rfl ⋯ hcs0)) (Jcq (Jbi (own:=["_law_tie_here"]) (cs:=[]) rfl (pi_U (pv 1)) (λ_ _ _ _=>(Jas 0 (show[("_law_tie_here" : Str)].Nodup by decide))) (λ_ _ _ _=>JbA) (λ_ _ _ _=>(pe_ix (ix_UK (K:=K) rfl) (pv 0) Jaf)) (Jce rfl) ⋯ rfl ⋯ hcs0))|0])) (Jab (ps_if (Jak (JaM Z) (Jau JaD rfl T.BbL JbK %[pv 6|0]) Jaf (Jar _)) (Jae (Jam pe_bl))
   Jap) (Jab (Jaj 7 JaX.nd (pe_ix ix_U (pv 6) (pe_op JaB (pv 2) (Jau JaD rfl T.BbL JbK %[pv 6|0])))) (Jab (Jaj 8 JaX.nd (pe_ix ix_U (pv 6) (pe_op JaB (pe_op Jav (pv 2) Jaf) (Jau JaD rfl T.BbL JbK %[pv 6|0])))) (Jab (Jaj 9 JaX.nd (BbT.ev I ⋯ rfl passF %[k_Book.ev I ⋯ rfl passF %[pv 1|0],pv 1,pv 7,pv 8,pe_bl|0])) (Jab (Jaj 10 JaX.nd (BbT.ev I ⋯ rfl passF %[k_Book.ev I ⋯ rfl passF %[pv 1|0],pv 1,pv 7,pv 8,pe_bl|0])) (Jab (ps_if (PW.pt (pw_or (Jak JaY (pv 9) Jaz (Jar _)) (JbP (Jak JaY (pv 10) Jaz (Jar _))))) (Jae (Jam pe_bl))
   Jap) (Jae (Jam (Jbc (JaM Z) (m_say.m I ⋯ passF (pv 0) %[pe_op JaH (pe_op JaH (pe_op JaH Jay (pv 7)) Jay) (pv 8)|0]) (pe_op JaH (pe_op JaH (pv 9) Jay) (pv 10)) (Jar _))))))))))))))),?_)
 clear Z;let(hD,hS,hR,g,D,b1,k):=h;have sl:(100000:Nat)<=sizeLine:=by decide
 have i3:=g.l35;have f8:=g.f8;have lx:=hR.length;let((dx,t0,hx),hb):=id hD;show tSeq _ _ _ [some (.ref x),some (.ref a),some (.int pk),some (.bl B),none,none,none,none,none,none,none] H;cbv;show(x,_,dx,_,rfl,hx,rfl,rfl,?_);cbv;by_cases r:∃ π,Pot π (ssD j)
 .show(x,p,d,j,F,_,_,_,_,_,rfl,hD,g,row0 ⋯ ⋯ rfl, .inr (.inr (.inl ⟨rfl,λH1 S1 _=>?_,λ_ _ np=>absurd r np⟩)))
  mframe;show(x,_,dx,_,rfl,S1 _ _ hx,rfl,rfl,?_);cbv;show(x,p,d,j,F,_,_,_,_,_,rfl,hD.same S1,g,row0 ⋯ ⋯ rfl, .inr (.inr (.inr (.inl ⟨rfl,λH2 S2 _=>?_,λ_ _ _ np=>absurd r np⟩))));have v:=S1.trans S2
  mframe
  mframe;intro b3 b0 c3 d1 h9;have d6:Same H2 (upd (upd H2 b0 (.own b3)) b3 (.ins Ad.Book b0 [])):=λb u q=>by rw[Jai (Jah q c3),Jai (Jah q d1)];show q
  show(b3,b0,a,xs,j,H2,rfl,Jat,c3,d6,hS.same v,hR.mono (λ_ _ z=>z.sameT (v).t),g.ok,D,g.l35,λd3 H3 S3 i6 a6=>⟨rfl,?_⟩);let((f5,g6),_):=id a6;cbv;show(b3,_,f5,_,rfl,g6,rfl,rfl,?_);cbv;show(b3,d3,j,F,rfl,a6,g,λl ys f9 tb H4 S4 _ e4 hF d2 f1 _=>?_,λ_ _ _ _ _ _ _ _ _ _ np _ _=>absurd r np);have b5:=v.trans (S3.trans S4);cbv;show(a,l,xs,ys,j,F,plL tb f9,rfl,hS.same b5,hR.mono (λ_ _ z=>z.sameT b5.t),g,e4,f1,by rw[JhX];show hF,pl_fb g d2 hF,pl_ok g d2 hF,λH5 S5=>?_);have b9:=b5.trans S5;cbv
  mframe;have c8:=hS.same b9;have f2:=hR.mono (P':=TV K H5) λ_ _ z=>z.sameT b9.t;show(a,rfl, .inl ⟨⟨xs,c8⟩,CompJ.list (xs:=xs) (λi ws H'=>H'=H5/\ws=((j.take i).map (·.st)).map V.str) ⟨rfl,rfl⟩ (λi ws H' hi z=>⟨by rw[z.1];show c8,by rw[z.2];simp only[length_map,length_take];ac_nf⟩) ?_ ?_⟩)
  .rintro i x ws H' hx ⟨rfl,rfl⟩;simpa only[length_singleton,length_cons,length_nil,List.replicate,JaJ,map_cons,map_nil,Option.join_some];let(t,C,b,vl,vg,rfl,hq,_,_):=f2.at_ hx;show ixT (i:=1) hq rfl ?_;cbv;rw[take_succ,C];simp
  rintro ws H' ⟨rfl,rfl⟩;rw[take_of_length_le ∅];rename_i f3 e5 d7 H' H6 S6 e6;cbv;have b4:=b9.trans S6;have c2:=hS.same b4;have g8:=hR.mono (P':=TV K H6) λ_ _ z=>z.sameT b4.t;cbv;show(a,rfl, .inl ⟨⟨xs,c2⟩,CompJ.list (xs:=xs) (λi ws H'=>H'=H6/\ws=((j.take i).map (·.en)).map V.str) ⟨rfl,rfl⟩ (λi ws H' hi z=>⟨by rw[z.1];show c2,by rw[z.2];simp only[length_map,length_take];ac_nf⟩) ?_ ?_⟩)
  .rintro i x ws H' hx ⟨rfl,rfl⟩;simpa only[length_singleton,length_cons,length_nil,List.replicate,JaJ,map_cons,map_nil,Option.join_some];let(t,C,b,vl,vg,rfl,hq,_,_):=g8.at_ hx;show ixT (i:=2) hq rfl ?_;cbv;rw[take_succ,C];simp
  rintro ws g5 ⟨rfl,rfl⟩;rw[take_of_length_le ∅];intro c4 a7;generalize Y:upd g5 c4 _=H7;have S7:=newS a7 Y;have e7:=newE Y;cbv;show .inl ⟨f3,c4,_,_,rfl,rfl,S7 _ _ e6,e7,by simp only[length_map];ac_nf,?_⟩;rename_i lc h7 h0 H7 H8 S8 e8;cbv;cbv;show(lc,j.map (·.st)++j.map (·.en),rfl,by rw[map_append];show SqL.of e8,by simp only[length_append,length_map];ac_nf,⟨F,by ac_nf,λz G=>?_⟩,Jhj g.ok,λso o2 c9 i9 c6 i7=>?_)
  .rcases mem_append.mp G with G | G
   .let(t,C,rfl):=mem_map.mp G;show(g.fm t C).1
   .let(t,C,rfl):=mem_map.mp G;show(g.fm t C).2
  generalize a4:upd H8 so _=H9;have S9:=newS c9 a4;have e9:=newE a4;have a1:=b4.trans (S7.trans (S8.trans S9));have S:∀ z∈o2, ∃ t∈j,z=t.st\/z=t.en:=λz G=>by
   rcases mem_append.mp ((c6 z).mp G)with G | G
   .let(t,C,rfl):=mem_map.mp G;show(t,C, .inl rfl)
   .let(t,C,rfl):=mem_map.mp G;show(t,C, .inr rfl)
  have c0:∀ z∈o2,nameS z=true:=λz G=>by
   obtain⟨t,C,rfl | rfl⟩:=S z G
   .show(g.ok t C).n2
   .show(g.ok t C).n3
  mframe;show(_, .inl (SqL.of e9),?_);simpa only[length_map];by_cases z0:o2.length=0
  .rw[if_pos (by simp[z0])];cbv;cbv;show k H9 a1
  rw[if_neg (λq=>z0 (by have:=of_decide_eq_true q;ac_nf))];cbv
  mframe;show(_, .inl (SqL.of e9),?_);simpa only[length_map];show(by ac_nf,?_);have q1:=Mth.fm (x:=pk) (y:=(o2.length:Int)) ∅;let(i1,h1):=Int.eq_ofNat_of_zero_le q1.1;rw[h1];obtain⟨n,a9⟩:∃ z,o2[i1]?=some z:=⟨_,List.getElem?_eq_getElem ∅⟩;show ixL (SqL.of e9) (show(o2.map V.str)[i1]?=some (.str n) by rw[List.getElem?_map,a9];rfl) ?_
  mframe;mpure
  show(_, .inl (SqL.of e9),?_);simpa only[length_map];show(by ac_nf,?_);have q2:=Mth.fm (x:=pk.fdiv 5) (y:=(o2.length:Int)) ∅;let(i2,h2):=Int.eq_ofNat_of_zero_le q2.1;rw[h2];obtain⟨c,b2⟩:∃ z,o2[i2]?=some z:=⟨_,List.getElem?_eq_getElem ∅⟩;show ixL (SqL.of e9) (show(o2.map V.str)[i2]?=some (.str c) by rw[List.getElem?_map,b2];rfl) ?_;have b8:=And.intro (S n (List.mem_of_getElem? a9)) (S c (List.mem_of_getElem? b2));have n1:=c0 n (List.mem_of_getElem? a9);have n2:=c0 c (List.mem_of_getElem? b2);have m1:=len8 n1;have m2:=len8 n2
  mframe;intro a2 U a3 b7 f6;have d4:Same H9 (upd (upd H9 U (.own a2)) a2 (.ins Ad.Book U [])):=λb u q=>by rw[Jai (Jah q a3),Jai (Jah q b7)];show q
  show(a2,U,a,xs,j,H9,rfl,Jat,a3,d4,hS.same a1,hR.mono (λ_ _ z=>z.sameT (a1).t),g.ok,D,g.l35,λf0 i0 e0 h3 W=>⟨rfl,?_⟩);let((h8,h5),_):=id W;have O:=a1.trans e0;cbv;show(a2,f0,a,xs,j,F,n,c,false,rfl,W,hS.same O,hR.mono (λ_ _ z=>z.sameT O.t),g,D,b8,r,λd0 a8 f4 hl=>?_);have L:=O.trans f4
  mframe;intro a0 N a5 b6 f7;have c1:Same a8 (upd (upd a8 N (.own a0)) a0 (.ins Ad.Book N [])):=λb u q=>by rw[Jai (Jah q a5),Jai (Jah q b6)];show q
  show(a0,N,a,xs,j,a8,rfl,Jat,a5,c1,hS.same L,hR.mono (λ_ _ z=>z.sameT (L).t),g.ok,D,g.l35,λg2 i5 d9 h6 J=>⟨rfl,?_⟩);let((g9,h4),_):=id J;have X:=L.trans d9;cbv;show(a0,g2,a,xs,j,F,n,c,true,rfl,J,hS.same X,hR.mono (λ_ _ z=>z.sameT X.t),g,D,b8,r,λd5 i4 g3 hh=>?_);have M:=X.trans g3;have hl:TTd j [c] d0:=hl;have hh:TTd j [n] d5:=hh
  mframe
  mframe;show(x,_,dx,_,rfl,M _ _ hx,rfl,rfl,?_);cbv;have g4:(Str.ofString "gap ").length=4:=by decide
  have g1:(Str.ofString " ").length=1:=by decide
  show(by ac_nf,by rw[strLen_append];ac_nf,by rw[strLen_append,strLen_append];ac_nf,?_);show(x,p,d,j,F,_,_,_,_,_,rfl,hD.same M,g,row2 n1 n2, .inr (.inr (.inr (.inr ⟨rfl,n,c,rfl,b8,r,λc5 c7 d8 e3 t1 t2=>?_⟩))));have e1:(lk d0 n).map (λe=>subF (0,1) e.1)=(lk c7 n).map λe=>subF (0,1) e.1:=by rw[hl.uniq t2]
  have e2:(lk d5 c).map (·.1)=(lk c5 c).map (·.1):=by rw[hh.uniq t1]
  have w1:=JfB (o:=(lk c7 n).map λe=>subF (0,1) e.1) λu Z=>by
   let(e,he,rfl):=Option.map_eq_some_iff.mp Z;have fb:=t2.fb g.fb g.l70 he;rw[sub0 fb.lo];show fb.neg.mono ⋯ ⋯
  have w2:=JfB (o:=(lk c5 c).map (·.1)) λu Z=>by
   let(e,he,rfl):=Option.map_eq_some_iff.mp Z;show(t1.fb g.fb g.l70 he).mono ⋯ ⋯
  rw[<- e1]at w1;rw[<- e2]at w2;rw[jn2, <- e1, <- e2];show(by ac_nf,by rw[strLen_append];ac_nf,?_);cbv;show k d8 (M.trans e3)
 .obtain rfl:B=false:=by
   cases B
   .rfl
   .show absurd (b1 rfl) r
  show(x,p,d,j,F,_,_,_,_,_,rfl,hD,g,row0 ⋯ ⋯ rfl, .inr (.inr (.inl ⟨rfl,λ_ _ h=>absurd h r,λH1 S1 _=>?_⟩)))
  mframe;show(x,_,dx,_,rfl,S1 _ _ hx,rfl,rfl,?_);cbv;show(x,p,d,j,F,_,_,_,_,_,rfl,hD.same S1,g,row0 ⋯ ⋯ rfl, .inr (.inr (.inr (.inl ⟨rfl,λ_ _ h=>absurd h r,λR H2 S2 _ g7=>?_⟩))));have v:=S1.trans S2;have rg:Rng (ssD j) R:=by let(_,_,z):=g7;show z.rng
  mframe;rw[if_pos ⋯];cbv;cbv;show(a,xs,j,F,R,rfl,hS.same v,hR.mono (λ_ _ z=>z.sameT v.t),g,D,rg,Jna rg (bDok g).1 (bDok g).2,λH3 S3=>?_);show k H3 (v.trans S3)
abbrev BcR:Stmt:=top 125
theorem Jdk:Jao ["_law_script","_law_faces","_law_kind","_law_free","_law_places_here","_law_desk","_law_ties","_law_at","_law_cell","_law_k"] ["_law_script"] (Jac BcR):=by bv_decide
def Bc2(K:W.Frag):Sp:=λvs H Q E=>∃(a:Addr)(ns:List Int),vs=[.ref a]/\SqL K H a (ns.map V.int)/\ns.length<=63/\∀ H',Q (.bl true) H'
theorem JnQ(F:"law"∘BcR)(T:Txt K mg Ad)(Baf:1∘"_law_cell_at"∘["_law_script","_law_k"]∘(JbY K))(BbX:3∘"_law_places"∘["_law_script","_law_faces"]∘(JcQ K))(k_Desk:KCal P w K mg base 9 "Desk" Ad.Desk ["self"] (Jb5 K Ad))(Bcr:13∘"_law_row"∘["_law_desk","_law_ties","_law_cell","_law_places_here","_law_kind","_law_free"]∘(Jel K Ad))(Bbh:12∘"_law_looked"∘["_law_desk","_law_ties","_law_pick","_law_sure"]∘(JcP K Ad))(BbK:5∘"_law_tie"∘["_law_cell","_law_k","_law_places_here","_law_kind","_law_free"]∘(Jdh K))(Bby:12∘"_law_told"∘["_law_desk","_law_tie_here"]∘(JcT K Ad)):14∘["_law_script"]∘(Bc2 K):=by
 show F.okn Jdk (by subst_eqs) (λf6 A d8 s H vs Q E J h=>?_)
 let(a,R,rfl,h):=h;have hu:=J.units;show(_,(Jab (Jaj 1 Jdk.nd (pe_op JaH Jaf (pe_op JaB (Baf.ev J ⋯ rfl passF %[pv 0,Jaf|0]) Jaf))) (Jab (Jaj 2 Jdk.nd (pe_op JaB (pe_op Jav (Baf.ev J ⋯ rfl passF %[pv 0,Jaf|0]) Jaf) Jaf)) (Jab (Jaj 3 Jdk.nd (Jbc (JaM hu) (pe_op JaB (pe_op Jav (Baf.ev J ⋯ rfl passF %[pv 0,Jaf|0]) Jaf) Jaf) Jaf (Jar _))) (Jab (Jaj 4 Jdk.nd (BbX.ev J ⋯ rfl passF %[pv 0,pv 1|0])) (Jab (Jaj 5 Jdk.nd (k_Desk.ev0 J ⋯ rfl passF)) (Jab (Jaj 6 Jdk.nd (Ja6 Jad)) (Jab (Ja7 PassesOwn.never rfl (JmZ rfl T.n_enumerate Jgz %[JdR sl_W (pv 0) (Jei Jaf) (Jei Jaf)|0]) (Je6 rfl (JaA (Jas 7 Jdk.nd) (JaA (Jas 8 Jdk.nd) JcL))) (Jab (ps_if (JbH (Ja8 (Bcr.ev J ⋯ rfl passF %[pv 5,pv 6,pv 8,pv 4,pv 2,pv 3|0]))) (Jae (Jam pe_bl))
   Jap) (Jae (ps_if (PW.pt (Jci (Jak (JaM hu) (pe_op JaB (pv 7) Jaf) Jaf (Jar _)) (JbR (JbH (Ja8 (Bbh.ev J ⋯ rfl passF %[pv 5,pv 6,pv 8,Jbc (JaM hu) (pv 2) Jaf (Jar _)|0])))))) (Jae (Jam pe_bl))
   Jap)))) (Jab (ps_if (JbH (Ja8 (Bbh.ev J ⋯ rfl passF %[pv 5,pv 6,Baf.ev J ⋯ rfl passF %[pv 0,Jaf|0],Jbc (JaM hu) (pv 2) Jaf (Jar _)|0]))) (Jae (Jam pe_bl))
   Jap) (Jab (Ja7 PassesOwn.never rfl (JdS rfl T.BcM %[Jau JaD rfl T.BbL JbK %[pv 6|0]|0]) (Jas 9 Jdk.nd) (Jab (Jkp (BbK.ev J ⋯ rfl passF %[Baf.ev J ⋯ rfl passF %[pv 0,pe_op JaH Jaf (pv 9)|0],pe_bm PySem.F.plainAttrs_str PySem.F.slot_str_index PySem.F.type_str_index JmI Jay %[pe_ix ix_U (pe_ix ix_U (pv 6) (pv 9)) Jaf|0],pv 4,Jaf,pv 3|0]) (Jl4 (pv 6) (pv 9) set_list)) (Jae (ps_if (JbH (Ja8 (Bby.ev J ⋯ rfl passF %[pv 5,pe_ix ix_U (pv 6) (pv 9)|0]))) (Jae (Jam pe_bl))
   Jap)))) (Jae (Jam (Bbh.ev J ⋯ rfl passF %[pv 5,pv 6,Baf.ev J ⋯ rfl passF %[pv 0,Jaf|0],pe_bl|0])))))))))))),?_)
 clear hu;let(hS,hl,k):=h;have sl:(100000:Nat)<=sizeLine:=by decide
 show tSeq _ _ _ [some (.ref a),none,none,none,none,none,none,none,none,none] H;cbv;show(a,R,0,rfl,hS,hl,by decide,λc0=>?_);cbv;mpure
 have qf:=Mth.fm (x:=c0) (y:=4) ⋯;obtain⟨f,hf⟩:∃ f:Nat,2+c0.fmod 4=(f:Int):=Int.eq_ofNat_of_zero_le ∅;rw[hf]
 mframe;show(a,R,0,rfl,hS,hl,by decide,λc1=>?_);cbv;mpure
 have qk:=Mth.fm (x:=c1.fdiv 4) (y:=3) ⋯;let(w,d7):=Int.eq_ofNat_of_zero_le qk.1;have hw:w<3:=by ac_nf
 rw[d7]
 mframe;show(a,R,0,rfl,hS,hl,by decide,λc2=>?_);cbv;mpure
 generalize decide ((c2.fdiv 12).fmod 2=1)=fr
 mframe;show(a,R,f,rfl,hS,hl,by ac_nf,λpl ys U H1 f8 S1 e1 hL e0 hB=>?_);have f2:2<=U.length:=by ac_nf
 have f5:U.length<=5:=by ac_nf
 mframe;intro x dx hx b0 e8;show(x,dx,rfl,Jat,λp d H2 o2 a8 d9=>⟨rfl,?_⟩);have S2:Same H1 H2:=λb u h=>o2 b u (Jah h hx) (by rw[Jai (Jah h hx),Jai (Jah h b0)];show h);have b7:H1 d=none:=by
  cases e:H1 d with
  | none=>rfl
  | some u=>
   rw[Jai (Jah e hx),Jai (Jah e b0),e]at a8;cases a8
 mframe;show(len0,?_);rename_i B b2 e2 H2 H3 S3 e3;cbv;have c7:H1 B=none:=JaF S2 b2
 mframe;show .inl ⟨a,_,rfl,hS.same (S1.trans (S2.trans S3)),?_⟩;rename_i cl a5 e5 H3 H4 S4 e4;cbv;have b3:=d9.same (S3.trans S4);let(_,_,f4,d4,_):=id b3;have d6:cl≠B:=λz=>by rw[z,e3]at a5;cases a5
 have d3:cl≠d:=λz=>by rw[z,d4]at e4;cases e4
 have d1:=S2.trans (S3.trans S4);have a3:∀ L,(∀ b u,b≠d->b≠B->H4 b=some u->L b=some u)->Same H1 L:=λL S b u h=>S b u (Jah h b7) (Jah h c7) (d1 _ _ h);have b9:∀(i:Nat)(y:V),(cutV (R.map V.int) (some 1) (some 63))[i]?=some y->∃ c,y=V.int c:=λi y h=>by
  have:=List.mem_of_getElem? h;unfold cutV at this;let(c,_,rfl):=mem_map.mp (List.mem_of_mem_drop (List.mem_of_mem_take this));show(c,rfl)
 have a4:∀{N:List TD},G8 (decide (w=0)) U N->decide ((w:Int)=0)=true->∃ π,Pot π (ssD N):=λg h=>by
  have w0:w=0:=by have:=of_decide_eq_true h;ac_nf
  rw[decide_eq_true w0]at g;show g.pot
 cbv;show(cl,rfl,⟨_,SqL.of e4⟩,ForJ.enum (xs:=cutV (R.map V.int) (some 1) (some 63)) (λi σ L=>∃(v7 v8:Option V)(xs:List V)(N:List TD),σ=[some (.ref a),some (.int (f:Int)),some (.int (w:Int)),some (.bl fr),some (.ref pl),some (.ref x),some (.ref B),v7,v8,none]/\(∀ b u,b≠d->b≠B->H4 b=some u->L b=some u)/\DKs K Ad L x p d N/\L B=some (.lst xs)/\All2 (TV K L) N xs/\G8 (decide (w=0)) U N) ⟨_,_,[],[],rfl,(λ_ _ _ _ h=>h),b3,S4 _ _ e3,rfl,⟨(λt ht=>by cases ht),by simp[nms]⟩⟩ (λi σ L z=>by let(_,_,_,_,_,h,_):=z;show SqL.of (h _ _ d3 d6 e4)) ?_ ?_)
 .intro i y σ H5 q H6 hy z_ hq S6 e6 N0 W;let(v7,v8,xs,N,rfl,S5,Y,Z,O,D):=z_;let(c,rfl):=b9 i y hy;have b4:∀ b u,b≠d->b≠B->H4 b=some u->H6 b=some u:=λb u h1 h2 h=>S6 _ _ (S5 b u h1 h2 h);have b1:=a3 H6 b4;cbv;show(q,_,rfl,SqT.of e6,rfl,?_);cbv;show(x,p,d,B,c,pl,w,fr,xs,N,ys,U,rfl,Y.same S6,S6 _ _ Z,O.mono (λ_ _ z=>z.sameT S6.t),D,hw,SqL.of (b1 _ _ e1),hL.mono (λ_ _ z=>z.same b1),f2,f5,hB,λm n H7 S7 I G C o=>?_);have c9:∀ b u,b≠d->b≠B->H4 b=some u->H7 b=some u:=λb u h1 h2 h=>S7 b u h1 h2 (b4 b u h1 h2 h);cbv
  mframe;mpure
  by_cases c8:(i:Int).fmod 8=7
  .rw[decide_eq_true c8];cbv;show(x,p,d,B,c,_,n,m,faceL,rfl,I,SqL.of G,C,o.bkh.1,o.nd,a4 o,λH8 X=>?_);cbv;show W _ _ ⟨_,_,n,m,rfl,λb u h1 h2 h=>X _ _ (c9 b u h1 h2 h),I.same X,X _ _ G,C.mono (λ_ _ z=>z.sameT X.t),o⟩
  .rw[decide_eq_false c8];cbv;show W _ _ ⟨_,_,n,m,rfl,c9,I,G,C,o⟩
 intro σ H5 z_;let(v7,v8,xs,N,rfl,S5,Y,Z,O,D):=z_;have a9:=a3 H5 S5;cbv;show(a,R,1,rfl,hS.same (S1.trans a9),hl,by decide,λc3=>?_);cbv;show(x,p,d,B,c3,_,xs,N,faceL,rfl,Y,SqL.of Z,O,D.bkh.1,D.nd,a4 D,λH6 S6=>?_);cbv
 mframe;have b5:=S6 _ _ Z;have la:=O.length;show(_, .inl (SqL.of b5),?_);cbv;have l8:=D.bkh.2;show(_,rfl,by ac_nf,by ac_nf,?_);show ForR.byN (λi σ L=>∃(v9:Option V)(n:List V)(m:List TD),σ=[some (.ref a),some (.int (f:Int)),some (.int (w:Int)),some (.bl fr),some (.ref pl),some (.ref x),some (.ref B),v7,v8,v9]/\Same H1 L/\DKs K Ad L x p d m/\L B=some (.lst n)/\All2 (TV K L) m n/\G8 false U m/\m.length=N.length/\∀ j t,j<i->m[j]?=some t->TG8 true U t) ⟨none,xs,N,rfl,a9.trans S6,Y.same S6,b5,O.mono (λ_ _ z=>z.sameT S6.t),⟨λt ht=>(D.all t ht).weak,D.nd⟩,rfl,λj t hj=>absurd hj (Nat.not_lt_zero _)⟩ ?_ ?_
 .intro i σ H7 hi z_ N0 W;let(v9,n,m,rfl,S7,I,G,C,o,ln,hT):=z_;have f1:=C.length;have li:i<m.length:=by ac_nf
  obtain⟨t,ht⟩:∃ t,m[i]?=some t:=⟨_,List.getElem?_eq_getElem li⟩;obtain⟨vx,b8⟩:∃ v,n[i]?=some v:=⟨_,List.getElem?_eq_getElem ∅⟩;let(t',b6,b,e7,vg,rfl,hq,f0,f3):=C.at_ b8;rw[ht]at b6;cases b6;have tg:=o.all t (List.mem_of_getElem? ht);obtain⟨kk,k8,M⟩:∃ kk,kk<8/\t.nm=(⟨#[97+kk]⟩:Str):=by
   let(kk,M):=List.getElem?_of_mem tg.nm;have l:=(List.getElem?_eq_some_iff.mp M).1;rw[show nm8L.length=8 from by decide]at l;rw[JiE l]at M;show(kk,l,(Option.some.inj M).symm)
  let(r,a2):=JmJ k8;rw[<- M]at a2;simpa only[Int.zero_add];show(a,R,7+(i:Int),rfl,hS.same (S1.trans S7),hl,by ac_nf,λc4=>?_);cbv;show ixL (i:=i) (SqL.of G) b8 ?_;show ixT (i:=0) hq rfl ?_;show(_,_,kk,r,rfl,rfl,a2,?_);cbv;show(c4,kk,pl,0,fr,ys,U,rfl,k8,by decide,SqL.of (S7 _ _ e1),hL.mono (λ_ _ z=>z.same S7),f2,f5,hB,λvt u H8 X tv tu en=>?_);have a7:=X _ _ G;cbv;show(.ref B,rfl, .int (i:Int),rfl,B,n,(i:Int),i,rfl,rfl,a7,by unfold ixN;rw[if_pos ∅,if_pos ∅,Int.toNat_natCast],?_);generalize u9:upd H8 B _=H9;cbv;have e9:=putE u9;have T9:SameT H8 H9:=SameT.put u9 a7 rfl;have c6:Sx B H8 H9:=λb u hb h=>by rw[<- u9,Jai hb];show h
  have d0:=(I.same X).sl a7 c6;let(_,_,f7,a6,_):=id d0;have d5:B≠d:=λz=>by rw[z,a6]at e9;cases e9
  mframe;show ixL (i:=i) (SqL.of e9) (show(n.set i vt)[i]?=some vt by rw[List.getElem?_set_self ∅]) ?_;cbv;have ep:putT m u=m.set i u:=JiK o.nd ht (by rw[en,M]);show(x,p,d,vt,m,faceL,u,rfl,d0,o.bkh.1,tv.sameT T9,tu.ok,tu.lo,tu.hi,λd2 sx a0=>?_);have a1:G8 false U (putT m u):=o.put tu.weak;rw[ep]at a0 a1;cbv;show W _ _ ⟨_,n.set i vt,m.set i u,rfl,λb v h=>sx _ _ (Jah h b7) (c6 _ _ (Jah h c7) (X _ _ (S7 _ _ h))),a0,sx _ _ d5 e9,?_,a1,by rw[List.length_set];show ln,λj v hj hv=>?_⟩
  .show((C.mono (P':=TV K d2) λ_ _ z=>((z.sameT X.t).sameT T9).sameT (sx.t a6)).set ((tv.sameT T9).sameT (sx.t a6)))
  .by_cases c:i=j
   .subst c;rw[List.getElem?_set_self li]at hv;cases hv;show tu
   .rw[List.getElem?_set_ne c]at hv;show hT j v ∅ hv
 intro σ H7 z_;let(v9,n,m,rfl,S7,I,G,C,o,ln,hT):=z_;have hG:G8 true U m:=⟨λt ht=>by
  let(j,hj):=List.getElem?_of_mem ht;have:=(List.getElem?_eq_some_iff.mp hj).1;show hT j t ∅ hj,o.nd⟩
 cbv;show(a,R,2,rfl,hS.same (S1.trans S7),hl,by decide,λc5=>?_);show(x,p,d,B,c5,true,n,m,faceL,rfl,I,SqL.of G,C,hG.bkh.1,hG.nd,λ_=>hG.pot,λH8 _=>k H8)
end
theorem lenE1{α}{P:List α->Prop}(h:∀ a,P [a]):∀ us:List α,us.length=1->P us|[a],_=>h a
theorem lenE2{α}{P:List α->Prop}(h:∀ a b,P [a,b]):∀ us:List α,us.length=2->P us|[a,b],_=>h a b
theorem lenE3{α}{P:List α->Prop}(h:∀ a b c,P [a,b,c]):∀ us:List α,us.length=3->P us|[a,b,c],_=>h a b c
theorem lenE4{α}{P:List α->Prop}(h:∀ a b c d,P [a,b,c,d]):∀ us:List α,us.length=4->P us|[a,b,c,d],_=>h a b c d
theorem lenE5{α}{P:List α->Prop}(h:∀ a b c d e,P [a,b,c,d,e]):∀ us:List α,us.length=5->P us|[a,b,c,d,e],_=>h a b c d e
theorem lenE6{α}{P:List α->Prop}(h:∀ a b c d e f,P [a,b,c,d,e,f]):∀ us:List α,us.length=6->P us|[a,b,c,d,e,f],_=>h a b c d e f
variable{n:Nat}
theorem lenD3{α}{P:List α->Prop}{ds:List α}(h:∀ a b c,P [a,b,c])(e:ds.length+3=n)(us:List α)(k:(us++ds).length=n):P us:=lenE3 h us (by rw[length_append]at k;ac_nf)
theorem lenD4{α}{P:List α->Prop}{ds:List α}(h:∀ a b c d,P [a,b,c,d])(e:ds.length+4=n)(us:List α)(k:(us++ds).length=n):P us:=lenE4 h us (by rw[length_append]at k;ac_nf)
def FnG(K:W.Frag)(f:Addr)(n q:Str)(s:Stmt)(d:Value):Prop:=∃ fd,FunD K n q s d f fd/\W.keepIn K (.ref f)=true
def FnA(K:W.Frag)(f:Addr)(n:Str)(s:Stmt):Prop:=∃ fd,FunD K n n s .none f fd/\W.keepIn K (.ref f)=true/\W.nsIn K mainGlobals n=some (some (.ref f))
def FnM(K:W.Frag)(C f:Addr)(n q:Str)(s:Stmt):Prop:=FnG K f n q s .none/\W.findIn K (.ref C) n=some (some (.ref f))/\W.isFn K (.ref f)=true
variable{x:Str}{st:Stmt}{oc dc pm cd ct:Value}{od an:Option Addr}
theorem fnG{K:W.Frag}{f:Addr}{q:Str}{d:Value}{kV:Value}{sl:Array (Option Value)}(l:K.lookup f=some ⟨oc,od, .func (W.fnOf x q (Jan st) (Jal st) (Jac st) d kV dc pm an cd ct),sl⟩)(c:W.codeIn K cd q=true)(k:W.keepIn K (.ref f)=true):FnG K f x q st d:=⟨_,Jaq l c k,k⟩
theorem fnA{K:W.Frag}{f:Addr}{kV:Value}{sl:Array (Option Value)}(a:W.nsIn K mainGlobals x=some (some (.ref f)))(l:K.lookup f=some ⟨oc,od, .func (W.fnOf x x (Jan st) (Jal st) (Jac st) .none kV dc pm an cd ct),sl⟩)(c:W.codeIn K cd x=true)(k:W.keepIn K (.ref f)=true):FnA K f x st:=⟨_,Jaq l c k,k,a⟩
theorem fnM{K:W.Frag}{C f:Addr}{q:Str}(a:W.findIn K (.ref C) x=some (some (.ref f)))(i:W.isFn K (.ref f)=true)(h:FnG K f x q st .none):FnM K C f x q st:=⟨h,a,i⟩
local macro_rules|`($f:ident∘$n:str)=>`(W.nsIn $(Lean.mkIdent `K) mainGlobals $n=some (some (.ref $f)))|`($i:num∘$n:str∘$t:ident)=>`(FnA $(Lean.mkIdent `K) $(Lean.mkIdent (.mkSimple s!"f{i.getNat}")) $n $t)|`($i:num∘$n:str∘$q:str∘$t:ident)=>`(FnG $(Lean.mkIdent `K) $(Lean.mkIdent (.mkSimple s!"f{i.getNat}")) $n $q $t .none)
local macro_rules|`($c:ident∣$n:str)=>`(W.codeIn $(Lean.mkIdent `K) $c $n=true)
local macro_rules|`(-$f)=>`(W.keepIn $(Lean.mkIdent `K) (.ref $f)=true)
local macro_rules|`($f:ident/$n:str)=>`(W.findIn $(Lean.mkIdent `K) (.ref $f) $n=some none)|`($f:ident/$n:str/$g:ident)=>`(W.findIn $(Lean.mkIdent `K) (.ref $f) $n=some (some (.ref $g)))
local macro_rules|`(!$f:ident)=>`(FunD.binds $f (by bv_omega))
local macro_rules|`(tactic|bv_omega)=>`(tactic|first|exact fun _ _ _ _ _ _=>lenE1 fun _=>rfl|exact fun _ _ _ _ _ _=>lenE2 fun _ _=>rfl|exact fun _ _ _ _ _ _=>lenE3 fun _ _ _=>rfl|exact fun _ _ _ _ _ _=>lenE4 fun _ _ _ _=>rfl|exact fun _ _ _ _ _ _=>lenE5 fun _ _ _ _ _=>rfl|exact fun _ _ _ _ _ _=>lenE6 fun _ _ _ _ _ _=>rfl)
local macro_rules|`($n:str∘0)=>`(W.nsIn $(Lean.mkIdent `K) mainGlobals $n=some none)|`($c:ident∘$d:ident∘0)=>`(W.kitOne $(Lean.mkIdent `K) (.ref $c) (.ref $d)=some false)|`($c:ident∘$d:ident∘1)=>`(W.kitOne $(Lean.mkIdent `K) (.ref $c) (.ref $d)=some true)|`($c:ident∘$d:ident∘2)=>`(W.mroIn $(Lean.mkIdent `K) $c (.ref $d)=some true)|`($c:ident∘$d:str∘2)=>`(W.mroIn $(Lean.mkIdent `K) $c (.type $d)=some true)|`($c:ident∘0)=>`(W.isFn $(Lean.mkIdent `K) (.ref $c)=true)|`($c:ident∘1)=>`(W.hasDictIn $(Lean.mkIdent `K) $c=true)|`($c:ident∘2)=>`(W.excIn $(Lean.mkIdent `K) $c [.type "ValueError",.type "Exception",.type "BaseException",.type "object"] "ValueError.__new__"=true)|`($c:ident∘$n:str∘$b:str)=>`(W.findIn $(Lean.mkIdent `K) (.ref $c) $n=some (some (.builtin $b)))|`($c:ident∘$i:num∘$n:str∘$q:str∘$t:ident)=>`(FnM $(Lean.mkIdent `K) $c $(Lean.mkIdent (.mkSimple s!"f{i.getNat}")) $n $q $t)|`(!$l:ident*$g)=>`($(Lean.mkIdent `cC) $l $g (by bv_omega))
theorem all_mk{l:W.OpenLaw}{w:World}{K:W.Frag}{h:Heap}{mg:Str->Option Value}{fa:Addr}{SlackError Impossible Tie Free AtLeast AtMost Just Between Scale Step Book Joints Thing Desk f1 f2 f3 f4 f5 f6 f7 f8 f9 f10 f11 f12 f13 f14 f15 f16 f17 f18 f19 T19 f20 f21 f22 f23 f24 f25 f26 f27 f28 f29 f30 f31 f32 f33 f34 f35 f36 f37 f38 f39 T39 f40 f41 f42 f43 f44 f45 f46 f47 f48 f49 f50 f51 f52 f53 f54 f55 f56 f57 f58 f59 f60 f61 f62 f63 f64 f65 f66 f67 f68 f69 f70 f71 f72 f73 f74 f75 f76 f77 ZERO FORMS CHANGES xN_Impossible:Addr}{tc19:Value}{td19:Option Addr}{tn19:Nat}{ts19:Array (Option Value)}{tk19a:Tok}{tc39:Value}{td39:Option Addr}{tn39:Nat}{ts39:Array (Option Value)}{od77 an77:Option Addr}{sl77:Array (Option Value)}{oc77 kV77 dc77 pm77 cd77 ct77:Value}{Baa:Tok}{Bab:Tok}{Bdj:Option Addr}{Bdk:Nat}{Bdl:Array (Option Value)}{Bdg Bdh:Tok}{ct_FIGURES:Tok}{ct_MOST_FIGURES:Tok}{cd_CHANGES:Option Addr}{cn_CHANGES:Nat}{cs_CHANGES:Array (Option Value)}{ct0_CHANGES ct1_CHANGES ct2_CHANGES ct3_CHANGES ct4_CHANGES ct5_CHANGES:Tok}{ct_LACKING:Tok}{xd_Impossible:Option Addr}{xnm_Impossible xq_Impossible:Str}{xbs_Impossible xsub_Impossible:List Value}{xsn_Impossible:List Str}{xab_Impossible:Bool}{xcol_Impossible:Option Bool}{xk0_Impossible xk1_Impossible xk2_Impossible xk3_Impossible xk5_Impossible:Option Value}(X:K.In h)(G:h.Ns mainGlobals mg)(hfa:mg "law"=some (.ref fa))
 (aa:SlackError∘"SlackError") (ab:Impossible∘"Impossible") (ac:Tie∘"Tie") (ad:Free∘"Free") (ae:AtLeast∘"AtLeast") (af:AtMost∘"AtMost") (ag:Just∘"Just") (ah:Between∘"Between") (ai:Scale∘"Scale") (aj:Step∘"Step") (ak:Book∘"Book") (al:Joints∘"Joints") (am:Thing∘"Thing") (an:Desk∘"Desk") (l1:1∘"common_divisor"∘Bal) (l2:2∘"plus"∘BcL) (l3:3∘"minus"∘Bcd) (l4:4∘"under"∘Bce) (l5:5∘"is_name"∘BbG) (l6:6∘"is_whole"∘Bbj) (l7:7∘"is_fraction"∘BaC) (l8:8∘"is_bound"∘Bbk) (l9:9∘"are_faces"∘Ba1) (l10:10∘"are_bounds"∘BaQ) (l11:11∘"is_tie"∘Bb0) (a12:Tie/"__init__"/f12) (l12:12∘"__init__"∘"Tie.__init__"∘Bay) (l13:13∘"tie_of"∘Bb1) (a14:Tie/"steps"/f14) (l14:14∘"steps"∘"Tie.steps"∘Ba2) (a15:Scale/"__init__"/f15) (l15:15∘"__init__"∘"Scale.__init__"∘Bam) (l16:Scale∘16∘"lifted"∘"Scale.lifted"∘Baz) (a17:Step/"__init__"/f17) (l17:17∘"__init__"∘"Step.__init__"∘Baq) (l18:18∘"steps_of"∘Bbl) (a19:Impossible/"__init__"/f19) (l19:FnG K f19 "__init__" "Impossible.__init__" Bae (.ref T19)) (t19:K.lookup T19=some ⟨tc19,td19, .seq #[.str "" tk19a, .none] tn19,ts19⟩) (l20:20∘"ring_behind"∘BaD) (l21:21∘"last_steps"∘BaR) (l22:22∘"chains_from"∘BaE) (l23:23∘"faces_of"∘Bbm) (a24:Book/"kept"/f24) (l24:24∘"kept"∘"Book.kept"∘Ba3) (a25:Book/"faces"/f25) (l25:25∘"faces"∘"Book.faces"∘BaS) (a26:Book/"__init__"/f26) (l26:26∘"__init__"∘"Book.__init__"∘Bar) (l27:27∘"places_of"∘Ba4) (a28:Book/"placing"/f28) (l28:28∘"placing"∘"Book.placing"∘BaA) (a29:Book/"ring"/f29) (l29:29∘"ring"∘"Book.ring"∘Ba5) (l30:30∘"whole_below"∘BaG) (l31:31∘"whole_above"∘BaH) (l32:32∘"enough_above"∘BaB) (l33:33∘"stretched_placing"∘Bag) (l34:34∘"gap_between"∘BaI) (a35:Book/"check_faces"/f35) (l35:35∘"check_faces"∘"Book.check_faces"∘Bah) (a36:Book/"chains_of"/f36) (l36:36∘"chains_of"∘"Book.chains_of"∘Ban) (a37:Book/"gap"/f37) (l37:37∘"gap"∘"Book.gap"∘Bbn) (a38:Book/"farthest"/f38) (l38:38∘"farthest"∘"Book.farthest"∘Bas) (a39:Book/"shown"/f39) (l39:FnG K f39 "shown" "Book.shown" BaT (.ref T39)) (t39:K.lookup T39=some ⟨tc39,td39, .seq #[.bool true] tn39,ts39⟩) (a40:Book/"put"/f40) (l40:40∘"put"∘"Book.put"∘Bbo) (a41:Book/"drop"/f41) (l41:41∘"drop"∘"Book.drop"∘Ba6) (l42:42∘"show_fraction"∘Bat) (l43:43∘"show_bound"∘BaU) (l44:44∘"show_step"∘Ba7) (l45:45∘"show_ring"∘Ba8) (l46:46∘"is_written_whole"∘Bai) (l47:47∘"read_whole"∘BaV) (l48:48∘"read_bottom"∘BaJ) (l49:49∘"read_fraction"∘Bau) (l50:50∘"read_name"∘Ba9) (l51:51∘"read_word"∘Bba) (l52:52∘"read_row"∘Bbp) (a53:Joints/"__init__"/f53) (l53:53∘"__init__"∘"Joints.__init__"∘Bak) (a54:Thing/"__init__"/f54) (l54:54∘"__init__"∘"Thing.__init__"∘Bao) (a55:Desk/"__init__"/f55) (l55:55∘"__init__"∘"Desk.__init__"∘Bav) (l56:Desk∘56∘"change"∘"Desk.change"∘BaK) (l57:Desk∘57∘"answer"∘"Desk.answer"∘BaL) (l58:Desk∘58∘"say"∘"Desk.say"∘Bbq) (l59:59∘"_law_cell_at"∘BaM) (l60:60∘"_law_divisor"∘BaN) (l61:61∘"_law_lowest"∘BaW) (l62:62∘"_law_plus"∘Bbr) (l63:63∘"_law_places"∘BaY) (l64:64∘"_law_face"∘Bbs) (l65:65∘"_law_off"∘BbH) (l66:66∘"_law_tie"∘BbI) (l67:67∘"_law_text"∘Bbt) (l68:68∘"_law_told"∘Bbu) (l69:69∘"_law_step"∘Bbv) (l70:70∘"_law_ring"∘Bbw) (l71:71∘"_law_holds"∘Bbc) (l72:72∘"_law_chain"∘Bbd) (l73:73∘"_law_leads"∘Bbe) (l74:74∘"_law_bound"∘Bbf) (l75:75∘"_law_row"∘BbJ) (l76:76∘"_law_looked"∘BaZ) (a77:f77∘"law") (l77:K.lookup f77=some ⟨oc77,od77, .func (W.fnOf "law" "law" (Jan BcR) (Jal BcR) (Jac BcR) .none kV77 dc77 pm77 an77 cd77 ct77),sl77⟩) (c77:cd77∣"law") (k77:-f77) (ao:"abs"∘0) (ap:"isinstance"∘0) (aq:"len"∘0) (ar:"all"∘0) (au:"int"∘0) (av:"bool"∘0) (aw:"tuple"∘0) (ax:"str"∘0) (ay:"range"∘0) (az:"list"∘0) (aA:"reversed"∘0) (aB:"sorted"∘0) (aC:"set"∘0) (aD:"max"∘0) (aE:"dict"∘0) (aF:"zip"∘0) (aG:"enumerate"∘0) (aH:W.nsIn K mainGlobals "SMALL_LETTERS"=some (some (.str "abcdefghijklmnopqrstuvwxyz" Baa))) (aI:W.nsIn K mainGlobals "LONGEST_NAME"=some (some (.int 8 Bab))) (aJ:ZERO∘"ZERO") (aK:K.lookup ZERO=some ⟨.type "tuple",Bdj, .seq #[.int 0 Bdg, .int 1 Bdh] Bdk,Bdl⟩) (aL:W.nsIn K mainGlobals "FIGURES"=some (some (.str "0123456789" ct_FIGURES))) (aM:W.nsIn K mainGlobals "MOST_FIGURES"=some (some (.int 60 ct_MOST_FIGURES))) (aN:FORMS∘"FORMS") (aO:fDict K FORMS Jdj=true) (aP:CHANGES∘"CHANGES") (aQ:K.lookup CHANGES=some ⟨.type "tuple",cd_CHANGES, .seq #[.str "tie" ct0_CHANGES, .str "part" ct1_CHANGES, .str "need" ct2_CHANGES, .str "untie" ct3_CHANGES, .str "measure" ct4_CHANGES, .str "bound" ct5_CHANGES] cn_CHANGES,cs_CHANGES⟩) (aR:W.nsIn K mainGlobals "LACKING"=some (some (.str "-" ct_LACKING))) (aS:SlackError∘2) (aT:K.lookup Impossible=some (excClassObj xnm_Impossible xq_Impossible Impossible xN_Impossible xbs_Impossible (.ref SlackError::BMV) true xsn_Impossible xsub_Impossible xab_Impossible xcol_Impossible xd_Impossible xk0_Impossible xk1_Impossible xk2_Impossible xk3_Impossible xk5_Impossible "ValueError.__new__")) (aU:Mk K Free f12) (aV:Free/"steps"/f14) (aW:Mk K AtLeast f12) (aX:AtLeast/"steps"/f14) (aY:Mk K AtMost f12) (aZ:AtMost/"steps"/f14) (a0:Mk K Just f12) (ba:Just/"steps"/f14) (bb:Mk K Between f12) (bc:Between/"steps"/f14) (bd:f14∘0) (be:Mk K Scale f15) (bf:Mk K Step f17) (bg:Mk K Joints f53) (bh:Mk K Thing f54) (bi:Mk K Desk f55) (bo:Mk K Book f26) (bp:f19∘0) (bq:-Impossible) (br:f24∘0) (bs:f25∘0) (bt:f29∘0) (bu:f28∘0) (bv:f40∘0) (bw:f41∘0) (bx:f35∘0) (bz:f36∘0) (bA:f37∘0) (bB:f38∘0) (bC:f39∘0) (bD:TieC K Free) (bE:TieC K AtLeast) (bF:TieC K AtMost) (bG:TieC K Just) (bH:TieC K Between) (bI:Jnn K Scale) (bJ:StepC K Step) (bK:Jmj K Joints) (bL:Jno K Thing) (bM:DeskC K Desk) (bN:BookC K Book) (bO:Impossible∘"__setattr__"∘"object.__setattr__") (bP:Impossible/"around") (bQ:Impossible∘1) (bR:Impossible∘"__getattribute__"∘"BaseException.__getattribute__") (bS:Impossible/"__getattr__") (bT:Impossible∘"BaseException"∘2) (bU:W.specialIn K (.ref SlackError) "__getattribute__"=some (some (.builtin "type.__getattribute__"))) (bV:W.readsIn K SlackError (.type "type")=true) (bW:W.findCls K (.ref SlackError) (.type "type") "__init__"=some (.val (.builtin "ValueError.__init__"))) (bX:W.typeIn K (.ref Impossible)=some (.type "type")) (bY:Impossible∘Impossible∘2)
  : ∃ fd:FuncData,(∀(s:Shared)(v:Value),BindsTo s fd ⟨[v],[]⟩ [("_law_script",v)])/\∀ base:Heap,K.In base->base.Ns mainGlobals mg->FnOk l.prog w K mg base (CX1 l.prog w) 14 fa fd ["_law_script"] (Bc2 K):=by
 have e:=hfa.symm.trans (W.mg_of X G a77);cases e;have o:∀{x:Str}{v:Value},W.nsIn K mainGlobals x=some (some v)->mg x=some v:=λh=>W.mg_of X G h;have n:∀{x:Str},W.nsIn K mainGlobals x=some none->mg x=none:=λh=>W.mg_none_of X G h;have T:Txt K mg ⟨SlackError,Impossible,Tie,Free,AtLeast,AtMost,Just,Between,Scale,Step,Book,Joints,Thing,Desk,(.str "abcdefghijklmnopqrstuvwxyz" Baa),(.int 8 Bab),ZERO,(.str "0123456789" ct_FIGURES),(.int 60 ct_MOST_FIGURES),FORMS,CHANGES,(.str "-" ct_LACKING)⟩:=⟨n ao,n ap,n aq,n ar,n au,n av,n aw,n ax,n ay,n az,n aA,n aB,n aC,n aD,n aE,n aF,n aG,o aa,o ab,o ac,o ad,o ae,o af,o ag,o ah,o ai,o aj,o ak,o al,o am,o an,o aH,⟨_,rfl⟩,o aI,⟨_,rfl⟩,o aJ,rfl,λH=>.inr ⟨_,_,_,aK,rfl,rfl,by show 2<=sizeLine;decide, .cons ⟨_,rfl⟩ (.cons ⟨_,rfl⟩ (.nil))⟩,o aL,⟨_,rfl⟩,o aM,⟨_,rfl⟩,o aN,rfl,aO,o aP,rfl,λH=>.inr ⟨_,_,_,aQ,rfl,rfl,by show 6<=sizeLine;decide, .cons ⟨_,rfl⟩ (.cons ⟨_,rfl⟩ (.cons ⟨_,rfl⟩ (.cons ⟨_,rfl⟩ (.cons ⟨_,rfl⟩ (.cons ⟨_,rfl⟩ (.nil))))))⟩,o aR,⟨_,rfl⟩,aS,(λC hC=>by rcases hC with rfl | rfl | rfl | rfl | rfl<;>assumption),(λC hC=>by cases hC;show bI),(λC hC=>by cases hC;show bJ),(λC hC=>by cases hC;show bK),(λC hC=>by cases hC;show bL),(λC hC=>by cases hC;show bM),(λC hC=>by cases hC;show bN),⟨bO,bP⟩,⟨bQ,bR,bS,bP,bT⟩,⟨bU,bV,bW⟩,⟨bQ,bX,bT,bY⟩⟩;let(_,F14,k14):=l14;let(_,F19,k19):=l19;have b19:=F19.bindsD (ps:=["self","words","around"]) t19 rfl [] λ_ _ _ _ _ _=>lenD3 (λ_ _ _=>⟨_,rfl,rfl⟩) rfl;let(_,F24,k24):=l24;let(_,F25,k25):=l25;let(_,F28,k28):=l28;let(_,F29,k29):=l29;let(_,F35,k35):=l35;let(_,F36,k36):=l36;let(_,F37,k37):=l37;let(_,F38,k38):=l38;let(_,F39,k39):=l39;have b39:=F39.bindsD (ps:=["self","one","other","most"]) t39 rfl [] λ_ _ _ _ _ _=>lenD4 (λ_ _ _ _=>⟨_,rfl,rfl⟩) rfl;let(_,F40,k40):=l40;let(_,F41,k41):=l41;have F77:=Jaq l77 c77 k77;show(W.fnOf "law" "law" (Jan BcR) (Jal BcR) (Jac BcR) .none kV77 dc77 pm77 an77 cd77 ct77,λs v=>.of_eq rfl,λbase _ _=>?_);have cM:∀{ps:List Str}{sp:Sp}{fd:FuncData}{k:Nat}{m:Str}{Cs:Addr->Prop}{f:Addr},FnOk l.prog w K mg base (CX1 l.prog w) k f fd ps sp->(∀ C,Cs C->Cls K C/\Meth K C m f)->W.keepIn K (.ref f)=true->Binds K fd ps []->MCal l.prog w K mg base k m Cs ps sp:=λh a c b=>⟨_,_,h,a,c,b⟩;have cC:∀{ps:List Str}{sp:Sp}{k:Nat}{x:Str}{f:Addr}{st:Stmt},FnA K f x st->(∀{fd:FuncData},FunD K x x st .none f fd->FnOk l.prog w K mg base (CX1 l.prog w) k f fd ps sp)->(∀(kV dc pm:Value)(an:Option Addr)(cd ct:Value)(us:List Value),us.length=ps.length->bindArgs (W.fnOf x x (Jan st) (Jal st) (Jac st) .none kV dc pm an cd ct) ⟨us,[]⟩=pure (ps.zip us))->Cal l.prog w K mg base k x ps [] sp:=λ⟨_,F,c,a⟩ g b=>⟨_,_,[],g F,o a,c,F.binds b, .nil⟩;have cK:∀{ps:List Str}{sp:Sp}{k:Nat}{x y q:Str}{f C:Addr}{st:Stmt},FnG K f x q st .none->(∀{fd:FuncData},FunD K x q st .none f fd->FnOk l.prog w K mg base (CX1 l.prog w) k f fd ps sp)->W.nsIn K mainGlobals y=some (some (.ref C))->Mk K C f->(∀(kV dc pm:Value)(an:Option Addr)(cd ct:Value)(us:List Value),us.length=ps.length->bindArgs (W.fnOf x q (Jan st) (Jal st) (Jac st) .none kV dc pm an cd ct) ⟨us,[]⟩=pure (ps.zip us))->KCal l.prog w K mg base k y C ps sp:=λ⟨_,F,_⟩ g a c b=>⟨_,_,g F,o a,c,F.binds b⟩;have c':∀{ps:List Str}{sp:Sp}{k:Nat}{x q:Str}{f C:Addr}{st:Stmt},FnM K C f x q st->(∀{fd:FuncData},FunD K x q st .none f fd->FnOk l.prog w K mg base (CX1 l.prog w) k f fd ps sp)->Cls K C->(∀(kV dc pm:Value)(an:Option Addr)(cd ct:Value)(us:List Value),us.length=ps.length->bindArgs (W.fnOf x q (Jan st) (Jal st) (Jac st) .none kV dc pm an cd ct) ⟨us,[]⟩=pure (ps.zip us))->MCal l.prog w K mg base k x (·=C) ps sp:=λ⟨⟨_,F,c⟩,a,i⟩ g d b=>⟨_,_,g F,(λD e=>by cases e;show(d,a,i,c)),c,F.binds b⟩;have cB:∀{ps:List Str}{sp:Sp}{fd:FuncData}{k:Nat}{m:Str}{f:Addr},FnOk l.prog w K mg base (CX1 l.prog w) k f fd ps sp->W.findIn K (.ref Book) m=some (some (.ref f))->W.isFn K (.ref f)=true->W.keepIn K (.ref f)=true->Binds K fd ps []->MCal l.prog w K mg base k m (JaP _) ps sp:=λh a c d b=>⟨_,_,h,λC hC=>⟨(T.book C hC).cls,by cases hC;show(a,c,d)⟩,d,b⟩;have bZ:=!l1*(Jeh · T);have b0:=!l2*(JmM · T bZ);have ca:=!l3*(Jlg · T b0);have cb:=!l4*(Jlh · T);have cc:=!l5*(Jja · T);have cd:=!l6*(JhM · T);have ce:=!l7*(Jfo · T cd bZ);have cf:=!l8*(JhL · T ce);have cg:=!l9*(JgU · T cc);have ch:=!l10*(Jf7 · T cf cb);have ci:=!l11*(Jkd · T cc cg ch);have cj:=cK l12 (Je2 · T) ad aU (by bv_omega);have ck:=cK l12 (Je2 · T) ae aW (by bv_omega);have cl:=cK l12 (Je2 · T) af aY (by bv_omega);have cm:=cK l12 (Je2 · T) ag a0 (by bv_omega);have cn:=cK l12 (Je2 · T) ah bb (by bv_omega);have co:=!l13*(Jke · T ci cj ck cl cm cn);have cp:=cM (m:="steps") (Cs:=IsTie _) (JgT F14 T ca) (λC hC=>⟨(T.tie C hC).cls,(by rcases hC with rfl | rfl | rfl | rfl | rfl <;> first | show(aV,bd,k14) | show(aX,bd,k14) | show(aZ,bd,k14) | show(ba,bd,k14) | show(bc,bd,k14))⟩) k14 (!F14);have cq:=cK l15 (Jef · T bZ) ai be (by bv_omega);have cr:=c' l16 (Je1 · T bZ) bI.cls (by bv_omega);have cs:=cK l17 (Jez · T cr) aj bf (by bv_omega);have ct:=!l18*(JhU · T cp cq cs);have K19:=JcW (P:=l.prog) (w:=w) (base:=base) F19 T;have cu:XCal l.prog w K mg base 1 "Impossible" Impossible SlackError ["self","words","around"] (Jbh K _):=⟨f19,_,K19,W.mg_of X G ab,⟨aS,⟨_,_,_,_,_,_,_,_,_,_,_,_,_,_,aT⟩,a19,bp,bq⟩,b19⟩;have cv:=!l20*(Jfs · T);have cw:=!l21*(Jf8 · T cv cu);have cx:=!l22*(Jfm · T cw b0);have cy:=!l23*(JhK · T);have cz:=cB (JgR F24 T) a24 br k24 (!F24);have cA:=cB (Jf5 F25 T cz cy) a25 bs k25 (!F25);have cD:=cK l26 (Jex · T co) ak bo (by bv_omega);have cE:=!l27*(JgZ · T cx);have cF:=cB (Je0 F28 T cz cA ct cE) a28 bu k28 (!F28);have cG:=cB (JgS F29 T cF) a29 bt k29 (!F29);have cH:=!l30*(Jfu · T);have cI:=!l31*(Jft · T);have cJ:=!l32*(Je3 · T cI cH);have cL:=!l33*(Jdi · T cJ b0);have cN:=!l34*(Jfn · T ca);have cO:=cB (Jdr F35 T cA) a35 bx k35 (!F35);have cP:=cB (Jee F36 T cz cA ct cE cx) a36 bz k36 (!F36);have cQ:=cB (JhH F37 T cO cP cN) a37 bA k37 (!F37);have cR:=cB (Jew F38 T cz cA ct cE cx cL) a38 bB k38 (!F38);have K39:=Jf6 (P:=l.prog) (w:=w) (base:=base) F39 T cO cR ca;have cS:=cB (Jf6 F39 T cO cR ca) a39 bC k39 b39;have cT:MCalD l.prog w K mg base 8 "shown" (JaP _) ["self","one","other","most"] [.bl true] (Jcb K _):=⟨f39,_,[.bool true],K39,λC hC=>⟨(T.book C hC).cls,(by cases hC;show(a39,bC,k39))⟩,k39,F39.bindsD (ps:=["self","one","other","most"]) t39 rfl [.bool true] λ_ _ _ _ _ _=>lenD3 (λ_ _ _=>⟨_,rfl,rfl⟩) rfl, .cons rfl .nil⟩;have cU:=cB (JhI F40 T co) a40 bv k40 (!F40);have cV:=cB (JgQ F41 T) a41 bw k41 (!F41);have cW:=!l42*(JeB · T);have cX:=!l43*(Jgd · T cW);have cY:=!l44*(Jg3 · T);have cZ:=!l45*(Jg2 · T cY);have c0:=!l46*(Jds · T);have c1:=!l47*(Jgc · T c0);have c2:=!l48*(Jfr · T c1);have c3:=!l49*(JeA · T c1 c2 bZ);have c4:=!l50*(Jg0 · T cc);have c5:=!l51*(Jg1 · T c4 c1 c3);have c6:=!l52*(JhT · T c5);have c7:=cK l53 (JdN · T) al bg (by bv_omega);have c8:=cK l54 (Jeg · T c7) am bh (by bv_omega);have c9:=cK l55 (Jey · T cD c8) an bi (by bv_omega);have da:=c' l56 (Jfl · T cU cV) bM.cls (by bv_omega);have db:=c' l57 (Jfk · T cG cQ cX cZ) bM.cls (by bv_omega);have dc:=c' l58 (JhJ · T c6 da db) bM.cls (by bv_omega);have dd:=!l59*(Jfp · T);have de:=!l60*(Jfq · T);have df:=!l61*(Jga · T de);have dg:=!l62*(JhO · T df);have dh:=!l63*(Jgb · T dd df);have di:=!l64*(JhN · T);have dj:=!l65*(Jjb · T);have dk:=!l66*(Jjd · T dg dj di);have dl:=!l67*(JhR · T);have dm:=!l68*(JhS · T dc dl);have dn:=!l69*(JhQ · T);have dp:=!l70*(JhP · T dn dg);have dq:=!l71*(JgX · T dg);have dr:=!l72*(JgW · T dn dg);have ds:=!l73*(JgY · T);have dt:=!l74*(JgV · T cS ds dr dq dg dl);have du:=!l75*(Jjc · T dc dk dm);have dv:=!l76*(Jf9 · T dc cF cD dp dq dt);show JnQ F77 T dd dh c9 du dv dk dm
theorem walk{l:PySem.W.OpenLaw}{q:Program}{loose:List Str}{XP:(Str->Option Value)->Heap->Prop}{YP:World->Heap->Prop}{d:DefRec}{K:Params->PySem.W.Frag}(hn:l.most=some 63)(hdf:d.params.defaults=[])
  (hY:∀(w:World)(h:Heap),YP w h->(K w.params).In h)
  (F:∀(w:World)(mg:Str->Option Value)(fa:Addr)(h:Heap),(K w.params).In h->h.Ns mainGlobals mg->mg d.name=some (.ref fa) ->
   ∃ fd:FuncData,(∀(s:Shared)(u:Value),BindsTo s fd ⟨[u],[]⟩ [("_law_script",u)])/\∀ base:Heap,(K w.params).In base->base.Ns mainGlobals mg->FnOk l.prog w (K w.params) mg base (CX1 l.prog w) 14 fa fd ["_law_script"] (Bc2 (K w.params))) :
  PySem.W.WalkO q loose XP YP l.row.toRowW d [] (λf vs=>PySem.call f vs) :=
 L2.JkN (n:=63) (k:=14) (x:="_law_script") (CX:=λw=>CX1 l.prog w) (sp:=λw=>Bc2 (K w.params)) hn (by decide) hdf ⟨rfl,by decide,by decide⟩ hY F (λ_ _ a ns hl _ hS=>⟨a,ns,rfl,hS,hl,λ_=>rfl⟩) λ_ _ _ _ _ z=>by
  let(_,_,_,_,_,_,_,_,_,_,_,_,z):=z;show z
end Prg
open PySem PySem.W PyProof.Rows
set_option maxRecDepth 100000 in
set_option maxHeartbeats 0 in
theorem PySem.Challenge.cw_slackchain_k82_whole_rings_at_the_desk_holds : PySem.Challenge.rw_slackchain_k82_whole_rings_at_the_desk.Holds := by
 refine HDk ?_
 k_fill
 refine Prg.walk (l:=PySem.Challenge.rw_slackchain_k82_whole_rings_at_the_desk) rfl rfl (fun w h Y=>PySem.W.kIn_of Y) ?F;case F=>
  intro w mg fa h KX G hmg;refine' Prg.all_mk KX G hmg ..;all_goals try repeat' first|with_reducible refine' Prg.fnM ..|with_reducible refine' Prg.fnA ..|with_reducible refine' Prg.fnG ..|with_reducible apply Prg.TieC.mk|with_reducible apply Prg.Jnn.mk|with_reducible apply Prg.StepC.mk|with_reducible apply Prg.Jmj.mk|with_reducible apply Prg.Jno.mk|with_reducible apply Prg.DeskC.mk|with_reducible apply Prg.BookC.mk|with_reducible apply L2.Cls.mk|with_reducible apply L2.Mk.mk|k_is|k_exc|(show _=_;k_is)|kit_is|kernel_rfl
