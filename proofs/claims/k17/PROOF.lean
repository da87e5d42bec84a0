import PyProof.Rows.All
import PyProof.ReprRoads
import PyProof.Rows.CatFin
import PyProof.Rows.StrClip
import PyProof.Rows.StrPartPair
import PyProof.StrLawsTight
import PyProof.AutoRange
import PyProof.RangeFor
import PyProof.StrLawsChain
import PyProof.Rows.StrSplitCount
import PyProof.Rows.StrMul
import Wide.All
import OpenK.AllK
import Wide.FinOn
import PyProof.EqAt
import PyProof.EqKinds
import PyProof.NeKinds
import PyProof.TupleCall
import PyProof.StrWalks
import PyProof.ConsumeWalk
import PyProof.EnumMake
import PyProof.EnumFor
import PyProof.ListNew
import PyProof.ListRange
import PyProof.Rows.SortWalk
import PyProof.Rows.Range3
import PyProof.Rows.ChunkEnd
import PyProof.Rows.ChunkLeaf
import PyProof.Rows.StrInSeq
import Wide.Txt
import PyProof.DictIter
import PyProof.DictWalks
import PyProof.AttrMissHeap
import KE.KDictOf
import KE.KSortTup
import KE.KDictList
import KE.KRevIter
import PyProof.Rows.Own
import PyProof.ExcBaseAll.ValueError
import PyProof.RulesAs
import PyProof.NsDelKeeps
import PyProof.ExcClass3
import PyProof.ExcArgsOwn
import KE.KIsAll
import KE.IntBitsLaws
import PyProof.Rows.StrRev
import PyProof.PureStr
import PyProof.ToksMono
import PyProof.MeetsStr3
import PyProof.StrCalls6
import KE.KDictSum
import KE.KIntText
import KE.KEqDict
import PyProof.Rows.SortStr
import PyProof.Rows.SortShellK
import PyProof.Rows.StrKeys3
import Lean
import PySem.Challenge.RW_laidfields_k17_what_is_a_value
abbrev AA:List PySem.Str:=["pool","kind","value"]
abbrev AB:List PySem.Str:=["kind","thing"]
abbrev AC:List PySem.Str:=["pool","many"]
abbrev AD:List PySem.Str:=["kind","room","most","parts","end","multiple","begin"]
abbrev AE:List PySem.Str:=["script","k","pool","most","kind","other","value","rows","thing"]
abbrev AF:List PySem.Str:=["pool","deep","most"]
abbrev AG:List PySem.Str:=["one","other"]
abbrev AH:List PySem.Str:=["pool","deep","most","way","kind","found","many"]
abbrev AI:List PySem.Str:=["fields","thing"]
abbrev AJ:List PySem.Str:=["kind","n","thing"]
abbrev AK:List PySem.Str:=["pool","many","letters","stem","found","k","name","way","at","turn"]
abbrev AL:List PySem.Str:=["thing"]
abbrev AM:List PySem.Str:=["pool","kind"]
abbrev AN:List PySem.Str:=["room","multiple"]
abbrev AO:List PySem.Str:=["kinds","thing"]
abbrev AQ:List PySem.Str:=["number","m"]
abbrev AR:List PySem.Str:=["width"]
set_option Elab.async false
set_option linter.all false
set_option maxRecDepth 100000
set_option maxHeartbeats 16000000
abbrev dQ:=PySem.W.Frag
abbrev lG:=PySem.Str->Option PySem.Value
variable{P:PySem.Program}{w:PySem.World}{K:dQ}{mg:lG}{base:PySem.Heap}{fd:PySem.FuncData}
abbrev dzT:=@decide_eq_true
abbrev dzF:=@decide_eq_false
abbrev ozI:=@Option.some.inj
abbrev nzL:=@Nat.le_trans
abbrev eS:=List (PySem.Addr×PySem.Obj)
abbrev eQ:=PySem.Value->PySem.Shared->Prop
section
open PySem PySem.Spec PyProof.Rows
abbrev aA:=@List.mem_cons_self
abbrev aB:=@List.mem_cons_of_mem
abbrev aC:=@Heap.get?_push_of_some
abbrev aD:=@List.length_map
abbrev aE:=@Bool.false_ne_true
abbrev aF:=@List.mem_cons
abbrev aG:=@List.mem_append_right
abbrev aH:=@List.mem_singleton
abbrev aI:=@List.length_cons
abbrev aJ:=@List.length_append
abbrev aK:=@Nat.le_refl
abbrev aL:=@List.map_cons
abbrev aM:=@List.getElem?_cons_zero
abbrev aN:=@List.getElem?_cons_succ
abbrev aO:=@List.replicate_succ
abbrev aP:=@List.length_nil
abbrev aQ:=@Heap.lt_size
abbrev aS:=@List.getElem?_eq_getElem
abbrev aT:=@List.nil_append
abbrev aU:=@Heap.get?_push_size
abbrev aV:=@List.getElem?_eq_some_iff
abbrev aW:=@List.set_cons_succ
abbrev aX:=@List.cons_append
abbrev aZ:=@List.set_cons_zero
abbrev bA:=@List.size_toArray
abbrev bB:=@List.replicate_zero
abbrev bC:=@List.append_assoc
abbrev bD:=@List.mem_append
abbrev bE:=@List.mem_of_getElem?
abbrev bF:=@Nat.lt_of_lt_of_le
abbrev bG:=@List.mem_append_left
abbrev bH:=@List.mem_map
abbrev bI:=@List.map_nil
abbrev bJ:=@List.not_mem_nil
abbrev bN:=@Option.isSome_some
abbrev bO:=@Nat.lt_of_succ_lt
abbrev bP:=@List.getElem?_map
abbrev bR:=@List.drop_succ_cons
abbrev bV:=@List.length_replicate
abbrev bW:=@List.lookup_cons
abbrev bX:=@List.length_set
abbrev bY:=@List.mem_map_of_mem
abbrev bZ:=@Option.getD_some
abbrev cA:=@Option.bind_some
abbrev cB:=@Bool.and_eq_true
abbrev cC:=@Bool.false_and
abbrev cD:=@Nat.ne_of_lt
abbrev cE:=@List.nodup_cons
abbrev cF:=@List.append_nil
abbrev cG:=@List.all_eq_true
abbrev cH:=@List.drop_zero
abbrev cJ:=@Option.map_eq_some_iff
abbrev cK:=@Bool.false_eq_true
abbrev cL:=@List.map_append
abbrev cO:=@Bool.true_and
abbrev cQ:=@Int.emod_lt_of_pos
abbrev cR:=@Int.mul_le_mul_of_nonneg_right
abbrev cZ:=@Nat.le_max_right
abbrev dC:=@List.nodup_append
abbrev dG:=@Nat.le_max_left
abbrev dH:=@Int.emod_nonneg
abbrev dR:=@Nat.lt_irrefl
abbrev dS:=@List.set_eq_of_length_le
abbrev dU:=@Nat.zero_le
abbrev dW:=@List.getElem?_set_ne
abbrev dY:=@List.length_range
abbrev eC:=@List.any_eq_true
abbrev eM:=@List.pairwise_map
abbrev eO:=@List.flatten_cons
abbrev eP:=@List.any_cons
abbrev eV:=@Option.bind_eq_some_iff
abbrev eW:=@Nat.succ_le_succ
abbrev eY:=@Int.mul_le_mul_of_nonneg_left
abbrev fA:=@List.find?_cons
abbrev fC:=@Bool.not_true
abbrev fD:=@List.length_singleton
abbrev fG:=@List.any_eq_false
abbrev fH:=@Int.toNat_natCast
abbrev fJ:=@List.getElem?_append_right
abbrev fK:=@Bool.and_eq_true_iff
abbrev fO:=@List.length_take
abbrev fV:=@Option.isSome_iff_exists
abbrev gB:=@List.getElem?_replicate
abbrev gK:=@List.mem_range
abbrev gL:=@List.map_map
abbrev gM:=@Int.mul_nonneg
abbrev gN:=@Heap.size_push
abbrev gO:=@Heap.get?_update_other
abbrev gX:=@Heap.get?_update_self
end
namespace L2
open PySem PySem.Spec PyProof.Rows
inductive V where
 |non | bl (b:Bool) | int (i:Int) | str (x:Str) | byt (b:Array UInt8) | flt (b:UInt64) | ref (a:Addr) | ty (n:String)
 deriving DecidableEq
def aHj:Value->Option V
 | .none=>some .non
 | .bool b=>some (.bl b)
 | .int i _=>some (.int i)
 | .str x _=>some (.str x)
 | .bytes b _=>some (.byt b)
 | .float b _=>some (.flt b)
 | .ref a=>some (.ref a)
 | .type n=>some (.ty n)
 |_=>none
def mB(s:Stmt):Arguments:=match s with
 | .FunctionDef _ a _ _ _ _ _ _ _ _=>a
 |_=>{ posonlyargs:=[],args:=[],vararg:=none,kwonlyargs:=[],kw_defaults:=[],kwarg:=none,defaults:=[] }
def fW(s:Stmt):List Stmt:=match s with
 | .FunctionDef _ _ b _ _ _ _ _ _ _=>b
 |_=>[]
def aR(s:Stmt):Scope:=match s with
 | .FunctionDef _ _ _ _ _ _ sc _ _ _=>sc
 |_=>{ kind:=.function,names:=[],isGenerator:=false,isCoroutine:=false }
end L2
namespace L2
open PySem PySem.W PySem.Spec PyProof.Rows PySem.Calls
def aHi(h:Heap):Frag:=(List.range h.objs.size).filterMap λa=>(h.get? a).map λo=>(a,o)
noncomputable def onceSeen (tr:(String->Option Builtin)->Program->World->Nat->Option Value->Nat->Shared->Thread->Option Shared) (tb:String->Option Builtin) (im:List Stmt->List Str) {β:Type} (os:List Str->Shared->β) (p:Program) (N:Nat) {α:Type} (Yf:Frag->α) (w:World) (o:OsState):Option (Bool×β×α):=
 (tr tb p w 11 (some (.ref 6)) N ⟨boot_heap w.params,Array.mk [],boot_drawn,boot_toks,o⟩ (topStub p)).map fun s₁ =>
  (staticsOk (im p.main.body) (boot_heap w.params) s₁.heap&&namesBound p s₁.heap&&gensDone s₁&&laidKept (boot_heap w.params) s₁.heap,os (im p.main.body) s₁,Yf (aHi s₁.heap))
def iR(p:Program)(i:Nat):Stmt:=p.main.body.getD i (.Pass ⟨0,0,0,0⟩)
def eZ(s:Stmt):Str:=match s with
 | .FunctionDef n ..=>n
 | .Assign [.Name n _] _ _=>n
 |_=>⟨#[]⟩
abbrev FO:=Option ((Str×Str×Arguments×FuncBody×Scope)×(Addr×List (Str×Addr)×Value×Addr)×Bool)
def rQ(K:Frag)(n:Str):FO:=match nsIn K mainGlobals n with
 |some (some (.ref f))=>(match K.lookup f with
  |some ⟨_,_,.func fd,_⟩=>some ((fd.name,fd.qualname,fd.params,fd.body,fd.scope),(fd.globals,fd.closure,fd.defaults,fd.builtins),codeIn K fd.code n)
  |_=>none)
 |_=>none
def sH(s:Stmt):FO:=some ((eZ s,eZ s,mB s,.stmts (fW s),aR s),(mainGlobals,[],.none,builtinsNs),true)
def uD(K:Frag)(n:Str):Bool:=match nsIn K mainGlobals n with
 |some none=>true
 |_=>false
def rP(K:Frag)(n:Str):Option V:=match nsIn K mainGlobals n with
 |some (some v)=>aHj v
 |_=>none
def aKu(K:Frag)(n:Str):Option (List (Option V)):=match nsIn K mainGlobals n with
 |some (some (.ref a))=>(match K.lookup a with
  |some ⟨.type "tuple",_,.seq xs _,_⟩=>some (xs.toList.map aHj)
  |_=>none)
 |_=>none
def bltNs:List Str:=[⟨#[105,115,105,110,115,116,97,110,99,101]⟩,⟨#[105,110,116]⟩,⟨#[98,111,111,108]⟩,⟨#[108,105,115,116]⟩,⟨#[108,101,110]⟩,⟨#[115,116,114]⟩,⟨#[116,117,112,108,101]⟩,⟨#[97,108,108]⟩,⟨#[100,105,99,116]⟩,⟨#[109,97,120]⟩,⟨#[109,105,110]⟩,⟨#[114,97,110,103,101]⟩,⟨#[122,105,112]⟩,⟨#[101,110,117,109,101,114,97,116,101]⟩,⟨#[115,111,114,116,101,100]⟩,⟨#[115,117,109]⟩,⟨#[114,101,118,101,114,115,101,100]⟩]
end L2
namespace Lf
open PySem L2
def tb(n:Nat):Int:=4*n
theorem aRx:Nat.ble 1 PySem.Challenge.pw_laidfields_k17_what_is_a_value.main.body.length=true:=by k_qdec
def aQf(s:Stmt):Option V:=match s with
 | .Assign _ (.Constant (.int i) _ _) _=>some (.int i)
 | .Assign _ (.Constant (.str x) _ _) _=>some (.str x)
 |_=>none
def aRy(e:Expr):Option V:=match e with
 | .Constant (.int i) _ _=>some (.int i)
 |_=>none
def aSy(s:Stmt):Option (List (Option V)):=match s with
 | .Assign _ (.Tuple es _ _) _=>some (es.map aRy)
 |_=>none
def seenF(p:Program)(K:dQ):List FO×List Bool×List (Option V)×List (Option (List (Option V))):=([1,4,5,6,7,9,10,11,12,13,14,15,16,17,18,19,20,21,22,23,24,25].map λi=>rQ K (eZ (iR p i)),bltNs.map (uD K),[3].map λi=>rP K (eZ (iR p i)),[].map λi=>aKu K (eZ (iR p i)))
def seenV(p:Program):List FO×List Bool×List (Option V)×List (Option (List (Option V))):=([1,4,5,6,7,9,10,11,12,13,14,15,16,17,18,19,20,21,22,23,24,25].map λi=>sH (iR p i),List.replicate 17 true,[3].map λi=>aQf (iR p i),[].map λi=>aSy (iR p i))
theorem aBe:∀w:World,onceSeen PySem.W.topRun treeTable importedModules (λm s=>PySem.W.openSeen (PySem.W.view PySem.Challenge.pw_laidfields_k17_what_is_a_value [1,3,4,5,6,7,9,10,11,12,13,14,15,16,17,18,19,20,21,22,23,24,25]) [] m (λs=>PySem.W.xlAt (PySem.W.view PySem.Challenge.pw_laidfields_k17_what_is_a_value [1,3,4,5,6,7,9,10,11,12,13,14,15,16,17,18,19,20,21,22,23,24,25]) [] s&&PySem.W.recOk [] s) true s) PySem.Challenge.pw_laidfields_k17_what_is_a_value 1476 (seenF PySem.Challenge.pw_laidfields_k17_what_is_a_value) w=λ_=>some (true,PySem.W.openGood (PySem.W.view PySem.Challenge.pw_laidfields_k17_what_is_a_value [1,3,4,5,6,7,9,10,11,12,13,14,15,16,17,18,19,20,21,22,23,24,25]) [],seenV PySem.Challenge.pw_laidfields_k17_what_is_a_value):=by
 have _:=aRx
 rw[PySem.W.Fast.te11072774078659697556,PySem.W.Fast.te14082659384304107361,PySem.W.Fast.te14364793385576792824,PySem.W.Fast.te5923862056798008813,PySem.W.Fast.te4187177175401517315]
 exact λw=>by kernel_rfl
end Lf
namespace L2
open PySem PySem.Spec PyProof.Rows
section
variable{P:Program}{w:World}{A:Around}{E:eQ}{s:Shared}
structure Seek(P:Program)(w:World)(A:Around)(E:eQ)(s:Shared)(es:Array DictEntry)(u:Value)(n:Int)(y:DictEntry->Bool):Prop where
 eq:∀e∈es,e.hash=n->∀Q,Q (y e) s->wpAny (model P w) A (eqBool e.key u) Q E s
 qu:∀Q,Q true s->wpAny (model P w) A (eqIsQuiet 8 u) Q E s
 qe:∀e∈es,∀Q,Q true s->wpAny (model P w) A (eqIsQuiet 8 e.key) Q E s
 st:∀e∈es,e.key=u->e.hash=n
 odd:isExactStrKey u=true->(es.all λe=>isExactStrKey e.key)=true->False
 one:∀(i j:Nat) e f,es[i]? = some e->es[j]? = some f->e.hash=n->f.hash=n->y e=true->y f=true->i=j
abbrev plcs(es:Array DictEntry)(n:Int):List Nat:=placesWithHash es.size (λi=>es[i]?.map (·.hash)) n
theorem jV{es:Array DictEntry}{n:Int}{i:Nat}:i∈plcs es n↔∃e,es[i]? = some e/\e.hash=n:=by
 unfold plcs placesWithHash
 rw[List.mem_filter,gK]
 constructor
 ·rintro ⟨hi,hp⟩
  dsimp only at hp
  rw[Array.getElem?_eq_getElem hi,Option.map_some,beq_iff_eq,Option.some.injEq]at hp
  exact⟨_,Array.getElem?_eq_getElem hi,hp⟩
 ·rintro ⟨e,he,hn⟩
  obtain⟨hi,_⟩:=Array.getElem?_eq_some_iff.mp he
  refine⟨hi,?_⟩
  dsimp only
  rw[he,Option.map_some,hn]
  exact beq_self_eq_true _
theorem g9{es:Array DictEntry}{n:Int}{v:Value}(h:v∈(plcs es n).filterMap λi=>es[i]?.map (·.key)):∃e∈es,e.key=v:=by
 obtain⟨i,_,hi⟩:=List.mem_filterMap.mp h
 obtain⟨e,he,hk⟩:=cJ.mp hi
 exact⟨e,Array.mem_of_getElem? he,hk⟩
theorem g7{es:Array DictEntry}{u:Value}{n:Int}{y:DictEntry->Bool}{Q:Bool->Shared->Prop}(L:Seek P w A E s es u n y)(h:Q false s):wpAny (model P w) A (tableMayTell u ((plcs es n).filterMap λi=>es[i]?.map (·.key))) Q E s:=by
 unfold tableMayTell
 split
 ·exact wpAny_pure h
 ·refine wpAny_bind (L.qu _ ?_)
  simp only[fC,cK,if_false]
  refine wpAny_bind (wpAny_forIn_list _ (λl b t=>t=s/\b=(none,())/\∀v∈l,∃e∈es,e.key=v) _ ?_ ?_ _ _ ⟨rfl,rfl,λv hv=>g9 hv⟩)
  ·rintro v l b t ⟨rfl,rfl,hl⟩
   obtain⟨e,he,rfl⟩:=hl v aA
   refine wpAny_bind (L.qe e he _ ?_)
   simp only[fC,cK,if_false]
   exact wpAny_pure ⟨rfl,rfl,λv hv=>hl v (aB _ hv)⟩
  ·rintro b t ⟨rfl,rfl,_⟩
   exact wpAny_pure h
theorem uV{d:Addr}{o:Obj}{es:Array DictEntry}{ep:Nat}{u:Value}{n:Int}{y:DictEntry->Bool}{Q:Option Nat->Shared->Prop}(ho:s.heap.get? d=some o)(hd:o.data=.dict es ep)(L:Seek P w A E s es u n y)
  (h0:(∀(i:Nat) e,es[i]? = some e->e.hash=n->y e=false)->Q none s) (h1:∀(i:Nat) e,es[i]? = some e->e.hash=n->y e=true->Q (some i) s):wpAny (model P w) A (dictFind d u n) Q E s:=by
 have fin:∀pre:List Nat,pre=plcs es n->(∀i∈pre,∀e,es[i]? = some e->y e=false)->Q none s:=λpre e h=>h0 λi x hx hn=>h i (e ▸ jV.mpr ⟨x,hx,hn⟩) x hx
 have plain:wpAny (model P w) A (dictWalkPlain d u n es (plcs es n)) Q E s:=by
  unfold dictWalkPlain
  refine wpAny_bind (wpAny_forIn_list _ (λl b t=>t=s/\b=(none,())/\∃pre,plcs es n=pre++l/\∀i∈pre,∀e,es[i]? = some e->y e=false) _ ?_ ?_ _ _ ⟨rfl,rfl,[],rfl,λ_ h=>nomatch h⟩)
  ·rintro i l b t ⟨rfl,rfl,pre,hp,An⟩
   obtain⟨e,he,hn⟩:=jV.mp (hp ▸ aG pre aA)
   rw[he]
   dsimp only
   rw[if_pos (by rw[hn];exact beq_self_eq_true _)]
   refine wpAny_bind (wpAny_dictEpoch ho hd (wpAny_bind (L.eq e (Array.mem_of_getElem? he) hn _ (wpAny_bind (wpAny_dictEpoch ho hd ?_)))))
   show wpAny _ _ (if(ep != ep)=true then _ else _) _ E _
   rw[if_neg (by simp)]
   cases hy:y e with
   |true=>exact wpAny_bind (wpAny_rule (wpAny_pure (wpAny_pure (h1 i e he hn hy))))
   |false =>
    refine wpAny_bind (wpAny_rule (wpAny_pure ⟨rfl,rfl,pre++[i],by rw[hp,bC];rfl,λj hj f hf=>?_⟩))
    rcases bD.mp hj with hj | hj
    ·exact An j hj f hf
    ·rw [aH.mp hj,he] at hf
     cases hf
     exact hy
  ·rintro b t ⟨rfl,rfl,pre,hp,An⟩
   exact wpAny_pure (fin pre (by rw[hp,cF]) An)
 have nd:(plcs es n).Nodup:=List.nodup_range.filter _
 have Ho:¬(es.any λe=>e.key == u&&e.hash != n)=true:=by
  rw[<-Array.any_toList,eC]
  rintro⟨e,he,hc⟩
  simp only[cB,beq_iff_eq,bne_iff_ne,ne_eq]at hc
  exact hc.2 (L.st e (Array.mem_toList_iff.mp he) hc.1)
 unfold dictFind
 try with_reducible refine wpAny_holding ?_
 refine wpAny_bind (wpAny_dictEntries ho hd ?_)
 dsimp only
 by_cases Aq:((u::(plcs es n).filterMap λi=>es[i]?.map (·.key)).all carriedByValue)=true
 ·have q:=L.odd
  cases u<;>dsimp only<;>first
   |(rw[if_pos Aq];exact plain)
   |(rw[if_neg (λz=>q rfl z),if_pos Aq];exact plain)
 ·have q:=L.odd
  have tail:∀g:Bool->Sem (Option Nat),wpAny (model P w) A (g false) Q E s->wpAny (model P w) A (if((plcs es n).filterMap (λi=>es[i]?.map (·.key)) == [u])=true then pure false >>= g else tableMayTell u ((plcs es n).filterMap λi=>es[i]?.map (·.key)) >>= g) Q E s:=λg hg=>by
   split
   ·exact wpAny_bind (wpAny_pure hg)
   ·exact wpAny_bind (g7 L hg)
  cases u<;>dsimp only<;>first
   |(rw[if_neg Aq];refine tail _ ?_)
   |(rw[if_neg (λz=>q rfl z),if_neg Aq];refine tail _ ?_)
   |(rw[if_neg Aq,if_neg Ho];refine tail _ ?_)
  all_goals
   rw[if_neg (by simp)]
   refine wpAny_bind (wpAny_forIn_list _ (λl b t=>t=s/\∃Bh pre,b=(none,Bh)/\plcs es n=pre++l/\((Bh=none/\∀i∈pre,∀e,es[i]? = some e->y e=false)\/∃j e,Bh=some j/\j∈pre/\es[j]? = some e/\y e=true)) _ ?_ ?_ _ _ ⟨rfl,none,[],rfl,rfl,.inl ⟨rfl,λ_ h=>nomatch h⟩⟩)
   ·rintro i l b t ⟨rfl,Bh,pre,rfl,hp,hh⟩
    obtain⟨e,he,hn⟩:=jV.mp (hp ▸ aG pre aA)
    have hi:i∉pre:=λz=>by
     rw[hp]at nd
     exact(dC.mp nd).2.2 i z i aA rfl
    rw[he]
    dsimp only
    rw[if_pos (by rw[hn];exact beq_self_eq_true _)]
    refine wpAny_bind (wpAny_dictEpoch ho hd (wpAny_bind (L.eq e (Array.mem_of_getElem? he) hn _ (wpAny_bind (wpAny_dictEpoch ho hd ?_)))))
    rw[if_neg (by simp)]
    cases hy:y e with
    |true =>
     rw[if_pos rfl]
     rcases hh with⟨rfl,An⟩ | ⟨j,f,rfl,hj,hf,Eh⟩
     ·rw [if_neg (by simp)]
      refine wpAny_bind (wpAny_rule ?_)
      split
      ·exact wpAny_pure (wpAny_pure (h1 i e he hn hy))
      ·exact wpAny_pure ⟨rfl,some i,pre++[i],rfl,by rw[hp,bC];rfl,.inr ⟨i,e,rfl,aG _ aA,he,hy⟩⟩
     ·obtain ⟨f',De,Bz⟩:=jV.mp (hp ▸ bG _ hj)
      rw[hf]at De
      cases De
      exact absurd (L.one i j e f he hf hn Bz hy Eh ▸ hj) hi
    |false =>
     rw[if_neg (by simp)]
     refine wpAny_bind (wpAny_rule ?_)
     rw[if_neg (by simp)]
     refine wpAny_pure ⟨rfl,Bh,pre++[i],rfl,by rw[hp,bC];rfl,?_⟩
     rcases hh with⟨h,An⟩ | ⟨j,f,h,hj,hf,Eh⟩
     ·refine .inl ⟨h,fun j hj f hf => ?_⟩
      rcases bD.mp hj with hj | hj
      ·exact An j hj f hf
      ·rw [aH.mp hj,he] at hf
       cases hf
       exact hy
     ·exact .inr ⟨j,f,h,bG _ hj,hf,Eh⟩
   ·rintro b t ⟨rfl,Bh,pre,rfl,hp,hh⟩
    rcases hh with⟨rfl,An⟩ | ⟨j,f,rfl,hj,hf,Eh⟩
    ·exact wpAny_pure (fin pre (by rw[hp,cF]) An)
    ·obtain ⟨f',De,Bz⟩:=jV.mp (hp ▸ bG _ hj)
     rw[hf]at De
     cases De
     exact wpAny_pure (h1 j f hf Bz Eh)
def DAt(h:Heap)(d:Addr)(es:Array DictEntry)(ep:Nat):Prop:=∃o,h.get? d=some o/\o.ExactDict/\o.data=.dict es ep
theorem DAt.ty{d:Addr}{es:Array DictEntry}{ep:Nat}(h:DAt s.heap d es ep):s.TypeIs (.ref d) "dict":=let ⟨o,ho,hc,_⟩:=h;⟨o,ho,hc.1⟩
def Got(es:Array DictEntry)(n:Int)(y:DictEntry->Bool)(r:Option Value):Prop:=
 (r=none/\∀(i:Nat) e,es[i]? = some e->e.hash=n->y e=false)\/∃(i:Nat) (e:DictEntry),es[i]? = some e/\e.hash=n/\y e=true/\r=some e.val
theorem Got.same{es:Array DictEntry}{n:Int}{y:DictEntry->Bool}{r r':Option Value}{u:Value}(L:Seek P w A E s es u n y)(h:Got es n y r)(h':Got es n y r'):r=r':=by
 rcases h with⟨rfl,h⟩ | ⟨i,e,he,hn,hy,rfl⟩
 ·rcases h' with ⟨rfl,_⟩ | ⟨i,e,he,hn,hy,rfl⟩
  ·rfl
  ·rw[h i e he hn]at hy;cases hy
 ·rcases h' with ⟨rfl,h⟩ | ⟨j,f,hf,Bz,hy',rfl⟩
  ·rw[h i e he hn]at hy;cases hy
  ·cases L.one i j e f he hf hn Bz hy hy'
   rw[he]at hf
   cases hf
   rfl
def kU(P:Program)(w:World)(A:Around)(E:eQ)(s:Shared)(u:Value)(n:Int)(t:Nat):Prop:=∀Q,Q n { s with toks:=t }->wpAny (model P w) A (pyHash u) Q E s
variable{d:Addr}{es:Array DictEntry}{ep:Nat}{u:Value}{n:Int}{y:DictEntry->Bool}{t:Nat}{r:Option Value}
theorem sE{Q:Option Value->Shared->Prop}(D:DAt s.heap d es ep)(hh:kU P w A E s u n t)(L:Seek P w A E { s with toks:=t } es u n y)(g:Got es n y r)(h:Q r { s with toks:=t }):wpAny (model P w) A (dictGet d u) Q E s:=by
 obtain⟨o,ho,hc,hd⟩:=D
 unfold dictGet
 try with_reducible refine wpAny_holding ?_
 refine wpAny_bind (hh _ (wpAny_bind (uV (s:={ s with toks:=t }) ho hd L (λAn=>?_) λi e he hn hy=>?_)))
 ·cases Got.same L g (.inl ⟨rfl,An⟩)
  exact wpAny_pure h
 ·cases Got.same L g (.inr ⟨i,e,he,hn,hy,rfl⟩)
  refine wpAny_bind (wpAny_dictEntries (s:={ s with toks:=t }) ho hd ?_)
  rw[he]
  exact wpAny_pure h
theorem aLf{Q:eQ}(D:DAt s.heap d es ep)(hs:(d == sysModules)=false)(hh:kU P w A.in1 E s u n t)(L:Seek P w A.in1 E { s with toks:=t } es u n y)(g:Got es n y r)(h:Q (.bool r.isSome) { s with toks:=t }):wpAny (model P w) A (compareOp .In u (.ref d)) Q E s:=by
 show wpAny _ _ (contains (.ref d) u >>= λb=>pure (Value.bool b)) Q E s
 refine wpAny_bind ?_
 unfold contains
 try with_reducible refine wpAny_holding ?_
 refine wpAny_bind (wpAny_specialOf D.ty slot_dict_contains.lookup ?_)
 show wpAny _ _ (if(some (Value.builtin "dict.__contains__") == some Value.none)=true then _ else _) _ E s
 rw[if_neg (by rw[beq_builtin_none];exact aE)]
 refine wpAny_bind (wpAny_callSpecialUnlessNone?_slot (name:=Str.ofString "__contains__") D.ty slot_dict_contains (wpAny_call_entry slot_dict_contains D.ty entry_dict_contains ?_ (args_dict_contains _ _)))
 show wpAny _ _ (dictGet d u >>= _) _ _ s
 refine wpAny_bind (sE D hh L g ?_)
 cases r with
 |some v=>exact wpAny_pure ⟨_,rfl,wpAny_truthy_bool (wpAny_pure h)⟩
 |none =>
  show wpAny _ _ (Builtin.Dict.pendingKey? d u >>= _) _ _ _
  exact wpAny_bind (wpAny_pendingKey_other hs (wpAny_pure ⟨_,rfl,wpAny_truthy_bool (wpAny_pure h)⟩))
theorem j2{Q:eQ}(D:DAt s.heap d es ep)(hs:(d == sysModules)=false)(hh:kU P w A.in1 E s u n t)(L:Seek P w A.in1 E { s with toks:=t } es u n y)(g:Got es n y r)(h:Q (.bool (!r.isSome)) { s with toks:=t }):wpAny (model P w) A (compareOp .NotIn u (.ref d)) Q E s:=by
 show wpAny _ _ (contains (.ref d) u >>= λb=>pure (Value.bool (!b))) Q E s
 refine wpAny_bind ?_
 unfold contains
 try with_reducible refine wpAny_holding ?_
 refine wpAny_bind (wpAny_specialOf D.ty slot_dict_contains.lookup ?_)
 show wpAny _ _ (if(some (Value.builtin "dict.__contains__") == some Value.none)=true then _ else _) _ E s
 rw[if_neg (by rw[beq_builtin_none];exact aE)]
 refine wpAny_bind (wpAny_callSpecialUnlessNone?_slot (name:=Str.ofString "__contains__") D.ty slot_dict_contains (wpAny_call_entry slot_dict_contains D.ty entry_dict_contains ?_ (args_dict_contains _ _)))
 show wpAny _ _ (dictGet d u >>= _) _ _ s
 refine wpAny_bind (sE D hh L g ?_)
 cases r with
 |some v=>exact wpAny_pure ⟨_,rfl,wpAny_truthy_bool (wpAny_pure h)⟩
 |none =>
  show wpAny _ _ (Builtin.Dict.pendingKey? d u >>= _) _ _ _
  exact wpAny_bind (wpAny_pendingKey_other hs (wpAny_pure ⟨_,rfl,wpAny_truthy_bool (wpAny_pure h)⟩))
theorem aBx{v:Value}{Q:eQ}(D:DAt s.heap d es ep)(hh:kU P w A.in1 E s u n t)(L:Seek P w A.in1 E { s with toks:=t } es u n y)(g:Got es n y (some v))(h:Q v { s with toks:=t }):wpAny (model P w) A (getItem (.ref d) u) Q E s:=by
 unfold getItem
 try with_reducible refine wpAny_holding ?_
 refine wpAny_bind (wpAny_sequenceKey D.ty (by decide) ?_)
 refine wpAny_bind (wpAny_callSpecial?_slot (name:=Str.ofString "__getitem__") D.ty slot_dict_getitem (wpAny_call_entry slot_dict_getitem D.ty entry_dict_getitem ?_ (args_dict_getitem _ _)))
 show wpAny _ _ (dictGet d u >>= _) _ _ s
 exact wpAny_bind (sE D hh L g (wpAny_pure ⟨v,rfl,wpAny_pure h⟩))
theorem aEu{v:Value}{Q:Unit->Shared->Prop}(D:DAt s.heap d es ep)(hz:es.size<=sizeLine)(hh:kU P w A.in1 E s u n t)(L:Seek P w A.in1 E { s with toks:=t } es u n y)(An:∀(i:Nat) e,es[i]? = some e->e.hash=n->y e=false)
  (h:∀h',DAt h' d (es.push ⟨n,u,v⟩) (ep+1)->Heap.SameBut d s.heap h'->Q () { s with heap:=h',toks:=t }):wpAny (model P w) A (setItem (.ref d) u v) Q E s:=by
 obtain⟨o,ho,hc,hd⟩:=id D
 unfold setItem
 try with_reducible refine wpAny_holding ?_
 refine wpAny_bind (wpAny_sequenceKey D.ty (by decide) ?_)
 refine wpAny_bind (wpAny_callSpecial?_slot (name:=Str.ofString "__setitem__") D.ty slot_dict_setitem (wpAny_call_entry slot_dict_setitem D.ty entry_dict_setitem ?_ (args_dict_setitem _ _ _)))
 show wpAny _ _ (Builtin.Dict.notOrdered "__setitem__" ⟨[.ref d,u,v],[]⟩ >>= _) _ _ s
 refine wpAny_bind (wpAny_notOrdered_dict D.ty ?_)
 show wpAny _ _ (dictSet d u v >>= _) _ _ s
 refine wpAny_bind ?_
 unfold dictSet
 try with_reducible refine wpAny_holding ?_
 refine wpAny_bind (hh _ ?_)
 unfold dictSetHashed
 try with_reducible refine wpAny_holding ?_
 refine wpAny_bind (uV (s:={ s with toks:=t }) ho hd L (λ_=>?_) λi e he hn hy=>by rw[An i e he hn]at hy;cases hy)
 refine wpAny_bind (wpAny_rule (wpAny_updateDictKeys (hz:=by omega) (s:={ s with toks:=t }) ho hd (wpAny_pure ⟨.none,rfl,wpAny_pure (h _ ⟨_,gX _ ho (Obj.isFreed_of_dict (Obj.data_mapDictKeys hd _)),hc.mapDictKeys _,Obj.data_mapDictKeys hd _⟩ (Heap.SameBut.update ..))⟩)))
theorem uM{Q:eQ}(hs:(d == sysModules)=false)(D:DAt s.heap d es ep)(h:Q (.ref s.heap.objs.size) { s with heap:=s.heap.push { cls:=.type "dict_keyiterator",data:=.fields #[.ref d,.int 0 0,.int es.size 0,.int ep 0] } }):wpAny (model P w) A (pyIter (.ref d)) Q E s:=by
 obtain⟨o,ho,hc,hd⟩:=id D
 refine wpAny_pyIter_slot D.ty F.slot_dict_iter (wpAny_call_entry F.slot_dict_iter D.ty F.entry_dict_iter ?_ (F.args_dict_iter_1 _))
 unfold Builtin.«dict.__iter__»
 refine wpAny_bind ?_
 unfold Builtin.Dict.dictSlotNone
 refine wpAny_bind (wpAny_notOrdered_dict D.ty (wpAny_pure ?_))
 show wpAny _ _ (Builtin.Dict.showsAll d >>= _) _ _ s
 unfold Builtin.Dict.showsAll
 rw[if_neg (by rw[hs];exact aE)]
 refine wpAny_bind (wpAny_pure (wpAny_bind (wpAny_dictEntries ho hd (wpAny_bind (wpAny_dictEpoch ho hd ?_)))))
 refine wpAny_bind (wpAny_newObj_type (wpAny_pure ⟨_,rfl, "dict_keyiterator",_,⟨_,aU _ rfl,rfl⟩,F.slot_dict_keyiterator_next.lookup,?_⟩))
 simpa [rawInt]using h
theorem gq_{it:Addr}{i:Nat}{Q:Option Value->Shared->Prop}(hh:es.size<=i->A.handled=none)(I:s.heap.IsKeyIter it d i es.size ep)(D:DAt s.heap d es ep)
  (h:∀e h',es[i]? = some e->h'.IsKeyIter it d (i+1) es.size ep->Heap.SameBut it s.heap h'->Q (some e.key) { s with heap:=h' })
  (h':∀h',es.size<=i->Heap.ExtBut it s.heap h'->Q none { s with heap:=h' }):wpAny (model P w) A (pyNext (.ref it)) Q E s:=by
 obtain⟨o,ho,hc,hd⟩:=id I
 obtain⟨od,Io,_,Cr⟩:=D
 have nm:∀{A:Around} {E:eQ} {Q:String->Shared->Prop},Q "dict_keyiterator" s->wpAny (model P w) A (typeNameOf (.ref it)) Q E s:=λq=>wpAny_typeNameOf_keyiter I.typeIs q
 have nm':∀{A:Around} {E:eQ} {Q:String->Shared->Prop},Q "dict_keyiterator" s->wpAny (model P w) A (typeNameOfWhole (.ref it)) Q E s:=λq=>wpAny_typeNameOfWhole_keyiter I.typeIs q
 unfold pyNext
 refine wpAny_bind (wpAny_attempt (wpAny_callSpecial?_slot (name:=Str.ofString "__next__") I.typeIs F.slot_dict_keyiterator_next (wpAny_call_entry F.slot_dict_keyiterator_next I.typeIs F.entry_dict_keyiterator_next ?_ (F.args_dict_keyiterator_next_1 _))))
 refine wpAny_bind (wpAny_pure (wpAny_bind (wpAny_bind (wpAny_bind ?_))))
 refine(by first | exact nm' | exact nm:∀{A:Around} {E:eQ} {Q:String->Shared->Prop},Q "dict_keyiterator" s->wpAny (model P w) A _ Q E s) (wpAny_pure (wpAny_bind (wpAny_fieldsOf ho hd ?_)))
 simp only[show Builtin.Dict_items.ownsTuple "dict_keyiterator" = false by decide,cK,if_false]
 change wpAny _ _ (if(Value.ref d == Value.none)=true then _ else _) _ _ s
 rw[if_neg (show ¬(Value.ref d == Value.none)=true from aE)]
 refine wpAny_bind (wpAny_pure (wpAny_bind (wpAny_dictEntries Io Cr ?_)))
 rw[if_neg (by simp)]
 refine wpAny_bind (wpAny_pure (wpAny_bind (wpAny_dictEpoch Io Cr ?_)))
 rw[if_neg (by simp)]
 refine wpAny_pure ?_
 simp only[show ¬((i:Int)<0)from by omega,if_false,fH]
 by_cases hi:es.size<=i
 ·simp only [Array.getElem?_eq_none hi]
  refine wpAny_bind (wpAny_bind ?_)
  refine(by first | exact nm' | exact nm:∀{A:Around} {E:eQ} {Q:String->Shared->Prop},Q "dict_keyiterator" s->wpAny (model P w) A _ Q E s) (wpAny_pure ?_)
  change wpAny _ _ (setField (.ref it) 0 .none >>= _) _ _ s
  refine wpAny_bind (wpAny_setField ho hd (by simp) ?_)
  change wpAny _ _ (newExc (.type "StopIteration") [] >>= _) _ _ _
  simp only[newExc,newTuple,raiseNew]
  refine wpAny_bind (wpAny_bind (wpAny_newObj_type (wpAny_bind (m:=firstArgMember _ _) (wpAny_of_eq (a:=Value.none) (by first | rfl | (simp only[firstArgMember];rfl)) (wpAny_newObj_type ?_ (by size_fits)))) (by size_fits)))
  refine wpAny_bind (wpAny_handled ?_)
  rw[show A.in1.handled=none from hh hi]
  refine wpAny_bind (wpAny_pure (wpAny_throw (wpAny_bind ?_)))
  exact wpAny_isInstance (T:= "StopIteration") (b:=true) ⟨_,aU _ rfl,rfl⟩ isSubtype_stop (wpAny_pure (h' _ hi (((Heap.SameBut.update ..).extBut.push _).push _)))
 ·have he:=Array.getElem?_eq_getElem (Nat.lt_of_not_le hi)
  simp only[he]
  refine wpAny_bind (wpAny_bind ?_)
  refine(by first | exact nm' | exact nm:∀{A:Around} {E:eQ} {Q:String->Shared->Prop},Q "dict_keyiterator" s->wpAny (model P w) A _ Q E s) (wpAny_pure (wpAny_bind (wpAny_isOneOf_keyiter I.typeIs ?_)))
  change wpAny _ _ (setField (.ref it) 1 (rawInt ((i:Int)+1)) >>= _) _ _ s
  have I':(s.heap.update it (Obj.mapFields (·.setIfInBounds 1 (rawInt ((i:Int)+1))))).IsKeyIter it d (i+1) es.size ep:=⟨_,gX _ ho (Obj.isFreed_of_fields (Obj.data_mapFields hd _)),(Obj.cls_mapFields ..).trans hc,by rw[Obj.data_mapFields hd];simp[rawInt]⟩
  refine wpAny_bind (wpAny_setField ho hd (by simp) (wpAny_bind (wpAny_holding (wpAny_bind (wpAny_isOneOf_keyiter (s:={ s with heap:=s.heap.update it (Obj.mapFields (·.setIfInBounds 1 (rawInt ((i:Int)+1)))) }) I'.typeIs ?_)))))
  exact wpAny_pure (wpAny_pure ⟨_,rfl,wpAny_pure (h _ _ he I' (Heap.SameBut.update ..))⟩)
theorem DAt.to{h h':Heap}(D:DAt h d es ep)(k:∀o,h.get? d=some o->h'.get? d=some o):DAt h' d es ep:=let ⟨o,ho,r⟩:=D;⟨o,k o ho,r⟩
theorem DAt.lt{h:Heap}(D:DAt h d es ep):d<h.objs.size:=let ⟨_,ho,_⟩:=D;aQ ho
theorem f8(hh:A.handled=none)(I d:Addr)(Bq:d≠I)(es:Array DictEntry)(ep:Nat):Walks P w A I [I,d] [I] es.size (λi v=>∃e,es[i]? = some e/\v=e.key) (λi h=>h.IsKeyIter I d i es.size ep/\DAt h d es ep)where
 sub:=λb hb=>by simp at hb;simp[hb]
 frame:=λ_ _ _ st hk=>⟨st.1.at λo e=>hk I (by simp) o e,st.2.to λo e=>hk d (by simp) o e⟩
 item:=λi s Q E hi st hQ=>gq_ (λz=>absurd hi (Nat.not_lt.mpr z)) st.1 st.2 (λf h' he a b=>hQ _ h' s.toks ⟨_,he,rfl⟩ ⟨a,st.2.to λo e=>b.extBut d o Bq e⟩ λc o hc e=>b.extBut c o (λz=>hc (by simp[z])) e) λ_ z=>absurd hi (Nat.not_lt.mpr z)
 done:=λs Q E st hQ=>gq_ (λ_=>hh) st.1 st.2 (λf _ he=>absurd (Array.getElem?_eq_some_iff.mp he).1 (dR _)) λh' _ b=>hQ h' s.toks λc o hc e=>b c o (λz=>hc (by simp[z])) e
 self:=λ_ _ _ _ st hQ=>wpAny_pyIter_keyiter st.1 hQ
theorem aEq(hs:(d == sysModules)=false):PySem.W.KdlSrc P w "dict" d d es.size (λi v=>∃e,es[i]? = some e/\v=e.key) (λh=>DAt h d es ep)where
 type:=λ_ D=>D.ty
 there:=λ_ D=>⟨D.lt,D.lt⟩
 keep:=λ_ _ D hk=>D.to λo e=>hk d (.inl rfl) o e
 notList:=by decide
 notTuple:=by decide
 hint:=λ_ _ _ _ D hq=>PySem.W.kdl_hint_dict D.ty hq
 iter:=λ_ _ hh D=>⟨_,_,(λ_ _ hq=>uM hs D hq),f8 hh _ d (cD D.lt) es ep,⟨⟨_,aU _ rfl,rfl,rfl⟩,D.to λo e=>aC _ e⟩⟩
theorem aGf{Q:eQ}(hs:(d == sysModules)=false)(D:DAt s.heap d es ep)(hz:(es.size:Int)<2^63)(h:∀t t',Q (.int es.size t) { s with toks:=t' }):wpAny (model P w) A (call (.builtin "len") [.ref d]) Q E s:=by
 refine Calls.call_function_entry kind_len plain_len entry_len (args_len1 _) ?_
 unfold Builtin.«len»
 refine wpAny_bind (m:=oneArg "len" _) (wpAny_pure (wpAny_bind (m:=callSpecial? (.ref d) (Str.ofString "__len__")) (wpAny_callSpecial?_slot (name:=Str.ofString "__len__") D.ty F.slot_dict_len (wpAny_call_entry F.slot_dict_len D.ty F.entry_dict_len ?_ (F.args_dict_len_1 _)))))
 obtain⟨o,ho,_,hd⟩:=D
 change wpAny _ _ (dictSize d >>= _) _ _ s
 unfold dictSize
 refine wpAny_bind (wpAny_bind (wpAny_dictEntries ho hd (wpAny_pure ?_)))
 change wpAny _ _ (Builtin.Dict.pendingCount d >>= _) _ _ s
 refine wpAny_bind (wpAny_pendingCount_other hs (wpAny_ret_mkInt ?_))
 refine wpAny_bind (wpAny_holding (wpAny_pure (wpAny_bind (wpAny_letGo ?_))))
 change wpAny _ _ (if((es.size:Nat):Int)<0 then _ else _) _ _ _
 rw[if_neg (by omega)]
 change wpAny _ _ (if((es.size:Nat):Int)>=2^63 then _ else _) _ _ _
 rw[if_neg (by omega)]
 exact wpAny_bind (wpAny_mkInt (wpAny_pure ⟨_,rfl,h _ _⟩))
end
inductive Key where
 |inl (i:Int) | inr (x:Str) | non | tru | ref (b:Addr) (x:Str)
 deriving DecidableEq
def pV:Key->Value->Bool
 | .inl k,v=>Value.isInt k v
 | .inr x,v=>Value.isStrOf x v
 |_,_=>false
def aRz(w:World):Key->Int
 | .inl k=>hashInt k
 | .inr x=>hashStr w x
 |_=>0
theorem bk_:∀{k:Key} {v:Value},pV k v=true->(∃i t,k=Key.inl i/\v=Value.int i t)\/(∃x t,k=Key.inr x/\v=Value.str x t)
 | .inl i,v,h=>by
  obtain⟨t,e⟩:=Value.isInt_shape (k:=i) (v:=v) h
  exact .inl ⟨i,t,rfl,e⟩
 | .inr x,v,h=>by
  obtain⟨t,e⟩:=Value.isStrOf_shape (x:=x) (v:=v) h
  exact .inr ⟨x,t,rfl,e⟩
theorem j7(i:Int)(t:Tok):pV (.inl i) (.int i t)=true:=by simp[pV,Value.isInt]
theorem j6(x:Str)(t:Tok):pV (.inr x) (.str x t)=true:=by simp[pV,Value.isStrOf]
theorem aLb(a b:Int):decide ((Key.inl a:Key)=Key.inl b)=(a == b):=by
 by_cases e:a=b
 ·subst e;simp
 ·have h:¬ (Key.inl a:Key)=Key.inl b:=fun q=>e (Key.inl.inj q)
  rw[dzF h]
  exact(beq_eq_false_iff_ne.mpr e).symm
theorem aKy(a b:Str):decide ((Key.inr a:Key)=Key.inr b)=decide (a=b):=by
 by_cases e:a=b
 ·subst e;simp
 ·have h:¬ (Key.inr a:Key)=Key.inr b:=fun q=>e (Key.inr.inj q)
  rw[dzF h,dzF e]
theorem aLa(a:Int)(b:Str):decide ((Key.inl a:Key)=Key.inr b)=false:=dzF (λq=>nomatch q)
theorem aKz(a:Str)(b:Int):decide ((Key.inr a:Key)=Key.inl b)=false:=dzF (λq=>nomatch q)
def cT(prog:Program)(w:World):PySem.KeyKind prog w Key where
 is:=pV
 hash:=aRz w
 inj:=λv a b ha hb=>by
  rcases bk_ ha with⟨i,t,rfl,rfl⟩ | ⟨x,t,rfl,rfl⟩
  ·rcases bk_ hb with ⟨j,u,rfl,e⟩ | ⟨y,u,rfl,e⟩
   ·injection e with e1 _;rw[e1]
   ·exact nomatch e
  ·rcases bk_ hb with ⟨j,u,rfl,e⟩ | ⟨y,u,rfl,e⟩
   ·exact nomatch e
   ·injection e with e1 _;rw[e1]
 byValue:=λk v h=>by
  rcases bk_ h with⟨i,t,rfl,rfl⟩ | ⟨x,t,rfl,rfl⟩<;>rfl
 pyHash:=λhv h=>by
  rcases bk_ hv with⟨i,t,rfl,rfl⟩ | ⟨x,t,rfl,rfl⟩
  ·exact wpAny_pyHash_int h
  ·exact wpAny_pyHash_str h
 eqBool:=λhu hv h=>by
  rcases bk_ hu with⟨i,t,rfl,rfl⟩ | ⟨x,t,rfl,rfl⟩
  ·rcases bk_ hv with ⟨j,u,rfl,rfl⟩ | ⟨y,u,rfl,rfl⟩
   ·rw[aLb]at h;exact wpAny_eqBool_int h
   ·rw[aLa]at h;exact SeqAt.EqAt.int_str i t y u _ _ _ _ h
  ·rcases bk_ hv with ⟨j,u,rfl,rfl⟩ | ⟨y,u,rfl,rfl⟩
   ·rw[aKz]at h;exact SeqAt.EqAt.str_int x t j u _ _ _ _ h
   ·rw[aKy]at h;exact wpAny_eqBool_str h
 «strs»:=λk x t v h=>by
  rcases bk_ h with⟨i,u,rfl,e⟩ | ⟨y,u,rfl,e⟩
  ·exact nomatch e
  ·injection e with e1 _
   subst e1
   cases v<;>rfl
theorem uH(prog:Program)(w:World)(i:Int)(t:Tok):(cT prog w).is (.inl i) (.int i t)=true:=j7 i t
theorem hp_(prog:Program)(w:World)(x:Str)(t:Tok):(cT prog w).is (.inr x) (.str x t)=true:=j6 x t
def RelV:V->Value->Prop
 | .non,u=>u=Value.none
 | .bl b,u=>u=Value.bool b
 | .int i,u=>∃t,u=Value.int i t
 | .str x,u=>∃t,u=Value.str x t
 | .byt b,u=>∃t,u=Value.bytes b t
 | .flt b,u=>∃t,u=Value.float b t
 | .ref a,u=>u=Value.ref a
 | .ty n,u=>u=Value.type n
abbrev Vals:List V->List Value->Prop:=Paired RelV
theorem Vals.length{xs:List V}{us:List Value}(r:Vals xs us):xs.length=us.length:=Paired.length r
theorem Vals.get:∀{xs:List V} {us:List Value} {i:Nat} {x:V},Vals xs us->xs[i]? = some x->∃u,us[i]? = some u/\RelV x u
 |_,_,_,_,.nil,e=>by simp at e
 |_,_,0,_,.cons r _,e=>by simp at e;subst e;exact⟨_,rfl,r⟩
 |_,_,i+1,x,.cons _ t,e=>by
  obtain⟨u,h1,h2⟩:=Vals.get (i:=i) (x:=x) t (by simpa using e)
  exact⟨u,by simpa using h1,h2⟩
theorem Vals.set{x:V}{u:Value}(r:RelV x u):∀{xs:List V} {us:List Value} (i:Nat),Vals xs us->Vals (xs.set i x) (us.set i u)
 |_,_,_,.nil=>.nil
 |_,_,0,.cons _ t=>.cons r t
 |_,_,i+1,.cons q t=>.cons q (Vals.set r i t)
theorem Vals.append:∀{xs ys:List V} {us ws:List Value},Vals xs us->Vals ys ws->Vals (xs++ys) (us++ws)
 |_,_,_,_,.nil,s=>s
 |_,_,_,_,.cons r t,s=>.cons r (Vals.append t s)
theorem Vals.take:∀{xs:List V} {us:List Value} (n:Nat),Vals xs us->Vals (xs.take n) (us.take n)
 |_,_,0,_=>.nil
 |_,_,_+1,.nil=>.nil
 |_,_,n+1,.cons r t=>.cons r (Vals.take n t)
theorem Vals.drop:∀{xs:List V} {us:List Value} (n:Nat),Vals xs us->Vals (xs.drop n) (us.drop n)
 |_,_,0,r=>r
 |_,_,_+1,.nil=>.nil
 |_,_,n+1,.cons _ t=>Vals.drop n t
def RelO:Option V->Option Value->Prop
 |some v,some u=>RelV v u
 |none,none=>True
 |_,_=>False
def KV{κ:Type}:List (κ×V)->List (κ×Value)->Prop:=Paired λ(p:κ×V) (q:κ×Value)=>p.1=q.1/\RelV p.2 q.2
def kV:Key->V
 | .inl i=>.int i
 | .inr x=>.str x
 | .non=>.non
 | .tru=>.bl true
 | .ref b _=>.ref b
def Key.odd:Key->Bool
 | .inl _=>false
 | .inr _=>false
 |_=>true
def dJ(kvs:List (Key×V)):Bool:=kvs.any λkv=>kv.1.odd
def eU:Key->Key->Bool
 | .inl _,.tru=>true
 | .tru,.inl _=>true
 | .ref b x,.ref c y=>!decide (b=c/\x=y)
 |_,_=>false
def qR(kvs:List (Key×V)):Prop:=kvs.Pairwise λp q=>p.1≠q.1/\eU p.1 q.1=false
noncomputable def khash (P:Program) (w:World):Key->Int
 | .inl i=>hashInt i
 | .inr x=>hashStr w x
 | .non=>0xFCA86420
 | .tru=>hashInt 1
 | .ref _ x=>tupleKeyHash (cT P w) [.inr x]
inductive HO where
 /-- a list -/
 |lst (xs:List V)
 /-- a tuple (never changes) -/
 |tup (xs:List V)
 /-- a dict whose keys are ints and texts;one whose keys are tuples of ints and texts (the empty one is both) -/
 |dK (kvs:List (Key×V)) | dT (kvs:List (List Key×V))
 /-- a set of ints: its members,its size -/
 |set (S:Int->Bool) (n:Nat)
 /-- an instance of the class at C,its dict at dx,its attributes -/
 |ins (C dx:Addr) (fs:List (Str×V))
 /-- the dict of the instance at x -/
 |own (x:Addr)
 /-- the dict of an exception -/
 |xd (fs:List (Str×V))
 /-- a bound method,f of x -/
 |met (f x:Addr)
 /-- a range object lo,lo+1,.. below hi -/
 |rng (lo hi:Int)
 /-- a thing that is known to the object (the script;a dict while a loop walks it): read,never written while it is so -/
 |frz (o:Obj) (u:HO)
 /-- a code object's table -/
 |tbl (ps:Array Value)
 /-- any other thing,by what is true of its one object (a def of one's own: SetO a S n:=HO.ext λh=>..) -/
 |ext (φ:Heap->Prop)
abbrev Hp:=Addr->Option HO
def upd(H:Hp)(a:Addr)(o:HO):Hp:=λb=>if b=a then some o else H b
theorem bU{H:Hp}{a:Addr}{o:HO}:upd H a o a=some o:=by unfold upd;rw[if_pos rfl]
theorem eJ{H:Hp}{a b:Addr}{o:HO}(h:b≠a):upd H a o b=H b:=by unfold upd;rw[if_neg h]
theorem yX{H:Hp}{a b:Addr}{o u:HO}(h:H a=some o)(h':H b=some u)(d:o≠u):a≠b:=by
 intro e;subst e;rw[h]at h';exact d (ozI h')
theorem vV{H:Hp}{a b:Addr}{o:HO}(h:H a=some o)(h':H b=none):a≠b:=by
 intro e;subst e;rw[h]at h';cases h'
def fL(H:Hp):Key->Prop
 | .ref b x=>H b=some (.tup [.str x])
 |_=>True
def iV(P:Program)(w:World)(H:Hp)(p:Key×V)(e:DictEntry):Prop:=e.hash=khash P w p.1/\RelV (kV p.1) e.key/\RelV p.2 e.val/\fL H p.1
def aSz(P:Program)(w:World)(H:Hp)(h:Heap)(a:Addr)(kvs:List (Key×V)):Prop:=dJ kvs=true/\qR kvs/\∃es ep,DAt h a es ep/\Paired (iV P w H) kvs es.toList
section
variable(P:Program)(w:World)
def ObjOk(H:Hp)(h:Heap)(a:Addr):HO->Prop
 | .lst xs=>xs.length<=sizeLine/\∃(its:List Value) (n:Nat),Vals xs its/\h.get? a=some { cls:=.type "list",data:=.seq its.toArray n }
 | .tup xs=>xs.length<=sizeLine/\∃its:List Value,Vals xs its/\IsTup h a its.toArray
 | .dK kvs=>kvs.length<=sizeLine/\(a == sysModules)=false/\((∃vs,KV kvs vs/\h.DictOf (cT P w) a vs)\/aSz P w H h a kvs)
 | .dT kvs => kvs.length ≤ sizeLine ∧ (a == sysModules) = false ∧ ∃ xs : List (List Key × Addr × Value),
   Paired (λ(p:List Key×V) (q:List Key×Addr×Value)=>p.1=q.1/\H q.2.1=some (.tup (p.1.map kV))/\RelV p.2 q.2.2) kvs xs /\
   ∃o es ep,h.get? a=some o/\o.ExactDict/\o.data=.dict es ep/\es.toList=xs.map (entryOfKey (tupleKind (cT P w)))/\(xs.map (·.1)).Nodup
 | .set S n=>h.SetOf (intKind P w) a S n
 | .ins C dx fs => H dx = some (.own a) ∧ fs.length ≤ 1000 ∧ dx ≠ a ∧ h.get? a = some (PySem.W.instObj C dx) ∧
   ∃mA,h.Ns1 dx mA/\(∀f,RelO (fs.lookup f) (mA f))/\PySem.Within mA (fs.map (·.1))
 | .own _=>∃o,h.get? a=some o
 | .xd fs=>∃mA,h.Ns1 a mA/\∀f,RelO (fs.lookup f) (mA f)
 | .rng lo hi=>∃t u v,h.get? a=some { cls:=.type "range",data:=.fields #[.int lo t,.int hi u,.int 1 v] }
 | .frz o u=>h.get? a=some o/\ObjOk H h a u
 | .tbl ps=>h.get? a=some { cls:=.none,data:=.fields ps }
 | .met f x=>h.get? a=some (PySem.W.methodObj (.ref f) (.ref x))
 | .ext φ=>φ h/\(∃o,h.get? a=some o)/\∀h1 h2:Heap,φ h1->(∀o,h1.get? a=some o->h2.get? a=some o)->φ h2
def HOk(H:Hp)(h:Heap):Prop:=∀a o,H a=some o->ObjOk P w H h a o
end
section
variable{P:Program}{w:World}{H H':Hp}{h h':Heap}{a:Addr}{o:HO}
theorem ObjOk.lt(x:ObjOk P w H h a o):a<h.objs.size:=by
 cases o with
 |lst xs=>obtain⟨_,_,_,_,e⟩:=x;exact aQ e
 |tup xs=>obtain⟨_,_,_,p⟩:=x;exact p.lt
 |dK kvs =>
  rcases x with⟨_,_,⟨_,_,o,_,_,e,_⟩ | ⟨_,_,_,_,⟨o,e,_⟩,_⟩⟩<;>exact aQ e
 |dT kvs=>obtain⟨_,_,_,_,o,_,_,e,_⟩:=x;exact aQ e
 |set S n=>obtain⟨o,_,_,_,e,_⟩:=x;exact aQ e
 |ins C dx fs=>obtain⟨_,_,_,e,_⟩:=x;exact aQ e
 |own y=>obtain⟨_,e⟩:=x;exact aQ e
 |xd fs=>obtain⟨_,⟨_,_,_,e,_⟩,_⟩:=x;exact aQ e
 |rng lo hi=>obtain⟨_,_,_,e⟩:=x;exact aQ e
 |frz ob u=>obtain⟨e,_⟩:=x;exact aQ e
 |tbl ps=>exact aQ (show h.get? a=some _ from x)
 |met f y=>exact aQ (show h.get? a=some _ from x)
 |ext φ=>obtain⟨_,⟨_,e⟩,_⟩:=x;exact aQ e
theorem fu_{kvs:List (Key×V)}(x:ObjOk P w H h a (.dK kvs)):∃o es ep,h.get? a=some o/\o.ExactDict/\o.data=.dict es ep:=by
 rcases x with⟨_,_,⟨_,_,o,es,ep,e,c,d,_⟩ | ⟨_,_,es,ep,⟨o,e,c,d⟩,_⟩⟩<;>exact⟨o,es,ep,e,c,d⟩
theorem Paired.mapP{α β:Type}{F G:α->β->Prop}:∀{l₁:List α} {l₂:List β},Paired F l₁ l₂->(∀a b,F a b->G a b)->Paired G l₁ l₂
 |_,_,.nil,_=>.nil
 |_,_,.cons r t,f=>.cons (f _ _ r) (Paired.mapP t f)
theorem ObjOk.stay(x:ObjOk P w H h a o)(k:∀b u,(b=a\/H b=some (.own a))->h.get? b=some u->h'.get? b=some u)
  (ho:∀b,H b=some (.own a)->H' b=some (.own a)) (ht:∀b xs,H b=some (.tup xs)->H' b=some (.tup xs)):ObjOk P w H' h' a o:=by
 induction o with
 |lst xs=>obtain⟨z,its,n,r,e⟩:=x;exact⟨z,its,n,r,k _ _ (.inl rfl) e⟩
 |tup xs=>obtain⟨z,its,r,ob,e,c⟩:=x;exact⟨z,its,r,ob,k _ _ (.inl rfl) e,c⟩
 |dK kvs =>
  rcases x with⟨z,y,⟨vs,r,ob,es,ep,e,c⟩ | ⟨od,ap,es,ep,⟨ob,e,c⟩,r⟩⟩
  ·exact⟨z,y,.inl ⟨vs,r,ob,es,ep,k _ _ (.inl rfl) e,c⟩⟩
  ·refine ⟨z,y,.inr ⟨od,ap,es,ep,⟨ob,k _ _ (.inl rfl) e,c⟩,Paired.mapP r fun p q u=>⟨u.1,u.2.1,u.2.2.1,?_⟩⟩⟩
   obtain⟨⟨kk,v⟩,hk⟩:∃x,p=x:=⟨_,rfl⟩
   subst hk
   have:=u.2.2.2
   cases kk<;>first | exact True.intro | exact ht _ _ this
 |dT kvs =>
  obtain⟨z,y,xs,r,ob,es,ep,e,c⟩:=x
  exact⟨z,y,xs,Paired.mapP r λp q z=>⟨z.1,ht _ _ z.2.1,z.2.2⟩,ob,es,ep,k _ _ (.inl rfl) e,c⟩
 |set S n=>obtain⟨ob,es,ep,t,e,c⟩:=x;exact⟨ob,es,ep,t,k _ _ (.inl rfl) e,c⟩
 |ins C dx fs =>
  obtain⟨d,z,ne,e,mA,⟨od,es,ep,e2,c⟩,r⟩:=x
  exact⟨ho _ d,z,ne,k _ _ (.inl rfl) e,mA,⟨od,es,ep,k _ _ (.inr d) e2,c⟩,r⟩
 |own y=>obtain⟨ob,e⟩:=x;exact⟨ob,k _ _ (.inl rfl) e⟩
 |xd fs=>obtain⟨mA,⟨od,es,ep,e,c⟩,r⟩:=x;exact⟨mA,⟨od,es,ep,k _ _ (.inl rfl) e,c⟩,r⟩
 |rng lo hi=>obtain⟨t,u,v,e⟩:=x;exact⟨t,u,v,k _ _ (.inl rfl) e⟩
 |frz ob u ih=>obtain⟨e,q⟩:=x;exact⟨k _ _ (.inl rfl) e,ih q⟩
 |tbl ps =>
  have e:h.get? a=some { cls:=.none,data:=.fields ps }:=x
  show h'.get? a=some { cls:=.none,data:=.fields ps }
  exact k a _ (.inl rfl) e
 |met f y =>
  have e:h.get? a=some (PySem.W.methodObj (.ref f) (.ref y)):=x
  show h'.get? a=some (PySem.W.methodObj (.ref f) (.ref y))
  exact k a _ (.inl rfl) e
 |ext φ=>obtain⟨p,⟨o,e⟩,st⟩:=x;exact⟨st _ _ p λo q=>k _ _ (.inl rfl) q,⟨o,k _ _ (.inl rfl) e⟩,st⟩
theorem HOk.lt(x:HOk P w H h)(e:H a=some o):a<h.objs.size:=(x a o e).lt
theorem HOk.fresh(x:HOk P w H h)(e:h.objs.size<=a):H a=none:=by
 cases q:H a with
 |none=>rfl
 |some u=>exact absurd (bF (x.lt q) e) (dR _)
theorem HOk.kept(x:HOk P w H h)(k:∀b u,h.get? b=some u->h'.get? b=some u):HOk P w H h':=λa o e =>
 (x a o e).stay (λb u _ q=>k b u q) (λ_ q=>q) λ_ _ q=>q
theorem HOk.laid(x:HOk P w H h)(k:∀b u,h.get? b=some u->h'.get? b=some u)(hp:h.objs.size<=a)(new:ObjOk P w (upd H a o) h' a o):HOk P w (upd H a o) h':=λb u e=>by
 have hn:=x.fresh hp
 by_cases hb:b=a
 ·subst hb;rw[bU]at e;cases e;exact new
 ·rw [eJ hb] at e
  exact(x b u e).stay (λc v _ q=>k c v q) (λc q=>by rw[eJ (vV q hn)];exact q) λc xs q=>by rw[eJ (vV q hn)];exact q
end
def Rd(H:Hp)(a:Addr)(u:HO):Prop:=H a=some u\/∃o,H a=some (.frz o u)
theorem Rd.ok{P:Program}{w:World}{H:Hp}{h:Heap}{a:Addr}{u:HO}(r:Rd H a u)(x:HOk P w H h):ObjOk P w H h a u:=by
 rcases r with r | ⟨o,r⟩
 ·exact x a u r
 ·obtain ⟨_,q⟩:=x a _ r
  exact q
def Mut:Option HO->Prop
 |some (.lst _)=>True
 |some (.dK _)=>True
 |some (.dT _)=>True
 |some (.set _ _)=>True
 |some (.ins _ _ _)=>True
 |some (.ext _)=>True
 |_=>False
section
variable{P:Program}{w:World}{H:Hp}{h h':Heap}{x e:Addr}{o':HO}
theorem HOk.write(ok:HOk P w H h)(mu:Mut (H x))(he:e=x\/H e=some (.own x))(k:∀b u,b≠e->h.get? b=some u->h'.get? b=some u)(Ed:∃u,h'.get? e=some u)
  (new:ObjOk P w (upd H x o') h' x o'):HOk P w (upd H x o') h':=λb u q=>by
 have nown:∀c y,H c=some (.own y)->c≠x:=λc y r z=>by subst z;rw[r]at mu;exact mu
 have ntup:∀c xs,H c=some (.tup xs)->c≠x:=λc xs r z=>by subst z;rw[r]at mu;exact mu
 by_cases hb:b=x
 ·subst hb;rw[bU]at q;cases q;exact new
 ·rw [eJ hb] at q
  by_cases D6:b=e
  ·have q':H b=some (.own x):=by
    rcases he with z | z
    ·exact absurd (D6.trans z) hb
    ·rw[D6];exact z
   rw[q]at q';cases q'
   obtain⟨v,hv⟩:=Ed
   exact⟨v,by rw[D6];exact hv⟩
  ·refine (ok b u q).stay (fun c v hc r=>k c v ?_ r) (fun c r=>by rw [eJ (nown c b r)]; exact r) fun c xs r=>by rw [eJ (ntup c xs r)]; exact r
   rcases hc with rfl | hc
   ·exact D6
   ·rintro rfl
    rcases he with z | z
    ·exact nown c b hc z
    ·rw[hc]at z;cases z;exact hb rfl
end
structure Un(fs ex:List Addr)(H H':Hp)(h h':Heap):Prop where
 keep:∀b o,h.get? b=some o->H b=none->b∉fs->b∉ex->h'.get? b=some o
 slot:∀b o,h.get? b=some o->H b=none->b∈fs->b∉ex->∃sl,h'.get? b=some { o with slots:=sl }
 free:∀b o,h.get? b=some o->H b=none->b∉ex->H' b=none
 there:∀b o,h.get? b=some o->b∉ex->∃o',h'.get? b=some o'
 tups:∀b xs,H b=some (.tup xs)->H' b=some (.tup xs)
 frzs:∀b o u,H b=some (.frz o u)->H' b=some (.frz o u)
 tbls:∀b ps,H b=some (.tbl ps)->∃more,H' b=some (.tbl (ps++more))
section
variable{fs fs' ex ex':List Addr}{H H1 H2:Hp}{h h1 h2 h':Heap}{a x e:Addr}{o:HO}
theorem Un.any(u:Un fs ex H H1 h h1){b:Addr}{ob:Obj}(q:h.get? b=some ob)(n:H b=none)(hx:b∉ex):∃sl,h1.get? b=some { ob with slots:=sl }:=by
 by_cases hb:b∈fs
 ·exact u.slot b ob q n hb hx
 ·exact⟨ob.slots,u.keep b ob q n hb hx⟩
theorem Un.kept(k:∀b u,h.get? b=some u->h'.get? b=some u):Un fs ex H H h h':=
 ⟨λb ob q _ _ _=>k b ob q,λb ob q _ _ _=>⟨ob.slots,k b ob q⟩,λ_ _ _ n _=>n,λb ob q _=>⟨ob,k b ob q⟩,λ_ _ q=>q,λ_ _ _ q=>q,λ_ ps q=>⟨#[],by rw[q];simp⟩⟩
theorem Un.refl:Un fs ex H H h h:=Un.kept λ_ _ q=>q
theorem Un.laid(k:∀b u,h.get? b=some u->h'.get? b=some u)(hp:h.objs.size<=a)(hn:H a=none):Un fs ex H (upd H a o) h h' where
 keep:=λb u q _ _ _=>k b u q
 slot:=λb u q _ _ _=>⟨u.slots,k b u q⟩
 free:=λb u q n _=>by rw[eJ (cD (bF (aQ q) hp))];exact n
 there:=λb u q _=>⟨u,k b u q⟩
 tups:=λb xs q=>by rw[eJ (vV q hn)];exact q
 frzs:=λb u xs q=>by rw[eJ (vV q hn)];exact q
 tbls:=λb ps q=>⟨#[],by rw[eJ (vV q hn),q];simp⟩
theorem Un.write(mu:Mut (H x))(he:e=x\/H e=some (.own x))(k:∀b u,b≠e->h.get? b=some u->h'.get? b=some u)(Ed:∃u,h'.get? e=some u):Un fs ex H (upd H x o) h h':=by
 have hx:∀b,H b=none->b≠x:=λb n z=>by subst z;rw[n]at mu;exact mu
 have hb:∀b,H b=none->b≠e:=λb n z=>by
  subst z
  rcases he with r | r
  ·exact hx b n r
  ·rw[n]at r;cases r
 have hm:∀b u,H b=some u->¬Mut (some u)->b≠x:=λb u q nm z=>by subst z;rw[q]at mu;exact nm mu
 refine⟨λb u q n _ _=>k b u (hb b n) q,λb u q n _ _=>⟨u.slots,k b u (hb b n) q⟩,λb u q n _=>by rw[eJ (hx b n)];exact n,λb u q _=>?_,
  λb xs q=>by rw[eJ (hm b _ q λz=>z)];exact q,λb u xs q=>by rw[eJ (hm b _ q λz=>z)];exact q,λb ps q=>⟨#[],by rw[eJ (hm b _ q λz=>z),q];simp⟩⟩
 by_cases D6:b=e
 ·subst D6;exact Ed
 ·exact⟨u,k b u D6 q⟩
end
def trk(h:Heap)(H:Hp):List Addr:=(List.range h.objs.size).filter λa=>(H a).isSome
def sA(h:Heap)(H:Hp):Heap:=PySem.W.hideAll h (trk h H)
theorem k7(h:Heap)(H:Hp):(sA h H).objs.size=h.objs.size:=PySem.W.hideAll_size _ _
theorem aCd{h:Heap}{H:Hp}{b:Addr}{o:Obj}(e:h.get? b=some o)(n:H b=none):(sA h H).get? b=some o:=
 PySem.W.hideAll_get _ e λhm=>by
  have q:(H b).isSome=true:=(List.mem_filter.mp hm).2
  rw[n]at q;simp at q
theorem aFs{h:Heap}{H:Hp}{b:Addr}{o:Obj}(e:(sA h H).get? b=some o):h.get? b=some o/\H b=none:=by
 have e':h.get? b=some o:=PySem.W.of_hideAll (trk h H) e
 refine⟨e',?_⟩
 cases q:H b with
 |none=>rfl
 |some x =>
  have hm:b∈trk h H:=List.mem_filter.mpr ⟨gK.mpr (aQ e'),by simp[q]⟩
  have z:(sA h H).get? b=none:=PySem.W.hideAll_none (trk h H) hm
  rw[z]at e;cases e
def aHg(g h:Heap)(L:Addr):List (Addr×Obj):=(List.range h.objs.size).filterMap λa=>if a=L\/(g.get? a).isSome=true then none else(h.get? a).map λo=>(a,o)
def rest(g h:Heap)(L d:Addr):List (Addr×Obj):=(aHg g h L).filter λp=>decide (p.1≠d)
structure Mod(K:dQ)(mg:lG)(base:Heap):Prop where
 kin:K.In base
 glob:base.Ns mainGlobals mg
 blt:∃mb,base.Ns builtinsNs mb/\∀x:Str,x ≠ "__name__" -> mb x=bootBuiltins x
 nolimit:base.NoLimit
structure Cx where
 prog:Program
 w:World
 K:PySem.W.Frag
 mg:Str->Option Value
 base:Heap
 A:Around
 N:List Str
 s₀:Shared
 H₀:Hp
 env:Env
 outer:List Env
 stack:List Env
 ex:List Addr
 fn:Str->Bool
 calm:Bool
 pn:List (Addr×Obj)
 xe:Value->Shared->Prop
def frs(l:List Env):List Addr:=l.filterMap (·.frame)
abbrev Cx.fs(X:Cx):List Addr:=frs X.outer
def Vis(sc:Scope)(x:Str):Prop:=sc.names.lookup x=some .local\/sc.names.lookup x=some .cell\/sc.names.lookup x=some .free
def Loc(sc:Scope)(x:Str):Prop:=sc.names.lookup x=some .local\/sc.names.lookup x=some .cell
def aTa(env:Env)(h:Heap)(m:lG)(x:Str)(u:Value):Prop:=
 (env.kindOf x=some .local/\m x=some u)\/((env.kindOf x=some .cell\/env.kindOf x=some .free)/\∃c,env.cells.lookup x=some c/\h.IsCell c (some u))
structure Cx.Ok(X:Cx):Prop where
 mod:Mod X.K X.mg X.base
 kind:X.env.scope.kind=.function
 glob:X.env.globals=mainGlobals
 blt:X.env.builtins=builtinsNs
 above:X.s₀.heap.objs.size<=X.env.locals
 inj:∀x y c,X.env.cells.lookup x=some c->X.env.cells.lookup y=some c->x=y
 has:∀x,(X.env.kindOf x=some .cell\/X.env.kindOf x=some .free)->∃c,X.env.cells.lookup x=some c
 cab:∀x c,X.fn x=true->X.env.cells.lookup x=some c->X.s₀.heap.objs.size<=c
 hd:X.calm=true->X.A.handled=none
 frames:X.A.frames=some X.stack
 stk:X.stack=X.outer\/(X.stack=X.env::X.outer/\X.env.frame=some X.env.locals)
 exf:∀b∈X.ex,b≠X.env.locals/\∀x c,X.env.cells.lookup x=some c->c≠b
 bs:∀b o,X.base.get? b=some o->X.s₀.heap.get? b=some o/\X.H₀ b=none
 bsz:X.base.objs.size<=X.s₀.heap.objs.size
 noex:∀b o,X.base.get? b=some o->b∉X.ex
 exfs:∀b∈X.ex,b∉X.fs
 funs:X.s₀.heap.FunFrames X.base X.outer
 frf:∀b∈X.fs,X.H₀ b=none
structure Inv(X:Cx)(Aa:eS)(σ:List (Option V))(H:Hp)(s:Shared):Prop where
 ok:X.Ok
 os:s.os=X.s₀.os
 bare:AllBare s.gens
 base:Un X.fs X.ex X.H₀ H X.s₀.heap s.heap
 loc:∃m,s.heap.Ns X.env.locals m/\∀(i:Nat) (x:Str) (v:V),X.N[i]? = some x->σ[i]? = some (some v)->Vis X.env.scope x->∃u,RelV v u/\aTa X.env s.heap m x u
 cell:∀x c,X.env.cells.lookup x=some c->∃v,s.heap.IsCell c v
 free:H X.env.locals=none
 freeC:∀x c,X.env.cells.lookup x=some c->H c=none
 pin:∀p∈X.pn++Aa,s.heap.get? p.1=some p.2/\H p.1=none/\p.1≠X.env.locals/\p.1∉X.fs/\∀v,p.2.data ≠ .cell v
 hok:HOk X.prog X.w H s.heap
 len:σ.length=X.N.length
section
variable{X:Cx}{Aa:eS}{σ:List (Option V)}{H H':Hp}{s:Shared}{h':Heap}
theorem Cx.Ok.nofr(ok:X.Ok){b:Addr}{o:Obj}(e:X.base.get? b=some o):b∉X.fs:=λhb=>by
 have:=(ok.funs.mem hb).1
 rw[e]at this;cases this
theorem Inv.bs(I:Inv X Aa σ H s):∀b o,X.base.get? b=some o->s.heap.get? b=some o/\H b=none:=λb o e =>
 ⟨I.base.keep b o (I.ok.bs b o e).1 (I.ok.bs b o e).2 (I.ok.nofr e) (I.ok.noex b o e),I.base.free b o (I.ok.bs b o e).1 (I.ok.bs b o e).2 (I.ok.noex b o e)⟩
theorem Inv.bk(I:Inv X Aa σ H s):∀b o,X.base.get? b=some o->s.heap.get? b=some o:=λb o e=>(I.bs b o e).1
theorem Inv.mod(I:Inv X Aa σ H s):Mod X.K X.mg X.base:=I.ok.mod
theorem Inv.kIn(I:Inv X Aa σ H s):X.K.In s.heap:=I.ok.mod.kin.keeps I.bk
theorem Inv.fr(I:Inv X Aa σ H s):∃m,Fr X.base X.env.locals s.heap m:=
 let ⟨m,hn,_⟩:=I.loc
 ⟨m,hn,I.bk,nzL I.ok.bsz I.ok.above⟩
theorem Inv.lt(I:Inv X Aa σ H s):X.env.locals<s.heap.objs.size:=let ⟨_,hn,_⟩:=I.loc;hn.lt
theorem Inv.sz(I:Inv X Aa σ H s):X.s₀.heap.objs.size<=s.heap.objs.size:=nzL I.ok.above (Nat.le_of_lt I.lt)
theorem Inv.nofs(I:Inv X Aa σ H s){a:Addr}(h:s.heap.objs.size<=a):a∉X.fs:=λhb=>by
 obtain⟨_,o,ho,_⟩:=I.ok.funs.mem hb
 exact absurd (bF (aQ ho) (nzL I.sz h)) (dR _)
theorem Inv.cne(I:Inv X Aa σ H s):∀x c,X.env.cells.lookup x=some c->c≠X.env.locals:=λx c e z=>by
 obtain⟨v,o,ho,hd⟩:=I.cell x c e
 obtain⟨m,⟨o',es,ep,Cd,Cn,_⟩,_⟩:=I.loc
 rw[z,Cd]at ho;cases ho;rw[Cn]at hd;cases hd
theorem Inv.funs(I:Inv X Aa σ H s):s.heap.FunFrames X.base X.outer:=by
 have all:∀(l:List Env),(∀b∈frs l,b∈X.fs)->X.s₀.heap.FunFrames X.base l->s.heap.FunFrames X.base l:=by
  intro l
  induction l with
  |nil=>intro _ _;trivial
  |cons env r ih =>
   intro hs hl
   obtain⟨hk,⟨L,o,hf,hn,ho,hd⟩,hr⟩:=hl
   have hL:L∈X.fs:=hs L (by unfold frs;rw[List.filterMap_cons,hf];exact aA)
   obtain⟨sl,e⟩:=I.base.slot L o ho (I.ok.frf L hL) hL λz=>I.ok.exfs L z hL
   exact⟨hk,⟨L,_,hf,hn,e,hd⟩,ih (λb hb=>hs b (by unfold frs;rw[List.filterMap_cons,hf];exact aB _ hb)) hr⟩
 exact all X.outer (λ_ hb=>hb) I.ok.funs
theorem Inv.stack(I:Inv X Aa σ H s):s.heap.FunFrames X.base X.stack:=by
 rcases I.ok.stk with e | ⟨e,hf⟩
 ·rw[e];exact I.funs
 ·rw [e]
  obtain⟨m,hn,_⟩:=I.loc
  refine .cons (by rw[I.ok.kind];decide) hf hn ?_ I.funs
  exact Heap.get?_none_of_le (nzL I.ok.bsz I.ok.above)
theorem Inv.stkSub(I:Inv X Aa σ H s):∀b∈frs X.stack,b∈X.env.locals::X.fs:=λb hb=>by
 rcases I.ok.stk with e | ⟨e,hf⟩
 ·rw[e]at hb;exact aB _ hb
 ·rw [e] at hb
  unfold frs at hb
  rw[List.filterMap_cons,hf]at hb
  exact hb
theorem Inv.stkFree(I:Inv X Aa σ H s):∀b∈frs X.stack,H b=none:=λb hb=>by
 rcases aF.mp (I.stkSub b hb)with e | hb
 ·rw[e];exact I.free
 ·obtain ⟨_,o,ho,_⟩:=I.ok.funs.mem hb
  exact I.base.free b o ho (I.ok.frf b hb) λz=>I.ok.exfs b z hb
theorem Inv.step{g':Array GenState}{t':Nat}{d':Drawn}{ch:List Addr}(I:Inv X Aa σ H s)
  (C9:∀b∈ch,(b∈X.ex\/X.s₀.heap.objs.size<=b)/\b≠X.env.locals/\(∀x c,X.env.cells.lookup x=some c->c≠b)/\∀p∈X.pn++Aa,p.1≠b)
  (keep:∀b o,b≠X.env.locals->b∉X.fs->b∉ch->s.heap.get? b=some o->H b=none->h'.get? b=some o)
  (slot:∀b o,b≠X.env.locals->b∈X.fs->b∉ch->s.heap.get? b=some o->H b=none->∃sl,h'.get? b=some { o with slots:=sl }) (free:∀b o,b∉ch->s.heap.get? b=some o->H b=none->H' b=none)
  (there:∀b o,b∉ch->s.heap.get? b=some o->∃o',h'.get? b=some o')
  (tups:∀b xs,H b=some (.tup xs)->H' b=some (.tup xs)) (frzs:∀b o u,H b=some (.frz o u)->H' b=some (.frz o u)) (tbls:∀b ps,H b=some (.tbl ps)->∃more,H' b=some (.tbl (ps++more)))
  (ns:∀m,s.heap.Ns X.env.locals m->h'.Ns X.env.locals m) (hok:HOk X.prog X.w H' h') (hg:AllBare g') :
  Inv X Aa σ H' { s with heap:=h',gens:=g',drawn:=d',toks:=t' }:=by
 have neL:∀b o,X.s₀.heap.get? b=some o->b≠X.env.locals:=λb o e=>cD (bF (aQ e) I.ok.above)
 have neC:∀b o,X.s₀.heap.get? b=some o->b∉X.ex->b∉ch:=λb o e hx hb=>by
  rcases(C9 b hb).1 with z | z
  ·exact hx z
  ·exact absurd (bF (aQ e) z) (dR _)
 have cellK:∀x c,X.env.cells.lookup x=some c->∀v,s.heap.IsCell c v->h'.IsCell c v:=λx c e v ⟨o,ho,hd⟩=>by
  have nch:c∉ch:=λz=>(C9 c z).2.2.1 x c e rfl
  by_cases hc:c∈X.fs
  ·obtain ⟨sl,q⟩:=slot c o (I.cne x c e) hc nch ho (I.freeC x c e)
   exact⟨_,q,hd⟩
  ·exact⟨o,keep c o (I.cne x c e) hc nch ho (I.freeC x c e),hd⟩
 refine⟨I.ok,I.os,hg,⟨λb o e n hb hx=>?_,λb o e n hb hx=>?_,λb o e n hx=>?_,λb o e hx=>?_,λb xs e=>tups b xs (I.base.tups b xs e),λb o xs e=>frzs b o xs (I.base.frzs b o xs e),λb ps e=>?_⟩,?_,λx c e=>?_,?_,λx c e=>?_,λp hp=>?_,hok,I.len⟩
 ·exact keep b o (neL b o e) hb (neC b o e hx) (I.base.keep b o e n hb hx) (I.base.free b o e n hx)
 ·obtain ⟨sl,e1⟩:=I.base.slot b o e n hb hx
  obtain⟨sl',e2⟩:=slot b _ (neL b o e) hb (neC b o e hx) e1 (I.base.free b o e n hx)
  exact⟨sl',e2⟩
 ·obtain ⟨o',e1⟩:=I.base.there b o e hx
  exact free b o' (neC b o e hx) e1 (I.base.free b o e n hx)
 ·obtain ⟨o',e1⟩:=I.base.there b o e hx
  exact there b o' (neC b o e hx) e1
 ·obtain ⟨m1,e1⟩:=I.base.tbls b ps e
  obtain⟨m2,e2⟩:=tbls b _ e1
  exact⟨m1++m2,by rw[e2,Array.append_assoc]⟩
 ·obtain ⟨m,hn,hl⟩:=I.loc
  refine⟨m,ns m hn,λi x v e1 e2 e3=>?_⟩
  obtain⟨u,r,l⟩:=hl i x v e1 e2 e3
  refine⟨u,r,?_⟩
  rcases l with l | ⟨k,c,e,z⟩
  ·exact .inl l
  ·exact .inr ⟨k,c,e,cellK x c e _ z⟩
 ·obtain ⟨v,z⟩:=I.cell x c e
  exact⟨v,cellK x c e v z⟩
 ·obtain ⟨m,⟨o,_,_,ho,_⟩,_⟩:=I.loc
  exact free _ o (λz=>(C9 _ z).2.1 rfl) ho I.free
 ·obtain ⟨v,o,ho,hd⟩:=I.cell x c e
  exact free c o (λz=>(C9 c z).2.2.1 x c e rfl) ho (I.freeC x c e)
 ·obtain ⟨e,n,ne,nf,d⟩:=I.pin p hp
  have nch:p.1∉ch:=λz=>(C9 p.1 z).2.2.2 p hp rfl
  exact⟨keep p.1 p.2 ne nf nch e n,free p.1 p.2 nch e n,ne,nf,d⟩
theorem Inv.un{t':Nat}(I:Inv X Aa σ H s)(u:Un X.fs [] H H' s.heap h')(hok:HOk X.prog X.w H' h'):Inv X Aa σ H' { s with heap:=h',toks:=t' }:=by
 obtain⟨m,⟨o,es,ep,ho,r⟩,_⟩:=id I.loc
 obtain⟨sl,hL⟩:=u.any ho I.free (by simp)
 exact I.step (g':=s.gens) (d':=s.drawn) (ch:=[]) (λ_ z=>nomatch z) (λb o _ hb _ e n=>u.keep b o e n hb (by simp)) (λb o _ hb _ e n=>u.slot b o e n hb (by simp)) (λb o _ e n=>u.free b o e n (by simp)) (λb o _ e=>u.there b o e (by simp)) u.tups u.frzs u.tbls (λm' hm=>by
  obtain⟨o',es',ep',Cd,r'⟩:=hm
  rw[ho]at Cd;cases Cd
  exact⟨_,es',ep',hL,r'⟩) hok I.bare
theorem Inv.call{g':Array GenState}{t':Nat}{d':Drawn}{ch:List Addr}(I:Inv X Aa σ H s)(u:Un (frs X.stack) ch H H' s.heap h')(hok:HOk X.prog X.w H' h')(hg:AllBare g')
  (C9:∀b∈ch,(b∈X.ex\/X.s₀.heap.objs.size<=b)/\b≠X.env.locals/\(∀x c,X.env.cells.lookup x=some c->c≠b)/\∀p∈X.pn++Aa,p.1≠b) :
  Inv X Aa σ H' { s with heap:=h',gens:=g',drawn:=d',toks:=t' }:=by
 obtain⟨m,⟨o,es,ep,ho,r⟩,_⟩:=id I.loc
 obtain⟨sl,hL⟩:=u.any ho I.free λz=>(C9 _ z).2.1 rfl
 exact I.step (ch:=ch) C9 (λb o hL hb hc e n=>u.keep b o e n (λz=>(aF.mp (I.stkSub b z)).elim hL hb) hc) (λb o _ _ hc e n=>u.any e n hc) (λb o hc e n=>u.free b o e n hc) (λb o hc e=>u.there b o e hc) u.tups u.frzs u.tbls (λm' hm=>by
  obtain⟨o',es',ep',Cd,r'⟩:=hm
  rw[ho]at Cd;cases Cd
  exact⟨_,es',ep',hL,r'⟩) hok hg
theorem Inv.turned{t':Nat}{it:Addr}(I:Inv X Aa σ H s)(k:∀b o,b≠it->s.heap.get? b=some o->h'.get? b=some o)(hn:H it=none)(hL:it≠X.env.locals)
  (h1:it∈X.ex\/X.s₀.heap.objs.size<=it) (h2:∀x c,X.env.cells.lookup x=some c->c≠it) (h3:∀p∈X.pn++Aa,p.1≠it):Inv X Aa σ H { s with heap:=h',toks:=t' }:=by
 have nit:∀b u,H b=some u->b≠it:=λb u e z=>by rw[z,hn]at e;cases e
 refine I.step (g':=s.gens) (d':=s.drawn) (ch:=[it]) (λb hb=>?_) (λb o _ _ hc e _=>k b o (λz=>hc (by simp[z])) e) (λb o _ _ hc e _=>⟨o.slots,k b o (λz=>hc (by simp[z])) e⟩) (λ_ _ _ _ n=>n)
  (λb o hc e=>⟨o,k b o (λz=>hc (by simp[z])) e⟩) (λ_ _ e=>e) (λ_ _ _ e=>e) (λb ps e=>⟨#[],by rw[e];simp⟩) (λm hm=>?_) (λb u e=>?_) I.bare
 ·have e:b=it:=by simpa using hb
  subst e
  exact⟨h1,hL,h2,h3⟩
 ·obtain ⟨o,es,ep,ho,r⟩:=hm
  exact⟨o,es,ep,k _ o (Ne.symm hL) ho,r⟩
 ·refine (I.hok b u e).stay (fun c v hc q=>k c v ?_ q) (fun _ q=>q) fun _ _ q=>q
  rcases hc with z | z
  ·rw[z];exact nit b u e
  ·exact nit c _ z
theorem Inv.tok(I:Inv X Aa σ H s)(t:Nat):Inv X Aa σ H { s with toks:=t }:=I.un (h':=s.heap) (t':=t) Un.refl I.hok
theorem Inv.kept{t':Nat}(I:Inv X Aa σ H s)(k:∀b u,s.heap.get? b=some u->h'.get? b=some u):Inv X Aa σ H { s with heap:=h',toks:=t' }:=I.un (Un.kept k) (I.hok.kept k)
theorem Inv.laid{a:Addr}{o:HO}{t':Nat}(I:Inv X Aa σ H s)(k:∀b u,s.heap.get? b=some u->h'.get? b=some u)(hp:s.heap.objs.size<=a)(new:ObjOk X.prog X.w (upd H a o) h' a o) :
  Inv X Aa σ (upd H a o) { s with heap:=h',toks:=t' }:=I.un (Un.laid k hp (I.hok.fresh hp)) (I.hok.laid k hp new)
theorem Inv.write{x e:Addr}{o:HO}{t':Nat}(I:Inv X Aa σ H s)(mu:Mut (H x))(he:e=x\/H e=some (.own x))(k:∀b u,b≠e->s.heap.get? b=some u->h'.get? b=some u)(Ed:∃u,h'.get? e=some u)
  (new:ObjOk X.prog X.w (upd H x o) h' x o):Inv X Aa σ (upd H x o) { s with heap:=h',toks:=t' }:=I.un (Un.write mu he k Ed) (I.hok.write mu he k Ed new)
theorem Inv.weak{σ':List (Option V)}(I:Inv X Aa σ H s)(hl:σ'.length=σ.length)(w:∀(i:Nat) v,σ'[i]? = some (some v)->σ[i]? = some (some v)):Inv X Aa σ' H s:=
 ⟨I.ok,I.os,I.bare,I.base,let ⟨m,hn,Cq⟩:=I.loc;⟨m,hn,λi x v e1 e2 e3=>Cq i x v e1 (w i v e2) e3⟩,I.cell,I.free,I.freeC,I.pin,I.hok,hl.trans I.len⟩
theorem Inv.pins_of{pins':eS}(I:Inv X Aa σ H s)(h:∀p∈pins',s.heap.get? p.1=some p.2/\H p.1=none/\p.1≠X.env.locals/\p.1∉X.fs/\∀v,p.2.data ≠ .cell v):Inv X pins' σ H s:=
 ⟨I.ok,I.os,I.bare,I.base,I.loc,I.cell,I.free,I.freeC,λp hp=>(bD.mp hp).elim (λz=>I.pin p (bG _ z)) (h p),I.hok,I.len⟩
theorem uE{N:List Str}(hN:N.Nodup){i j:Nat}{x:Str}(a:N[i]? = some x)(b:N[j]? = some x):i=j:=by
 obtain⟨h1,e1⟩:=aV.mp a
 obtain⟨h2,e2⟩:=aV.mp b
 exact(List.getElem_inj hN).mp (e1.trans e2.symm)
theorem pM{M:Model}{A:Around}{E:eQ}{i:Nat}{x:Str}{v:V}{u:Value}{Q:Unit->Shared->Prop}(I:Inv X Aa σ H s)(hN:X.N.Nodup)(hi:X.N[i]? = some x)(hx:Loc X.env.scope x)(r:RelV v u)
  (h:∀s',Inv X Aa (σ.set i (some v)) H s'->(∃a,Heap.SameBut a s.heap s'.heap/\(a=X.env.locals\/X.env.cells.lookup x=some a))->Q () s') (hf:X.fn x=true\/X.env.scope.names.lookup x=some .local:=by first | exact .inl rfl | exact .inr rfl | assumption):wpAny M A (storeName X.env x u) Q E s:=by
 obtain⟨m,hn,hl⟩:=id I.loc
 have Hm:(X.env.scope.kind == .class||(X.env.scope.kind == .module&&X.env.locals != X.env.globals))=false:=by rw[I.ok.kind];rfl
 have hiσ:i<σ.length:=by rw[I.len];exact(aV.mp hi).1
 have cne:=I.cne
 have tracked:∀{a:Addr} {h':Heap},(∃o,s.heap.get? a=some o/\H a=none)->Heap.SameBut a s.heap h'->HOk X.prog X.w H h':=λ{a h'} ha hs b ob e=>by
  obtain⟨_,_,Dm⟩:=ha
  refine(I.hok b ob e).stay (λc w' hc q=>(hs.2 c ?_).trans q) (λ_ q=>q) λ_ _ q=>q
  rintro rfl
  rcases hc with rfl | hc
  ·rw[Dm]at e;cases e
  ·rw[Dm]at hc;cases hc
 rcases hx with hk | hk
 ·refine wpAny_storeName_local hk hn (fun h' Bz hs => ?_) Hm
  obtain⟨oL,_,_,Eu,_⟩:=id hn
  refine h _ ⟨I.ok,I.os,I.bare,⟨λb o e n hb hx=>?_,λb o e n hb hx=>?_,I.base.free,λb o e hx=>?_,I.base.tups,I.base.frzs,I.base.tbls⟩,⟨_,Bz,λj y v' e1 e2 e3=>?_⟩,λy c e=>?_,I.free,I.freeC,λp hp=>?_,tracked ⟨oL,Eu,I.free⟩ hs,by simpa using I.len⟩ ⟨_,hs,.inl rfl⟩
  ·exact(hs.2 b (cD (bF (aQ e) I.ok.above))).trans (I.base.keep b o e n hb hx)
  ·obtain ⟨sl,e1⟩:=I.base.slot b o e n hb hx
   exact⟨sl,(hs.2 b (cD (bF (aQ e) I.ok.above))).trans e1⟩
  ·obtain ⟨o',e1⟩:=I.base.there b o e hx
   exact⟨o',(hs.2 b (cD (bF (aQ e) I.ok.above))).trans e1⟩
  ·by_cases hj:j=i
   ·subst hj
    rw[hi]at e1;cases e1
    rw[List.getElem?_set_self hiσ]at e2
    cases e2
    exact⟨u,r,.inl ⟨hk,by simp⟩⟩
   ·rw [dW (Ne.symm hj)] at e2
    obtain⟨u',r',q⟩:=hl j y v' e1 e2 e3
    refine⟨u',r',?_⟩
    rcases q with⟨k,e⟩ | ⟨k,c,e,z⟩
    ·refine .inl ⟨k,?_⟩
     have:y≠x:=λe=>hj (uE hN e1 (e ▸ hi))
     simp[this,e]
    ·exact .inr ⟨k,c,e,z.sameBut hs (cne y c e)⟩
  ·obtain ⟨w',z⟩:=I.cell y c e
   exact⟨w',z.sameBut hs (cne y c e)⟩
  ·obtain ⟨e,n,ne,nf,d⟩:=I.pin p hp
   exact⟨(hs.2 p.1 ne).trans e,n,ne,nf,d⟩
 ·have Hf:X.fn x=true:=by
   rcases hf with z | z
   ·exact z
   ·rw[z]at hk;cases hk
  obtain⟨c,hc⟩:=I.ok.has x (.inl hk)
  obtain⟨w',z⟩:=I.cell x c hc
  refine wpAny_storeName_cell I.ok.kind hk hc z (λh' Fc hs=>?_)
  obtain⟨oc,Db,Gr⟩:=id z
  refine h { s with heap:=h' } ⟨I.ok,I.os,I.bare,⟨λb o e n hb hx=>?_,λb o e n hb hx=>?_,I.base.free,λb o e hx=>?_,I.base.tups,I.base.frzs,I.base.tbls⟩,⟨m,hn.sameBut hs (Ne.symm (cne x c hc)),λj y v' e1 e2 e3=>?_⟩,λy c' e=>?_,I.free,I.freeC,λp hp=>?_,tracked ⟨oc,Db,I.freeC x c hc⟩ hs,by simpa using I.len⟩ ⟨c,hs,.inr hc⟩
  ·exact(hs.2 b (cD (bF (aQ e) (I.ok.cab x c Hf hc)))).trans (I.base.keep b o e n hb hx)
  ·obtain ⟨sl,e1⟩:=I.base.slot b o e n hb hx
   exact⟨sl,(hs.2 b (cD (bF (aQ e) (I.ok.cab x c Hf hc)))).trans e1⟩
  ·obtain ⟨o',e1⟩:=I.base.there b o e hx
   exact⟨o',(hs.2 b (cD (bF (aQ e) (I.ok.cab x c Hf hc)))).trans e1⟩
  ·by_cases hj:j=i
   ·subst hj
    rw[hi]at e1;cases e1
    rw[List.getElem?_set_self hiσ]at e2
    cases e2
    exact⟨u,r,.inr ⟨.inl hk,c,hc,Fc⟩⟩
   ·rw [dW (Ne.symm hj)] at e2
    obtain⟨u',r',q⟩:=hl j y v' e1 e2 e3
    refine⟨u',r',?_⟩
    rcases q with q | ⟨k,c',e,z'⟩
    ·exact .inl q
    ·refine .inr ⟨k,c',e,z'.sameBut hs ?_⟩
     rintro rfl
     exact hj (uE hN e1 (I.ok.inj _ _ _ e hc ▸ hi))
  ·by_cases Iw:c'=c
   ·subst Iw;exact⟨_,Fc⟩
   ·obtain ⟨w2,z2⟩:=I.cell y c' e
    exact⟨w2,z2.sameBut hs Iw⟩
  ·obtain ⟨e,n,ne,nf,d⟩:=I.pin p hp
   refine⟨(hs.2 p.1 ?_).trans e,n,ne,nf,d⟩
   intro q
   rw[q,Db]at e
   have q':oc=p.2:=ozI e
   exact d w' (by rw[<-q'];exact Gr)
theorem tL{M:Model}{A:Around}{E:eQ}{i:Nat}{x:Str}{v:V}{u:Value}{Q:Unit->Shared->Prop}(I:Inv X Aa σ H s)(hN:X.N.Nodup)(hi:X.N[i]? = some x)(hx:Loc X.env.scope x)(r:RelV v u)
  (h:∀s',Inv X Aa (σ.set i (some v)) H s'->Q () s') (hf:X.fn x=true\/X.env.scope.names.lookup x=some .local:=by first | exact .inl rfl | exact .inr rfl | assumption):wpAny M A (storeName X.env x u) Q E s:=
 pM I hN hi hx r (λs' I' _=>h s' I') hf
theorem Inv.call'{s':Shared}{ch:List Addr}(I:Inv X Aa σ H s)(ho:s'.os=s.os)(u:Un (frs X.stack) ch H H' s.heap s'.heap)(hok:HOk X.prog X.w H' s'.heap)(hg:AllBare s'.gens)
  (C9:∀b∈ch,(b∈X.ex\/X.s₀.heap.objs.size<=b)/\b≠X.env.locals/\(∀x c,X.env.cells.lookup x=some c->c≠b)/\∀p∈X.pn++Aa,p.1≠b):Inv X Aa σ H' s':=by
 obtain⟨h',g',d',t',o'⟩:=s'
 have e:o'=s.os:=ho
 subst e
 exact I.call (g':=g') (t':=t') (d':=d') u hok hg C9
end
abbrev XK:=Value->Option Addr->Hp->Prop
abbrev St:=List (Option V)
abbrev VK:=V->Hp->Prop
abbrev TE:=St->Hp->VK->Prop
abbrev TT:=St->Hp->(Bool->Hp->Prop)->Prop
abbrev TA:=St->Hp->(List V->Hp->Prop)->Prop
structure Ends where
 nx:St->Hp->Prop
 rt:VK
 bk:St->Hp->Prop:=λ_ _=>False
 ct:St->Hp->Prop:=λ_ _=>False
abbrev TS:=Ends->St->Hp->Prop
def EP(X:Cx)(Aa:eS)(σ:St)(Q:VK)(u:Value)(s':Shared):Prop:=∃v H',Inv X Aa σ H' s'/\RelV v u/\Q v H'
def TP(X:Cx)(Aa:eS)(σ:St)(Q:Bool->Hp->Prop)(b:Bool)(s':Shared):Prop:=∃H',Inv X Aa σ H' s'/\Q b H'
def AP(X:Cx)(Aa:eS)(σ:St)(Q:List V->Hp->Prop)(us:List Value)(s':Shared):Prop:=∃vs H',Inv X Aa σ H' s'/\Vals vs us/\Q vs H'
def SP(X:Cx)(Aa:eS)(D:Ends)(f:Flow)(s':Shared):Prop:=
 match f with
 | .next=>∃σ' H',Inv X Aa σ' H' s'/\D.nx σ' H'
 | .brk=>∃σ' H',Inv X Aa σ' H' s'/\D.bk σ' H'
 | .cont=>∃σ' H',Inv X Aa σ' H' s'/\D.ct σ' H'
 | .ret u=>∃v σ' H',Inv X Aa σ' H' s'/\RelV v u/\D.rt v H'
def PE(X:Cx)(e:Expr)(t:TE):Prop:=
 ∀(Aa:eS) (s:Shared) (σ:St) (H:Hp) (Q:VK),Inv X Aa σ H s->t σ H Q->wpAny (model X.prog X.w) X.A (eval e X.env) (EP X Aa σ Q) X.xe s
def PT(X:Cx)(e:Expr)(t:TT):Prop:=
 ∀(Aa:eS) (s:Shared) (σ:St) (H:Hp) (Q:Bool->Hp->Prop),Inv X Aa σ H s->t σ H Q->wpAny (model X.prog X.w) X.A (isTrue e X.env (eval e X.env)) (TP X Aa σ Q) X.xe s
def PW(X:Cx)(e:Expr)(t:TT):Prop:=
 ∀(whole:Sem Value) (Aa:eS) (s:Shared) (σ:St) (H:Hp) (Q:Bool->Hp->Prop),Inv X Aa σ H s->t σ H Q->wpAny (model X.prog X.w) X.A (isTrue e X.env whole) (TP X Aa σ Q) X.xe s
theorem PW.pt{X:Cx}{e:Expr}{t:TT}(h:PW X e t):PT X e t:=h _
def PA(X:Cx)(es:List Expr)(t:TA):Prop:=
 ∀(pos:Pos) (Aa:eS) (s:Shared) (σ:St) (H:Hp) (Q:List V->Hp->Prop),Inv X Aa σ H s->t σ H Q->wpAny (model X.prog X.w) X.A (spliced (backTo pos (starEach es X.env))) (AP X Aa σ Q) X.xe s
def PS(X:Cx)(st:Stmt)(t:TS):Prop:=
 ∀(Aa:eS) (s:Shared) (σ:St) (H:Hp) (D:Ends),Inv X Aa σ H s->t D σ H->wpAny (model X.prog X.w) X.A (exec st X.env) (SP X Aa D) X.xe s
def PSs(X:Cx)(st:List Stmt)(t:TS):Prop:=
 ∀(Aa:eS) (s:Shared) (σ:St) (H:Hp) (D:Ends),Inv X Aa σ H s->t D σ H->wpAny (model X.prog X.w) X.A (execs st X.env) (SP X Aa D) X.xe s
theorem dX{α:Type}{t:Sem α}{Q Q':α->Shared->Prop}{M:Model}{A:Around}{E:eQ}{s:Shared}(h:wpAny M A t Q E s)(hQ:∀a s,Q a s->Q' a s):wpAny M A t Q' E s:=wpAny_mono h hQ λ_ _ x=>x
section
variable{X:Cx}
def fQ(i:Nat):TE:=λσ H Q=>∃v,σ[i]? = some (some v)/\Q v H
def tC(v:V):TE:=λ_ H Q=>Q v H
theorem aJr{i:Nat}{x:Str}{pos:Pos}(hN:X.N[i]? = some x)(hv:Vis X.env.scope x)(hd:(x == ("__debug__" : Str))=false:=by decide)(C2:(x == ("__classdict__" : Str))=false:=by decide):PE X (.Name x pos) (fQ i):=by
 intro Aa s σ H Q I h
 obtain⟨v,e,h⟩:=h
 obtain⟨m,hn,hl⟩:=I.loc
 obtain⟨u,r,l⟩:=hl i x v hN e hv
 have fin:EP X Aa σ Q u s:=⟨v,H,I,r,h⟩
 rcases l with⟨hk,hm⟩ | ⟨hk,c,hc,Do⟩
 ·exact wpAny_Name (wpAny_loadName_local I.ok.kind hk hn hm fin) hd
 ·rcases hk with hk | hk
  ·exact wpAny_Name (wpAny_loadName_cell I.ok.kind hk hc Do fin) hd
  ·exact wpAny_Name (wpAny_loadName_free I.ok.kind hk hc Do fin C2) hd
theorem iC{i j pos}:PE X (.Constant (.int i) j pos) (tC (.int i)):=λ_ _ _ H _ I h=>wpAny_Constant_int ⟨.int i,H,I.tok _,⟨_,rfl⟩,h⟩
theorem aOi{b j pos}:PE X (.Constant (.bool b) j pos) (tC (.bl b)):=λ_ _ _ H _ I h=>Constant_bool ⟨.bl b,H,I,rfl,h⟩
theorem aJu{j pos}:PE X (.Constant .none j pos) (tC .non):=λ_ _ _ H _ I h=>Constant_none ⟨.non,H,I,rfl,h⟩
theorem hm_{x j pos}:PE X (.Constant (.str x) j pos) (tC (.str x)):=λ_ _ _ H _ I h=>Calls.Constant_str ⟨.str x,H,I.tok _,⟨_,rfl⟩,h⟩
def Gl(X:Cx)(x:Str):Prop:=X.env.kindOf x=some .globalImplicit
theorem zG{E:eQ}{Aa:eS}{s:Shared}{σ:St}{H:Hp}{x:Str}{u:Value}{pos:Pos}{Q:eQ}(I:Inv X Aa σ H s)(hg:Gl X x)(hm:X.mg x=some u)(h:Q u s)
  (hd:(x == ("__debug__" : Str))=false:=by decide):wpAny (model X.prog X.w) X.A (eval (.Name x pos) X.env) Q E s:=
 Calls.Name_function_global I.ok.kind hg (Calls.loadGlobal_global (by rw[I.ok.glob];exact I.mod.glob.keeps I.bk) hm h) hd
theorem nK{E:eQ}{Aa:eS}{s:Shared}{σ:St}{H:Hp}{x:Str}{u:Value}{pos:Pos}{Q:eQ}(I:Inv X Aa σ H s)(hg:Gl X x)(hm:X.mg x=none)(hv:bootBuiltins x=some u)(h:Q u s)
  (hn:x ≠ "__name__":=by decide) (hd:(x == ("__debug__" : Str))=false:=by decide):wpAny (model X.prog X.w) X.A (eval (.Name x pos) X.env) Q E s:=by
 obtain⟨mb,h1,h2⟩:=I.mod.blt
 exact Calls.Name_function_global I.ok.kind hg (Calls.loadGlobal_builtin (by rw[I.ok.glob];exact I.mod.glob.keeps I.bk) hm (by rw[I.ok.blt];exact h1.keeps I.bk) ((h2 x hn).trans hv) h) hd
theorem aFf{x:Str}{v:V}{u:Value}{pos:Pos}(hg:Gl X x)(hm:X.mg x=some u)(r:RelV v u)(hd:(x == ("__debug__" : Str))=false:=by decide):PE X (.Name x pos) (tC v):=
 λ_ _ _ H _ I h=>zG I hg hm ⟨v,H,I,r,h⟩ hd
theorem iU{x:Str}{v:V}{u:Value}{pos:Pos}(hg:Gl X x)(hm:X.mg x=none)(hv:bootBuiltins x=some u)(r:RelV v u)(hn:x ≠ "__name__":=by decide)(hd:(x == ("__debug__" : Str))=false:=by decide):PE X (.Name x pos) (tC v):=
 λ_ _ _ H _ I h=>nK I hg hm hv ⟨v,H,I,r,h⟩ hn hd
variable{a b:Expr}{ta tb:TE}{pos:Pos}
def PC(X:Cx)(op:CmpOp)(a b:Expr)(t:TE):Prop:=
 ∀(Aa:eS) (s:Shared) (σ:St) (H:Hp) (Q:VK),Inv X Aa σ H s->t σ H Q ->
  wpAny (model X.prog X.w) X.A (eval a X.env) (λv s₁=>wpAny (model X.prog X.w) X.A (eval b X.env) (λu s₂=>wpAny (model X.prog X.w) X.A (compareOp op v u) (EP X Aa σ Q) X.xe s₂) X.xe s₁) X.xe s
theorem uF(b:Expr){op:CmpOp}(h:op ≠ .In)(h2:op ≠ .NotIn):behindInMarks op b=false:=by
 have e1:(op == CmpOp.In)=false:=by cases op<;>first | rfl | exact absurd rfl h
 have e2:(op == CmpOp.NotIn)=false:=by cases op<;>first | rfl | exact absurd rfl h2
 cases b<;>simp[behindInMarks,e1,e2]
def tB(t:TE):TT:=λσ H Q=>t σ H λx H1=>∃c,x=.bl c/\Q c H1
theorem aJw{op:CmpOp}{t:TE}(h:PC X op a b t)(h1:behindInMarks op b=false:=by first | exact uF _ (by decide) (by decide) | rfl):PE X (.Compare a [op] [b] pos) t:=λAa s σ H Q I hw=>wpAny_Compare1 (h Aa s σ H Q I hw) h1
theorem aJo{op:CmpOp}{t:TE}(h:PC X op a b t)(h1:behindInMarks op b=false:=by first | exact uF _ (by decide) (by decide) | rfl):PT X (.Compare a [op] [b] pos) (tB t):=by
 intro Aa s σ H Q I hw
 refine wpAny_isTrue_Compare1 (dX (h Aa s σ H _ I hw) λv s1 h1=>dX h1 λu s2 h2=>dX h2 λc s3 ⟨x,H1,I1,r1,q1⟩=>?_) h1
 obtain⟨d,rfl,q⟩:=q1
 cases r1
 exact wpAny_truthy_bool ⟨H1,I1,q⟩
theorem aJm{e:Expr}{t:TE}(h:PE X e t)(he:∀whole,isTrue e X.env whole=(do let v <-whole;standAt e.pos;holding [v] (truthy v)):=by intro _;rfl):PT X e (tB t):=by
 intro Aa s σ H Q I hw
 refine isTrue_plain (dX (h Aa s σ H _ I hw) λv s1 ⟨x,H1,I1,r1,q1⟩=>?_) (he _)
 obtain⟨d,rfl,q⟩:=q1
 cases r1
 exact wpAny_truthy_bool ⟨H1,I1,q⟩
variable{tA tB':TT}{rest:List Expr}
def aRr(t u:TT):TT:=λσ H Q=>t σ H λc H1=>if c=true then u σ H1 Q else Q false H1
def tOr(t u:TT):TT:=λσ H Q=>t σ H λc H1=>if c=true then Q true H1 else u σ H1 Q
def aRl(t:TT):TT:=λσ H Q=>t σ H λc H1=>Q (!c) H1
theorem yN(ha:PT X a tA):PW X (.BoolOp .And [a] pos) tA:=by
 intro wh Aa s σ H Q I h
 refine isTrue_and (dX (ha Aa s σ H Q I h) λc s1 e=>?_)
 cases c with
 |true=>exact isTrue_and_nil e
 |false=>exact e
theorem aJl(ha:PT X a tA):PW X (.BoolOp .Or [a] pos) tA:=by
 intro wh Aa s σ H Q I h
 refine isTrue_or (dX (ha Aa s σ H Q I h) λc s1 e=>?_)
 cases c with
 |false=>exact isTrue_or_nil e
 |true=>exact e
theorem aAk(ha:PT X a tA)(hb:PW X (.BoolOp .And (b::rest) pos) tB'):PW X (.BoolOp .And (a::b::rest) pos) (aRr tA tB'):=by
 intro wh Aa s σ H Q I h
 refine isTrue_and (dX (ha Aa s σ H _ I h) λc s1 ⟨H1,I1,q1⟩=>?_)
 cases c with
 |true=>exact hb wh Aa s1 σ H1 Q I1 q1
 |false=>exact⟨H1,I1,q1⟩
theorem aOg(ha:PT X a tA)(hb:PW X (.BoolOp .Or (b::rest) pos) tB'):PW X (.BoolOp .Or (a::b::rest) pos) (tOr tA tB'):=by
 intro wh Aa s σ H Q I h
 refine isTrue_or (dX (ha Aa s σ H _ I h) λc s1 ⟨H1,I1,q1⟩=>?_)
 cases c with
 |true=>exact⟨H1,I1,q1⟩
 |false=>exact hb wh Aa s1 σ H1 Q I1 q1
theorem aJn(ha:PT X a tA):PT X (.UnaryOp .Not a pos) (aRl tA):=by
 intro Aa s σ H Q I h
 exact isTrue_not (ha Aa s σ H (λc H1=>Q (!c) H1) I h)
def aNy(ta tb:TE):TE:=λσ H Q=>ta σ H λx H1=>∃c,x=.bl c/\if c=true then tb σ H1 Q else Q (.bl false) H1
def aNs(ta:TE):TE:=λσ H Q=>ta σ H λx H1=>∃c,x=.bl c/\Q (.bl (!c)) H1
theorem aJs{op}{t:TE}(h:PE X a t):PE X (.BoolOp op [a] pos) t:=λAa s σ H Q I hw=>BoolOp_one (h Aa s σ H Q I hw)
theorem aJy(ha:PE X a ta)(hb:PE X (.BoolOp .And (b::rest) pos) tb):PE X (.BoolOp .And (a::b::rest) pos) (aNy ta tb):=by
 intro Aa s σ H Q I h
 refine BoolOp_and (dX (ha Aa s σ H _ I h) λv s1 ⟨x,H1,I1,r1,q1⟩=>?_)
 obtain⟨c,rfl,q1⟩:=q1
 cases r1
 refine wpAny_truthy_bool ?_
 cases c with
 |true=>exact hb Aa s1 σ H1 Q I1 q1
 |false=>exact⟨.bl false,H1,I1,rfl,q1⟩
theorem aJt(ha:PE X a ta):PE X (.UnaryOp .Not a pos) (aNs ta):=by
 intro Aa s σ H Q I h
 refine UnaryOp_ (dX (ha Aa s σ H _ I h) λv s1 ⟨x,H1,I1,r1,q1⟩=>?_)
 obtain⟨c,rfl,q1⟩:=q1
 cases r1
 exact not_of (wpAny_truthy_bool ⟨.bl (!c),H1,I1,rfl,q1⟩)
end
def SqL(K:dQ)(H:Hp)(a:Addr)(xs:List V):Prop:=
 Rd H a (.lst xs) \/
  ∃(o:Obj) (its:Array Value) (n:Nat),K.lookup a=some o/\o.cls=.type "list" /\ o.dict=none/\o.data=.seq its n/\its.size<=sizeLine/\Vals xs its.toList
def SqT(K:dQ)(H:Hp)(a:Addr)(xs:List V):Prop:=
 Rd H a (.tup xs) \/
  ∃(o:Obj) (its:Array Value) (n:Nat),K.lookup a=some o/\o.cls=.type "tuple" /\ o.data=.seq its n/\its.size<=sizeLine/\Vals xs its.toList
theorem RelV.abs{x:V}{u:Value}(r:RelV x u):aHj u=some x:=by
 cases x with
 |non=>cases r;rfl
 |bl _=>cases r;rfl
 |int _=>obtain⟨t,rfl⟩:=r;rfl
 |str _=>obtain⟨t,rfl⟩:=r;rfl
 |byt _=>obtain⟨t,rfl⟩:=r;rfl
 |flt _=>obtain⟨t,rfl⟩:=r;rfl
 |ref _=>cases r;rfl
 |ty _=>cases r;rfl
theorem RelV.inj{x y:V}{u:Value}(r:RelV x u)(q:RelV y u):x=y:=ozI (r.abs.symm.trans q.abs)
theorem Vals.inj:∀{xs ys:List V} {us:List Value},Vals xs us->Vals ys us->xs=ys
 |_,_,_,.nil,.nil=>rfl
 |_,_,_,.cons r t,.cons r' t'=>by rw[r.inj r',Vals.inj t t']
section
variable{X:Cx}{Aa:eS}{σ:St}{H:Hp}{s:Shared}{a:Addr}{xs ys:List V}
theorem SqL.of{K:dQ}(h:H a=some (.lst xs)):SqL K H a xs:=.inl (.inl h)
theorem SqT.of{K:dQ}(h:H a=some (.tup xs)):SqT K H a xs:=.inl (.inl h)
theorem Inv.list(I:Inv X Aa σ H s)(h:SqL X.K H a xs):∃its:List Value,Vals xs its/\PlainL s.heap a its.toArray/\xs.length<=sizeLine:=by
 rcases h with h | ⟨o,its,n,hk,hc,hd,hs,hz,r⟩
 ·obtain ⟨z,its,n,r,e⟩:=h.ok I.hok
  exact⟨its,r,⟨_,n,e,rfl,rfl,rfl⟩,z⟩
 ·refine ⟨its.toList,r,⟨o,n,I.kIn a o hk,hc,hd,by simpa using hs⟩,?_⟩
  have e:=r.length
  simp only[Array.length_toList]at e
  lia
theorem Inv.tuple(I:Inv X Aa σ H s)(h:SqT X.K H a xs):∃its:List Value,Vals xs its/\IsTup s.heap a its.toArray/\xs.length<=sizeLine:=by
 rcases h with h | ⟨o,its,n,hk,hc,hs,hz,r⟩
 ·obtain ⟨z,its,r,p⟩:=h.ok I.hok
  exact⟨its,r,p,z⟩
 ·refine ⟨its.toList,r,⟨o,I.kIn a o hk,hc,n,by simpa using hs⟩,?_⟩
  have e:=r.length
  simp only[Array.length_toList]at e
  lia
theorem Inv.list_inj(I:Inv X Aa σ H s)(h:SqL X.K H a xs)(h':SqL X.K H a ys):xs=ys:=by
 obtain⟨its,r,⟨o,n,e,_,_,d⟩,_⟩:=I.list h
 obtain⟨its',r',⟨o',n',e',_,_,d'⟩,_⟩:=I.list h'
 rw[e]at e';cases e'
 rw[d]at d'
 injection d' with d1 _
 have:its=its':=by simpa using congrArg Array.toList d1
 subst this
 exact r.inj r'
theorem Inv.tuple_inj(I:Inv X Aa σ H s)(h:SqT X.K H a xs)(h':SqT X.K H a ys):xs=ys:=by
 obtain⟨its,r,⟨o,e,_,n,d⟩,_⟩:=I.tuple h
 obtain⟨its',r',⟨o',e',_,n',d'⟩,_⟩:=I.tuple h'
 rw[e]at e';cases e'
 rw[d]at d'
 injection d' with d1 _
 have:its=its':=by simpa using congrArg Array.toList d1
 subst this
 exact r.inj r'
end
abbrev Cx.wish(X:Cx)(E:eQ):Cx:={ X with xe:=E }
abbrev Cx.nox(X:Cx):Cx:=X.wish λ_ _=>False
theorem Cx.Ok.wish{X:Cx}(ok:X.Ok)(E:eQ):(X.wish E).Ok:=
 ⟨ok.mod,ok.kind,ok.glob,ok.blt,ok.above,ok.inj,ok.has,ok.cab,ok.hd,ok.frames,ok.stk,ok.exf,ok.bs,ok.bsz,ok.noex,ok.exfs,ok.funs,ok.frf⟩
theorem Cx.Ok.unwish{X:Cx}{E:eQ}(ok:(X.wish E).Ok):X.Ok:=
 ⟨ok.mod,ok.kind,ok.glob,ok.blt,ok.above,ok.inj,ok.has,ok.cab,ok.hd,ok.frames,ok.stk,ok.exf,ok.bs,ok.bsz,ok.noex,ok.exfs,ok.funs,ok.frf⟩
section
variable{X:Cx}{Aa:eS}{σ:St}{H:Hp}{s:Shared}{E:eQ}
theorem Inv.wish(I:Inv X Aa σ H s)(E:eQ):Inv (X.wish E) Aa σ H s:=⟨I.ok.wish E,I.os,I.bare,I.base,I.loc,I.cell,I.free,I.freeC,I.pin,I.hok,I.len⟩
theorem Inv.unwish(I:Inv (X.wish E) Aa σ H s):Inv X Aa σ H s:=⟨I.ok.unwish,I.os,I.bare,I.base,I.loc,I.cell,I.free,I.freeC,I.pin,I.hok,I.len⟩
theorem SP.unwish{D:Ends}{f:Flow}{s':Shared}(h:SP (X.wish E) Aa D f s'):SP X Aa D f s':=by
 cases f with
 |next=>obtain⟨σ',H',I,q⟩:=h;exact⟨σ',H',I.unwish,q⟩
 |brk=>obtain⟨σ',H',I,q⟩:=h;exact⟨σ',H',I.unwish,q⟩
 |cont=>obtain⟨σ',H',I,q⟩:=h;exact⟨σ',H',I.unwish,q⟩
 |ret u=>obtain⟨v,σ',H',I,r,q⟩:=h;exact⟨v,σ',H',I.unwish,r,q⟩
theorem PSs.nox{st:List Stmt}{t:TS}(h:PSs X.nox st t):PSs X st t:=λAa s σ H D I hw =>
 wpAny_mono (h Aa s σ H D (I.wish _) hw) (λ_ _ q=>q.unwish) λ_ _ z=>False.elim z
end
section
variable{X:Cx}{st:Stmt}{rest:List Stmt}{t u:TS}{e:Expr}{te:TE}{pos:Pos}
def aNt:TS:=λD σ H=>D.nx σ H
def aRj(t u:TS):TS:=λD σ H=>t { D with nx:=u D } σ H
theorem lM:PSs X [] aNt:=λ_ _ σ H _ I h=>wpAny_execs_nil ⟨σ,H,I,h⟩
theorem pB(h1:PS X st t)(h2:PSs X rest u):PSs X (st::rest) (aRj t u):=by
 intro Aa s σ H D I h
 refine wpAny_execs_cons (dX (h1 Aa s σ H { D with nx:=u D } I h) λf s1 q=>?_)
 cases f with
 |next =>
  obtain⟨σ',H',I',q⟩:=q
  exact h2 Aa s1 σ' H' D I' q
 |ret v=>exact q
 |brk=>exact q
 |cont=>exact q
theorem em_(h1:PS X st t):PSs X [st] t:=by
 intro Aa s σ H D I h
 refine wpAny_execs_cons (dX (h1 Aa s σ H D I h) λf s1 q=>?_)
 cases f with
 |next=>exact wpAny_execs_nil q
 |ret v=>exact q
 |brk=>exact q
 |cont=>exact q
theorem Inv.quiet{Aa:eS}{σ:St}{H:Hp}{s:Shared}(I:Inv X Aa σ H s):interactive X.env=false:=by simp[interactive,I.ok.kind]
def aNu(te:TE):TS:=λD σ H=>te σ H λ_ H1=>D.nx σ H1
theorem yR(he:PE X e te)(hs:swapsWith e none pos.line X.env=pure false:=by rfl):PS X (.Expr e pos) (aNu te):=by
 intro Aa s σ H D I h
 exact wpAny_Expr_any (dX (he Aa s σ H _ I h) λv s1 ⟨x,H1,I1,r1,q1⟩=>⟨σ,H1,I1,q1⟩) I.quiet hs
def aRk(te:TE):TS:=λD σ H=>te σ H D.rt
theorem rG(he:PE X e te):PS X (.Return (some e) pos) (aRk te):=by
 intro Aa s σ H D I h
 exact wpAny_Return_some (dX (he Aa s σ H _ I h) λv s1 ⟨x,H1,I1,r1,q1⟩=>⟨x,σ,H1,I1,r1,q1⟩)
def aRo(c:TT)(t u:TS):TS:=λD σ H=>c σ H λb H1=>if b=true then t D σ H1 else u D σ H1
theorem yQ{c:Expr}{a b:List Stmt}{tc:TT}(hc:PT X c tc)(ha:PSs X a t)(hb:PSs X b u):PS X (.If c a b pos) (aRo tc t u):=by
 intro Aa s σ H D I h
 refine wpAny_If (dX (hc Aa s σ H _ I h) λd s1 ⟨H1,I1,q1⟩=>?_)
 cases d with
 |true=>exact ha Aa s1 σ H1 D I1 q1
 |false=>exact hb Aa s1 σ H1 D I1 q1
end
abbrev TG:=V->St->Hp->(St->Hp->Prop)->Prop
abbrev TGs:=List V->St->Hp->(St->Hp->Prop)->Prop
def PG(X:Cx)(target:Expr)(t:TG):Prop:=
 ∀(Aa:eS) (s:Shared) (σ:St) (H:Hp) (v:V) (u:Value) (Q:St->Hp->Prop),Inv X Aa σ H s->RelV v u->t v σ H Q ->
  wpAny (model X.prog X.w) X.A (assign target X.env u) (λ_ s'=>∃σ' H',Inv X Aa σ' H' s'/\Q σ' H') X.xe s
def PGs(X:Cx)(ts:List Expr)(t:TGs):Prop:=
 ∀(Aa:eS) (s:Shared) (σ:St) (H:Hp) (vs:List V) (us:List Value) (Q:St->Hp->Prop),Inv X Aa σ H s->Vals vs us->t vs σ H Q ->
  wpAny (model X.prog X.w) X.A (assignInOrder ((assignEach ts X.env).map (·.2)) us) (λ_ s'=>∃σ' H',Inv X Aa σ' H' s'/\Q σ' H') X.xe s
abbrev aMm:=V->V->V->Hp->(Hp->Prop)->Prop
def aQi(X:Cx)(t:aMm):Prop:=
 ∀(Aa:eS) (s:Shared) (σ:St) (H:Hp) (o i v:V) (ov iv u:Value) (Q:Hp->Prop),Inv X Aa σ H s->RelV o ov->RelV i iv->RelV v u->t o i v H Q ->
  wpAny (model X.prog X.w) X.A (setItem ov iv u) (λ_ s'=>∃H',Inv X Aa σ H' s'/\Q H') X.xe s
section
variable{X:Cx}{pos:Pos}
def iM(i:Nat):TG:=λv σ H Q=>Q (σ.set i (some v)) H
theorem gC{i:Nat}{x:Str}(hN:X.N.Nodup)(hi:X.N[i]? = some x)(hx:Loc X.env.scope x)(hf:X.fn x=true\/X.env.scope.names.lookup x=some .local:=by first | exact .inl rfl | exact .inr rfl | assumption):PG X (.Name x pos) (iM i):=by
 intro Aa s σ H v u Q I r h
 exact wpAny_assign_Name (tL I hN hi hx r (λs' I'=>⟨_,H,I',h⟩) hf)
def aGp:TGs:=λvs σ H Q=>vs=[]/\Q σ H
def zP(t:TG)(u:TGs):TGs:=λvs σ H Q=>∃v r,vs=v::r/\t v σ H λσ' H'=>u r σ' H' Q
theorem dn_:PGs X [] aGp:=by
 intro Aa s σ H vs us Q I r h
 obtain⟨e,h⟩:=h
 subst e
 cases r
 exact assignInOrder_nil ⟨σ,H,I,h⟩
theorem oR{e:Expr}{es:List Expr}{t:TG}{u:TGs}(h1:PG X e t)(h2:PGs X es u)
  (hs:(assignEach (e::es) X.env).map (·.2)=assign e X.env::(assignEach es X.env).map (·.2):=by rfl):PGs X (e::es) (zP t u):=by
 intro Aa s σ H vs us Q I r h
 obtain⟨v,vr,e1,h⟩:=h
 subst e1
 cases r with
 |cons r rr =>
  rw[hs]
  refine assignInOrder_cons (dX (h1 Aa s σ H _ _ _ I r h) λ_ s1 ⟨σ1,H1,I1,q1⟩=>?_)
  exact h2 Aa s1 σ1 H1 _ _ Q I1 rr q1
def aGo(K:dQ)(n:Nat)(t:TGs):TG:=λv σ H Q=>∃a xs,v=.ref a/\SqT K H a xs/\xs.length=n/\t xs σ H Q
theorem mW{es:List Expr}{k:Nat}{t:TGs}{n:Nat}(hc:X.calm=true)(h:PGs X es t)
  (hn:(assignEach es X.env).length=n:=by rfl) (Dv:(assignEach es X.env).findIdx? (·.1)=none:=by rfl):PG X (.Tuple es k pos) (aGo X.K n t):=by
 intro Aa s σ H v u Q I r hw
 obtain⟨a,xs,e1,hq,hl,hw⟩:=hw
 subst e1
 cases r
 obtain⟨its,rv,ht,hz⟩:=I.tuple hq
 refine assign_Tuple_tuple (I.ok.hd hc) ht (by simp[hn,<-hl,rv.length]) Dv λh' hx=>?_
 have I1:Inv X Aa σ H { s with heap:=h' }:=I.kept (t':=s.toks) λb o e=>hx b o (cD (aQ e)) e
 exact h Aa _ σ H xs _ Q I1 (by simpa using rv) hw
def aPa(to ti:TE)(t:aMm):TG:=λv σ H Q=>to σ H λo H1=>ti σ H1 λi H2=>t o i v H2 λH3=>Q σ H3
theorem rJ{o i:Expr}{to ti:TE}{t:aMm}(ho:PE X o to)(hi:PE X i ti)(hs:aQi X t)
  (ha:∀ v,assign (.Subscript o i pos) X.env v=(do
   let ov <-holding [v] (eval o X.env)
   let iv <-holding [v,ov] (eval i X.env)
   standAt pos
   holding [v,ov,iv] (setItem ov iv v)
   release [v,ov,iv] []):=by intro _;rfl):PG X (.Subscript o i pos) (aPa to ti t):=by
 intro Aa s σ H v u Q I r h
 rw[ha]
 refine wpAny_bind (wpAny_holding (dX (ho Aa s σ H _ I h) λov s1 ⟨x,H1,I1,r1,q1⟩=>?_))
 refine wpAny_bind (wpAny_holding (dX (hi Aa s1 σ H1 _ I1 q1) λiv s2 ⟨y,H2,I2,r2,q2⟩=>?_))
 refine wpAny_bind (wpAny_standAt (wpAny_bind (wpAny_holding (dX (hs Aa s2 σ H2 x y v ov iv u _ I2 r1 r2 r q2) λ_ s3 ⟨H3,I3,q3⟩=>?_))))
 exact wpAny_release ⟨σ,H3,I3,q3⟩
def wG(te:TE)(g:TG):TS:=λD σ H=>te σ H λx H1=>g x σ H1 D.nx
theorem hk_{tg e:Expr}{te:TE}{g:TG}(he:PE X e te)(hg:PG X tg g)(hs:swapsWithSole [tg] e pos.line X.env=pure false:=by rfl)(hw:swappedStores [tg] e X.env=pure none:=by rfl)
  (h1:(assignEach [tg] X.env).map (·.2)=[assign tg X.env]:=by rfl):PS X (.Assign [tg] e pos) (wG te g):=by
 intro Aa s σ H D I h
 refine wpAny_Assign_stores (dX (he Aa s σ H _ I h) λv s1 ⟨x,H1,I1,r1,q1⟩=>?_) hs hw
 rw[h1]
 exact dX (hg Aa s1 σ H1 x v _ I1 r1 q1) λ_ s2 q=>q
theorem sW{i:Nat}{x:Str}{e:Expr}{te:TE}{pos':Pos}(hN:X.N.Nodup)(hi:X.N[i]? = some x)(hx:Loc X.env.scope x)(he:PE X e te)(hs:swapsWith e (some (.Name x pos')) pos.line X.env=pure false:=by rfl)(hf:X.fn x=true\/X.env.scope.names.lookup x=some .local:=by first | exact .inl rfl | exact .inr rfl | assumption) :
  PS X (.Assign [.Name x pos'] e pos) (wG te (iM i)):=by
 intro Aa s σ H D I h
 refine wpAny_Assign_Name (dX (he Aa s σ H _ I h) λv s1 ⟨y,H1,I1,r1,q1⟩=>?_) hs
 exact tL I1 hN hi hx r1 (λs2 I2=>⟨_,H1,I2,q1⟩) hf
end
section
variable{X:Cx}{pos:Pos}
def aJb(c:TT)(tb:TS):TS:=λD σ H=>∃W:Nat->St->Hp->Prop,(∃m,W m σ H)/\∀m σ H,W m σ H ->
 c σ H λb H1=>if b=true then ∃N:St->Hp->Prop,(∀σ' H',N σ' H'->∃m',m'<m/\W m' σ' H')/\tb { D with nx:=N,ct:=N,bk:=D.nx } σ H1 else D.nx σ H1
theorem aAo{c:Expr}{body:List Stmt}{tc:TT}{tb:TS}(hp:PassesOwn (model X.prog X.w) X.A X.env X.xe)(hc:PT X c tc)(hb:PSs X body tb):PS X (.While c body [] pos) (aJb tc tb):=by
 intro Aa s σ H D I h
 obtain⟨W,⟨m0,w0⟩,turn⟩:=h
 refine wpAny_While (codeAny_whileLoop (λn s'=>∃σ' H',Inv X Aa σ' H' s'/\W n σ' H') ?_ m0 ⟨σ,H,I,w0⟩)
 rintro n s1 ⟨σ1,H1,I1,w1⟩
 refine wpAny_passesOwn hp (dX (hc Aa s1 σ1 H1 _ I1 (turn n σ1 H1 w1)) λb s2 ⟨H2,I2,q2⟩=>?_)
 cases b with
 |true =>
  obtain⟨N,hN,q2⟩:=q2
  rw[if_pos rfl]
  refine wpAny_passesOwn hp (dX (hb Aa s2 σ1 H2 _ I2 q2) λf s3 q3=>?_)
  cases f with
  |next =>
   obtain⟨σ3,H3,I3,n3⟩:=q3
   obtain⟨m',hm,w3⟩:=hN σ3 H3 n3
   exact⟨m',hm,σ3,H3,I3,w3⟩
  |cont =>
   obtain⟨σ3,H3,I3,n3⟩:=q3
   obtain⟨m',hm,w3⟩:=hN σ3 H3 n3
   exact⟨m',hm,σ3,H3,I3,w3⟩
  |brk=>exact q3
  |ret v=>exact q3
 |false =>
  rw[if_neg aE]
  exact wpAny_execs_nil ⟨σ1,H2,I2,q2⟩
end
structure It where
 go:Nat->Hp->Prop
 yld:Nat->Hp->V->Hp->Prop
 stop:Nat->Hp->Prop
def jQ(X:Cx)(Aa:eS)(H:Hp)(b:Addr):Prop:=
 H b=none/\b≠X.env.locals/\b∉X.fs/\(b∈X.ex\/X.s₀.heap.objs.size<=b)/\(∀x c,X.env.cells.lookup x=some c->c≠b)/\∀p∈X.pn++Aa,p.1≠b
theorem Inv.fpOk{X:Cx}{Aa:eS}{σ:St}{H H':Hp}{s:Shared}{b:Addr}(I:Inv X Aa σ H s)(hb:s.heap.objs.size<=b)(hn:H' b=none):jQ X Aa H' b:=by
 refine⟨hn,Nat.ne_of_gt (bF I.lt hb),I.nofs hb,.inr (nzL I.sz hb),λx c e z=>?_,λp hp z=>?_⟩
 ·obtain ⟨v,q⟩:=I.cell x c e
  exact absurd (bF q.lt (by rw[z];exact hb)) (dR _)
 ·exact absurd (bF (aQ (I.pin p hp).1) (by rw[z];exact hb)) (dR _)
structure Turn(P:Program)(w:World)(K:dQ)(tg:Expr)(J:It)(fp:List Addr)(it:Addr)(tn:Nat->Heap->Prop):Prop where
 mem:it∈fp
 obj:∀i h,tn i h->∀b∈fp,∃o,h.get? b=some o/\∀v,o.data ≠ .cell v
 keep:∀i h h',tn i h->(∀b∈fp,∀o,h.get? b=some o->h'.get? b=some o)->tn i h'
 item:∀(X:Cx),X.prog=P->X.w=w->X.K=K->X.calm=true->∀(i:Nat) (Aa:eS) (s:Shared) (σ:St) (H:Hp) (E:eQ),Inv X Aa σ H s->(∀b∈fp,jQ X Aa H b)->tn i s.heap->J.go i H ->
  wpAny (model P w) X.A (pyNext (.ref it)) (λr s1=>∃u,r=some u /\
   wpAny (model P w) X.A (letOwnedTupleGo tg (.ref it) u) (λ_ s2=>∃x H',Inv X Aa σ H' s2/\RelV x u/\J.yld i H x H'/\tn (i+1) s2.heap/\∀b∈fp,H' b=none) E s1) E s
 done:∀(X:Cx),X.prog=P->X.w=w->X.K=K->X.calm=true->∀(i:Nat) (Aa:eS) (s:Shared) (σ:St) (H:Hp) (E:eQ),Inv X Aa σ H s->(∀b∈fp,jQ X Aa H b)->tn i s.heap->J.stop i H ->
  wpAny (model P w) X.A (pyNext (.ref it)) (λr s1=>r=none/\Inv X Aa σ H s1) E s
 self:∀(A:Around) (i:Nat) (s:Shared) (Q:eQ) (E:eQ),tn i s.heap->Q (.ref it) s->wpAny (model P w) A (pyIter (.ref it)) Q E s
abbrev TI:=St->Hp->(It->Hp->Prop)->Prop
def PIE(X:Cx)(Aa:eS)(σ:St)(tg:Expr)(R:It->Hp->Prop)(itv:Value)(s2:Shared):Prop:=
 ∃(it:Addr) (fp:List Addr) (tn:Nat->Heap->Prop) (J:It) (H':Hp),itv=.ref it/\Inv X Aa σ H' s2/\Turn X.prog X.w X.K tg J fp it tn/\tn 0 s2.heap/\(∀b∈fp,jQ X Aa H' b)/\R J H'
def PI(X:Cx)(tg iter:Expr)(wi:TI):Prop:=
 ∀(Aa:eS) (s:Shared) (σ:St) (H:Hp) (R:It->Hp->Prop),Inv X Aa σ H s->wi σ H R ->
  wpAny (model X.prog X.w) X.A (eval iter X.env) (λv s1=>wpAny (model X.prog X.w) X.A (pyIter v) (PIE X Aa σ tg R) X.xe s1) X.xe s
theorem zN{M:Model}{A:Around}{E:eQ}{s:Shared}{tg:Expr}{it:Addr}{u:Value}{o:Obj}{n:String}{vs:Array Value}{Q:Unit->Shared->Prop}(ho:s.heap.get? it=some o)(hc:o.cls=.type n)(hd:o.data=.fields vs)
    (hn:["enumerate","zip","dict_itemiterator","dict_reverseitemiterator","odict_iterator","itertools.zip_longest","itertools.pairwise"].contains n=false) (hQ:Q () s):wpAny M A (letOwnedTupleGo tg (.ref it) u) Q E s:=by
  unfold letOwnedTupleGo
  cases tg<;>first
    |exact wpAny_pure hQ
    |(cases u<;>first
        |exact wpAny_pure hQ
        | (refine wpAny_bind (wpAny_load ho ?_)
           rw[hc,hd]
           show wpAny M A (if(["enumerate","zip","dict_itemiterator","dict_reverseitemiterator","odict_iterator","itertools.zip_longest","itertools.pairwise"].contains n&&vs[0]? == some (rawInt _))=true then _ else _) Q E s
           rw[if_neg (by intro h;rw[hn,cC]at h;cases h)]
           exact wpAny_pure hQ))
def Itl(K:dQ)(a:Addr):It:=
 ⟨λi H=>∃xs x,SqL K H a xs/\xs[i]? = some x,λi H x H'=>H'=H/\∀xs,SqL K H a xs->xs[i]? = some x,λi H=>∃xs,SqL K H a xs/\xs.length<=i⟩
def Itt(K:dQ)(a:Addr):It:=
 ⟨λi H=>∃xs x,SqT K H a xs/\xs[i]? = some x,λi H x H'=>H'=H/\∀xs,SqT K H a xs->xs[i]? = some x,λi H=>∃xs,SqT K H a xs/\xs.length<=i⟩
def Itr(lo:Int)(n:Nat):It:=⟨λi _=>i<n,λi H x H'=>H'=H/\x=.int (lo+i),λi _=>n<=i⟩
theorem f_{P:Program}{w:World}{K:dQ}{tg:Expr}(a it:Addr):Turn P w K tg (Itl K a) [it] it (λi h=>h.IsListIter it a i)where
 mem:=by simp
 obj:=λi h st b hb=>by
  have e:b=it:=by simpa using hb
  subst e
  obtain⟨o,e,c,d⟩:=st
  exact⟨o,e,λv z=>by rw[d]at z;cases z⟩
 keep:=λi h h' st k=>st.at λo e=>k it (by simp) o e
 item:=by
  intro X hP hw hK hc i Aa s σ H E I hf st hg
  subst hP hw hK
  obtain⟨xs,x,hq,hx⟩:=hg
  obtain⟨its,rv,p,hz⟩:=I.list hq
  obtain⟨u,hu,ru⟩:=rv.get hx
  obtain⟨f0,f1,f2,f3,f4,f5⟩:=hf it (by simp)
  refine wpAny_pyNext_list_item st p.isList (x:=u) (by simpa using hu) λh' st' sb=>?_
  have I1:Inv X Aa σ H { s with heap:=h' }:=I.turned (t':=s.toks) (λb o hb e=>(sb.2 b hb).trans e) f0 f1 f3 f4 f5
  obtain⟨o,e,c,d⟩:=id st'
  exact⟨u,rfl,zN (s:={ s with heap:=h' }) e c d (by decide) ⟨x,H,I1,ru,⟨rfl,λys hy=>by rw[I.list_inj hy hq];exact hx⟩,st',λb hb=>(hf b hb).1⟩⟩
 done:=by
  intro X hP hw hK hc i Aa s σ H E I hf st hg
  subst hP hw hK
  obtain⟨xs,hq,hx⟩:=hg
  obtain⟨its,rv,p,hz⟩:=I.list hq
  obtain⟨f0,f1,f2,f3,f4,f5⟩:=hf it (by simp)
  have hl:=rv.length
  exact wpAny_pyNext_list_end (I.ok.hd hc) st p.isList (by simp;lia) λh' eb=>⟨rfl,I.turned (t':=s.toks) (λb o hb e=>eb b o hb e) f0 f1 f3 f4 f5⟩
 self:=λ_ _ _ _ _ st h=>wpAny_pyIter_listiter st h
theorem wC{P:Program}{w:World}{K:dQ}{tg:Expr}(a it:Addr):Turn P w K tg (Itt K a) [it] it (λi h=>h.IsTupleIter it a i)where
 mem:=by simp
 obj:=λi h st b hb=>by
  have e:b=it:=by simpa using hb
  subst e
  obtain⟨o,e,c,d⟩:=st
  exact⟨o,e,λv z=>by rw[d]at z;cases z⟩
 keep:=λi h h' st k=>st.at λo e=>k it (by simp) o e
 item:=by
  intro X hP hw hK hc i Aa s σ H E I hf st hg
  subst hP hw hK
  obtain⟨xs,x,hq,hx⟩:=hg
  obtain⟨its,rv,p,hz⟩:=I.tuple hq
  obtain⟨u,hu,ru⟩:=rv.get hx
  obtain⟨f0,f1,f2,f3,f4,f5⟩:=hf it (by simp)
  refine wpAny_pyNext_tuple_item st (show s.heap.IsTuple a its.toArray from p) (x:=u) (by simpa using hu) λh' st' sb=>?_
  have I1:Inv X Aa σ H { s with heap:=h' }:=I.turned (t':=s.toks) (λb o hb e=>(sb.2 b hb).trans e) f0 f1 f3 f4 f5
  obtain⟨o,e,c,d⟩:=id st'
  exact⟨u,rfl,zN (s:={ s with heap:=h' }) e c d (by decide) ⟨x,H,I1,ru,⟨rfl,λys hy=>by rw[I.tuple_inj hy hq];exact hx⟩,st',λb hb=>(hf b hb).1⟩⟩
 done:=by
  intro X hP hw hK hc i Aa s σ H E I hf st hg
  subst hP hw hK
  obtain⟨xs,hq,hx⟩:=hg
  obtain⟨its,rv,p,hz⟩:=I.tuple hq
  obtain⟨f0,f1,f2,f3,f4,f5⟩:=hf it (by simp)
  have hl:=rv.length
  exact wpAny_pyNext_tuple_end (I.ok.hd hc) st (show s.heap.IsTuple a its.toArray from p) (by simp;lia) λh' eb=>⟨rfl,I.turned (t':=s.toks) (λb o hb e=>eb b o hb e) f0 f1 f3 f4 f5⟩
 self:=λ_ _ _ _ _ st h=>wpAny_pyIter_tupleiter st h
theorem wD{P:Program}{w:World}{K:dQ}{tg:Expr}(it:Addr)(lo:Int)(n:Nat):Turn P w K tg (Itr lo n) [it] it (λi h=>IsRangeIter h it (lo+(i:Nat)*1) ((n:Int)-(i:Nat)) 1)where
 mem:=by simp
 obj:=λi h st b hb=>by
  have e:b=it:=by simpa using hb
  subst e
  exact⟨_,st,λv z=>by
   have z':Data.fields _=Data.cell v:=z
   cases z'⟩
 keep:=λi h h' st k=>k it (by simp) _ st
 item:=by
  intro X hP hw hK hc i Aa s σ H E I hf st hg
  subst hP hw hK
  obtain⟨f0,f1,f2,f3,f4,f5⟩:=hf it (by simp)
  have W:=Walks.range (prog:=X.prog) (w:=X.w) (I.ok.hd hc) it lo 1 n
  refine W.item i s _ _ hg st λv h' tk hv st' kk=>?_
  obtain⟨t,rfl⟩:=hv
  have I1:Inv X Aa σ H { s with heap:=h',toks:=tk }:=I.turned (λb o hb e=>kk b o (by simpa using hb) e) f0 f1 f3 f4 f5
  refine⟨_,rfl,zN (s:={ s with heap:=h',toks:=tk }) (n:= "range_iterator") st' rfl rfl (by decide) ⟨.int (lo+i),H,I1,⟨t,?_⟩,⟨rfl,rfl⟩,st',λb hb=>(hf b hb).1⟩⟩
  rw[Int.mul_one]
 done:=by
  intro X hP hw hK hc i Aa s σ H E I hf st hg
  subst hP hw hK
  obtain⟨f0,f1,f2,f3,f4,f5⟩:=hf it (by simp)
  exact wpAny_pyNext_range_end (I.ok.hd hc) st (by have:n<=i:=hg;lia) λh' eb=>⟨rfl,I.turned (t':=s.toks) (λb o hb e=>eb b o hb e) f0 f1 f3 f4 f5⟩
 self:=λ_ _ _ _ _ st h=>wpAny_pyIter_rangeiter st h
section
variable{X:Cx}{tg:Expr}
def aOu(K:dQ)(tl:TE):TI:=λσ H R=>tl σ H λx H1=>∃a,x=.ref a/\(∃xs,SqL K H1 a xs)/\R (Itl K a) H1
def aSe(K:dQ)(tl:TE):TI:=λσ H R=>tl σ H λx H1=>∃a,x=.ref a/\(∃xs,SqT K H1 a xs)/\R (Itt K a) H1
theorem aFd{l:Expr}{tl:TE}(hl:PE X l tl):PI X tg l (aOu X.K tl):=by
 intro Aa s σ H R I h
 refine dX (hl Aa s σ H _ I h) λv s1 ⟨x,H1,I1,r1,q1⟩=>?_
 obtain⟨a,e,⟨xs,hq⟩,q⟩:=q1
 subst e
 cases r1
 obtain⟨its,rv,p,hz⟩:=I1.list hq
 refine wpAny_pyIter_list p.isList ?_
 refine⟨s1.heap.objs.size,[s1.heap.objs.size],_,_,H1,rfl,I1.kept (t':=s1.toks) λb o e=>aC _ e,f_ a _,⟨_,aU _ rfl,rfl,rfl⟩,λb hb=>?_,q⟩
 have e:b=s1.heap.objs.size:=by simpa using hb
 subst e
 exact I1.fpOk (aK _) (I1.hok.fresh (aK _))
theorem aJq{l:Expr}{tl:TE}(hl:PE X l tl):PI X tg l (aSe X.K tl):=by
 intro Aa s σ H R I h
 refine dX (hl Aa s σ H _ I h) λv s1 ⟨x,H1,I1,r1,q1⟩=>?_
 obtain⟨a,e,⟨xs,hq⟩,q⟩:=q1
 subst e
 cases r1
 obtain⟨its,rv,p,hz⟩:=I1.tuple hq
 refine wpAny_pyIter_tuple (show s1.heap.IsTuple a its.toArray from p) ?_
 refine⟨s1.heap.objs.size,[s1.heap.objs.size],_,_,H1,rfl,I1.kept (t':=s1.toks) λb o e=>aC _ e,wC a _,⟨_,aU _ rfl,rfl,rfl⟩,λb hb=>?_,q⟩
 have e:b=s1.heap.objs.size:=by simpa using hb
 subst e
 exact I1.fpOk (aK _) (I1.hok.fresh (aK _))
theorem aAe{Aa:eS}{σ:St}{H:Hp}{s:Shared}{R:It->Hp->Prop}{E:eQ}{lo hi:Int}{t u v:Tok}{tk:Nat}(I:Inv X Aa σ H s)(h1 : -(2^62)<=lo)(h2:lo<2^62)(h3 : -(2^62)<=hi)(h4:hi<2^62)
  (q:R (Itr lo (hi-lo).toNat) H):wpAny (model X.prog X.w) X.A (pyIter (.ref s.heap.objs.size)) (PIE X Aa σ tg R) E { s with heap:=s.heap.push { cls:=.type "range",data:=.fields #[.int lo t,.int hi u,.int 1 v] },toks:=tk }:=by
 refine wpAny_pyIter_range (IsRange.new ..) (small_one h1 h2 h3 h4) ?_
 have I1:Inv X Aa σ H { s with heap:=s.heap.push { cls:=.type "range",data:=.fields #[.int lo t,.int hi u,.int 1 v] },toks:=tk }:=I.kept λb o e=>aC _ e
 refine⟨(s.heap.push { cls:=.type "range",data:=.fields #[.int lo t,.int hi u,.int 1 v] }).objs.size,[(s.heap.push { cls:=.type "range",data:=.fields #[.int lo t,.int hi u,.int 1 v] }).objs.size],_,_,H,rfl,
  I1.kept (t':=tk) λb o e=>aC _ e,wD _ lo (hi-lo).toNat,?_,λb hb=>?_,q⟩
 ·have e1:lo + ((0:Nat):Int) * 1=lo:=by simp
  have e2:(((hi-lo).toNat:Nat):Int)-((0:Nat):Int)=Builtin.Range.rangeSize lo hi 1:=by rw[rangeSize_one];split<;>lia
  show IsRangeIter _ _ (lo+((0:Nat):Int)*1) ((((hi-lo).toNat:Nat):Int)-((0:Nat):Int)) 1
  rw[e1,e2]
  exact aU _ rfl
 ·have e:b=(s.heap.push { cls:=.type "range",data:=.fields #[.int lo t,.int hi u,.int 1 v] }).objs.size:=by simpa using hb
  subst e
  exact I1.fpOk (aK _) (I1.hok.fresh (aK _))
def aOt(ta:TA):TI:=λσ H R=>ta σ H λvs H1=>∃j:Int,vs=[.int j] /\ -(2^62)<=j/\j<2^62/\R (Itr 0 j.toNat) H1
theorem hl_{a:Expr}{ta:TA}{p pos:Pos}(hg:Gl X "range")(hm:X.mg "range" = none)(ha:PA X [a] ta)(hs:starEach [a] X.env=[(false,eval a X.env)]:=by rfl):PI X tg (.Call (.Name "range" p) [a] [] pos) (aOt ta):=by
 intro Aa s σ H R I h
 refine Call_ (nK I hg hm boot_range (PyProof.Rows.callWith_type1 (dX (ha pos Aa s σ H _ I h) λus s1 ⟨vs,H1,I1,r1,q1⟩=>?_) hs rfl))
 obtain⟨j,e,q1,q2,q⟩:=q1
 subst e
 cases r1 with
 |cons r rr =>
  cases rr
  obtain⟨t,rfl⟩:=r
  exact call_range_1 (aAe I1 (by lia) (by lia) q1 q2 (by simpa using q))
def aEm(wi:TI)(g:TG)(tb:TS):TS:=λD σ H=>wi σ H λJ H1=>∃W:Nat->Nat->St->Hp->Prop,(∃m,W 0 m σ H1)/\∀i m σ H,W i m σ H ->
 (J.stop i H/\D.nx σ H)\/(J.go i H/\∃N:St->Hp->Prop,(∀σ' H',N σ' H'->∃m',m'<m/\W (i+1) m' σ' H')/\∀x H',J.yld i H x H'->g x σ H' λσ2 H2=>tb { D with nx:=N,ct:=N,bk:=D.nx } σ2 H2)
def mU(fp:List Addr)(h:Heap):List (Addr×Obj):=fp.filterMap λb=>(h.get? b).map λo=>(b,o)
theorem ey_{fp:List Addr}{h:Heap}{b:Addr}{o:Obj}(hb:b∈fp)(e:h.get? b=some o):(b,o)∈mU fp h:=List.mem_filterMap.mpr ⟨b,hb,by rw[e];rfl⟩
theorem i_{fp:List Addr}{h:Heap}{p:Addr×Obj}(hp:p∈mU fp h):p.1∈fp/\h.get? p.1=some p.2:=by
 obtain⟨b,hb,e⟩:=List.mem_filterMap.mp hp
 cases q:h.get? b with
 |none=>rw[q]at e;cases e
 |some o =>
  rw[q]at e
  have e':(b,o)=p:=ozI e
  subst e'
  exact⟨hb,q⟩
theorem Inv.pinned{Aa:eS}{σ:St}{H:Hp}{s:Shared}{fp:List Addr}(I:Inv X Aa σ H s)(hf:∀b∈fp,jQ X Aa H b)(ho:∀b∈fp,∃o,s.heap.get? b=some o/\∀v,o.data ≠ .cell v):Inv X (Aa++mU fp s.heap) σ H s:=
 I.pins_of λp hp=>(bD.mp hp).elim (λz=>I.pin p (aG _ z)) λz=>by
  obtain⟨hb,e⟩:=i_ z
  obtain⟨f0,f1,f2,_⟩:=hf p.1 hb
  obtain⟨o,e',d⟩:=ho p.1 hb
  rw[e]at e';cases e'
  exact⟨e,f0,f1,f2,d⟩
theorem Inv.unpinned{Aa pl:eS}{σ:St}{H:Hp}{s:Shared}(I:Inv X (Aa++pl) σ H s):Inv X Aa σ H s:=I.pins_of λp hp=>I.pin p (aG _ (bG _ hp))
theorem rH{iter:Expr}{body:List Stmt}{wi:TI}{g:TG}{tb:TS}{pos:Pos}(hp:PassesOwn (model X.prog X.w) X.A X.env X.xe)(hc:X.calm=true)(hi:PI X tg iter wi)(hg:PG X tg g)(hb:PSs X body tb)
  (hs:∀x,foldedSetIterable iter X.env x=pure x:=by intro _;rfl):PS X (.For tg iter body [] pos) (aEm wi g tb):=by
 intro Aa s σ H D I h
 refine wpAny_For (dX (hi Aa s σ H _ I h) λv s1 h1=>dX h1 λitv s2 h2=>?_) hs
 obtain⟨it,fp,tn,J,H2,e,I2,T,Dk,f2,W,⟨m0,w0⟩,turn⟩:=h2
 subst e
 have stat:∀{H':Hp},(∀b∈fp,H' b=none)->∀b∈fp,jQ X Aa H' b:=λhn b hb=>⟨hn b hb,(f2 b hb).2⟩
 refine codeAny_forLoop_any (λn s'=>∃i σ' H',Inv X Aa σ' H' s'/\tn i s'.heap/\(∀b∈fp,H' b=none)/\W i n σ' H') ?_ m0 ⟨0,σ,H2,I2,Dk,λb hb=>(f2 b hb).1,w0⟩
 rintro n s3 ⟨i,σ3,H3,I3,Ig,Jb,w3⟩
 rcases turn i n σ3 H3 w3 with⟨stop,qn⟩ | ⟨go,N,hN,step⟩
 ·refine wpAny_passesOwn hp (dX (T.done X rfl rfl rfl hc i Aa s3 σ3 H3 X.xe I3 (stat Jb) Ig stop) fun r s4 ⟨hr,I4⟩ => ?_)
  subst hr
  exact wpAny_execs_nil ⟨σ3,H3,I4,qn⟩
 ·refine wpAny_passesOwn hp (dX (T.item X rfl rfl rfl hc i Aa s3 σ3 H3 X.xe I3 (stat Jb) Ig go) fun r s4 ⟨u,hr,h4⟩ => ?_)
  subst hr
  refine wpAny_passesOwn hp (dX h4 λ_ s5 ⟨x,H5,I5,r5,y5,Dj,Hy⟩=>?_)
  have I5':=I5.pinned (stat Hy) (T.obj _ _ Dj)
  refine wpAny_passesOwn hp (dX (hg _ s5 σ3 H5 x u _ I5' r5 (step x H5 y5)) λ_ s6 ⟨σ6,H6,I6,q6⟩=>?_)
  refine wpAny_passesOwn hp (dX (hb _ s6 σ6 H6 _ I6 q6) λf s7 q7=>?_)
  have again:∀{σ7:St} {H7:Hp},Inv X (Aa++mU fp s5.heap) σ7 H7 s7->N σ7 H7->∃m,m<n/\∃i σ' H',Inv X Aa σ' H' s7/\tn i s7.heap/\(∀b∈fp,H' b=none)/\W i m σ' H':=λ{σ7 H7} I7 n7=>by
   obtain⟨m',hm,w7⟩:=hN σ7 H7 n7
   refine⟨m',hm,i+1,σ7,H7,I7.unpinned,T.keep _ _ _ Dj λb hb o e=>(I7.pin (b,o) (aG _ (aG _ (ey_ hb e)))).1,λb hb=>?_,w7⟩
   obtain⟨o,e,d⟩:=T.obj _ _ Dj b hb
   exact(I7.pin (b,o) (aG _ (aG _ (ey_ hb e)))).2.1
  cases f with
  |next=>obtain⟨σ7,H7,I7,n7⟩:=q7;exact again I7 n7
  |cont=>obtain⟨σ7,H7,I7,n7⟩:=q7;exact again I7 n7
  |brk=>obtain⟨σ7,H7,I7,q7⟩:=q7;exact⟨σ7,H7,I7.unpinned,q7⟩
  |ret v=>obtain⟨x7,σ7,H7,I7,r7,q7⟩:=q7;exact⟨x7,σ7,H7,I7.unpinned,r7,q7⟩
end
theorem k_{lo:Int}{n:Nat}{g:TG}{tb:TS}{D:Ends}{σ:St}{H:Hp}(Pv:Nat->St->Hp->Prop)(h0:Pv 0 σ H)
  (hs:∀i σ H,i<n->Pv i σ H->g (.int (lo+i)) σ H λσ2 H2=>tb { D with nx:=Pv (i+1),ct:=Pv (i+1),bk:=D.nx } σ2 H2) (hd:∀σ H,Pv n σ H->D.nx σ H) :
  ∃W:Nat->Nat->St->Hp->Prop,(∃m,W 0 m σ H)/\∀i m σ H,W i m σ H ->
   ((Itr lo n).stop i H/\D.nx σ H)\/((Itr lo n).go i H/\∃N:St->Hp->Prop,(∀σ' H',N σ' H'->∃m',m'<m/\W (i+1) m' σ' H')/\∀x H',(Itr lo n).yld i H x H'->g x σ H' λσ2 H2=>tb { D with nx:=N,ct:=N,bk:=D.nx } σ2 H2):=by
 refine⟨λi m σ H=>m=n-i/\i<=n/\Pv i σ H,⟨n,by simp,dU _,h0⟩,?_⟩
 rintro i m σ H ⟨rfl,hi,p⟩
 by_cases Av:i<n
 ·refine .inr ⟨Av,Pv (i + 1),fun σ' H' p'=>⟨n - (i + 1),by lia,rfl,Av,p'⟩,fun x H' y => ?_⟩
  obtain⟨e,y⟩:=y
  subst e y
  exact hs i σ _ Av p
 ·have e:i=n:=by lia
  subst e
  exact .inl ⟨aK _,hd σ H p⟩
abbrev R2:=V->V->Hp->VK->Prop
def OpR(X:Cx)(f:Value->Value->Sem Value)(r:R2):Prop:=
 ∀(Aa:eS) (s:Shared) (σ:St) (H:Hp) (x y:V) (v u:Value) (Q:VK),Inv X Aa σ H s->RelV x v->RelV y u->r x y H Q ->
  wpAny (model X.prog X.w) X.A (f v u) (EP X Aa σ Q) X.xe s
def UnR(X:Cx)(f:Value->Sem Value)(r:V->Hp->VK->Prop):Prop:=
 ∀(Aa:eS) (s:Shared) (σ:St) (H:Hp) (x:V) (v:Value) (Q:VK),Inv X Aa σ H s->RelV x v->r x H Q ->
  wpAny (model X.prog X.w) X.A (f v) (EP X Aa σ Q) X.xe s
def CallR(X:Cx)(f:Value)(r:List V->Hp->VK->Prop):Prop:=
 ∀(Aa:eS) (s:Shared) (σ:St) (H:Hp) (xs:List V) (us:List Value) (Q:VK),Inv X Aa σ H s->Vals xs us->r xs H Q ->
  wpAny (model X.prog X.w) X.A (call f us) (EP X Aa σ Q) X.xe s
def tOp(r:R2)(ta tb:TE):TE:=λσ H Q=>ta σ H λx H1=>tb σ H1 λy H2=>r x y H2 Q
def tUn(r:V->Hp->VK->Prop)(ta:TE):TE:=λσ H Q=>ta σ H λx H1=>r x H1 Q
def rI(C:Int->Int->Prop)(g:Int->Int->V):R2:=λx y H Q=>∃i j,x=.int i/\y=.int j/\C i j/\Q (g i j) H
def rI0(g:Int->Int->V):R2:=λx y H Q=>∃i j,x=.int i/\y=.int j/\Q (g i j) H
def rU(g:Int->V):V->Hp->VK->Prop:=λx H Q=>∃i,x=.int i/\Q (g i) H
section
variable{X:Cx}{a b c:Expr}{ta tb tc:TE}{pos:Pos}
theorem aMi(ha:PE X a ta)(hb:PE X b tb){Aa:eS}{s:Shared}{σ:St}{H:Hp}{R:V->V->Hp->Prop}(I:Inv X Aa σ H s)
  (h:ta σ H λx H1=>tb σ H1 λy H2=>R x y H2) {Q:eQ} {f:Value->Value->Sem Value}
  (hf:∀v u s2 x y H2,Inv X Aa σ H2 s2->RelV x v->RelV y u->R x y H2->wpAny (model X.prog X.w) X.A (f v u) Q X.xe s2) :
  wpAny (model X.prog X.w) X.A (eval a X.env) (λv s₁=>wpAny (model X.prog X.w) X.A (eval b X.env) (λu s₂=>wpAny (model X.prog X.w) X.A (f v u) Q X.xe s₂) X.xe s₁) X.xe s:=by
 refine dX (ha Aa s σ H _ I h) λv s1 ⟨x,H1,I1,r1,q1⟩=>?_
 refine dX (hb Aa s1 σ H1 _ I1 q1) λu s2 ⟨y,H2,I2,r2,q2⟩=>?_
 exact hf v u s2 x y H2 I2 r1 r2 q2
theorem kX{op:Operator}{r:R2}(ho:OpR X (binaryOp op) r)(ha:PE X a ta)(hb:PE X b tb):PE X (.BinOp a op b pos) (tOp r ta tb):=by
 intro Aa s σ H Q I h
 exact wpAny_BinOp (aMi ha hb I h λv u s2 x y H2 I2 rx ry q=>ho Aa s2 σ H2 x y v u Q I2 rx ry q)
theorem tW{op:UnaryOp}{r:V->Hp->VK->Prop}(ho:UnR X (unaryOp op) r)(ha:PE X a ta):PE X (.UnaryOp op a pos) (tUn r ta):=by
 intro Aa s σ H Q I h
 exact UnaryOp_ (dX (ha Aa s σ H _ I h) λv s1 ⟨x,H1,I1,r1,q1⟩=>ho Aa s1 σ H1 x v Q I1 r1 q1)
theorem opI{f:Value->Value->Sem Value}{C:Int->Int->Prop}{g:Int->Int->Int}
  (rule:∀(i j:Int) (t u:Tok) (s:Shared) (Q:eQ) (E:eQ),C i j->Q (.int (g i j) s.toks) { s with toks:=s.toks+1 }->wpAny (model X.prog X.w) X.A (f (.int i t) (.int j u)) Q E s) :
  OpR X f (rI C λi j=>.int (g i j)):=by
 intro Aa s σ H x y v u Q I rx ry h
 obtain⟨i,j,rfl,rfl,hc,q⟩:=h
 obtain⟨t,rfl⟩:=rx
 obtain⟨t',rfl⟩:=ry
 exact rule i j t t' s _ _ hc ⟨.int (g i j),H,I.tok _,⟨_,rfl⟩,q⟩
theorem aOl{f:Value->Value->Sem Value}{g:Int->Int->Int}
  (rule:∀(i j:Int) (t u:Tok) (s:Shared) (Q:eQ) (E:eQ),Q (.int (g i j) s.toks) { s with toks:=s.toks+1 }->wpAny (model X.prog X.w) X.A (f (.int i t) (.int j u)) Q E s) :
  OpR X f (rI0 λi j=>.int (g i j)):=by
 intro Aa s σ H x y v u Q I rx ry h
 obtain⟨i,j,rfl,rfl,q⟩:=h
 obtain⟨t,rfl⟩:=rx
 obtain⟨t',rfl⟩:=ry
 exact rule i j t t' s _ _ ⟨.int (g i j),H,I.tok _,⟨_,rfl⟩,q⟩
theorem aFm{f:Value->Value->Sem Value}{g:Int->Int->Bool}
  (rule:∀(i j:Int) (t u:Tok) (s:Shared) (Q:eQ) (E:eQ),Q (.bool (g i j)) s->wpAny (model X.prog X.w) X.A (f (.int i t) (.int j u)) Q E s) :
  OpR X f (rI0 λi j=>.bl (g i j)):=by
 intro Aa s σ H x y v u Q I rx ry h
 obtain⟨i,j,rfl,rfl,q⟩:=h
 obtain⟨t,rfl⟩:=rx
 obtain⟨t',rfl⟩:=ry
 exact rule i j t t' s _ _ ⟨.bl (g i j),H,I,rfl,q⟩
def aMq(i j:Int):Prop:=0<=j/\j<=1000000/\i.natAbs<2^64
def CMul(i j:Int):Prop:=(-(2^64)<i/\i<2^64)\/(-(2^64)<j/\j<2^64)
theorem CMul.ok{i j:Int}(h:CMul i j):IntMulOk i j:=by
 rcases h with⟨h1,h2⟩ | ⟨h1,h2⟩
 ·exact .of_left (intBits_le_64 h1 h2)
 ·exact .of_right (intBits_le_64 h1 h2)
theorem hX:OpR X (binaryOp .Add) (rI0 λi j=>.int (i+j)):=aOl λ_ _ _ _ _ _ _ q=>add_int q
theorem aKb:OpR X (binaryOp .Sub) (rI0 λi j=>.int (i-j)):=aOl λ_ _ _ _ _ _ _ q=>sub_int q
theorem kJ:OpR X (binaryOp .Mod) (rI (λ_ j=>0<j) λi j=>.int (i%j)):=opI λi j _ _ _ _ _ hc q=>by
 have h1:(0:Int)<j:=hc
 exact mod_int' (by lia) (by rw[Int.fmod_eq_emod_of_nonneg i (by lia)];exact q)
theorem aKd:OpR X (binaryOp .Pow) (rI aMq λi j=>.int (i^j.toNat)):=opI λ_ _ _ _ _ _ _ hc q=>pow_int_small hc.1 hc.2.1 hc.2.2 q
theorem unI{f:Value->Sem Value}{g:Int->Int}
  (rule:∀(i:Int) (t:Tok) (s:Shared) (Q:eQ) (E:eQ),Q (.int (g i) s.toks) { s with toks:=s.toks+1 }->wpAny (model X.prog X.w) X.A (f (.int i t)) Q E s) :
  UnR X f (rU λi=>.int (g i)):=by
 intro Aa s σ H x v Q I rx h
 obtain⟨i,rfl,q⟩:=h
 obtain⟨t,rfl⟩:=rx
 exact rule i t s _ _ ⟨.int (g i),H,I.tok _,⟨_,rfl⟩,q⟩
theorem mM:UnR X (unaryOp .USub) (rU λi=>.int (-i)):=unI λ_ _ _ _ _ q=>neg_int q
end
def aJg:V->V->Bool
 | .non,.non=>true | .non,.int _=>true | .int _,.non=>true | .non,.bl _=>true | .bl _,.non=>true | .non,.str _=>true | .str _,.non=>true
 | .int _,.int _=>true | .bl _,.bl _=>true | .str _,.str _=>true | .byt _,.byt _=>true
 | .int _,.str _=>true | .str _,.int _=>true | .bl _,.str _=>true | .str _,.bl _=>true
 |_,_=>false
def rEq:R2:=λx y H Q=>aJg x y=true/\Q (.bl (decide (x=y))) H
def rNe:R2:=λx y H Q=>aJg x y=true/\Q (.bl (!decide (x=y))) H
theorem b8{i j:Int}:decide (V.int i=V.int j)=(i == j):=by
 rw[Bool.eq_iff_iff]
 simp
theorem aCv{i j:Bool}:decide (V.bl i=V.bl j)=(i == j):=by
 rw[Bool.eq_iff_iff]
 simp
theorem b7{i j:Str}:decide (V.str i=V.str j)=(i == j):=by
 rw[Bool.eq_iff_iff]
 simp
theorem b9{i j:Array UInt8}:decide (V.byt i=V.byt j)=(i.toList == j.toList):=by
 rw[Bool.eq_iff_iff]
 cases i
 cases j
 simp
section
variable{X:Cx}{a b c:Expr}{ta tb tc:TE}{pos:Pos}
theorem jR{Aa:eS}{σ:St}{H:Hp}{s:Shared}{Q:VK}{k k':Bool}(I:Inv X Aa σ H s)(q:Q (.bl k) H)(e:k=k'):EP X Aa σ Q (.bool k') s:=by
 subst e
 exact⟨.bl k,H,I,rfl,q⟩
theorem yV:OpR X (compareOp .Eq) rEq:=by
 intro Aa s σ H x y v u Q I rx ry h
 obtain⟨hs,q⟩:=h
 cases x with
 |non =>
  cases rx
  cases y with
  |non=>cases ry;exact PySem.EqNone.eq_none_none (jR I q (by simp))
  |bl j=>cases ry;exact PySem.EqNone.eq_none_bool (jR I q (by simp))
  |int j=>obtain⟨t',rfl⟩:=ry;exact PySem.EqNone.eq_none_int (jR I q (by simp))
  |str j=>obtain⟨t',rfl⟩:=ry;exact PySem.EqNone.eq_none_str (jR I q (by simp))
  |_=>exact absurd (show false=true from hs) aE
 |bl i =>
  cases rx
  cases y with
  |non=>cases ry;exact PySem.EqNone.eq_bool_none (jR I q (by simp))
  |bl j=>cases ry;exact eq_bool (jR I q aCv)
  |str j=>obtain⟨t',rfl⟩:=ry;exact PySem.EqMixed.eq_bool_str (jR I q (by simp))
  |_=>exact absurd (show false=true from hs) aE
 |int i =>
  obtain⟨t,rfl⟩:=rx
  cases y with
  |non=>cases ry;exact PySem.EqNone.eq_int_none (jR I q (by simp))
  |int j=>obtain⟨t',rfl⟩:=ry;exact eq_int (jR I q b8)
  |str j=>obtain⟨t',rfl⟩:=ry;exact PySem.EqMixed.eq_int_str (jR I q (by simp))
  |_=>exact absurd (show false=true from hs) aE
 |str i =>
  obtain⟨t,rfl⟩:=rx
  cases y with
  |non=>cases ry;exact PySem.EqNone.eq_str_none (jR I q (by simp))
  |bl j=>cases ry;exact PySem.EqMixed.eq_str_bool (jR I q (by simp))
  |int j=>obtain⟨t',rfl⟩:=ry;exact PySem.EqMixed.eq_str_int (jR I q (by simp))
  |str j=>obtain⟨t',rfl⟩:=ry;exact eq_str (jR I q b7)
  |_=>exact absurd (show false=true from hs) aE
 |byt i =>
  obtain⟨t,rfl⟩:=rx
  cases y with
  |byt j=>obtain⟨t',rfl⟩:=ry;exact PySem.W.eq_bytes (jR I q b9)
  |_=>exact absurd (show false=true from hs) aE
 |_=>cases y<;>exact absurd (show false=true from hs) aE
theorem aOk:OpR X (compareOp .NotEq) rNe:=by
 intro Aa s σ H x y v u Q I rx ry h
 obtain⟨hs,q⟩:=h
 cases x with
 |non =>
  cases rx
  cases y with
  |non=>cases ry;exact PySem.EqNone.ne_none_none (jR I q (by simp))
  |bl j=>cases ry;exact PySem.EqNone.ne_none_bool (jR I q (by simp))
  |int j=>obtain⟨t',rfl⟩:=ry;exact PySem.EqNone.ne_none_int (jR I q (by simp))
  |str j=>obtain⟨t',rfl⟩:=ry;exact PySem.EqNone.ne_none_str (jR I q (by simp))
  |_=>exact absurd (show false=true from hs) aE
 |bl i =>
  cases rx
  cases y with
  |non=>cases ry;exact PySem.EqNone.ne_bool_none (jR I q (by simp))
  |bl j=>cases ry;exact ne_bool (jR I q (congrArg not aCv))
  |str j=>obtain⟨t',rfl⟩:=ry;exact PySem.EqMixed.ne_bool_str (jR I q (by simp))
  |_=>exact absurd (show false=true from hs) aE
 |int i =>
  obtain⟨t,rfl⟩:=rx
  cases y with
  |non=>cases ry;exact PySem.EqNone.ne_int_none (jR I q (by simp))
  |int j=>obtain⟨t',rfl⟩:=ry;exact ne_int (jR I q (congrArg not b8))
  |str j=>obtain⟨t',rfl⟩:=ry;exact PySem.EqMixed.ne_int_str (jR I q (by simp))
  |_=>exact absurd (show false=true from hs) aE
 |str i =>
  obtain⟨t,rfl⟩:=rx
  cases y with
  |non=>cases ry;exact PySem.EqNone.ne_str_none (jR I q (by simp))
  |bl j=>cases ry;exact PySem.EqMixed.ne_str_bool (jR I q (by simp))
  |int j=>obtain⟨t',rfl⟩:=ry;exact PySem.EqMixed.ne_str_int (jR I q (by simp))
  |str j=>obtain⟨t',rfl⟩:=ry;exact ne_str (jR I q (congrArg not b7))
  |_=>exact absurd (show false=true from hs) aE
 |byt i =>
  obtain⟨t,rfl⟩:=rx
  cases y with
  |byt j=>obtain⟨t',rfl⟩:=ry;exact PySem.W.ne_bytes (jR I q (congrArg not b9))
  |_=>exact absurd (show false=true from hs) aE
 |_=>cases y<;>exact absurd (show false=true from hs) aE
theorem nA:OpR X (compareOp .Lt) (rI0 λi j=>.bl (decide (i<j))):=aFm λ_ _ _ _ _ _ _ q=>lt_int q
theorem uB:OpR X (compareOp .LtE) (rI0 λi j=>.bl (decide (i<=j))):=aFm λ_ _ _ _ _ _ _ q=>le_int q
theorem aBc:OpR X (compareOp .Gt) (rI0 λi j=>.bl (decide (j<i))):=aFm λ_ _ _ _ _ _ _ q=>gt_int q
theorem aHz:OpR X (compareOp .GtE) (rI0 λi j=>.bl (decide (j<=i))):=aFm λ_ _ _ _ _ _ _ q=>ge_int q
theorem OpR.or{f:Value->Value->Sem Value}{r r':R2}(h:OpR X f r)(h':OpR X f r'):OpR X f (λx y H Q=>r x y H Q\/r' x y H Q):=by
 intro Aa s σ H x y v u Q I rx ry q
 rcases q with q | q
 ·exact h Aa s σ H x y v u Q I rx ry q
 ·exact h' Aa s σ H x y v u Q I rx ry q
theorem bQ(b:Expr){op:CmpOp}(h:op ≠ .In:=by decide)(h2:op ≠ .NotIn:=by decide):behindInMarks op b=false:=by
 have e1:(op == CmpOp.In)=false:=by cases op<;>first | rfl | exact absurd rfl h
 have e2:(op == CmpOp.NotIn)=false:=by cases op<;>first | rfl | exact absurd rfl h2
 cases b<;>simp[behindInMarks,e1,e2]
theorem aFj{op:CmpOp}{r:R2}(ho:OpR X (compareOp op) r)(ha:PE X a ta)(hb:PE X b tb)(hm:behindInMarks op b=false):PE X (.Compare a [op] [b] pos) (tOp r ta tb):=by
 intro Aa s σ H Q I h
 exact wpAny_Compare1 (aMi ha hb I h λv u s2 x y H2 I2 rx ry q=>ho Aa s2 σ H2 x y v u Q I2 rx ry q) hm
def x5(t:TE):TT:=λσ H Q=>t σ H λx H'=>∃k,x=.bl k/\Q k H'
theorem gf_{op:CmpOp}{r:R2}(ho:OpR X (compareOp op) r)(ha:PE X a ta)(hb:PE X b tb)(hm:behindInMarks op b=false):PT X (.Compare a [op] [b] pos) (x5 (tOp r ta tb)):=by
 intro Aa s σ H Q I h
 refine wpAny_isTrue_Compare1 (dX (ha Aa s σ H _ I h) λv s1 ⟨x,H1,I1,r1,q1⟩=>dX (hb Aa s1 σ H1 _ I1 q1) λu s2 ⟨y,H2,I2,r2,q2⟩ =>
  dX (ho Aa s2 σ H2 x y v u _ I2 r1 r2 q2) λc s3 ⟨z,H3,I3,r3,k,e,q3⟩=>?_) hm
 subst e
 cases r3
 exact wpAny_truthy_bool ⟨H3,I3,q3⟩
def wF(r r':R2)(ta tb tc:TE):TE:=λσ H Q=>ta σ H λx H1=>tb σ H1 λy H2=>r x y H2 λz H3=>∃k,z=.bl k /\
 (if k=true then tc σ H3 λw' H4=>r' y w' H4 Q else Q (.bl false) H3)
theorem aAv{op op':CmpOp}{r r':R2}(ho:OpR X (compareOp op) r)(Cd:OpR X (compareOp op') r')(ha:PE X a ta)(hb:PE X b tb)(hc:PE X c tc)
  (hm:lastMarks [op,op'] [b,c]=false:=by with_unfolding_all rfl):PE X (.Compare a [op,op'] [b,c] pos) (wF r r' ta tb tc):=by
 intro Aa s σ H Q I h
 refine Compare_chain (dX (ha Aa s σ H _ I h) λv s1 ⟨x,H1,I1,r1,q1⟩=>chain_link (dX (hb Aa s1 σ H1 _ I1 q1) λu s2 ⟨y,H2,I2,r2,q2⟩ =>
  dX (ho Aa s2 σ H2 x y v u _ I2 r1 r2 q2) λd s3 ⟨z,H3,I3,r3,k,e,q3⟩=>?_)) hm
 subst e
 cases r3
 refine wpAny_truthy_bool ?_
 cases k with
 |false=>exact ite_ff ⟨.bl false,H3,I3,rfl,q3⟩
 |true=>exact ite_tt (chain_last (dX (hc Aa s3 σ H3 _ I3 q3) λw' s4 ⟨z',H4,I4,r4,q4⟩=>Cd Aa s4 σ H4 y z' u w' Q I4 r2 r4 q4))
theorem aAn{op op':CmpOp}{r r':R2}(ho:OpR X (compareOp op) r)(Cd:OpR X (compareOp op') r')(ha:PE X a ta)(hb:PE X b tb)(hc:PE X c tc)
  (hm:lastMarks [op,op'] [b,c]=false:=by with_unfolding_all rfl):PT X (.Compare a [op,op'] [b,c] pos) (x5 (wF r r' ta tb tc)):=by
 intro Aa s σ H Q I h
 refine isTrue_chain (dX (ha Aa s σ H _ I h) λv s1 ⟨x,H1,I1,r1,q1⟩=>test_link (dX (hb Aa s1 σ H1 _ I1 q1) λu s2 ⟨y,H2,I2,r2,q2⟩ =>
  dX (ho Aa s2 σ H2 x y v u _ I2 r1 r2 q2) λd s3 ⟨z,H3,I3,r3,k,e,q3⟩=>?_)) hm
 subst e
 cases r3
 refine wpAny_truthy_bool ?_
 cases k with
 |false =>
  obtain⟨k',e',q'⟩:=q3
  cases e'
  exact ite_ff ⟨H3,I3,q'⟩
 |true =>
  refine ite_tt (test_last (dX (hc Aa s3 σ H3 _ I3 q3) λw' s4 ⟨z',H4,I4,r4,q4⟩=>dX (Cd Aa s4 σ H4 y z' u w' _ I4 r2 r4 q4) λd' s5 ⟨z2,H5,I5,r5,k2,e2,q5⟩=>?_))
  subst e2
  cases r5
  exact wpAny_truthy_bool ⟨H5,I5,q5⟩
theorem kK:(sizeLine:Nat)<2^63:=by rw[sizeLine_eq];decide
theorem hW:OpR X (binaryOp .Add) (λx y H Q=>∃i j,x=.str i/\y=.str j/\i.length+j.length<=sizeLine/\Q (.str (i++j)) H):=by
 intro Aa s σ H x y v u Q I rx ry h
 obtain⟨i,j,rfl,rfl,hz,q⟩:=h
 obtain⟨t,rfl⟩:=rx
 obtain⟨t',rfl⟩:=ry
 exact add_str (λt' tk=>⟨.str (i++j),H,I.tok _,⟨_,rfl⟩,q⟩) hz
theorem iG{x:V}{us:List Value}(r:Vals [x] us):∃u,us=[u]/\RelV x u:=by
 cases r with
 |cons r1 r2=>cases r2;exact⟨_,rfl,r1⟩
theorem tF{x y:V}{us:List Value}(r:Vals [x,y] us):∃u w',us=[u,w']/\RelV x u/\RelV y w':=by
 cases r with
 |cons r1 r2 =>
  cases r2 with
  |cons r3 r4=>cases r4;exact⟨_,_,rfl,r1,r3⟩
theorem o4(hc:X.calm=true):CallR X (.builtin "max") (λxs H Q=>∃i j,xs=[.int i,.int j]/\Q (.int (if j>i then j else i)) H):=by
 intro Aa s σ H xs us Q I r h
 obtain⟨i,j,rfl,q⟩:=h
 obtain⟨u,w',rfl,⟨t,rfl⟩,⟨t',rfl⟩⟩:=tF r
 refine max_two_ints (I.ok.hd hc) λh' tk k=>⟨_,H,I.kept k,?_,q⟩
 by_cases hj:j>i
 ·rw[if_pos hj,if_pos hj];exact⟨_,rfl⟩
 ·rw[if_neg hj,if_neg hj];exact⟨_,rfl⟩
theorem n9(hc:X.calm=true):CallR X (.builtin "min") (λxs H Q=>∃i j,xs=[.int i,.int j]/\Q (.int (if j<i then j else i)) H):=by
 intro Aa s σ H xs us Q I r h
 obtain⟨i,j,rfl,q⟩:=h
 obtain⟨u,w',rfl,⟨t,rfl⟩,⟨t',rfl⟩⟩:=tF r
 refine min_two_ints (I.ok.hd hc) λh' tk k=>⟨_,H,I.kept k,?_,q⟩
 by_cases hj:j<i
 ·rw[if_pos hj,if_pos hj];exact⟨_,rfl⟩
 ·rw[if_neg hj,if_neg hj];exact⟨_,rfl⟩
theorem qJ:CallR X (.type "int") (λxs H Q=>(∃i,xs=[.int i]/\Q (.int i) H)\/∃k,xs=[.bl k]/\Q (.int (if k then 1 else 0)) H):=by
 intro Aa s σ H xs us Q I r h
 rcases h with⟨i,rfl,q⟩ | ⟨k,rfl,q⟩
 ·obtain ⟨u,rfl,t,rfl⟩:=iG r
  exact call_int_int ⟨.int i,H,I,⟨_,rfl⟩,q⟩
 ·obtain ⟨u,rfl,r1⟩:=iG r
  cases r1
  exact call_int_bool ⟨.int (if k then 1 else 0),H,I.tok _,⟨_,rfl⟩,q⟩
end
structure ObjM(h:Heap)(x dx C:Addr)(mA:lG):Prop where
 obj:h.get? x=some (PySem.W.instObj C dx)
 ns:h.Ns1 dx mA
 ne:dx≠x
theorem j4{h:Heap}{dx:Addr}{mA:lG}(n:h.Ns1 dx mA):∃od,h.get? dx=some od/\∀name,PySem.W.lookIn name od=some (mA name):=by
 obtain⟨o,es,ep,ho,hd,hk,_,hm⟩:=n
 refine⟨o,ho,λname=>?_⟩
 have e:=hm name
 unfold nsFind findBy at e
 rw[<-Array.find?_toList]at e
 unfold PySem.W.lookIn
 rw[hd]
 dsimp only
 split
 ·rename_i y q
  rw[q]at e
  exact congrArg some e
 ·rename_i q
  rw[q]at e
  have a:es.toList.any (·.refKey)=false:=by
   rw[fG]
   intro y hy
   obtain⟨z,t,Ha⟩:=hk y (Array.mem_toList_iff.mp hy)
   simp[DictEntry.refKey,Ha]
  have a':¬es.toList.any (·.refKey)=true:=by rw[a];exact aE
  rw[if_neg a']
  exact congrArg some e
theorem ObjM.look{h:Heap}{x dx C:Addr}{mA:lG}(I:ObjM h x dx C mA):∃od,PySem.W.InstAt h x (PySem.W.instObj C dx) C (some od)/\∀name,PySem.W.lookIn name od=some (mA name):=
 let ⟨od,ho,hl⟩:=j4 I.ns
 ⟨od,⟨I.obj,rfl,rfl,ho⟩,hl⟩
theorem RelO.some_of{v:V}{o:Option Value}(r:RelO (some v) o):∃u,o=some u/\RelV v u:=by
 cases o with
 |none=>exact(show False from r).elim
 |some u=>exact⟨u,rfl,r⟩
theorem RelO.none_of{o:Option Value}(r:RelO none o):o=none:=by
 cases o with
 |none=>rfl
 |some u=>exact(show False from r).elim
section
variable{P:Program}{w:World}{H H':Hp}{h h':Heap}{a C dx:Addr}{fs fs':List (Str×V)}
theorem zJ(hok:HOk P w H h)(e:H a=some (.ins C dx fs)):∃mA,ObjM h a dx C mA/\(∀f,RelO (fs.lookup f) (mA f))/\PySem.Within mA (fs.map (·.1))/\fs.length<=1000/\H dx=some (.own a):=by
 obtain⟨d,z,ne,ob,mA,n,r,q⟩:=(show ObjOk P w H h a (.ins C dx fs)from hok a _ e)
 exact⟨mA,⟨ob,n,ne⟩,r,q,z,d⟩
end
structure Cls(K:dQ)(C:Addr):Prop where
 pg:PySem.W.plainGet K C Str.empty=true
 hd:PySem.W.hasDictIn K C=true
 po:PySem.W.plainOver K C=true
 sa:PySem.W.findIn K (.ref C) "__setattr__" = some (some (.builtin "object.__setattr__"))
theorem Cls.get{K:dQ}{C:Addr}(c:Cls K C)(f:Str):PySem.W.plainGet K C f=true:=c.pg
section
variable{X:Cx}{Aa:eS}{σ:St}{H:Hp}{s:Shared}{A:Around}{E:eQ}{Q:eQ}{c:Value}{b:Bool}
inductive TyOf(K:dQ)(H:Hp):V->Value->Prop where
 |non:TyOf K H .non (.type "NoneType")
 |bl (x:Bool):TyOf K H (.bl x) (.type "bool")
 |int (i:Int):TyOf K H (.int i) (.type "int")
 |str (x:Str):TyOf K H (.str x) (.type "str")
 |flt (x:UInt64):TyOf K H (.flt x) (.type "float")
 |lst {a:Addr} {xs:List V} (e:H a=some (.lst xs)):TyOf K H (.ref a) (.type "list")
 |frz {a:Addr} {o:Obj} {xs:List V} (e:H a=some (.frz o (.lst xs))):TyOf K H (.ref a) (.type "list")
 |tup {a:Addr} {xs:List V} (e:H a=some (.tup xs)):TyOf K H (.ref a) (.type "tuple")
 |dK {a:Addr} {kvs:List (Key×V)} (e:H a=some (.dK kvs)):TyOf K H (.ref a) (.type "dict")
 |dT {a:Addr} {kvs:List (List Key×V)} (e:H a=some (.dT kvs)):TyOf K H (.ref a) (.type "dict")
 | ins {a C dx : Addr} {fs : List (Str × V)} (e : H a = some (.ins C dx fs)) (cl : Cls K C) (ha : PySem.W.findIn K (.ref C) "__class__" = some (some (.builtin "object.__class__")))
   (hn:PySem.W.specialIn K (.builtin "object.__class__") "__get__" = some (some (.builtin "getset_descriptor.__get__"))) (Ft:PySem.W.takesIn K (.builtin "object.__class__")=some true)
   (hm:PySem.W.mroIn K C (.type "object")=some true):TyOf K H (.ref a) (.ref C)
theorem db_{x:V}{u t:Value}(I:Inv X Aa σ H s)(rx:RelV x u)(ty:TyOf X.K H x t)(e:PySem.W.kitOne X.K t c=some b)(h:∀tk,Q (.bool b) { s with toks:=tk }) :
  wpAny (model X.prog X.w) A (call (.builtin "isinstance") [u,c]) Q E s:=by
 cases ty with
 |non=>cases(show u=Value.none from rx);exact PySem.W.kia_one PySem.W.kitx_none I.kIn True.intro e (λz=>nomatch z) h
 |bl y=>cases(show u=Value.bool y from rx);exact PySem.W.kia_one PySem.W.kitx_bool I.kIn True.intro e (λz=>nomatch z) h
 |int i=>obtain⟨t,q⟩:=(show ∃t,u=Value.int i t from rx);cases q;exact PySem.W.kia_one PySem.W.kitx_int I.kIn True.intro e (λz=>nomatch z) h
 |str y=>obtain⟨t,q⟩:=(show ∃t,u=Value.str y t from rx);cases q;exact PySem.W.kia_one PySem.W.kitx_str I.kIn True.intro e (λz=>nomatch z) h
 |flt y=>obtain⟨t,q⟩:=(show ∃t,u=Value.float y t from rx);cases q;exact PySem.W.kia_one PySem.W.kitx_float I.kIn True.intro e (λz=>nomatch z) h
 | @lst a xs ea =>
  cases(show u=Value.ref a from rx)
  obtain⟨_,_,n,_,h1⟩:=(show ObjOk X.prog X.w H s.heap a (.lst xs)from I.hok a _ ea)
  exact PySem.W.kia_one PySem.W.kitx_list I.kIn ⟨_,h1,rfl⟩ e (λz=>nomatch z) h
 | @frz a ob xs ea =>
  cases(show u=Value.ref a from rx)
  obtain⟨_,_,_,n,_,h1⟩:=(show ObjOk X.prog X.w H s.heap a (.frz ob (.lst xs))from I.hok a _ ea)
  exact PySem.W.kia_one PySem.W.kitx_list I.kIn ⟨_,h1,rfl⟩ e (λz=>nomatch z) h
 | @tup a xs ea =>
  cases(show u=Value.ref a from rx)
  obtain⟨_,_,_,p⟩:=(show ObjOk X.prog X.w H s.heap a (.tup xs)from I.hok a _ ea)
  obtain⟨o,h1,h2,_⟩:=p
  exact PySem.W.kia_one PySem.W.kitx_tuple I.kIn ⟨o,h1,h2⟩ e (λz=>nomatch z) h
 | @dK a kvs ea =>
  cases(show u=Value.ref a from rx)
  obtain⟨o,es,ep,h1,h2,_⟩:=fu_ (show ObjOk X.prog X.w H s.heap a (.dK kvs)from I.hok a _ ea)
  exact PySem.W.kia_one PySem.W.kitx_dict I.kIn ⟨o,h1,h2.1⟩ e (λz=>nomatch z) h
 | @dT a kvs ea =>
  cases(show u=Value.ref a from rx)
  obtain⟨_,_,xs,_,o,es,ep,h1,h2,_⟩:=(show ObjOk X.prog X.w H s.heap a (.dT kvs)from I.hok a _ ea)
  exact PySem.W.kia_one PySem.W.kitx_dict I.kIn ⟨o,h1,h2.1⟩ e (λz=>nomatch z) h
 | @ins a C dx fs ea cl ha hn Ft hm =>
  cases(show u=Value.ref a from rx)
  obtain⟨mA,O,_⟩:=zJ I.hok ea
  obtain⟨od,J,_⟩:=O.look
  exact PySem.W.kia_one (PySem.W.kitx_own (cl.get _) cl.hd ha hn Ft hm) I.kIn J e (λz=>nomatch z) h
end
structure Room(k:Nat)(A:Around):Prop where
 hd:A.handled=none
 dp:A.depth+3*k+5<recursionLimit
 un:A.units+16*k+200<cLine
 gd:A.guards=some []
theorem Room.mono{j k:Nat}{A:Around}(r:Room k A)(h:j<=k):Room j A:=⟨r.hd,by have:=r.dp;lia,by have:=r.un;lia,r.gd⟩
theorem Room.deeper{k:Nat}{A:Around}(r:Room (k+1) A)(env:Env):Room k (A.deeper env):=
 ⟨r.hd,by have:=r.dp;show A.depth+1+3*k+5<_;lia,by have:=r.un;show A.units+3+16*k+200<_;lia,r.gd⟩
theorem Room.depth{k:Nat}{A:Around}(r:Room k A):A.depth<recursionLimit:=by have:=r.dp;lia
theorem Room.units{k:Nat}{A:Around}(r:Room k A):A.units+64<cLine:=by have:=r.un;lia
theorem Room.units0{k:Nat}{A:Around}(r:Room k A):A.units<cLine:=by have:=r.un;lia
def aJc:TA:=λ_ H Q=>Q [] H
def tI(ta:TE)(tr:TA):TA:=λσ H Q=>ta σ H λx H1=>tr σ H1 λxs H2=>Q (x::xs) H2
section
variable{X:Cx}{e:Expr}{es:List Expr}{te:TE}{t:TA}{pos:Pos}
theorem oP:PA X [] aJc:=λ_ _ _ _ H Q I h=>Calls.spliced_nil ⟨[],H,I,.nil,h⟩
theorem iE(ha:PE X e te)(hr:PA X es t)(hs:starEach (e::es) X.env=(false,eval e X.env)::starEach es X.env:=by rfl):PA X (e::es) (tI te t):=by
 intro pos Aa s σ H Q I h
 rw[hs]
 show wpAny _ _ (spliced ((false,eval e X.env)::backTo pos (starEach es X.env))) _ _ s
 refine Calls.spliced_cons (dX (ha Aa s σ H _ I h) λu s1 ⟨x,H1,I1,r1,q1⟩=>?_)
 exact dX (hr pos Aa s1 σ H1 _ I1 q1) λus s2 ⟨xs,H2,I2,r2,q2⟩=>⟨x::xs,H2,I2,.cons r1 r2,q2⟩
def aNp(t:TA):TE:=λσ H Q=>t σ H λxs H1=>xs.length<=sizeLine/\∀p,H1 p=none->Q (.ref p) (upd H1 p (.tup xs))
def aRn(t:TA):TE:=λσ H Q=>t σ H λxs H1=>xs.length<=sizeLine/\∀p,H1 p=none->Q (.ref p) (upd H1 p (.lst xs))
theorem wJ{x1}(h:PA X es t):PE X (.Tuple es x1 pos) (aNp t):=by
 intro Aa s σ H Q I hq
 refine wpAny_Tuple_spliced (dX (h pos Aa s σ H _ I hq) λus s1 ⟨xs,H1,I1,r,z,q⟩=>⟨by rw[<-r.length];exact z,?_⟩)
 have hf:H1 s1.heap.objs.size=none:=I1.hok.fresh (aK _)
 refine⟨.ref s1.heap.objs.size,upd H1 s1.heap.objs.size (.tup xs),I1.laid (t':=s1.toks) (λb u e=>aC _ e) (aK _) ?_,rfl,q _ hf⟩
 exact⟨z,us,r,⟨_,aU _ rfl,rfl,_,rfl⟩⟩
theorem rL(h:PA X es t):PE X (.List es pos) (aRn t):=by
 intro Aa s σ H Q I hq
 refine wpAny_List_spliced (dX (h pos Aa s σ H _ I hq) λus s1 ⟨xs,H1,I1,r,z,q⟩=>⟨by rw[<-r.length];exact z,?_⟩)
 have hf:H1 s1.heap.objs.size=none:=I1.hok.fresh (aK _)
 refine⟨.ref s1.heap.objs.size,upd H1 s1.heap.objs.size (.lst xs),I1.laid (t':=s1.toks) (λb u e=>aC _ e) (aK _) ?_,rfl,q _ hf⟩
 exact⟨z,us,0,r,aU _ rfl⟩
end
abbrev Sp:=List V->Hp->VK->XK->Prop
abbrev CXT:=List Env->Hp->Shared->XK->Value->Shared->Prop
structure Env0(P:Program)(w:World)(K:dQ)(mg:lG)(base:Heap)(A:Around)(outer:List Env)(s:Shared)(H:Hp):Prop where
 frames:A.frames=some outer
 mod:Mod K mg base
 bs:∀b o,base.get? b=some o->s.heap.get? b=some o/\H b=none
 bsz:base.objs.size<=s.heap.objs.size
 funs:s.heap.FunFrames base outer
 frf:∀b∈frs outer,H b=none
 hok:HOk P w H s.heap
 bare:AllBare s.gens
def CE(outer:List Env)(P:Program)(w:World)(H:Hp)(s:Shared)(Q:VK)(u:Value)(s':Shared):Prop:=
 ∃v H',s'.os=s.os/\AllBare s'.gens/\Un (frs outer) [] H H' s.heap s'.heap/\HOk P w H' s'.heap/\RelV v u/\Q v H'
def CR(CX:CXT)(outer:List Env)(P:Program)(w:World)(H:Hp)(s:Shared)(Q:VK)(E:XK)(r:Result)(s':Shared):Prop:=
 match r with
 | .ok (.ret u)=>CE outer P w H s Q u s'
 | .ok _=>False
 | .error e=>CX outer H s E e s'
structure FnOk(P:Program)(w:World)(K:dQ)(mg:lG)(base:Heap)(CX:CXT)(k:Nat)(f:Addr)(fd:FuncData)(ps:List Str)(sp:Sp):Prop where
 len:∀vs H Q E,sp vs H Q E->vs.length=ps.length
 run:∀(A:Around) (outer:List Env) (s:Shared) (H:Hp) (args:Args) (us:List Value) (vs:List V) (Q:VK) (E:XK),Room k A->Env0 P w K mg base A outer s H->BindsTo s fd args (ps.zip us)->Vals vs us->sp vs H Q E ->
  codeAny (model P w) A (.call (.ref f) args) (CR CX outer P w H s Q E) s
theorem FnOk.mono{CX:CXT}{j k:Nat}{f:Addr}{fd:FuncData}{ps:List Str}{sp:Sp}(F:FnOk P w K mg base CX j f fd ps sp)(h:j<=k) :
  FnOk P w K mg base CX k f fd ps sp:=⟨F.len,λA outer s H args us vs Q E hr=>F.run A outer s H args us vs Q E (hr.mono h)⟩
theorem FnOk.imp{CX:CXT}{k:Nat}{f:Addr}{fd:FuncData}{ps:List Str}{sp sp':Sp}(F:FnOk P w K mg base CX k f fd ps sp)
  (h:∀vs H Q E,sp' vs H Q E->sp vs H Q E):FnOk P w K mg base CX k f fd ps sp':=
 ⟨λvs H Q E q=>F.len vs H Q E (h _ _ _ _ q),λA outer s H args us vs Q E hr he hb hv hs=>F.run A outer s H args us vs Q E hr he hb hv (h _ _ _ _ hs)⟩
section
variable{X:Cx}{Aa:eS}{σ:St}{H:Hp}{s s':Shared}
theorem Inv.env0(I:Inv X Aa σ H s):Env0 X.prog X.w X.K X.mg X.base X.A X.stack s H:=
 ⟨I.ok.frames,I.ok.mod,I.bs,nzL I.ok.bsz I.sz,I.stack,I.stkFree,I.hok,I.bare⟩
theorem Inv.after{Q:VK}{u:Value}(I:Inv X Aa σ H s)(h:CE X.stack X.prog X.w H s Q u s'):EP X Aa σ Q u s':=by
 obtain⟨v,H',os,bare,un,hok,r,q⟩:=h
 obtain⟨hh,g,d,t,os'⟩:=s'
 obtain rfl:os'=s.os:=os
 exact⟨v,H',I.call (h':=hh) (g':=g) (d':=d) (t':=t) (ch:=[]) un hok bare (λb z=>absurd z (by simp)),r,q⟩
end
def aHq(sp:Sp)(dvs:List V)(E:XK)(t:TA):TE:=λσ H Q=>t σ H λvs H1=>sp (vs++dvs) H1 Q E
def Binds(K:dQ)(fd:FuncData)(ps:List Str)(ds:List Value):Prop:=
 ∀(s:Shared) (us:List Value),K.In s.heap->(us++ds).length=ps.length->BindsTo s fd ⟨us,[]⟩ (ps.zip (us++ds))
theorem Binds.all{K:dQ}{fd:FuncData}{ps:List Str}(h:∀us:List Value,us.length=ps.length->bindArgs fd ⟨us,[]⟩=pure (ps.zip us)):Binds K fd ps []:=λs us _ hl=>by
 rw[cF]at hl ⊢
 exact .of_eq (h us hl)
def xT(CX:CXT)(X:Cx)(E:XK):Prop:=∀(Aa:eS) (σ:St) (H:Hp) (s:Shared) (e:Value) (s':Shared),Inv X Aa σ H s->CX X.stack H s E e s'->X.xe e s'
section
variable{X:Cx}{CX:CXT}{k:Nat}{f C:Addr}{ps:List Str}{sp:Sp}{dvs:List V}{ds:List Value}{E:XK}{x m:Str}{p pos apos:Pos}{e o:Expr}{es:List Expr}{ta:TE}{t:TA}
theorem aJh{Aa:eS}{σ:St}{H:Hp}{s:Shared}{Q:VK}{us:List Value}{vs:List V}(F:FnOk X.prog X.w X.K X.mg X.base CX k f fd ps sp)(hr:Room k X.A)(hb:Binds X.K fd ps ds)(hd:Vals dvs ds)(hx:xT CX X E)
  (I:Inv X Aa σ H s) (r:Vals vs us) (h:sp (vs++dvs) H Q E):wpAny (model X.prog X.w) X.A (call (.ref f) us) (EP X Aa σ Q) X.xe s:=by
 have r2:Vals (vs++dvs) (us++ds):=r.append hd
 have hl:(us++ds).length=ps.length:=by rw[<-r2.length];exact F.len _ _ _ _ h
 refine wpAny_call (codeAny_mono (F.run X.A X.stack s H ⟨us,[]⟩ (us++ds) (vs++dvs) Q E hr I.env0 (hb s us I.kIn hl) r2 h) λr s' hq=>?_)
 cases r with
 |error e=>exact hx Aa σ H s e s' I hq
 |ok fl =>
  cases fl with
  |ret u=>exact I.after hq
  |next=>exact False.elim hq
  |brk=>exact False.elim hq
  |cont=>exact False.elim hq
theorem ee_(F:FnOk X.prog X.w X.K X.mg X.base CX k f fd ps sp)(hr:Room k X.A)(hg:Gl X x)(hm:X.mg x=some (.ref f))(hk:PySem.W.keepIn X.K (.ref f)=true)(hb:Binds X.K fd ps ds)(hd:Vals dvs ds)(hx:xT CX X E)
  (ha:PA X (e::es) t) (Bn:(x == ("__debug__" : Str))=false:=by decide) (he:starEach (e::es) X.env=(false,eval e X.env)::starEach es X.env:=by rfl) (A8:(backTo pos (starEach es X.env)).any (·.1)=false:=by rfl) :
  PE X (.Call (.Name x p) (e::es) [] pos) (aHq sp dvs E t):=by
 intro Aa s σ H Q I h
 refine wpAny_Call_Name_kw (zG I hg hm ?_ Bn)
 refine PySem.W.callWith_K (h₀:=X.base) I.ok.mod.kin hk (dX (ha pos Aa s σ H _ I h) λus s1 ⟨vs,H1,I1,r,q⟩=>⟨I1.kIn,?_⟩) he A8
 exact aJh F hr hb hd hx I1 r q
end
structure FnScope(N P:List Str)(sc:Scope):Prop where
 kind:sc.kind=.function
 co:sc.isCoroutine=false
 gen:sc.isGenerator=false
 nd:N.Nodup
 pre:N.take P.length=P
 par:∀x∈P,sc.names.lookup x=some .local\/sc.names.lookup x=some .cell
 nofree:∀y∈sc.names,y.2 ≠ .free
theorem oO{N P:List Str}{sc:Scope}(h:(sc.kind=.function/\sc.isCoroutine=false/\sc.isGenerator=false)/\N.Nodup/\N.take P.length=P/\(∀x∈P,sc.names.lookup x=some .local\/sc.names.lookup x=some .cell)/\∀y∈sc.names,y.2 ≠ .free):FnScope N P sc:=⟨h.1.1,h.1.2.1,h.1.2.2,h.2.1,h.2.2.1,h.2.2.2.1,h.2.2.2.2⟩
theorem qK{kindOf:Str->Option NameKind}{x:Str}:∀{binds:List (Str×Value)} {m:lG},(∀v,(x,v)∉binds)->bindL kindOf binds m x=m x
 | [],_,_=>rfl
 |(n,v)::r,m,h=>by
  unfold bindL
  rw[qK λw hw=>h w (aB _ hw)]
  split
  ·have:x≠n:=by rintro rfl; exact h v aA
   simp[this]
  ·rfl
theorem qM{kindOf:Str->Option NameKind}{x:Str}:∀{binds:List (Str×Value)} {m:lG},(∀v,(x,v)∉binds)->bindC kindOf binds m x=m x
 | [],_,_=>rfl
 |(n,v)::r,m,h=>by
  unfold bindC
  rw[qM λw hw=>h w (aB _ hw)]
  split
  ·rfl
  ·have:x≠n:=by rintro rfl; exact h v aA
   simp[this]
theorem qL{kindOf:Str->Option NameKind}{x:Str}{v:Value}:∀{P:List Str} {vs:List Value} {i:Nat} {m:lG},P.Nodup->P[i]? = some x->vs[i]? = some v->kindOf x=some .local ->
  bindL kindOf (P.zip vs) m x=some v
 | [],_,_,_,_,h,_,_=>by simp at h
 |_::_,[],_,_,_,_,h,_=>by simp at h
 |p::P,w::vs,0,m,nd,h1,h2,hk=>by
  simp at h1 h2;subst h1;subst h2
  show bindL kindOf ((p,w)::P.zip vs) m p=_
  unfold bindL
  rw[qK λv hv=>(cE.mp nd).1 (List.of_mem_zip hv).1,if_pos hk]
  simp
 |p::P,w::vs,i+1,m,nd,h1,h2,hk=>by
  show bindL kindOf ((p,w)::P.zip vs) m x=_
  unfold bindL
  exact qL (i:=i) (cE.mp nd).2 (by simpa using h1) (by simpa using h2) hk
theorem qN{kindOf:Str->Option NameKind}{x:Str}{v:Value}:∀{P:List Str} {vs:List Value} {i:Nat} {m:lG},P.Nodup->P[i]? = some x->vs[i]? = some v->kindOf x≠some .local ->
  bindC kindOf (P.zip vs) m x=some v
 | [],_,_,_,_,h,_,_=>by simp at h
 |_::_,[],_,_,_,_,h,_=>by simp at h
 |p::P,w::vs,0,m,nd,h1,h2,hk=>by
  simp at h1 h2;subst h1;subst h2
  show bindC kindOf ((p,w)::P.zip vs) m p=_
  unfold bindC
  rw[qM λv hv=>(cE.mp nd).1 (List.of_mem_zip hv).1,if_neg hk]
  simp
 |p::P,w::vs,i+1,m,nd,h1,h2,hk=>by
  show bindC kindOf ((p,w)::P.zip vs) m x=_
  unfold bindC
  exact qN (i:=i) (cE.mp nd).2 (by simpa using h1) (by simpa using h2) hk
def start(N:List Str)(vs:List V):St:=vs.map some++List.replicate (N.length-vs.length) none
def oZ(CX:CXT)(P:Program)(w:World)(K:dQ)(mg:lG)(base:Heap)(N:List Str)(qual:Str)(scope:Scope)(f:Addr)(cd:Value)(A:Around)(outer:List Env)(s:Shared)(H:Hp)(E:XK):Cx where
 prog:=P
 w:=w
 K:=K
 mg:=mg
 base:=base
 A:=A.deeper (envOfC qual scope s.heap.objs.size f cd)
 N:=N
 s₀:=s
 H₀:=H
 env:=envOfC qual scope s.heap.objs.size f cd
 outer:=outer
 stack:=envOfC qual scope s.heap.objs.size f cd::outer
 ex:=[]
 calm:=true
 fn:=λ_=>true
 pn:=[]
 xe:=λe s'=>wpAny (model P w) (A.deeper (envOfC qual scope s.heap.objs.size f cd)) (leaving (envOfC qual scope s.heap.objs.size f cd) e) (λ_ s''=>CX outer H s E e s'') (λe' s''=>CX outer H s E e' s'') s'
theorem vK{sc:Scope}{n:Nat}{x:Str}(h:sc.names.lookup x=some .cell):∃c,(cellsFrom n sc.names []).lookup x=some c:=by
 have q:=PySem.W.cellsFrom_some sc.names n [] (.inl h)
 exact fV.mp q
theorem j_{CX:CXT}{N ps:List Str}{qual:Str}{scope:Scope}{f:Addr}{cd:Value}{A:Around}{outer:List Env}{s s1:Shared}{H:Hp}{E:XK}{us:List Value}{vs:List V}
  (S:FnScope N ps scope) (hd:A.handled=none) (e0:Env0 P w K mg base A outer s H) (hl:vs.length=ps.length) (r:Vals vs us)
  (x:InCallC s s.heap.objs.size (bindL (envOfC qual scope s.heap.objs.size f cd).kindOf (ps.zip us) λ_=>none) (cellsFrom (s.heap.objs.size+1) scope.names []) (bindC (envOfC qual scope s.heap.objs.size f cd).kindOf (ps.zip us) λ_=>none) s1) :
  Inv (oZ CX P w K mg base N qual scope f cd A outer s H E) [] (start N vs) H s1:=by
 have A8:ps.length<=N.length:=by have:=congrArg List.length S.pre;rw[fO]at this;lia
 obtain⟨h1,tk,rfl,hk⟩:=x.done
 have noA:∀b:Addr,b∉(oZ CX P w K mg base N qual scope f cd A outer s H E).ex:=λb z=>absurd (show b∈([]:List Addr)from z) (by simp)
 refine⟨⟨e0.mod,S.kind,rfl,rfl,aK _,λy z c h1 h2=>?_,λy hy=>?_,λy c _ h=>?_,λ_=>hd,Around.frames_deeper e0.frames,.inr ⟨rfl,rfl⟩,λb z=>absurd z (noA b),e0.bs,e0.bsz,λb _ _=>noA b,λb z=>absurd z (noA b),e0.funs,e0.frf⟩,
  rfl,e0.bare,Un.kept hk,⟨_,x.toInCall.ns,λi y v h1 h2 h3=>?_⟩,λy c h=>⟨_,x.cell y c h⟩,e0.hok.fresh (aK _),λy c h=>?_,λp hp=>absurd (show p∈([]:eS)from hp) (by simp),e0.hok.kept hk,?_⟩
 ·exact name_of_addr x.apart (PySem.mem_of_lookup h1) (PySem.mem_of_lookup h2)
 ·have hy:scope.names.lookup y=some .cell∨scope.names.lookup y=some .free:=hy
  rcases hy with hy | hy
  ·exact vK hy
  ·exact absurd rfl (S.nofree _ (PySem.mem_of_lookup hy))
 ·exact Nat.le_of_lt (x.above y c (PySem.mem_of_lookup h))
 ·have hi:i < vs.length:=by
   unfold start at h2
   by_cases hi:i<vs.length
   ·exact hi
   ·rw [fJ (by simpa using hi)] at h2
    rw[gB]at h2
    split at h2<;>cases h2
  have ha:vs[i]? = some v:=by
   unfold start at h2
   rw[List.getElem?_append_left (by simpa using hi),bP]at h2
   cases e:vs[i]? with
   |none=>rw[e]at h2;cases h2
   |some a=>rw[e]at h2;cases h2;rfl
  obtain⟨u,hu,rv⟩:=r.get ha
  have hp:ps[i]? = some y:=by
   rw[<-S.pre,List.getElem?_take_of_lt (by lia)];exact h1
  have ndP:ps.Nodup:=by rw[<-S.pre];exact S.nd.sublist (List.take_sublist _ _)
  refine⟨u,rv,?_⟩
  rcases S.par y (bE hp)with k | k
  ·exact .inl ⟨k,qL ndP hp hu k⟩
  ·obtain ⟨c,e⟩:=vK (n:=s.heap.objs.size + 1) k
   refine .inr ⟨.inl k,c,e,?_⟩
   have q:=x.cell y c e
   rw[qN ndP hp hu (by show scope.names.lookup y≠_;rw[k];decide)]at q
   exact q
 ·exact e0.hok.fresh (Nat.le_of_lt (x.above y c (PySem.mem_of_lookup h)))
 ·unfold start
  show _=N.length
  rw[aJ,aD,bV]
  lia
theorem aPk{CX:CXT}{k:Nat}{f:Addr}{name qual:Str}{params:Arguments}{body:List Stmt}{scope:Scope}{dV kV doc pm Af ct oc:Value}{an od:Option Addr}
  {osl:Array (Option Value)} {N ps:List Str} {sp:Sp} (lk:K.lookup f=some ⟨oc,od,.func (PySem.W.fnOf name qual params body scope dV kV doc pm an Af ct),osl⟩) (C2:PySem.W.codeIn K Af qual=true) (S:FnScope N ps scope)
  (len:∀vs H Q E,sp vs H Q E->vs.length=ps.length)
  (A6:∀ (A:Around) (outer:List Env) (s:Shared) (H:Hp) (vs:List V) (Q:VK) (E:XK),Room k (A.deeper (envOfC qual scope s.heap.objs.size f Af))→sp vs H Q E →
   ∃t,PSs (oZ CX P w K mg base N qual scope f Af A outer s H E) body t/\t { nx:=λ_ H'=>Q .non H',rt:=Q } (start N vs) H) :
  FnOk P w K mg base CX (k+1) f (PySem.W.fnOf name qual params body scope dV kV doc pm an Af ct) ps sp:=by
 refine⟨len,λA outer s H args us vs Q E hr e0 hb r Ck=>?_⟩
 have hl:=len _ _ _ _ Ck
 have KX:K.In s.heap:=e0.mod.kin.keeps λb o e=>(e0.bs b o e).1
 have lim:s.heap.NoLimit:=e0.mod.nolimit.keeps λb o e=>(e0.bs b o e).1
 have Ez:∀y∈ps.zip us,scope.names.lookup y.1=some .local\/(scope.names.lookup y.1=some .cell/\((cellsFrom (s.heap.objs.size+1) scope.names []).lookup y.1).isSome=true):=λ⟨n,v⟩ hy=>by
  rcases S.par n (List.of_mem_zip hy).1 with q | q
  ·exact .inl q
  ·exact .inr ⟨q,PySem.W.cellsFrom_some _ _ _ (.inl q)⟩
 refine codeAny_call_function hr.depth (KX _ _ lk) rfl S.co S.gen rfl (PySem.W.codeRec_of KX C2) (hb _ _ _ _ ?_)
 refine wpAny_newFunctionEnv_cells S.kind Ez λenv he s1 x=>?_
 subst he
 refine⟨lim.keeps x.toInCall.keep,codeAny_func ?_⟩
 obtain⟨t,ht,hq⟩:=A6 A outer s H vs Q E (hr.deeper _) Ck
 have I:Inv (oZ CX P w K mg base N qual scope f Af A outer s H E) [] (start N vs) H s1:=j_ S hr.hd e0 hl r x
 refine wpAny_mono (ht [] s1 (start N vs) H _ I hq) (λfl s' hs=>?_) λe s' hs=>hs
 have fin:∀{σ':St} {H':Hp} {v:V} {u:Value},Inv (oZ CX P w K mg base N qual scope f Af A outer s H E) [] σ' H' s'->RelV v u->Q v H'->CE outer P w H s Q u s':=
  λ{σ' H' v u} J rv q=>⟨v,H',J.os,J.bare,J.base,J.hok,rv,q⟩
 cases fl with
 |ret u =>
  obtain⟨v,σ',H',J,rv,q⟩:=hs
  exact fin J rv q
 |next =>
  obtain⟨σ',H',J,q⟩:=hs
  exact fin (v:=V.non) (u:=Value.none) J rfl q
 |brk =>
  obtain⟨_,_,_,q⟩:=hs
  exact False.elim q
 |cont =>
  obtain⟨_,_,_,q⟩:=hs
  exact False.elim q
section
variable{X:Cx}{x:Str}{p pos:Pos}{e:Expr}{es:List Expr}{t:TA}{id T:String}{r:List V->Hp->VK->Prop}
def tCB(r:List V->Hp->VK->Prop)(t:TA):TE:=λσ H Q=>t σ H λvs H1=>r vs H1 Q
theorem gv_(hc:CallR X (.builtin id) r)(hg:Gl X x)(hm:X.mg x=none)(hv:bootBuiltins x=some (.builtin id))(ha:PA X (e::es) t)(hn:x ≠ "__name__":=by decide)(Bn:(x == ("__debug__" : Str))=false:=by decide)
  (he:starEach (e::es) X.env=(false,eval e X.env)::starEach es X.env:=by rfl) (A8:(backTo pos (starEach es X.env)).any (·.1)=false:=by rfl):PE X (.Call (.Name x p) (e::es) [] pos) (tCB r t):=by
 intro Aa s σ H Q I h
 refine wpAny_Call_Name_kw (nK I hg hm hv ?_ hn Bn)
 exact PyProof.Rows.callWith_builtin1 (dX (ha pos Aa s σ H _ I h) λus s1 ⟨vs,H1,I1,r1,q1⟩=>hc Aa s1 σ H1 vs us Q I1 r1 q1) he A8
theorem i3(hc:CallR X (.type T) r)(hg:Gl X x)(hm:X.mg x=none)(hv:bootBuiltins x=some (.type T))(ha:PA X (e::es) t)(hn:x ≠ "__name__":=by decide)(Bn:(x == ("__debug__" : Str))=false:=by decide)
  (he:starEach (e::es) X.env=(false,eval e X.env)::starEach es X.env:=by rfl) (A8:(backTo pos (starEach es X.env)).any (·.1)=false:=by rfl):PE X (.Call (.Name x p) (e::es) [] pos) (tCB r t):=by
 intro Aa s σ H Q I h
 refine wpAny_Call_Name_kw (nK I hg hm hv ?_ hn Bn)
 exact PyProof.Rows.callWith_type1 (dX (ha pos Aa s σ H _ I h) λus s1 ⟨vs,H1,I1,r1,q1⟩=>hc Aa s1 σ H1 vs us Q I1 r1 q1) he A8
end
end L2
namespace HT
open PySem PyProof.Rows
section
open PySem.SeqAt
open PySem.AutoSeq1 (wpAny_loadPart')
open PySem.MeetsSeq PySem.MeetsSeq2 PySem.MeetsSeq3
end
section
variable{prog:Program}{w:World}{A:Around}{E:eQ}{s:Shared}
def sIx(n d:Nat):Option Int->Nat
 |none=>d
 |some v=>if v<0 then(v+(n:Int)).toNat else min v.toNat n
end
end HT
namespace L2
open PySem PySem.Spec PyProof.Rows
abbrev TO:=St->Hp->(Option Int->Hp->Prop)->Prop
def PO(X:Cx)(e:Option Expr)(t:TO):Prop:=
 ∀(Aa:eS) (s:Shared) (σ:St) (H:Hp) (Q:Option Int->Hp->Prop),Inv X Aa σ H s->t σ H Q ->
  wpAny (model X.prog X.w) X.A (evalPart e X.env) (λu s'=>∃o H',Inv X Aa σ H' s'/\IsPart u o/\Q o H') X.xe s
def aEl:TO:=λ_ H Q=>Q none H
def aNr(t:TE):TO:=λσ H Q=>t σ H λx H1=>∃i,x=.int i/\Q (some i) H1
theorem wS{ns:List Int}:∀{us:List Value},Vals (ns.map V.int) us->IntsAre us ns:=by
 induction ns with
 |nil=>intro us r;rw[bI]at r;cases r;exact .nil
 |cons n ns ih =>
  intro us r
  rw[aL]at r
  cases r with
  |cons r1 r2 =>
   obtain⟨t,e⟩:=r1
   subst e
   exact .cons n t (ih r2)
section
variable{X:Cx}{e:Expr}{te:TE}{lo hi:Option Expr}{tl th:TO}{pos p2:Pos}
theorem lO:PO X none aEl:=by
 intro Aa s σ H Q I h
 rw[evalPart_none]
 exact wpAny_pure ⟨none,H,I,.none,h⟩
theorem lN(h:PE X e te):PO X (some e) (aNr te):=by
 intro Aa s σ H Q I hw
 rw[evalPart_some]
 refine dX (h Aa s σ H _ I hw) λu s1 ⟨x,H1,I1,r1,q1⟩=>?_
 obtain⟨i,rfl,q⟩:=q1
 obtain⟨t,rfl⟩:=r1
 exact⟨some i,H1,I1,.int i t,q⟩
def SlR(X:Cx)(r:V->Option Int->Option Int->Hp->VK->Prop):Prop:=
 ∀(Aa:eS) (s:Shared) (σ:St) (H:Hp) (x:V) (v vl vu:Value) (lo hi:Option Int) (sl:Addr) (Q:VK),Inv X Aa σ H s->RelV x v->s.heap.IsSliceOf sl vl vu .none->IsPart vl lo->IsPart vu hi->r x lo hi H Q ->
  ∃T id,typeLookup (.type T) "__getitem__" = pure (some (.builtin id))/\s.TypeIs v T/\wpAny (model X.prog X.w) X.A (getItem v (.ref sl)) (EP X Aa σ Q) X.xe s
theorem SlR.or{r r':V->Option Int->Option Int->Hp->VK->Prop}(h:SlR X r)(h':SlR X r'):SlR X (λx lo hi H Q=>r x lo hi H Q\/r' x lo hi H Q):=by
 intro Aa s σ H x v vl vu lo hi sl Q I rx hs pl pu q
 rcases q with q | q
 ·exact h Aa s σ H x v vl vu lo hi sl Q I rx hs pl pu q
 ·exact h' Aa s σ H x v vl vu lo hi sl Q I rx hs pl pu q
def tSl(r:V->Option Int->Option Int->Hp->VK->Prop)(te:TE)(tl th:TO):TE:=λσ H Q=>te σ H λx H1=>tl σ H1 λl H2=>th σ H2 λu H3=>r x l u H3 Q
theorem gu_{r:V->Option Int->Option Int->Hp->VK->Prop}(hr:SlR X r)(he:PE X e te)(hl:PO X lo tl)(hu:PO X hi th):PE X (.Subscript e (.Slice lo hi none p2) pos) (tSl r te tl th):=by
 intro Aa s σ H Q I h
 refine Subscript_ (dX (he Aa s σ H _ I h) λv s1 ⟨x,H1,I1,r1,q1⟩=>?_)
 refine wpAny_Slice (dX (hl Aa s1 σ H1 _ I1 q1) λvl s2 ⟨l,H2,I2,pl,q2⟩=>dX (hu Aa s2 σ H2 _ I2 q2) λvu s3 ⟨u,H3,I3,pu,q3⟩=>?_)
 rw[evalPart_none]
 refine wpAny_pure ?_
 have I4:Inv X Aa σ H3 { s3 with heap:=s3.heap.push { cls:=.type "slice",data:=.fields #[vl,vu,.none] } }:=I3.kept (t':=s3.toks) λb ob q=>aC _ q
 obtain⟨T,id,hT,ht,hg⟩:=hr Aa { s3 with heap:=s3.heap.push { cls:=.type "slice",data:=.fields #[vl,vu,.none] } } σ H3 x v vl vu l u s3.heap.objs.size Q I4 r1 (Heap.IsSliceOf.new ..) pl pu q3
 show wpAny (model X.prog X.w) X.A (subscriptTail e (.Slice lo hi none p2) v (.ref s3.heap.objs.size)) (EP X Aa σ Q) X.xe { s3 with heap:=s3.heap.push { cls:=.type "slice",data:=.fields #[vl,vu,.none] } }
 exact tail_any (ops:=[.ref s3.heap.objs.size,v]) ht hT hg (by with_unfolding_all rfl)
def aCy(xs:List V)(lo hi:Option Int):List V:=(xs.drop (HT.sIx xs.length 0 lo)).take (HT.sIx xs.length xs.length hi-HT.sIx xs.length 0 lo)
theorem vH(xs:List V)(lo hi:Option Int):(aCy xs lo hi).length<=xs.length:=by
 unfold aCy
 rw[fO,List.length_drop]
 lia
end
def ixN(n:Nat)(i:Int):Option Nat:=if 0<=i then(if i<n then some i.toNat else none)else if -(n:Int)<=i then some (i+n).toNat else none
def atI{α:Type}(xs:List α)(i:Int):Option α:=(ixN xs.length i).bind λj=>xs[j]?
theorem zI{n:Nat}{i:Int}{j:Nat}(h:ixN n i=some j):seqIndex? i n=some j/\j<n /\ -(n:Int)<=i/\i<n:=by
 unfold ixN at h
 by_cases h0:0<=i
 ·rw [if_pos h0] at h
  by_cases h1:i<n
  ·rw [if_pos h1] at h
   have e:i.toNat=j:=ozI h
   exact⟨by rw[seqIndex_of h0 h1,e],by lia,by lia,h1⟩
  ·rw[if_neg h1]at h;cases h
 ·rw [if_neg h0] at h
  by_cases h1 : -(n:Int)<=i
  ·rw [if_pos h1] at h
   have e:(i+n).toNat=j:=ozI h
   exact⟨by rw[seqIndex_neg (by lia) h1,e],by lia,h1,by lia⟩
  ·rw[if_neg h1]at h;cases h
theorem sT{α:Type}{xs:List α}{i:Int}{v:α}(h:atI xs i=some v):∃j,seqIndex? i xs.length=some j/\xs[j]? = some v/\j<xs.length /\ -(xs.length:Int)<=i/\i<xs.length:=by
 unfold atI at h
 cases e:ixN xs.length i with
 |none=>rw[e]at h;cases h
 |some j =>
  rw[e]at h
  obtain⟨h1,h2,h3,h4⟩:=zI e
  exact⟨j,h1,h,h2,h3,h4⟩
theorem et_{α:Type}{xs:List α}{j:Nat}{v:α}(h:xs[j]? = some v):atI xs (j:Int)=some v:=by
 have hj:j<xs.length:=(aV.mp h).1
 have e:ixN xs.length (j:Int)=some j:=by
  unfold ixN
  rw[if_pos (by lia),if_pos (by lia)];simp
 unfold atI;rw[e];exact h
theorem aDn{α:Type}(xs:List α)(v:α):atI (xs++[v]) (-1)=some v:=by
 have hl:(xs++[v]).length=xs.length+1:=by simp
 have e:ixN (xs++[v]).length (-1)=some xs.length:=by
  unfold ixN
  rw[hl,if_neg (by decide),if_pos (by lia)]
  congr 1
  lia
 unfold atI
 rw[e]
 show(xs++[v])[xs.length]? = some v
 simp
def kD(b:Expr):Prop:=∀o i,subscripted b false o i=operate [o,i] (getItem o i)
def IxR(X:Cx)(r:R2):Prop:=
 ∀(value slice:Expr) (Aa:eS) (s:Shared) (σ:St) (H:Hp) (x y:V) (v u:Value) (Q:VK),Inv X Aa σ H s->RelV x v->RelV y u->r x y H Q ->
  subscripted slice false v u=operate [v,u] (getItem v u)->wpAny (model X.prog X.w) X.A (subscriptTail value slice v u) (EP X Aa σ Q) X.xe s
def MtR(X:Cx)(id:String)(r:V->List V->Hp->VK->Prop):Prop:=
 ∀(Aa:eS) (s:Shared) (σ:St) (H:Hp) (x:V) (xs:List V) (v:Value) (us:List Value) (Q:VK),Inv X Aa σ H s->RelV x v->Vals xs us->r x xs H Q ->
  wpAny (model X.prog X.w) X.A (call (.builtin id) (v::us)) (EP X Aa σ Q) X.xe s
section
variable{X:Cx}{a b:Expr}{ta tb:TE}{pos:Pos}
theorem IxR.or{r r':R2}(h:IxR X r)(h':IxR X r'):IxR X (λx y H Q=>r x y H Q\/r' x y H Q):=by
 intro value slice Aa s σ H x y v u Q I rx ry q hs
 rcases q with q | q
 ·exact h value slice Aa s σ H x y v u Q I rx ry q hs
 ·exact h' value slice Aa s σ H x y v u Q I rx ry q hs
theorem uY{r:R2}(hr:IxR X r)(ha:PE X a ta)(hb:PE X b tb)(hs:kD b):PE X (.Subscript a b pos) (tOp r ta tb):=by
 intro Aa s σ H Q I h
 exact Subscript_ (aMi ha hb I h λv u s2 x y H2 I2 rx ry q=>hr a b Aa s2 σ H2 x y v u Q I2 rx ry q (hs _ _))
def aAi(K:dQ):R2:=λx y H Q=>∃p xs i v,x=.ref p/\y=.int i/\SqL K H p xs/\atI xs i=some v/\Q v H
def aJk(K:dQ):R2:=λx y H Q=>∃p xs i v,x=.ref p/\y=.int i/\SqT K H p xs/\atI xs i=some v/\Q v H
def aOf:R2:=λx y H Q=>∃z i c,x=.str z/\y=.int i/\z.length<=sizeLine/\atI z.cps.toList i=some c/\Q (.str ⟨#[c]⟩) H
theorem s_:IxR X (aAi X.K):=by
 intro value slice Aa s σ H x y v u Q I rx ry h hs
 obtain⟨p,xs,i,z,rfl,rfl,hq,he,q⟩:=h
 cases rx
 obtain⟨t,rfl⟩:=ry
 obtain⟨its,r,pl,hz⟩:=I.list hq
 obtain⟨j,h1,h2,h3,h4,h5⟩:=sT he
 obtain⟨w,ew,rw'⟩:=r.get h2
 have hl:=r.length
 have hn:=kK
 have fin:EP X Aa σ Q w s:=⟨z,H,I,rw',q⟩
 by_cases h0:0<=i
 ·have hj:i.toNat=j:=by
   rw[seqIndex_of h0 h5]at h1
   exact ozI h1
  exact item_listR pl.isList h0 (by lia) (by rw[hj];simpa using ew) fin hs
 ·have hj:(i + (its.toArray.size:Int)).toNat=j:=by
   rw[seqIndex_neg (by lia) h4]at h1
   rw[bA,<-hl]
   exact ozI h1
  exact subscriptTail_builtinR (x:=w) pl.isList.typeIs slot_list_getitem.lookup
   (wpAny_getItem_list_neg (Q:=λr s'=>r=w/\EP X Aa σ Q r s') pl.isList (by lia) (by rw[bA]<;>lia) (by lia) (by rw[hj];simpa using ew) ⟨rfl,fin⟩) hs
theorem aLc:IxR X (aJk X.K):=by
 intro value slice Aa s σ H x y v u Q I rx ry h hs
 obtain⟨p,xs,i,z,rfl,rfl,hq,he,q⟩:=h
 cases rx
 obtain⟨t,rfl⟩:=ry
 obtain⟨its,r,pl,hz⟩:=I.tuple hq
 obtain⟨j,h1,h2,h3,h4,h5⟩:=sT he
 obtain⟨w,ew,rw'⟩:=r.get h2
 have hl:=r.length
 have hn:=kK
 have fin:EP X Aa σ Q w s:=⟨z,H,I,rw',q⟩
 exact subscriptTail_builtinR (x:=w) pl.typeIs slot_tuple_getitem.lookup
  (getItem_tuple (j:=j) (Q:=λr s'=>r=w/\EP X Aa σ Q r s') pl (by lia) (by lia) (by rw[bA,<-hl];exact h1) (by simpa using ew) ⟨rfl,fin⟩) hs
theorem nL:IxR X aOf:=by
 intro value slice Aa s σ H x y v u Q I rx ry h hs
 obtain⟨z,i,c,rfl,rfl,hz,he,q⟩:=h
 obtain⟨t,rfl⟩:=rx
 obtain⟨t',rfl⟩:=ry
 obtain⟨j,h1,h2,h3,h4,h5⟩:=sT he
 have hl:z.cps.toList.length=z.length:=by simp[Str.length]
 rw[hl]at h1 h4 h5
 have hn:=kK
 exact tail_any (typeIs_str s z t) slot_str_getitem.lookup (getItem_str (c:=c) (by
  have e1:decide (i < -(2^63:Int))=false:=dzF (by lia)
  have e2:decide (i>=2^63)=false:=dzF (by lia)
  rw[e1,e2,Bool.or_false]) (by rw[h1];simpa using h2) ⟨.str ⟨#[c]⟩,H,I.tok _,⟨_,rfl⟩,q⟩) hs
theorem wP(its:List Value)(n j:Nat)(u:Value):Obj.mapSeq (·.setIfInBounds j u) { cls:=.type "list",data:=.seq its.toArray n }={ cls:=.type "list",data:=.seq (its.set j u).toArray n }:=by
 simp[Obj.mapSeq]
theorem Inv.lst{Aa:eS}{σ:St}{H:Hp}{s:Shared}{p:Addr}{xs:List V}(I:Inv X Aa σ H s)(h:H p=some (.lst xs)) :
  ∃(its:List Value) (n:Nat),Vals xs its/\s.heap.get? p=some { cls:=.type "list",data:=.seq its.toArray n }/\xs.length<=sizeLine:=by
 obtain⟨z,its,n,r,e⟩:=I.hok p _ h
 exact⟨its,n,r,e,z⟩
theorem Inv.lstUpd{Aa:eS}{σ:St}{H:Hp}{s:Shared}{p:Addr}{xs ys:List V}{its its':List Value}{n n':Nat}{f:Obj->Obj}(I:Inv X Aa σ H s)(h:H p=some (.lst xs))
  (ho:s.heap.get? p=some { cls:=.type "list",data:=.seq its.toArray n }) (hf:f { cls:=.type "list",data:=.seq its.toArray n }={ cls:=.type "list",data:=.seq its'.toArray n' }) (r:Vals ys its') (hz:ys.length<=sizeLine) (t:Nat) :
  Inv X Aa σ (upd H p (.lst ys)) { s with heap:=s.heap.update p f,toks:=t }:=by
 have e:(s.heap.update p f).get? p=some { cls:=.type "list",data:=.seq its'.toArray n' }:=by
  rw[gX f ho (by rw[hf]<;>rfl),hf]
 refine I.write (x:=p) (e:=p) (by rw[h];trivial) (.inl rfl) (λb u hb q=>(gO _ _ (Ne.symm hb)).trans q) ⟨_,e⟩ ?_
 exact⟨hz,its',n',r,e⟩
def aHu:V->V->V->Hp->(Hp->Prop)->Prop:=λo i v H Q=>∃p xs k j,o=.ref p/\i=.int k/\H p=some (.lst xs)/\ixN xs.length k=some j/\Q (upd H p (.lst (xs.set j v)))
theorem gr_:aQi X aHu:=by
 intro Aa s σ H o i v ov iv u Q I ro ri rv h
 obtain⟨p,xs,k,j,rfl,rfl,hp,hj,q⟩:=h
 cases ro
 obtain⟨t,rfl⟩:=ri
 obtain⟨its,n,r,ho,hz⟩:=I.lst hp
 obtain⟨h1,h2,h3,h4⟩:=zI hj
 have hl:=r.length
 have hn:=kK
 have I':Inv X Aa σ (upd H p (.lst (xs.set j v))) { s with heap:=s.heap.update p (Obj.mapSeq (·.setIfInBounds j u)) }:=
  I.lstUpd hp ho (wP its n j u) (r.set rv j) (by rw[bX];exact hz) s.toks
 by_cases h0:0<=k
 ·have hk:k.toNat=j:=by
   rw[seqIndex_of h0 h4]at h1
   exact ozI h1
  exact PySem.W.ki_setAt ho h0 (by lia) (by rw[bA,<-hl];exact h4) (by rw[hk];exact⟨_,I',q⟩)
 ·have hk:(k + (its.toArray.size:Int)).toNat=j:=by
   rw[seqIndex_neg (by lia) h3]at h1
   rw[bA,<-hl]
   exact ozI h1
  exact PySem.W.ki_setBack ho (by lia) (by rw[bA,<-hl];exact h3) (by lia) (by rw[hk];exact⟨_,I',q⟩)
theorem rA(lo hi:Option Int)(n:Nat):(sliceBounds lo hi none n).1=((HT.sIx n 0 lo:Nat):Int)/\(sliceBounds lo hi none n).2.1=((HT.sIx n n hi:Nat):Int)/\(sliceBounds lo hi none n).2.2=1:=by
 refine⟨?_,?_,rfl⟩
 ·cases lo with
  |none=>simp[sliceBounds,HT.sIx]
  |some i =>
   simp only[sliceBounds,HT.sIx,Option.getD_none,show(1:Int)>0 by decide,if_true]
   by_cases h:i<0
   ·simp only[h,if_true]<;>lia
   ·simp only[h,if_false]<;>lia
 ·cases hi with
  |none=>simp[sliceBounds,HT.sIx]
  |some i =>
   simp only[sliceBounds,HT.sIx,Option.getD_none,show(1:Int)>0 by decide,if_true]
   by_cases h:i<0
   ·simp only[h,if_true]<;>lia
   ·simp only[h,if_false]<;>lia
theorem oV(its:List Value)(lo hi:Option Int):slicePick its.toArray lo hi none=((its.drop (HT.sIx its.length 0 lo)).take (HT.sIx its.length its.length hi-HT.sIx its.length 0 lo)).toArray:=by
 obtain⟨h1,h2,h3⟩:=rA lo hi its.toArray.size
 unfold slicePick
 rw[h1,h2,h3]
 simp only[sliceRange_one,pick_run,bA]<;>rfl
def aOd(K:dQ):V->Option Int->Option Int->Hp->VK->Prop:=λx lo hi H Q=>∃a xs,x=.ref a/\SqL K H a xs/\∀p,H p=none->Q (.ref p) (upd H p (.lst (aCy xs lo hi)))
theorem aEr:SlR X (aOd X.K):=by
 intro Aa s σ H x v vl vu lo hi sl Q I rx hs pl pu h
 obtain⟨a,xs,rfl,hx,q⟩:=h
 cases rx
 obtain⟨its,r,ht,hz⟩:=I.list hx
 have Ad:=r.length
 refine⟨"list",_,slot_list_getitem.lookup,ht.isList.typeIs,?_⟩
 refine wpAny_getItem_list_slice ht.isList hs pl pu .none (by simp) ?_ (by rw[bA]<;>lia)
 rw[oV,<-Ad]
 refine⟨.ref s.heap.objs.size,_,I.laid (t':=s.toks) (o:=.lst (aCy xs lo hi)) (λb ob q=>aC _ q) (aK _) ?_,rfl,q _ (I.hok.fresh (aK _))⟩
 exact⟨nzL (vH xs lo hi) hz,_,0,(r.drop (HT.sIx xs.length 0 lo)).take (HT.sIx xs.length xs.length hi-HT.sIx xs.length 0 lo),aU _ rfl⟩
def jY:V->Bool
 | .non=>true
 | .bl _=>true
 | .int _=>true
 | .str _=>true
 |_=>false
def eqV:V->V->Bool
 | .non,.non=>true
 | .bl a,.bl b=>a == b
 | .bl a,.int b=>(if a then 1 else 0) == b
 | .int a,.bl b=>a == (if b then 1 else 0)
 | .int a,.int b=>a == b
 | .str a,.str b=>a == b
 |_,_=>false
theorem aLu{A:Around}{s:Shared}{y x:V}{u v:Value}(ry:RelV y u)(rx:RelV x v)(fy:jY y=true)(fx:jY x=true):SeqAt.EqAt A s u v (eqV y x):=by
 cases y with
 |non =>
  cases ry
  cases x with
  |non=>cases rx;exact SeqAt.EqAt.same _
  |bl b=>cases rx;exact SeqAt.EqAt.none_bool b
  |int b=>obtain⟨t,rfl⟩:=rx;exact SeqAt.EqAt.none_int b t
  |str b=>obtain⟨t,rfl⟩:=rx;exact SeqAt.EqAt.none_str b t
  |_=>exact absurd (show false=true from fx) aE
 |bl a =>
  cases ry
  cases x with
  |non=>cases rx;exact SeqAt.EqAt.bool_none a
  |bl b=>cases rx;exact SeqAt.EqAt.bool_bool a b
  |int b=>obtain⟨t,rfl⟩:=rx;exact SeqAt.EqAt.bool_int a b t
  |str b=>obtain⟨t,rfl⟩:=rx;exact SeqAt.EqAt.bool_str a b t
  |_=>exact absurd (show false=true from fx) aE
 |int a =>
  obtain⟨t',rfl⟩:=ry
  cases x with
  |non=>cases rx;exact SeqAt.EqAt.int_none a t'
  |bl b=>cases rx;exact SeqAt.EqAt.int_bool a t' b
  |int b=>obtain⟨t,rfl⟩:=rx;exact SeqAt.EqAt.int_int a t' b t
  |str b=>obtain⟨t,rfl⟩:=rx;exact SeqAt.EqAt.int_str a t' b t
  |_=>exact absurd (show false=true from fx) aE
 |str a =>
  obtain⟨t',rfl⟩:=ry
  cases x with
  |non=>cases rx;exact SeqAt.EqAt.str_none a t'
  |bl b=>cases rx;exact SeqAt.EqAt.str_bool a t' b
  |int b=>obtain⟨t,rfl⟩:=rx;exact SeqAt.EqAt.str_int a t' b t
  |str b=>obtain⟨t,rfl⟩:=rx;exact SeqAt.EqAt.str_str a t' b t
  |_=>exact absurd (show false=true from fx) aE
 |_=>exact absurd (show false=true from fy) aE
def eqU(x:V)(u:Value):Bool:=match u with
 | .none=>eqV .non x
 | .bool b=>eqV (.bl b) x
 | .int i _=>eqV (.int i) x
 | .str z _=>eqV (.str z) x
 |_=>false
theorem aCn{x y:V}{u:Value}(r:RelV y u)(f:jY y=true):eqU x u=eqV y x:=by
 cases y with
 |non=>cases r;rfl
 |bl b=>cases r;rfl
 |int i=>obtain⟨t,rfl⟩:=r;rfl
 |str z=>obtain⟨t,rfl⟩:=r;rfl
 |_=>exact absurd (show false=true from f) aE
theorem sV{x:V}:∀{xs:List V} {us:List Value},Vals xs us->xs.all jY=true->us.any (eqU x)=xs.any λy=>eqV y x
 |_,_,.nil,_=>rfl
 |y::xs,u::us,.cons r t,f=>by
  rw[List.all_cons,cB]at f
  rw[eP,eP,aCn r f.1,sV t f.2]
theorem nH{A:Around}{s:Shared}{x:V}{v:Value}(rx:RelV x v)(fx:jY x=true):∀{xs:List V} {us:List Value},Vals xs us->xs.all jY=true->∀u∈us,SeqAt.EqAt A s u v (eqU x u)
 |_,_,.nil,_=>λu hu=>by cases hu
 |y::xs,u::us,.cons r t,f=>λu' hu=>by
  rw[List.all_cons,cB]at f
  rcases aF.mp hu with rfl | hu
  ·rw[aCn r f.1];exact aLu r rx f.1 fx
  ·exact nH rx fx t f.2 u' hu
def inV(x:V)(xs:List V):Bool:=xs.any λy=>eqV y x
def rIn(K:dQ)(neg:Bool):R2:=λx y H Q=>∃p xs,y=.ref p/\(SqL K H p xs\/SqT K H p xs)/\jY x=true/\xs.all jY=true/\Q (.bl (if neg then !inV x xs else inV x xs)) H
theorem i9:OpR X (compareOp .In) (rIn X.K false):=by
 intro Aa s σ H x y v u Q I rx ry h
 obtain⟨p,xs,rfl,hq,fx,fs,q⟩:=h
 cases ry
 rcases hq with hq | hq
 ·obtain ⟨its,r,pl,hz⟩:=I.list hq
  refine SeqAt.in_listAt (eqU x) pl.isList (λw hw=>nH rx fx r fs w (by simpa using hw)) ⟨.bl _,H,I,rfl,?_⟩
  rw[show its.toArray.any (eqU x)=its.any (eqU x) by simp,sV r fs]
  exact q
 ·obtain ⟨its,r,pl,hz⟩:=I.tuple hq
  refine SeqAt.in_tupleAt (eqU x) pl (λw hw=>nH rx fx r fs w (by simpa using hw)) ⟨.bl _,H,I,rfl,?_⟩
  rw[show its.toArray.any (eqU x)=its.any (eqU x) by simp,sV r fs]
  exact q
theorem sO:CallR X (.builtin "len") (λxs H Q=>∃p ys,xs=[.ref p]/\(SqL X.K H p ys\/SqT X.K H p ys)/\Q (.int ys.length) H):=by
 intro Aa s σ H xs us Q I r h
 obtain⟨p,ys,rfl,hq,q⟩:=h
 obtain⟨u,rfl,rx⟩:=iG r
 cases rx
 have hn:=kK
 rcases hq with hq | hq
 ·obtain ⟨its,r',pl,hz⟩:=I.list hq
  have Ad:=r'.length
  exact Calls.call_len_list pl.isList (by simp only[bA]<;>lia) ⟨.int ys.length,H,I.tok _,⟨s.toks+1,by rw[bA,Ad]⟩,q⟩
 ·obtain ⟨its,r',pl,hz⟩:=I.tuple hq
  have Ad:=r'.length
  exact len_tuple pl (by simp only[bA]<;>lia) ⟨.int ys.length,H,I.tok _,⟨s.toks+1,by rw[bA,Ad]⟩,q⟩
theorem kA:CallR X (.builtin "len") (λxs H Q=>∃z,xs=[.str z]/\z.length<=sizeLine/\Q (.int z.length) H):=by
 intro Aa s σ H xs us Q I r h
 obtain⟨z,rfl,hz,q⟩:=h
 obtain⟨u,rfl,t,rfl⟩:=iG r
 have hn:=kK
 exact len_str (by lia) ⟨.int z.length,H,I.tok _,⟨_,rfl⟩,q⟩
theorem CallR.or{f:Value}{r r':List V->Hp->VK->Prop}(h:CallR X f r)(h':CallR X f r'):CallR X f (λxs H Q=>r xs H Q\/r' xs H Q):=by
 intro Aa s σ H xs us Q I rs q
 rcases q with q | q
 ·exact h Aa s σ H xs us Q I rs q
 ·exact h' Aa s σ H xs us Q I rs q
theorem pA:CallR X (.type "tuple") (λxs H Q=>∃p ys,xs=[.ref p]/\((SqL X.K H p ys/\∀l,H l=none->Q (.ref l) (upd H l (.tup ys)))\/(SqT X.K H p ys/\Q (.ref p) H))):=by
 intro Aa s σ H xs us Q I r h
 obtain⟨p,ys,rfl,h⟩:=h
 obtain⟨u,rfl,rx⟩:=iG r
 cases rx
 rcases h with⟨hq,q⟩ | ⟨hq,q⟩
 ·obtain ⟨its,r',pl,hz⟩:=I.list hq
  have Ad:=r'.length
  refine call_tuple_list pl.isList (λh' kp=>?_) (by simp only[bA]<;>lia)
  have I1:Inv X Aa σ H { s with heap:=h' }:=I.kept (t':=s.toks) kp
  have I2:Inv X Aa σ (upd H h'.objs.size (.tup ys)) { s with heap:=h'.push { cls:=.type "tuple",data:=.seq its.toArray } }:=
   I1.laid (t':=s.toks) (λb o e=>aC _ e) (aK _) (show ObjOk X.prog X.w _ _ _ (.tup ys)from⟨hz,its,r',IsTup.new _ _⟩)
  exact⟨.ref h'.objs.size,_,I2,rfl,q _ (I1.hok.fresh (aK _))⟩
 ·obtain ⟨its,r',pl,hz⟩:=I.tuple hq
  exact call_tuple_same pl ⟨.ref p,H,I,rfl,q⟩
def tyV(K:dQ)(T:String)(x:V)(H:Hp):Prop:=match x with
 | .str _=>T = "str"
 | .int _=>T = "int"
 | .ref p => (T = "list" ∧ ∃ xs, SqL K H p xs) ∨ (T = "tuple" ∧ ∃ o, K.lookup p = some o ∧ o.cls = .type "tuple" ∧ o.dict = none) ∨
   (T = "dict" /\ ((∃kvs,H p=some (.dK kvs))\/∃kvs,H p=some (.dT kvs)))\/(T = "set" /\ ∃S n,H p=some (.set S n))
 |_=>False
theorem v_{Aa:eS}{σ:St}{H:Hp}{s:Shared}{T:String}{x:V}{v:Value}(I:Inv X Aa σ H s)(r:RelV x v)(ty:tyV X.K T x H) :
  s.TypeIs v T/\∀a,v=.ref a->∃ob,s.heap.get? a=some ob/\ob.dict=none:=by
 cases x with
 |str z =>
  obtain⟨t,rfl⟩:=r
  cases(show T = "str" from ty)
  exact⟨typeIs_str s z t,λ_ e=>nomatch e⟩
 |int i =>
  obtain⟨t,rfl⟩:=r
  cases(show T = "int" from ty)
  exact⟨typeIs_int s i t,λ_ e=>nomatch e⟩
 |ref p =>
  cases r
  rcases ty with⟨rfl,xs,hq⟩ | ⟨rfl,o,hk,hc,hd⟩ | ⟨rfl,hk⟩ | ⟨rfl,S,n,hk⟩
  ·obtain ⟨its,_,pl,_⟩:=I.list hq
   refine⟨pl.isList.typeIs,λa e=>?_⟩
   cases e
   obtain⟨o,n,e,c,hd,_⟩:=pl
   exact⟨o,e,hd⟩
  ·refine ⟨⟨o,I.kIn p o hk,hc⟩,fun a e => ?_⟩
   cases e
   exact⟨o,I.kIn _ o hk,hd⟩
  ·have z:∃ o,s.heap.get? p=some o∧o.ExactDict:=by
    rcases hk with⟨kvs,hk⟩ | ⟨kvs,hk⟩
    ·obtain ⟨o,_,_,e,ex,_⟩:=fu_ (I.hok p _ hk)
     exact⟨o,e,ex⟩
    ·obtain ⟨_,_,_,_,o,_,_,e,ex,_⟩:=I.hok p _ hk
     exact⟨o,e,ex⟩
   obtain⟨o,e,ex⟩:=z
   refine⟨⟨o,e,ex.1⟩,λa e2=>?_⟩
   cases e2
   exact⟨o,e,ex.2.1⟩
  ·obtain ⟨o,_,_,_,e,ex,_⟩:=I.hok p _ hk
   refine⟨⟨o,e,ex.1⟩,λa e2=>?_⟩
   cases e2
   exact⟨o,e,ex.2.1⟩
 |_=>exact False.elim ty
def aNx(K:dQ)(T:String)(r:V->List V->Hp->VK->Prop)(to:TE):TE:=λσ H Q=>to σ H λx H1=>tyV K T x H1/\r x [] H1 Q
def tBM(K:dQ)(T:String)(r:V->List V->Hp->VK->Prop)(to:TE)(t:TA):TE:=λσ H Q=>to σ H λx H1=>tyV K T x H1/\t σ H1 λxs H2=>r x xs H2 Q
variable{o e:Expr}{es:List Expr}{to:TE}{t:TA}{name:Str}{apos cpos:Pos}{T id:String}{r:V->List V->Hp->VK->Prop}
theorem aJx(pa:PlainAttrs T)(slot:Slot T name id)(Gf:typeOf (.builtin id)=pure (.type "method_descriptor"))(hm:MtR X id r)(ho:PE X o to)
  (C3:attributeBase o name X.env (eval o X.env)=eval o X.env:=by rfl) (Cy:(apos.endLine == cpos.line)=true:=by rfl):PE X (.Call (.Attribute o name apos) [] [] cpos) (aNx X.K T r to):=by
 intro Aa s σ H Q I h
 refine wpAny_Call_method0_late C3 Cy (dX (ho Aa s σ H _ I h) λv s1 ⟨x,H1,I1,r1,ty,q1⟩=>?_)
 obtain⟨h1,h2⟩:=v_ I1 r1 ty
 exact⟨T,id,pa,slot,Gf,h1,h2,Calls.callWith_builtin rfl (PySem.evalArgs_none (hm Aa s1 σ H1 x [] v [] Q I1 r1 .nil q1))⟩
theorem aHx(pa:PlainAttrs T)(slot:Slot T name id)(Gf:typeOf (.builtin id)=pure (.type "method_descriptor"))(hm:MtR X id r)(ho:PE X o to)(ha:PA X (e::es) t)
  (C3:attributeBase o name X.env (eval o X.env)=eval o X.env:=by rfl)
  (Hg:((backTo cpos (starEach (e :: es) X.env)).all (fun x => !x.1) && (backToKw cpos (keywordEach [] X.env)).all (fun x=>x.1.isSome)
   && decide ((e::es).length+([]:List Keyword).length+(if([]:List Keyword).isEmpty then 0 else 1)<30))=true:=by rfl)
  (Cy:(apos.endLine == cpos.line)=true:=by rfl) (hs:starEach (e::es) X.env=(false,eval e X.env)::starEach es X.env:=by rfl) (Dw:(backTo cpos (starEach es X.env)).any (·.1)=false:=by rfl) :
  PE X (.Call (.Attribute o name apos) (e::es) [] cpos) (tBM X.K T r to t):=by
 intro Aa s σ H Q I h
 refine wpAny_Call_method_late C3 Hg Cy rfl (dX (ho Aa s σ H _ I h) λv s1 ⟨x,H1,I1,r1,ty,q1⟩=>?_)
 obtain⟨h1,h2⟩:=v_ I1 r1 ty
 refine⟨T,id,pa,slot,Gf,h1,h2,?_⟩
 have hA:=ha cpos Aa s1 σ H1 _ I1 q1
 rw[hs]at hA ⊢
 refine Calls.callWith_builtin (by show(false||(backTo cpos (starEach es X.env)).any (·.1))=false;rw[Dw]<;>rfl) (Calls.evalArgs_plain ?_)
 exact dX hA λus s2 ⟨vs,H2,I2,r2,q2⟩=>hm Aa s2 σ H2 x vs v us Q I2 r1 r2 q2
end
def MtM(X:Cx)(id:String)(r:V->List V->Hp->VK->Prop):Prop:=
 ∀(Aa:eS) (s:Shared) (σ:St) (H:Hp) (x:V) (xs:List V) (v:Value) (us:List Value) (Q:VK),Inv X Aa σ H s->RelV x v->Vals xs us->r x xs H Q ->
  wpAny (model X.prog X.w) X.A (call (.builtin id) (v::us)) (EP X Aa σ Q) X.xe s
theorem Vals.one:∀{x:V} {us:List Value},Vals [x] us->∃u,us=[u]/\RelV x u
 |_,_,.cons r .nil=>⟨_,rfl,r⟩
theorem Vals.two:∀{x y:V} {us:List Value},Vals [x,y] us->∃u v,us=[u,v]/\RelV x u/\RelV y v:=by
 intro x y us h;cases h with
 |cons r t=>cases t with
  |cons q z=>cases z;exact⟨_,_,rfl,r,q⟩
theorem Vals.reverse{xs:List V}{us:List Value}(h:Vals xs us):Vals xs.reverse us.reverse:=by
 induction h with
 |nil=>exact .nil
 |cons r t ih=>rw[List.reverse_cons,List.reverse_cons];exact Vals.append ih (.cons r .nil)
theorem Vals.rep{xs:List V}{us:List Value}(h:Vals xs us):∀k:Nat,Vals (List.replicate k xs).flatten (List.replicate k us).flatten
 | 0=>.nil
 |k+1=>by
  rw[aO,aO,eO,eO]
  exact Vals.append h (Vals.rep h k)
theorem pY(its:List Value):∀(k:Nat) (Ab:List Value),
  List.foldl (λx1 x2=>x1++x2) Ab.toArray (List.replicate k its.toArray)=(Ab++(List.replicate k its).flatten).toArray
 | 0,Ab=>by simp
 |k+1,Ab=>by
  have e:Ab.toArray++its.toArray=(Ab++its).toArray:=by simp
  have e2:(Ab++its)++(List.replicate k its).flatten=Ab++(List.replicate (k+1) its).flatten:=by
   rw[aO,eO,bC]
  rw[<-e2,<-pY its k (Ab++its),<-e,aO,List.foldl_cons]
section
variable{X:Cx}{Aa:eS}{σ:St}{H:Hp}{s:Shared}{l b:Addr}{xs ys zs:List V}
theorem Inv.lset{its its':List Value}{n:Nat}{f:Array Value->Array Value}{t':Nat}(I:Inv X Aa σ H s)(hH:H l=some (.lst xs))
  (e:s.heap.get? l=some { cls:=.type "list",data:=.seq its.toArray n }) (hf:f its.toArray=its'.toArray) (hv:Vals ys its') (hz:ys.length<=sizeLine) :
  Inv X Aa σ (upd H l (.lst ys)) { s with heap:=s.heap.update l (Obj.mapSeq f),toks:=t' }:=by
 have q:=PySem.IsL.update e f
 rw[hf]at q
 refine I.write (x:=l) (e:=l) (by rw[hH];exact trivial) (.inl rfl) (λb' u hb hu=>(gO s.heap (Obj.mapSeq f) (Ne.symm hb)).trans hu) ⟨_,q⟩ ?_
 exact⟨hz,its',_,hv,q⟩
theorem Inv.lnew{its:List Value}{t':Nat}(I:Inv X Aa σ H s)(hv:Vals ys its)(hz:ys.length<=sizeLine) :
  Inv X Aa σ (upd H s.heap.objs.size (.lst ys)) { s with heap:=s.heap.push { cls:=.type "list",data:=.seq its.toArray },toks:=t' }:=
 I.laid (λ_ _ q=>aC _ q) (aK _) ⟨hz,its,0,hv,aU _ rfl⟩
theorem Inv.fresh(I:Inv X Aa σ H s):H s.heap.objs.size=none:=I.hok.fresh (aK _)
theorem Inv.lstM(I:Inv X Aa σ H s)(hH:H l=some (.lst xs)):xs.length<=sizeLine/\∃(its:List Value) (n:Nat),Vals xs its/\xs.length=its.length/\s.heap.get? l=some { cls:=.type "list",data:=.seq its.toArray n }:=by
 obtain⟨z,its,n,r,e⟩:=I.hok l _ hH
 exact⟨z,its,n,r,r.length,e⟩
theorem aBi{n:Nat}(h:n<=sizeLine):Builtin.List.listTooLong n=false:=by
 unfold Builtin.List.listTooLong
 exact dzF (by lia)
end
section
variable{X:Cx}
def aEt:V->List V->Hp->VK->Prop:=λx vs H Q=>∃l xs y,x=.ref l/\vs=[y]/\H l=some (.lst xs)/\xs.length<sizeLine/\Q .non (upd H l (.lst (xs++[y])))
theorem j3:MtM X "list.append" aEt:=by
 intro Aa s σ H x vs v us Q I rx rv h
 obtain⟨l,xs,y,rfl,rfl,hH,hz,q⟩:=h
 cases rx
 obtain⟨u,rfl,ru⟩:=rv.one
 obtain⟨z,its,n,r,hl,e⟩:=I.lstM hH
 refine call_meets F.slot_list_append ⟨_,e,rfl⟩ F.entry_list_append (F.args_list_append_2 _ _) (PySem.list_append l its.toArray n u (by rw[bA];lia)) ⟨e,?_⟩
 refine⟨.non,_,I.lset (its':=its++[u]) hH e (by simp) (r.append (.cons ru .nil)) ?_,rfl,q⟩
 rw[aJ,fD]
 lia
def aRu:R2:=λx y H Q=>∃l b xs zs,x=.ref l/\y=.ref b/\H l=some (.lst xs)/\H b=some (.lst zs)/\xs.length+zs.length<=sizeLine/\∀p,H p=none->Q (.ref p) (upd H p (.lst (xs++zs)))
theorem aKe:OpR X (binaryOp .Add) aRu:=by
 intro Aa s σ H x y v u Q I rx ry h
 obtain⟨l,b,xs,zs,rfl,rfl,hH,hB,hz,q⟩:=h
 cases rx
 cases ry
 obtain⟨z,its,n,r,hl,e⟩:=I.lstM hH
 obtain⟨z2,its2,n2,r2,Bo,e2⟩:=I.lstM hB
 refine PySem.P.add_list e e2 ?_ (by rw[bA,bA];lia)
 have ea:its.toArray++its2.toArray=(its++its2).toArray:=by simp
 rw[ea]
 exact⟨.ref _,_,I.lnew (t':=s.toks) (r.append r2) (by rw[aJ];lia),rfl,q _ I.fresh⟩
def aRt:R2:=λx y H Q=>∃l k xs,x=.ref l/\y=.int k/\H l=some (.lst xs) /\ -(2^63)<=k/\k<2^63/\xs.length*k.toNat<=sizeLine /\
 ∀p,H p=none->Q (.ref p) (upd H p (.lst (List.replicate k.toNat xs).flatten))
theorem aGe{α:Type}(xs:List α)(k:Nat):(List.replicate k xs).flatten.length=k*xs.length:=by
 induction k with
 |zero=>simp
 |succ k ih=>rw[aO,eO,aJ,ih,Nat.succ_mul,Nat.add_comm]
theorem aKc:OpR X (binaryOp .Mult) aRt:=by
 intro Aa s σ H x y v u Q I rx ry h
 obtain⟨l,k,xs,rfl,rfl,hH,h1,h2,hz,q⟩:=h
 cases rx
 obtain⟨t,rfl⟩:=ry
 obtain⟨z,its,n,r,hl,e⟩:=I.lstM hH
 have Ad:its.toArray.size*k.toNat<=sizeLine:=by rw[bA,<-hl];exact hz
 have Hn:¬its.toArray.size*k.toNat>(2^63-1)/8:=by
  have:(sizeLine:Nat)<=(2^63-1)/8:=by decide
  lia
 have Cm:¬(!Builtin.List.listFitsIndex k)=true:=by
  rw[fitsIndex_both h1 h2]
  exact aE
 have Ey:¬Builtin.List.listTooLong (its.toArray.size*k.toNat)=true:=by
  rw[aBi Ad]
  exact aE
 have Bv:List.foldl (λx1 x2=>x1++x2) #[] (List.replicate (if its.toArray.isEmpty=true then 0 else k.toNat) its.toArray)=(List.replicate k.toNat its).flatten.toArray:=by
  have f0:∀m:Nat,List.foldl (λx1 x2=>x1++x2) #[] (List.replicate m its.toArray)=(List.replicate m its).flatten.toArray:=λm=>by
   have:=pY its m []
   rw[aT]at this
   exact this
  rw[f0]
  cases its with
  |nil=>simp
  |cons a r'=>rw[if_neg (by simp)]
 refine wpAny_binaryOp_repeat_ref (T:= "list") (U:= "int") (by decide) ⟨_,e,rfl⟩ (λs'=>typeIs_int s' k t) noFill_list_mul F.fills_int_mul F.slot_int_rmul repeat_list F.slot_int_index.lookup
  (call_meets F.slot_int_rmul (typeIs_int s k t) F.entry_int_rmul (F.args_int_rmul_2 _ _) (int___rmul___int_list k t l its.toArray n)
   ⟨e,rfl,⟨_,e,rfl⟩,call_meets F.slot_list_mul ⟨_,e,rfl⟩ F.entry_list_mul (F.args_list_mul_2 _ _) (AutoListH.list___mul___list_int_3 l its.toArray n k t Cm Hn Ey) ⟨e,?_⟩⟩)
 rw[Bv]
 exact⟨.ref _,_,I.lnew (t':=s.toks) (r.rep k.toNat) (by rw[aGe,Nat.mul_comm];exact hz),rfl,q _ I.fresh⟩
end
end L2
namespace Att
open PySem PySem.W PySem.Calls PyProof.Rows
theorem hs_{P:Params}{h:Heap}:∀(ns:List Int) (vs:List Value),WellAll P h vs (ns.map WData.int)->IntsAre vs ns:=by
 intro ns
 induction ns with
 |nil =>
  intro vs w
  rw[bI]at w
  cases w
  exact .nil
 |cons n ns ih =>
  intro vs w
  rw[aL]at w
  cases w with
  |cons a b =>
   cases a
   exact .cons _ _ (ih _ b)
theorem g_{l:OpenLaw}{n:Nat}(hn:l.most=some n){P:Params}{h:Heap}{args:List WData}{iQ:List Value}
  (Da:l.row.toRowW.claim.pre args=true) (Gc:WellAll P h iQ args) :
  ∃a vs ns,iQ=[Value.ref a]/\args=[WData.list (ns.map WData.int)]/\h.get? a=some { cls:=.type "list",data:=.seq vs.toArray }/\IntsAre vs ns/\ns.length<=n:=by
 have hsh:WShape.hasAll [] args [.list .int]=true:=(pre_splitW Da).1
 have hc:l.pre.holds [] { args:=args }=true:=(pre_splitW Da).2
 obtain⟨d,r,rfl,h1,h2⟩:=hasAllW_cons hsh
 obtain rfl:=hasAllW_nil h2
 obtain⟨xs,rfl,h3⟩:=hasW_list h1
 obtain⟨ns,rfl⟩:=items_int h3
 have Ad:ns.length<=n:=by
  unfold OpenLaw.pre at hc
  have h4:(WTm.not (.lt (.lit (.int (n:Int))) (.len (.arg 0)))).holds [] { args:=[.list (ns.map .int)] }=true:=by
   have h4:=(holds_andW hc).1
   rw[hn]at h4
   exact h4
  have h5:=condW_of h4 (w_not (w_lt w_lit (w_len_list (w_arg rfl))))
  rw[aD]at h5
  refine Nat.le_of_not_lt λq=>?_
  have q':(n:Int)<((ns.length:Nat):Int):=by lia
  first
   |(rw[dzT q']at h5;exact absurd h5 (by decide))
   |(simp at h5;lia)
 cases Gc with
 |cons w1 w2 =>
  cases w2
  cases w1 with
  |list ho Aq=>exact⟨_,_,ns,rfl,rfl,ho,hs_ ns _ Aq,Ad⟩
theorem i0(l:OpenLaw)(args:List WData):l.row.toRowW.claim.post args (.bool true) args=true:=
 postW_of (r:=l.row.toRowW) (X:=(true == true))
  (show WShape.has [] (.bool true) .bool=true by first | rfl | decide | simp[WShape.has,WShape.arms,WShape.armsAll])
  (show(WTm.eq .res (.lit (.bool true))).value [] { args:=args,res:=some (.bool true),after:=args }=some (.bool (true == true))from w_eq_bool (w_res rfl) w_lit) rfl
theorem attach_call{l:OpenLaw}{n:Nat}{q:Program}{loose:List Str}{XP:(Str->Option Value)->Heap->Prop}{YP:World->Heap->Prop}{d:DefRec}
  (hn:l.most=some n) (Hl:d.params.defaults=[])
  (call:∀ (w:World) (s₀ s₁:Shared) (mg mb:lG) (fa:Addr) (o:Obj) (pm cd doc:Value) (a:Addr) (vs:List Value) (ns:List Int),
   Ground q loose [] XP w s₀ mg mb s₁.heap->YP w s₁.heap ->
   s₁.heap.get? fa=some o->o.data=.func (docDef d.name d.params d.body d.scope pm cd doc)->s₁.heap.CodeRec cd d.name->mg d.name=some (.ref fa) ->
   s₁.heap.get? a=some { cls:=.type "list",data:=.seq vs.toArray }->IntsAre vs ns->ns.length<=n->s₁.gens = #[] ->
   codeAny (model l.prog w) callerA (.call (.ref fa) ⟨[.ref a],[]⟩) (λr s'=>r=.ok (.ret (.bool true))/\OldK s₁.heap s'.heap/\s'.os=s₁.os/\AllBare s'.gens) s₁) :
  WalkO q loose XP YP l.row.toRowW d [] (λf vs=>PySem.call f vs):=by
 intro w s₀ s₁ mg mb G Y fa o pm cd doc dV kV ho hd C2 hD G1 hg args iQ as Da hlay hrd Gc hlo
 obtain rfl:dV=.none:=Dflts.none hD Hl
 obtain rfl:kV=.none:=Dflts.noKw hD
 obtain⟨a,vs,ns,rfl,rfl,Dz,Cz,Ad⟩:=g_ hn Da Gc
 refine enter_call (codeAny_mono (call w s₀ s₁ mg mb fa o pm cd doc a vs ns G Y ho (fd_plain hd) C2 G1 Dz Cz Ad hg) λr s' hq=>?_)
 obtain⟨rfl,h2,h3,h4⟩:=hq
 exact⟨.inl ⟨.bool true,.bool true,[],rfl,λ_=>rfl,.bool true,i0 l _,λ_=>⟨List.Pairwise.nil,λ_ hm=>(nomatch hm)⟩⟩,h2,h3,h4⟩
end Att
namespace L2
open PySem PySem.Spec PyProof.Rows
theorem pH:∀{vs:List Value} {ns:List Int},IntsAre vs ns->Vals (ns.map V.int) vs
 |_,_,.nil=>.nil
 |_,_,.cons n t h=>.cons ⟨t,rfl⟩ (pH h)
def aMn(H:Hp):Prop:=∀b,H b=none\/∃o xs,H b=some (.frz o (.lst xs))
theorem aBq{P:Program}{w:World}{K:dQ}{mg mb:lG}{CX:CXT}{k:Nat}{fa a:Addr}{fd:FuncData}{x:Str}{sp:Sp}{s₁:Shared}{vs:List Value}{ns:List Int}
  (KX:K.In s₁.heap) (Cg:s₁.heap.Ns mainGlobals mg) (hb:s₁.heap.Ns builtinsNs mb) (hbb:∀x:Str,x ≠ "__name__" -> mb x=bootBuiltins x) (G5:s₁.heap.NoLimit) (hg:s₁.gens = #[])
  (ha:s₁.heap.get? a=some { cls:=.type "list",data:=.seq vs.toArray }) (hi:IntsAre vs ns) (hl:ns.length<=sizeLine) (hr:Room k callerA)
  (F:∀base:Heap,K.In base->base.Ns mainGlobals mg->FnOk P w K mg base CX k fa fd [x] sp) (Fd:∀(s:Shared) (u:Value),BindsTo s fd ⟨[u],[]⟩ [(x,u)])
  (Ck:∀H:Hp,aMn H->SqL K H a (ns.map V.int)->sp [.ref a] H (λv _=>v=.bl true) λ_ _ _=>False)
  (Hw:∀H e s',CX [] H s₁ (λ_ _ _=>False) e s'->False) :
  codeAny (model P w) callerA (.call (.ref fa) ⟨[.ref a],[]⟩) (λr s'=>r=.ok (.ret (.bool true))/\OldK s₁.heap s'.heap/\s'.os=s₁.os/\AllBare s'.gens) s₁:=by
 have rv:=pH hi
 have lenV:=hi.length
 have core:∀H:Hp,aMn H->SqL K H a (ns.map V.int)->HOk P w H s₁.heap->(∀b,H b≠none->b=a)->(H a≠none->K.lookup a=none) ->
   codeAny (model P w) callerA (.call (.ref fa) ⟨[.ref a],[]⟩) (λr s'=>r=.ok (.ret (.bool true))/\OldK s₁.heap s'.heap/\s'.os=s₁.os/\AllBare s'.gens) s₁:=by
  intro H hO hS hok hA hK
  have base_of:∀{b:Addr} {o:Obj},s₁.heap.get? b=some o->H b=none->(sA s₁.heap H).get? b=some o:=λe n=>aCd e n
  have noA:∀{b:Addr} {o:Obj} {es:Array DictEntry} {ep:Nat},s₁.heap.get? b=some o->o.data=.dict es ep->H b=none:=λ{b o es ep} e d=>by
   cases q:H b with
   |none=>rfl
   |some u =>
    have e':b=a:=hA b (by rw[q];simp)
    subst e'
    rw[ha]at e;cases e
    have d':Data.seq vs.toArray _=Data.dict es ep:=d
    cases d'
  have nsK:∀{b:Addr} {m:lG},s₁.heap.Ns b m->(sA s₁.heap H).Ns b m:=λ{b m} ⟨o,es,ep,e,d,r⟩=>⟨o,es,ep,base_of e (noA e d),d,r⟩
  have I0:K.In (sA s₁.heap H):=λb o e=>base_of (KX b o e) (by
   cases q:H b with
   |none=>rfl
   |some u =>
    have e':b=a:=hA b (by rw[q];simp)
    subst e'
    rw[hK (by rw[q];simp)]at e;cases e)
  have hM:Mod K mg (sA s₁.heap H):=⟨I0,nsK Cg,⟨mb,nsK hb,hbb⟩,let ⟨mc,h1,h2⟩:=G5;⟨mc,nsK h1,h2⟩⟩
  have e0:Env0 P w K mg (sA s₁.heap H) callerA [] s₁ H:=⟨rfl,hM,λb o e=>aFs e,Nat.le_of_eq (k7 _ _),trivial,λb hb=>absurd (show b∈([]:List Addr)from hb) (by simp),hok,.of_eq hg⟩
  refine codeAny_mono ((F _ I0 (nsK Cg)).run callerA [] s₁ H ⟨[.ref a],[]⟩ [.ref a] [.ref a] _ _ hr e0 (Fd s₁ (.ref a)) (.cons rfl .nil) (Ck H hO hS)) λr s' h=>?_
  cases r with
  |error e=>exact(Hw H e s' h).elim
  |ok fl =>
   cases fl with
   |next=>exact False.elim h
   |brk=>exact False.elim h
   |cont=>exact False.elim h
   |ret u =>
    obtain⟨v,H',os,bare,un,Gq,r',q⟩:=h
    have q':v=.bl true:=q
    subst q'
    obtain rfl:u=Value.bool true:=r'
    refine⟨rfl,OldK.of_keep λb o e=>?_,os,bare⟩
    cases q:H b with
    |none=>exact un.keep b o e q (by intro z;exact absurd (show b∈([]:List Addr)from z) (by simp)) (by simp)
    |some u =>
     rcases hO b with z | ⟨ob,xs,z⟩
     ·rw[q]at z;cases z
     ·have z2:=un.frzs b ob _ z
      obtain⟨e1,_⟩:=hok b _ z
      obtain⟨e2,_⟩:=Gq b _ z2
      rw[e]at e1;cases e1
      exact e2
 cases hk:K.lookup a with
 |some o =>
  have e:=KX a o hk
  rw[ha]at e
  cases e
  refine core (λ_=>none) (λ_=>.inl rfl) (.inr ⟨_,vs.toArray,_,hk,rfl,rfl,rfl,by rw[bA,lenV];exact hl,by simpa using rv⟩) (λb u z=>by have z':(none:Option HO)=some u:=z;cases z') (λb z=>absurd rfl z) λz=>absurd rfl z
 |none =>
  refine core (λb=>if b=a then some (.frz { cls:=.type "list",data:=.seq vs.toArray } (.lst (ns.map V.int)))else none) (λb=>?_) (.inl (.inr ⟨{ cls:=.type "list",data:=.seq vs.toArray },if_pos rfl⟩)) (λb u z=>?_) (λb z=>?_) λ_=>hk
  ·by_cases hb:b=a
   ·exact .inr ⟨_,_,if_pos hb⟩
   ·exact .inl (if_neg hb)
  ·by_cases hb:b=a
   ·have z':=(if_pos hb).symm.trans z
    cases z'
    subst hb
    exact⟨ha,by rw[aD];exact hl,vs,_,rv,ha⟩
   ·have z':=(if_neg hb).symm.trans z
    cases z'
  ·by_cases hb:b=a
   ·exact hb
   ·exact absurd (if_neg hb) z
abbrev CX0:CXT:=λ_ _ _ _ _ _=>False
abbrev E0:XK:=λ_ _ _=>False
theorem jW{X:Cx}:xT CX0 X E0:=λ_ _ _ _ _ _ _ h=>h.elim
structure Fun(K:dQ)(x qual:Str)(st:Stmt)(f:Addr)(fd:FuncData):Prop where
 ex:∃(oc:Value) (od:Option Addr) (kV doc pm:Value) (an:Option Addr) (Af ct:Value) (osl:Array (Option Value)),
  fd=PySem.W.fnOf x qual (mB st) (fW st) (aR st) .none kV doc pm an Af ct/\K.lookup f=some ⟨oc,od,.func fd,osl⟩/\PySem.W.codeIn K Af qual=true
 kp:PySem.W.keepIn K (.ref f)=true
section
theorem Fun.ok{x qual:Str}{st:Stmt}{f:Addr}{fd:FuncData}{N ps:List Str}{k:Nat}{sp:Sp}(F:Fun K x qual st f fd)(S:FnScope N ps (aR st))(len:∀vs H Q E,sp vs H Q E->vs.length=ps.length)
  (A6:∀ (Af:Value) (A:Around) (outer:List Env) (s:Shared) (H:Hp) (vs:List V) (Q:VK) (E:XK),Room k (A.deeper (envOfC qual (aR st) s.heap.objs.size f Af))→sp vs H Q E →
   ∃t,PSs (oZ CX0 P w K mg base N qual (aR st) f Af A outer s H E).nox (fW st) t/\t { nx:=λ_ H'=>Q .non H',rt:=Q } (start N vs) H):FnOk P w K mg base CX0 (k+1) f fd ps sp:=by
 obtain⟨oc,od,kV,doc,pm,an,Af,ct,osl,rfl,lk,C2⟩:=F.ex
 refine aPk lk C2 S len λA outer s H vs Q E hr Ck=>?_
 obtain⟨t,h,q⟩:=A6 Af A outer s H vs Q E hr Ck
 exact⟨t,h.nox,q⟩
theorem Fun.binds{x qual:Str}{st:Stmt}{f:Addr}{fd:FuncData}{ps:List Str}(F:Fun K x qual st f fd)
  (h:∀(kV doc pm:Value) (an:Option Addr) (Af ct:Value) (us:List Value),us.length=ps.length->bindArgs (PySem.W.fnOf x qual (mB st) (fW st) (aR st) .none kV doc pm an Af ct) ⟨us,[]⟩=pure (ps.zip us)):Binds K fd ps []:=by
 obtain⟨oc,od,kV,doc,pm,an,Af,ct,osl,rfl,lk,C2⟩:=F.ex
 exact .all (h kV doc pm an Af ct)
end
theorem sI{A:Around}{k:Nat}(hr:Room k A):A.units+1<cLine:=Nat.lt_of_le_of_lt (Nat.add_le_add_left (by decide:1<=64) _) hr.units
theorem pO{n:Nat}(h:n<=1000):n<sizeLine:=Nat.lt_of_le_of_lt h (by decide)
section
variable{X:Cx}
theorem pv(i:Nat){x:Str}{pos:Pos}(hN:X.N[i]? = some x:=by rfl)(hv:Vis X.env.scope x:=by first | exact Or.inl rfl | exact Or.inr (Or.inl rfl) | exact Or.inr (Or.inr rfl))(hd:(x == ("__debug__" : Str))=false:=by decide)
  (C2:(x == ("__classdict__" : Str))=false:=by decide):PE X (.Name x pos) (fQ i):=aJr hN hv hd C2
end
theorem aSb{A B:Prop}(h:B):if false=true then A else B:=by
 rw[if_neg aE]
 exact h
theorem aSa{A B:Prop}(h:A):if true=true then A else B:=by
 rw[if_pos rfl]
 exact h
theorem lC{c A B:Prop}[Decidable c](h1:c->A)(h2:¬c->B):if c then A else B:=by
 by_cases h:c
 ·rw [if_pos h]
  exact h1 h
 ·rw [if_neg h]
  exact h2 h
def Same(H H':Hp):Prop:=∀b o,H b=some o->H' b=some o
theorem Same.refl(H:Hp):Same H H:=λ_ _ h=>h
theorem Same.trans{H H1 H2:Hp}(a:Same H H1)(b:Same H1 H2):Same H H2:=λc o h=>b c o (a c o h)
section
variable{X:Cx}
def aIq(_ j:Int):Prop:=0<j/\j<2^250
theorem aBl{j:Int}(h1:0<j)(h2:j<2^250):j.natAbs.log2<9000:=by
 have h0:j.natAbs≠0:=by lia
 have h3:j.natAbs<2^250:=by lia
 exact Nat.lt_trans ((Nat.log2_lt h0).mpr h3) (by decide)
theorem nB:OpR X (binaryOp .FloorDiv) (rI aIq λi j=>.int (i/j)):=opI λi j _ _ _ _ _ hc q=>by
 have h1:(0:Int)<j:=hc.1
 exact floordiv_int (by lia) (by rw[Int.fdiv_eq_ediv_of_nonneg i (by lia)];exact q) (.inl (PyProof.noPylong_of_log2 (aBl hc.1 hc.2)))
def CMulB(i j:Int):Prop:=i.natAbs<2^250/\j.natAbs<2^250
theorem CMulB.ok{i j:Int}(h:CMulB i j):IntMulOk i j:=by
 have a:Builtin.Int.intBits i<=250:=intBits_le h.1
 have b:Builtin.Int.intBits j<=250:=intBits_le h.2
 unfold IntMulOk Builtin.Int.intTooBig
 intro z
 rw[cB]at z
 have c:=of_decide_eq_true z.2
 rw[bitsLine_eq]at c
 lia
theorem hU:OpR X (binaryOp .Mult) (rI CMulB λi j=>.int (i*j)):=opI λ_ _ _ _ _ _ _ hc q=>mul_int q hc.ok
end
section
variable{K:dQ}
theorem aBs(T:String):PySem.W.kitOne K (.type T) (.type T)=some true:=by
 unfold PySem.W.kitOne
 rw[if_pos (beq_self_eq_true _)]
theorem aKx{T S:String}{b:Bool}(h1:(Value.type T == Value.type S)=false)(h2:PySem.W.kitMeta S=true)(h3:(fastBuiltinMro T).map (·.contains (Value.type S))=some b):PySem.W.kitOne K (.type T) (.type S)=some b:=by
 unfold PySem.W.kitOne
 rw[if_neg (by rw[h1];exact aE)]
 show(if PySem.W.kitMeta S=true then PySem.W.subIn K (.type T) (.type S)else none)=some b
 rw[if_pos h2]
 exact h3
theorem fx_:bootBuiltins "isinstance" = some (.builtin "isinstance"):=by decide +kernel
theorem sQ:bootBuiltins "max" = some (.builtin "max"):=by decide +kernel
theorem aMe:bootBuiltins "min" = some (.builtin "min"):=by decide +kernel
theorem oH:bootBuiltins "int" = some (.type "int"):=by decide +kernel
theorem gk_:bootBuiltins "bool" = some (.type "bool"):=by decide +kernel
theorem oG:bootBuiltins "str" = some (.type "str"):=by decide +kernel
theorem er_:bootBuiltins "list" = some (.type "list"):=by decide +kernel
theorem cr_:bootBuiltins "tuple" = some (.type "tuple"):=by decide +kernel
theorem gj_:bootBuiltins "dict" = some (.type "dict"):=by decide +kernel
end
theorem oB{scope:Scope}{env:Env}(h:∀y∈scope.names,y.2=.free->∃c,env.cells.lookup y.1=some c) :
  ∃cl,closureFor scope env=pure cl/\(∀x c,cl.lookup x=some c->env.cells.lookup x=some c)/\(∀y∈scope.names,y.2=.free->∃c,cl.lookup y.1=some c):=by
 have key:∀(ns:List (Str×NameKind)) (cs:List (Str×Addr)),(∀y∈ns,y.2=.free->∃c,env.cells.lookup y.1=some c)->(∀x c,cs.lookup x=some c->env.cells.lookup x=some c) ->
   ∃cl,(forIn ns cs λ(x:Str×NameKind) (cs:List (Str×Addr))=>(if x.2 == .free then do let c <-cellOf env x.1;pure (ForInStep.yield ((x.1,c)::cs))else pure (ForInStep.yield cs):Sem _))=pure cl /\
    (∀x c,cl.lookup x=some c->env.cells.lookup x=some c)/\(∀x c,cs.lookup x=some c->∃c,cl.lookup x=some c)/\(∀y∈ns,y.2=.free->∃c,cl.lookup y.1=some c):=by
  intro ns
  induction ns with
  |nil=>intro cs _ hc;exact⟨cs,rfl,hc,λx c e=>⟨c,e⟩,λy hy=>nomatch hy⟩
  |cons y r ih =>
   intro cs hn hc
   obtain⟨n,k⟩:=y
   by_cases hk:k=.free
   ·subst hk
    obtain⟨c,e⟩:=hn (n,.free) aA rfl
    obtain⟨cl,e1,e2,e3,e4⟩:=ih ((n,c)::cs) (λy hy=>hn y (aB _ hy)) (λx c' q=>by
     rw[bW]at q
     cases hx:x == n with
     |true =>
      rw[hx]at q
      cases q
      have:x=n:=by simpa using hx
      rw[this]
      exact e
     |false =>
      rw[hx]at q
      exact hc x c' q)
    refine⟨cl,?_,e2,λx c' q=>?_,λy hy Fs=>?_⟩
    ·rw [List.forIn_cons]
     have e':env.cells.lookup n=some c:=e
     simp only[beq_self_eq_true,if_true,cellOf,e']
     exact e1
    ·cases hx:x == n with
     |true=>exact e3 x c (by rw[bW,hx])
     |false=>exact e3 x c' (by rw[bW,hx];exact q)
    ·rcases aF.mp hy with rfl | hy
     ·exact e3 n c (by rw[bW];simp)
     ·exact e4 y hy Fs
   ·obtain ⟨cl,e1,e2,e3,e4⟩:=ih cs (fun y hy=>hn y (aB _ hy)) hc
    refine⟨cl,?_,e2,e3,λy hy Fs=>?_⟩
    ·rw [List.forIn_cons]
     have hb:(k == NameKind.free)=false:=by simpa using hk
     simp only[hb,cK,if_false]
     exact e1
    ·rcases aF.mp hy with rfl | hy
     ·exact absurd Fs hk
     ·exact e4 y hy Fs
 obtain⟨cl,e1,e2,_,e4⟩:=key scope.names [] h (λx c e=>by simp at e)
 refine⟨cl,?_,e2,e4⟩
 simp only[closureFor]
 rw[show(forIn scope.names ([]:List (Str×Addr)) λ(x:Str×NameKind) (cs:List (Str×Addr))=>(if x.2 == .free then do let c <-cellOf env x.1;pure (ForInStep.yield ((x.1,c)::cs))else pure (ForInStep.yield cs):Sem _))=pure cl from e1]
 rfl
theorem hj_{scope:Scope}{env:Env}{x:Str}{k:NameKind}(h:(relabel scope env).names.lookup x=some k):∃k0,scope.names.lookup x=some k0/\(k0=k\/(k0=.free/\k=.cell)):=by
 unfold relabel at h
 dsimp only at h
 revert h
 generalize scope.names=ns
 induction ns with
 |nil=>intro h;simp at h
 |cons y r ih =>
  obtain⟨n,k'⟩:=y
  intro h
  rw[aL]at h
  cases hx:x == n with
  |true =>
   rw[bW,hx]
   refine⟨k',rfl,?_⟩
   dsimp only at h
   split at h
   ·rename_i hc
    rw[bW,hx]at h
    cases h
    rw[cB,cB]at hc
    exact .inr ⟨by simpa using hc.1.1,rfl⟩
   ·rw [bW,hx] at h
    cases h
    exact .inl rfl
  |false =>
   rw[bW,hx]
   dsimp only at h
   apply ih
   split at h
   ·rw[bW,hx]at h;exact h
   ·rw[bW,hx]at h;exact h
theorem rE{scope:Scope}{env:Env}{x:Str}(h:scope.names.lookup x=some .free)(hk:env.scope.kind=.function)(hc:env.kindOf x=some .cell):(relabel scope env).names.lookup x=some .cell:=by
 unfold relabel
 dsimp only
 revert h
 generalize scope.names=ns
 induction ns with
 |nil=>intro h;simp at h
 |cons y r ih =>
  obtain⟨n,k'⟩:=y
  intro h
  rw[aL]
  cases hx:x == n with
  |true =>
   rw[bW,hx]at h
   cases h
   have:x=n:=by simpa using hx
   subst this
   dsimp only
   rw[if_pos (by rw[hk,hc];rfl),bW,hx]
  |false =>
   rw[bW,hx]at h
   dsimp only
   split
   ·rw[bW,hx];exact ih h
   ·rw[bW,hx];exact ih h
section
variable{prog:Program}{w:World}{A:Around}{R:Result->Shared->Prop}{s:Shared}
theorem sM{elt target iter:Expr}{ifs:List Expr}{scope:Scope}{pos:Pos}{it Ab:Value}{env:Env}(I:Nat->Shared->Prop)
  (turn:∀ n s,I n s→wpAny (model prog w) A (pyNext it) (fun r s₁=>match r with
   |none=>R (.ok .next) s₁
   | some v => wpAny (model prog w) A (letOwnedTupleGo target it v) (fun _ s₀ => wpAny (model prog w) A (assign target env v) (fun _ s₂ =>
     wpAny (model prog w) A (forIn ifs true λc r=>if r=true then do let ok <-isTrue c env (eval c env);pure (ForInStep.yield ok)else pure (ForInStep.yield r)) (λok s₃ =>
      if ok=true then wpAny (model prog w) A (eval elt env) (λx s₄ =>
       wpAny (model prog w) A (call (.builtin "list.append") [Ab,x]) (λ_ s₅=>∃m,m<n/\I m s₅) (λ_ _=>False) s₄) (λ_ _=>False) s₃
      else ∃m,m<n/\I m s₃) (λ_ _=>False) s₂) (λ_ _=>False) s₀) (λ_ _=>False) s₁) (λ_ _=>False) s)
  (n:Nat) (h:I n s) :
  codeAny (model prog w) A (.compLoop (.ListComp elt [⟨target,iter,ifs,0⟩] scope pos) 0 it Ab env) R s:=by
 refine codeAny_loop rfl I (λn s hI=>?_) n h
 show wpAny _ A ((compTurn (.ListComp elt [⟨target,iter,ifs,0⟩] scope pos) 0 it Ab env).onRaise (λx=>do noteFrame x env;theTreesLotGoes x)) _ _ s
 refine wpAny_noted ?_
 rw[compTurn_list]
 refine wpAny_bind (wpAny_standAt (wpAny_bind (wpAny_mono (turn n s hI) (λr s₁ h₁=>?_) λ_ _ h'=>h'.elim)))
 cases r with
 |none=>exact wpAny_pure h₁
 |some v =>
  refine wpAny_bind (wpAny_mono h₁ (λ_ s₀ h₀=>?_) λ_ _ h'=>h'.elim)
  refine wpAny_bind (wpAny_mono h₀ (λ_ s₂ h₂=>wpAny_bind (wpAny_mono h₂ (λok s₃ h₃=>?_) λ_ _ h'=>h'.elim)) λ_ _ h'=>h'.elim)
  cases ok with
  |false=>exact wpAny_pure ⟨rfl,h₃⟩
  |true =>
   exact wpAny_bind (wpAny_bind (wpAny_mono h₃ (λx s₄ h₄=>wpAny_bind (wpAny_mono h₄ (λ_ s₅ h₅=>wpAny_pure (wpAny_pure ⟨rfl,h₅⟩)) λ_ _ h'=>h'.elim)) λ_ _ h'=>h'.elim))
end
section
variable{X:Cx}{Aa:eS}{σ:St}{H:Hp}{s:Shared}
def PCs(X:Cx)(ifs:List Expr)(t:TT):Prop:=
 ∀(Aa:eS) (s:Shared) (σ:St) (H:Hp) (Q:Bool->Hp->Prop),Inv X Aa σ H s->t σ H Q ->
  wpAny (model X.prog X.w) X.A (forIn ifs true λc r=>if r=true then do let ok <-isTrue c X.env (eval c X.env);pure (ForInStep.yield ok)else pure (ForInStep.yield r)) (TP X Aa σ Q) X.xe s
def aNo:TT:=λ_ H Q=>Q true H
theorem aFx{i:Nat}{x:V}{σ:St}{H:Hp}{A B:St->Hp->Prop}(h:A (σ.set i (some x)) H):iM i x σ H (λσ2 H2=>aNo σ2 H2 (λb H3=>if b=true then A σ2 H3 else B σ2 H3)):=by
 show(if true=true then A (σ.set i (some x)) H else B (σ.set i (some x)) H)
 exact aSa h
theorem yU:PCs X [] aNo:=λAa s σ H Q I h=>wpAny_tests_nil ⟨H,I,h⟩
theorem aFk{c:Expr}{t:TT}(h:PT X c t):PCs X [c] t:=λAa s σ H Q I q=>wpAny_tests_one (h Aa s σ H Q I q)
end
def iL(n:Nat)(outs:List Nat)(σ:St):St:=List.replicate n none++outs.map λj=>(σ[j]?).join
theorem mV(n:Nat)(outs:List Nat)(σ:St):(iL n outs σ).length=n+outs.length:=by
 unfold iL
 rw[aJ,bV,aD]
def dE(X:Cx)(N':List Str)(scope:Scope)(cl:List (Str×Addr))(C:Addr)(s:Shared)(H:Hp)(ex:List Addr):Cx where
 prog:=X.prog
 w:=X.w
 K:=X.K
 mg:=X.mg
 base:=X.base
 A:=X.A
 N:=N'
 s₀:=s
 H₀:=H
 env:=compEnvC scope cl C X.env
 outer:=X.stack
 stack:=X.stack
 ex:=ex
 fn:=λ_=>false
 calm:=X.calm
 pn:=[]
 xe:=λ_ _=>False
structure CompScope(dsc scope:Scope)(N tgs:List Str)(outs:List Nat)(N':List Str):Prop where
 kind:scope.kind=.function
 names:∀x∈scope.names,x.2=.local->scope.names.lookup x.1=some .local
 nocell:∀y∈scope.names,y.2 ≠ .cell
 free:∀y∈scope.names,y.2=.free->dsc.names.lookup y.1=some .cell
 isN:N'=tgs++outs.map (λj=>N.getD j "")
 lts:∀j∈outs,j<N.length
 outF:∀j∈outs,scope.names.lookup (N.getD j "")=some .free
 nd:N'.Nodup
def Tgt(n:Nat)(g:TG):Prop:=∀x σ H Q,g x σ H Q->g x σ H (λσ2 H2=>Q σ2 H2/\σ2.length=σ.length/\∀i,n<=i->σ2[i]? = σ[i]?)
theorem vN{n i:Nat}(h:i<n):Tgt n (iM i):=λx σ H Q q=>⟨q,by rw[bX],λj hj=>dW (by lia)⟩
def aDr(n:Nat)(g:TGs):Prop:=∀xs σ H Q,g xs σ H Q->g xs σ H (λσ2 H2=>Q σ2 H2/\σ2.length=σ.length/\∀i,n<=i->σ2[i]? = σ[i]?)
theorem fk_{n:Nat}:aDr n aGp:=λxs σ H Q ⟨e,q⟩=>⟨e,q,rfl,λ_ _=>rfl⟩
def d_(g:TGs):Prop:=∀xs σ H Q Q',(∀σ2 H2,Q σ2 H2->Q' σ2 H2)->g xs σ H Q->g xs σ H Q'
theorem cd_{n i:Nat}{u:TGs}(h:i<n)(hu:aDr n u)(mu:d_ u):aDr n (zP (iM i) u):=λxs σ H Q ⟨v,r,e,q⟩=>by
 refine⟨v,r,e,?_⟩
 have z:=hu r (σ.set i (some v)) H Q q
 refine mu r _ H _ _ (λσ2 H2 ⟨a,b,c⟩=>⟨a,?_,λj hj=>?_⟩) z
 ·rw[b,bX]
 ·rw[c j hj,dW (by lia)]
theorem cc_:d_ aGp:=λxs σ H Q Q' h ⟨e,q⟩=>⟨e,h _ _ q⟩
theorem dz_{i:Nat}{u:TGs}(mu:d_ u):d_ (zP (iM i) u):=λxs σ H Q Q' h ⟨v,r,e,q⟩=>⟨v,r,e,mu r _ H _ _ h q⟩
theorem yE{K:dQ}{n k:Nat}{t:TGs}(h:aDr n t):Tgt n (aGo K k t):=λx σ H Q ⟨a,xs,e,hq,hl,q⟩=>⟨a,xs,e,hq,hl,h xs σ H Q q⟩
def pL(n:Nat)(outs:List Nat)(wi:TI)(g:TG)(tc:TT)(te:TE):TE:=λσ H Q=>wi σ H λJ H1 =>
 ∃W:Nat->Nat->List V->Hp->Prop,(∃m,W 0 m [] H1)/\∀i m Ab H,W i m Ab H ->
  (J.stop i H/\Ab.length<=sizeLine/\∀l,H l=none->Q (.ref l) (upd H l (.lst Ab))) \/
  (J.go i H∧Ab.length < sizeLine∧∃ N:List V→Hp→Prop,(∀ acc' H',N acc' H'→∃ m',m' < m∧W (i + 1) m' acc' H')∧∀ x H',J.yld i H x H'→g x (iL n outs σ) H' fun σ2 H2=>tc σ2 H2 fun b H3 =>
   if b=true then te σ2 H3 λy H4=>N (Ab++[y]) H4 else N Ab H3)
section
variable{X:Cx}{Aa:eS}{σ:St}{H2:Hp}{s2:Shared}{dsc scope:Scope}{tgs N':List Str}{outs:List Nat}{cl:List (Str×Addr)}{fp:List Addr}{C D:Addr}{h1:Heap}{tk:Nat}{mC:lG}
theorem xE(S:CompScope dsc scope X.N tgs outs N')(Cc:X.env.scope=dsc)(I2:Inv X Aa σ H2 s2)(f2:∀b∈fp,jQ X Aa H2 b)(Fz:∀b∈fp,b<s2.heap.objs.size)
  (B9:∀x c,cl.lookup x=some c->X.env.cells.lookup x=some c) (Dh:∀y∈scope.names,y.2=.free->∃c,cl.lookup y.1=some c)
  (hC:s2.heap.objs.size<=C) (kp:∀b o,s2.heap.get? b=some o->h1.get? b=some o) (nC:h1.Ns C mC) :
  Inv (dE X N' scope cl C s2 H2 fp) [] (iL tgs.length outs σ) H2 { s2 with heap:=h1,toks:=tk }:=by
 have freeAt:∀x,scope.names.lookup x=some .free->(relabel scope X.env).names.lookup x=some .cell:=λx e =>
  rE e I2.ok.kind (by show X.env.scope.names.lookup x=some .cell;rw[Cc];exact S.free (x,.free) (PySem.mem_of_lookup e) rfl)
 refine⟨⟨I2.ok.mod,?_,I2.ok.glob,I2.ok.blt,hC,λx y c e1 e2=>I2.ok.inj x y c (B9 x c e1) (B9 y c e2),λx hx=>?_,(λx c h=>nomatch h),I2.ok.hd,I2.ok.frames,.inl rfl,λb hb=>?_,I2.bs,nzL I2.ok.bsz I2.sz,λb o e hb=>?_,λb hb=>?_,I2.stack,I2.stkFree⟩,
  rfl,I2.bare,Un.kept kp,⟨mC,nC,λi x v e1 e2 e3=>?_⟩,λx c e=>?_,I2.hok.fresh hC,λx c e=>I2.freeC x c (B9 x c e),λp hp=>absurd (show p∈([]:eS)from hp) (by simp),I2.hok.kept kp,?_⟩
 ·exact S.kind
 ·have Cv:(relabel scope X.env).names.lookup x=some .cell∨(relabel scope X.env).names.lookup x=some .free:=hx
  have z:scope.names.lookup x=some .free:=by
   rcases Cv with Cv | Cv
   ·obtain ⟨k0,e,h | ⟨h,_⟩⟩:=hj_ Cv
    ·rw [h] at e
     exact absurd rfl (S.nocell _ (PySem.mem_of_lookup e))
    ·rw[h]at e;exact e
   ·obtain ⟨k0,e,h | ⟨h,_⟩⟩:=hj_ Cv
    ·rw[h]at e;exact e
    ·rw[h]at e;exact e
  exact Dh (x,.free) (PySem.mem_of_lookup z) rfl
 ·refine ⟨fun z => ?_,fun x c e=>(f2 b hb).2.2.2.2.1 x c (B9 x c e)⟩
  have z':b=C:=z
  exact absurd (bF (Fz b hb) hC) (by rw[z'];exact dR _)
 ·rcases (f2 b hb).2.2.2.1 with z | z
  ·exact I2.ok.noex b o e z
  ·exact absurd (bF (aQ e) (nzL I2.ok.bsz z)) (dR _)
 ·intro z
  rcases aF.mp (I2.stkSub b z)with z | z
  ·exact(f2 b hb).2.1 z
  ·exact(f2 b hb).2.2.1 z
 ·have e2':(List.replicate tgs.length (none:Option V) ++ outs.map fun j=>(σ[j]?).join)[i]? = some (some v):=e2
  have e1':N'[i]? = some x:=e1
  by_cases hi:i<tgs.length
  ·rw [List.getElem?_append_left (by rw [bV]; exact hi),gB,if_pos hi] at e2'
   cases e2'
  ·rw [fJ (by rw [bV]; lia),bV,bP] at e2'
   rw[S.isN,fJ (by lia),bP]at e1'
   cases ej:outs[i-tgs.length]? with
   |none=>rw[ej]at e2';cases e2'
   |some j =>
    rw[ej]at e1' e2'
    have hj:j∈outs:=bE ej
    have ex:X.N.getD j "" = x:=ozI e1'
    have ev:(σ[j]?).join=some v:=ozI e2'
    have ev':σ[j]? = some (some v):=by
     cases q:σ[j]? with
     |none=>rw[q]at ev;cases ev
     |some o=>rw[q]at ev;exact congrArg some ev
    have eN:X.N[j]? = some x:=by
     have hl:=S.lts j hj
     rw[<-ex,List.getD_eq_getElem?_getD,aS hl]
     rfl
    have fx:scope.names.lookup x=some .free:=by rw[<-ex];exact S.outF j hj
    have cx:X.env.scope.names.lookup x=some .cell:=by rw[Cc];exact S.free (x,.free) (PySem.mem_of_lookup fx) rfl
    obtain⟨m,hn,hl⟩:=I2.loc
    obtain⟨u,ru,lk⟩:=hl j x v eN ev' (.inr (.inl cx))
    refine⟨u,ru,?_⟩
    rcases lk with⟨k,_⟩ | ⟨k,c,ec,⟨oc,Db,E9⟩⟩
    ·have k':X.env.scope.names.lookup x=some .local:=k
     rw[cx]at k';cases k'
    ·obtain ⟨c',ec'⟩:=Dh (x,.free) (PySem.mem_of_lookup fx) rfl
     have ecc:=B9 x c' ec'
     rw[ec]at ecc
     cases ecc
     exact .inr ⟨.inl (freeAt x fx),c,ec',oc,kp _ _ Db,E9⟩
 ·obtain ⟨v,oc,Db,E9⟩:=I2.cell x c (B9 x c e)
  exact⟨v,oc,kp _ _ Db,E9⟩
 ·show (iL tgs.length outs σ).length=N'.length
  rw[mV,S.isN,aJ,aD]
theorem aDa{σ5:St}{H5:Hp}{s5:Shared}{Ab:List V}{its:List Value}{n:Nat}(I2:Inv X Aa σ H2 s2)(I5:Inv (dE X N' scope cl C s2 H2 fp) [] σ5 H5 s5)(f2:∀b∈fp,jQ X Aa H2 b)
  (hD:s2.heap.objs.size<=D) (eD:s5.heap.get? D=some { cls:=.type "list",data:=.seq its.toArray n }) (r:Vals Ab its) (hz:Ab.length<=sizeLine) (hn:H5 D=none):Inv X Aa σ (upd H5 D (.lst Ab)) s5:=by
 have ne:∀b o,s2.heap.get? b=some o->b≠D:=λb o e z=>absurd (bF (aQ e) (by rw[z];exact hD)) (dR _)
 refine I2.call' (ch:=fp) I5.os ⟨λb o e nn hb hx=>?_,λb o e nn hb hx=>?_,λb o e nn hx=>?_,λb o e hx=>?_,λb xs e=>?_,λb o u e=>?_,λb ps e=>?_⟩ (λb u e=>?_) I5.bare λb hb=>⟨(f2 b hb).2.2.2.1,(f2 b hb).2.1,(f2 b hb).2.2.2.2.1,(f2 b hb).2.2.2.2.2⟩
 ·exact I5.base.keep b o e nn hb hx
 ·exact I5.base.slot b o e nn hb hx
 ·rw [eJ (ne b o e)]
  exact I5.base.free b o e nn hx
 ·exact I5.base.there b o e hx
 ·have q:=I5.base.tups b xs e
  rw[eJ (vV q hn)]
  exact q
 ·have q:=I5.base.frzs b o u e
  rw[eJ (vV q hn)]
  exact q
 ·obtain ⟨more,q⟩:=I5.base.tbls b ps e
  refine⟨more,?_⟩
  rw[eJ (vV q hn)]
  exact q
 ·by_cases hb:b=D
  ·subst hb
   rw[bU]at e
   cases e
   exact⟨hz,its,n,r,eD⟩
  ·rw [eJ hb] at e
   exact(I5.hok b u e).stay (λc v _ q=>q) (λc q=>by rw[eJ (vV q hn)];exact q) λc xs q=>by rw[eJ (vV q hn)];exact q
end
theorem pR{n:Nat}{outs:List Nat}{σ σ6:St}(k6:∀i,n<=i->σ6[i]? = (iL n outs σ)[i]?):∀(i:Nat) v,(iL n outs σ)[i]? = some (some v)->σ6[i]? = some (some v):=λi v e=>by
 by_cases hi:n<=i
 ·rw[k6 i hi];exact e
 ·unfold iL at e
  rw[List.getElem?_append_left (by rw[bV];lia),gB,if_pos (by lia)]at e
  cases e
section
variable{X:Cx}{tg elt iter:Expr}{ifs:List Expr}{dsc scope:Scope}{tgs N':List Str}{outs:List Nat}{wi:TI}{g:TG}{tc:TT}{te:TE}{pos:Pos}
theorem oA{Aa:eS}{σ:St}{H2:Hp}{s2:Shared}{cl:List (Str×Addr)}{it:Addr}{fp:List Addr}{tn:Nat->Heap->Prop}{J:It}(S:CompScope dsc scope X.N tgs outs N')(Cc:X.env.scope=dsc)(hc:X.calm=true)
  (hg:∀cl C s H ex,PG (dE X N' scope cl C s H ex) tg g) (C8:Tgt tgs.length g) (C1:∀cl C s H ex,PCs (dE X N' scope cl C s H ex) ifs tc) (he:∀cl C s H ex,PE (dE X N' scope cl C s H ex) elt te)
  (B9:∀x c,cl.lookup x=some c->X.env.cells.lookup x=some c) (Dh:∀y∈scope.names,y.2=.free->∃c,cl.lookup y.1=some c)
  (I2:Inv X Aa σ H2 s2) (T:Turn X.prog X.w X.K tg J fp it tn) (Dk:tn 0 s2.heap) (f2:∀b∈fp,jQ X Aa H2 b)
  {W:Nat->Nat->List V->Hp->Prop} {m0:Nat} (w0:W 0 m0 [] H2) {Qf:List V->Hp->Prop}
  (turn:∀ i m Ab H,W i m Ab H→(J.stop i H∧Ab.length≤sizeLine∧Qf Ab H)∨(J.go i H∧Ab.length < sizeLine∧∃ N:List V→Hp→Prop,(∀ acc' H',N acc' H'→∃ m',m' < m∧W (i + 1) m' acc' H')∧∀ x H',J.yld i H x H'→g x (iL tgs.length outs σ) H' fun σ2 H2=>tc σ2 H2 fun b H3 =>
   if b=true then te σ2 H3 λy H4=>N (Ab++[y]) H4 else N Ab H3))
  {E:eQ} {RR:Value->Addr->Result->Shared->Prop}
  (fin:∀D C s5 mC Ab H5,Inv X Aa σ (upd H5 D (.lst Ab)) s5->H5 D=none->Qf Ab H5->s5.heap.Ns C mC->jQ X Aa (upd H5 D (.lst Ab)) C->RR (.ref D) C (.ok .next) s5) :
  wpAny (model X.prog X.w) X.A (newList []) (λAb s₃=>wpAny (model X.prog X.w) X.A (newFunctionEnv scope X.env.globals cl [] X.env.qual none .none (some X.env)) (λcenv s₄ =>
   codeAny (model X.prog X.w) X.A (.compStart (.ListComp elt [⟨tg,iter,ifs,0⟩] scope pos) 0 (.ref it) Ab { cenv with scope:=relabel scope X.env }) (RR Ab cenv.locals) s₄) E s₃) E s2:=by
 have Fz:∀b∈fp,b<s2.heap.objs.size:=λb hb=>let ⟨o,e,_⟩:=T.obj 0 _ Dk b hb;aQ e
 refine wpAny_newObj_type (wpAny_newFunctionEnv S.nocell (by intro y hy;simp at hy) (λh₁ hns₁ hsb₁=>?_) S.kind)
 dsimp only at hns₁ hsb₁ ⊢
 generalize Ht:s2.heap.push { cls:=.type "list",dict:=none,data:=.seq ([]:List Value).toArray }=HH at hns₁ hsb₁ ⊢
 have hC:HH.objs.size=s2.heap.objs.size+1:=by rw[<-Ht,gN]
 have F2:s2.heap.objs.size≠HH.objs.size:=by rw[hC];exact cD (Nat.lt_succ_self _)
 have Fk:s2.heap.objs.size<=HH.objs.size:=by rw[hC];exact Nat.le_succ _
 have old:∀b o,s2.heap.get? b=some o->h₁.get? b=some o:=λb o e=>hsb₁.extBut b o (by rw[hC];exact cD (Nat.lt_succ_of_lt (aQ e))) (aC _ (Ht ▸ aC _ e))
 have Bg:h₁.get? s2.heap.objs.size=some { cls:=.type "list",data:=.seq ([]:List Value).toArray 0 }:=hsb₁.extBut _ _ F2 (aC _ (Ht ▸ aU _ rfl))
 have Fj:∀b∈fp,s2.heap.objs.size≠b:=λb hb=>Nat.ne_of_gt (Fz b hb)
 have fresh2:H2 s2.heap.objs.size=none:=I2.hok.fresh (aK _)
 have I4:=xE (tk:=s2.toks+([]:List (Str×Value)).length) S Cc I2 f2 Fz B9 Dh Fk old hns₁
 have Ih:tn 0 h₁:=T.keep 0 _ _ Dk λb hb o e=>old b o e
 generalize hCC:HH.objs.size=C at *
 generalize F0:s2.heap.objs.size=D at *
 have nofs:D∉(dE X N' scope cl C s2 H2 fp).fs:=λz=>by
  obtain⟨_,o,ho,_⟩:=I2.stack.mem (show D∈frs X.stack from z)
  have:=aQ ho
  rw[F0]at this
  exact dR _ this
 have pinD:∀{σ':St} {H':Hp} {s':Shared} {its:List Value} {n:Nat},Inv (dE X N' scope cl C s2 H2 fp) [] σ' H' s'->s'.heap.get? D=some { cls:=.type "list",data:=.seq its.toArray n }->H' D=none ->
   Inv (dE X N' scope cl C s2 H2 fp) [(D,{ cls:=.type "list",data:=.seq its.toArray n })] σ' H' s':=λ{σ' H' s' its n} J e hn=>J.pins_of λp hp=>by
  have ep:p=(D,{ cls:=.type "list",data:=.seq its.toArray n }):=by simpa using hp
  subst ep
  exact⟨e,hn,F2,nofs,λv z=>by cases z⟩
 have stat:∀{H':Hp} {o:Obj},(∀b∈fp,H' b=none)->∀b∈fp,jQ (dE X N' scope cl C s2 H2 fp) [(D,o)] H' b:=λ{H' o} hn b hb=>by
  refine⟨hn b hb,(I4.ok.exf b hb).1,I4.ok.exfs b hb,.inl hb,(I4.ok.exf b hb).2,λp hp=>?_⟩
  have Bt:p∈([]:eS)++[(D,o)]:=hp
  have ep:p=(D,o):=by simpa using Bt
  subst ep
  exact Fj b hb
 have loop:∀s₃:Shared,s₃={ s2 with heap:=h₁,toks:=s2.toks+([]:List (Str×Value)).length } ->
   codeAny (model X.prog X.w) X.A (.compLoop (.ListComp elt [⟨tg,iter,ifs,0⟩] scope pos) 0 (.ref it) (.ref D) (compEnvC scope cl C X.env)) (RR (.ref D) C) s₃:=by
  rintro s₃ rfl
  refine sM (λm s'=>∃i Ab H its n,Inv (dE X N' scope cl C s2 H2 fp) [(D,{ cls:=.type "list",data:=.seq its.toArray n })] (iL tgs.length outs σ) H s'/\tn i s'.heap/\(∀b∈fp,H b=none)/\Vals Ab its/\W i m Ab H) ?_ m0
   ⟨0,[],H2,[],0,pinD I4 Bg fresh2,Ih,λb hb=>(f2 b hb).1,.nil,w0⟩
  rintro m s' ⟨i,Ab,H,its,n,I',st',fr',rD,w'⟩
  rcases turn i m Ab H w' with⟨stop,hz,q⟩ | ⟨go,hz,N,hN,step⟩
  ·refine dX (T.done (dE X N' scope cl C s2 H2 fp) rfl rfl rfl hc i _ s' _ H _ I' (stat fr') st' stop) fun r s4 ⟨hr,J4⟩ => ?_
   subst hr
   obtain⟨eD,nD,_⟩:=J4.pin (D,{ cls:=.type "list",data:=.seq its.toArray n }) (aG _ aA)
   obtain⟨mC,nsC,_⟩:=J4.loc
   have I5:Inv X Aa σ (upd H D (.lst Ab)) s4:=aDa (D:=D) I2 (J4.pins_of (pins':=[]) (λp hp=>nomatch hp)) f2 (by rw[F0];exact aK _) eD rD hz nD
   refine fin D C s4 mC Ab H I5 nD q nsC (I2.fpOk (by rw[F0];exact Fk) ?_)
   rw[eJ (Ne.symm F2)]
   exact J4.free
  ·refine dX (T.item (dE X N' scope cl C s2 H2 fp) rfl rfl rfl hc i _ s' _ H _ I' (stat fr') st' go) fun r s4 ⟨u,hr,h4⟩ => ?_
   subst hr
   dsimp only
   refine dX h4 λ_ s5 ⟨x,H5,I5,r5,y5,Dj,Hy⟩=>?_
   have I5':=I5.pinned (stat Hy) (T.obj _ _ Dj)
   refine dX (hg cl C s2 H2 fp _ s5 _ H5 x u _ I5' r5 (C8 x _ H5 _ (step x H5 y5))) λ_ s6 ⟨σ6,H6,I6,q6,l6,k6⟩=>?_
   refine dX (C1 cl C s2 H2 fp _ s6 σ6 H6 _ I6 q6) λb s7 ⟨H7,I7,q7⟩=>?_
   have tail:∀{H':Hp} {s':Shared},Inv (dE X N' scope cl C s2 H2 fp) ([(D,{ cls:=.type "list",data:=.seq its.toArray n })]++mU fp s5.heap) σ6 H' s'->(∀b∈fp,∀o,s5.heap.get? b=some o->s'.heap.get? b=some o)/\∀b∈fp,H' b=none:=λ{H' s'} J =>
    ⟨fun b hb o e=>(J.pin (b,o) (aG _ (aG _ (ey_ hb e)))).1,fun b hb=>by
     obtain⟨o,e,d⟩:=T.obj _ _ Dj b hb
     exact(J.pin (b,o) (aG _ (aG _ (ey_ hb e)))).2.1⟩
   cases b with
   |false =>
    rw[if_neg aE]at q7 ⊢
    obtain⟨m',hm,w7⟩:=hN _ _ q7
    obtain⟨t1,t2⟩:=tail I7
    exact⟨m',hm,i+1,Ab,H7,its,n,I7.unpinned.weak l6.symm (pR k6),T.keep _ _ _ Dj t1,t2,rD,w7⟩
   |true =>
    rw[if_pos rfl]at q7 ⊢
    refine dX (he cl C s2 H2 fp _ s7 σ6 H7 _ I7 q7) λv s8 ⟨y,H8,I8,r8,q8⟩=>?_
    obtain⟨m',hm,w8⟩:=hN _ _ q8
    obtain⟨t1,t2⟩:=tail I8
    obtain⟨eD,nD,_⟩:=I8.pin (D,{ cls:=.type "list",data:=.seq its.toArray n }) (aG _ (bG _ aA))
    have hl:=rD.length
    refine call_meets F.slot_list_append ⟨_,eD,rfl⟩ F.entry_list_append (F.args_list_append_2 _ _) (PySem.list_append D its.toArray n v (by rw[bA];lia)) ⟨eD,?_⟩
    have q:=PySem.IsL.update eD (·.push v)
    have eA:its.toArray.push v=(its++[v]).toArray:=by simp
    rw[eA]at q
    refine⟨m',hm,i+1,Ab++[y],H8,its++[v],_,pinD (Inv.weak (Inv.turned (it:=D) (I8.pins_of (pins':=[]) (λp hp=>nomatch hp)) (λb o hb e=>(gO _ _ (Ne.symm hb)).trans e) nD F2 (.inr (by show s2.heap.objs.size<=D;rw[F0];exact aK _)) (λx c e z=>?_) (λp hp=>nomatch hp)) l6.symm (pR k6)) q nD,
     T.keep _ _ _ Dj (λb hb o e=>(gO _ _ (Fj b hb)).trans (t1 b hb o e)),t2,rD.append (.cons r8 .nil),w8⟩
    obtain⟨v',oc,Db,E9⟩:=I8.cell x c e
    rw[z,eD]at Db
    cases Db
    cases E9
 exact codeAny_compStart_list (loop _ rfl) (T.self X.A 0 _ _ _ Ih (loop _ rfl))
theorem lQ{N:List Str}(S:CompScope dsc scope N tgs outs N')(hi:PI X tg iter wi)(hg:∀cl C s H ex,PG (dE X N' scope cl C s H ex) tg g)(C8:Tgt tgs.length g)(C1:∀cl C s H ex,PCs (dE X N' scope cl C s H ex) ifs tc)
  (he:∀cl C s H ex,PE (dE X N' scope cl C s H ex) elt te) (Dq:X.N=N:=by rfl) (Cc:X.env.scope=dsc:=by rfl) (hc:X.calm=true:=by rfl) (hs:∀x,foldedSetIterable iter X.env x=pure x:=by intro _;rfl) :
  PE X (.ListComp elt [⟨tg,iter,ifs,0⟩] scope pos) (pL tgs.length outs wi g tc te):=by
 subst Dq
 intro Aa s σ H Q I h
 obtain⟨cl,e1,e2,e3⟩:=oB (scope:=scope) (env:=X.env) (λy hy hk=>I.ok.has y.1 (.inl (by show X.env.scope.names.lookup y.1=_;rw[Cc];exact S.free y hy hk)))
 rw[eval_ListComp]
 refine wpAny_comprehension_free (use:=none) rfl hs e1 S.kind S.names (wpAny_mono (hi Aa s σ H _ I h) (λxv s1 h1=>wpAny_mono h1 (λitv s2 h2=>?_) λ_ _ e=>e) λ_ _ e=>e)
 obtain⟨it,fp,tn,J,H2,rfl,I2,T,Dk,f2,W,⟨m0,w0⟩,turn⟩:=h2
 refine oA (RR:=λAb C=>compPost (model X.prog X.w) X.A X.xe none (EP X Aa σ Q) Ab C) S Cc hc hg C8 C1 he e2 e3 I2 T Dk f2 w0 (Qf:=λAb H=>∀l,H l=none->Q (.ref l) (upd H l (.lst Ab))) turn ?_
 intro D C s5 mC Ab H5 I5 nD q nsC hf
 refine⟨mC,nsC,λh' Ep=>⟨.ref D,_,?_,rfl,q D nD⟩⟩
 exact I5.turned (it:=C) (t':=s5.toks) (λb o hb e=>(Ep.2 b hb).trans e) hf.1 hf.2.1 hf.2.2.2.1 hf.2.2.2.2.1 hf.2.2.2.2.2
theorem yP{N:List Str}{i:Nat}{x:Str}{px spos:Pos}(hN:X.N.Nodup)(hx:X.N[i]? = some x)(hl:X.env.scope.names.lookup x=some .local)(S:CompScope dsc scope N tgs outs N')(hi:PI X tg iter wi)(hg:∀cl C s H ex,PG (dE X N' scope cl C s H ex) tg g)(C8:Tgt tgs.length g)
  (C1:∀cl C s H ex,PCs (dE X N' scope cl C s H ex) ifs tc) (he:∀cl C s H ex,PE (dE X N' scope cl C s H ex) elt te)
  (hsw:swapsWith (.ListComp elt [⟨tg,iter,ifs,0⟩] scope pos) (some (.Name x px)) spos.line X.env=pure true:=by rfl)
  (Dq:X.N=N:=by rfl) (Cc:X.env.scope=dsc:=by rfl) (hc:X.calm=true:=by rfl) (hs:∀x,foldedSetIterable iter X.env x=pure x:=by intro _;rfl) :
  PS X (.Assign [.Name x px] (.ListComp elt [⟨tg,iter,ifs,0⟩] scope pos) spos) (wG (pL tgs.length outs wi g tc te) (iM i)):=by
 subst Dq
 intro Aa s σ H Dn I h
 obtain⟨cl,e1,e2,e3⟩:=oB (scope:=scope) (env:=X.env) (λy hy hk=>I.ok.has y.1 (.inl (by show X.env.scope.names.lookup y.1=_;rw[Cc];exact S.free y hy hk)))
 rw[exec_Assign_Name_used _ _ _ _ hsw]
 refine wpAny_bind (wpAny_standAt (wpAny_bind ?_))
 show wpAny _ X.A (do let _ <-comprehension (.ListComp elt [⟨tg,iter,ifs,0⟩] scope pos) scope X.env _ (newList []) false (eval iter X.env) (some (assign (.Name x px) X.env))) _ _ s
 refine wpAny_bind (wpAny_mono (wpAny_comprehension_free (use:=some (assign (.Name x px) X.env)) (Q:=λ_ s'=>SP X Aa Dn .next s') rfl hs e1 S.kind S.names
  (wpAny_mono (hi Aa s σ H _ I h) (λxv s1 h1=>wpAny_mono h1 (λitv s2 h2=>?_) λ_ _ e=>e) λ_ _ e=>e)) (λ_ s' hq=>wpAny_pure (wpAny_pure hq)) λ_ _ e=>e)
 obtain⟨it,fp,tn,J,H2,rfl,I2,T,Dk,f2,W,⟨m0,w0⟩,turn⟩:=h2
 refine oA (RR:=λAb C=>compPost (model X.prog X.w) X.A X.xe (some (assign (.Name x px) X.env)) (λ_ s'=>SP X Aa Dn .next s') Ab C) S Cc hc hg C8 C1 he e2 e3 I2 T Dk f2 w0
  (Qf:=λAb H=>∀l,H l=none->Dn.nx (σ.set i (some (.ref l))) (upd H l (.lst Ab))) turn ?_
 intro D C s5 mC Ab H5 I5 nD q nsC hf
 show wpAny _ X.A (assign (.Name x px) X.env (.ref D)) _ _ _
 refine wpAny_assign_Name (pM I5 hN hx (.inl hl) (show RelV (.ref D) (.ref D)from rfl) (λs' I' ⟨a,sb,ha⟩=>?_) (.inr hl))
 have hCa:C≠a:=by
  rcases ha with ha | ha
  ·rw[ha];exact hf.2.1
  ·exact Ne.symm (hf.2.2.2.2.1 x a ha)
 refine⟨mC,nsC.sameBut sb hCa,λh' Ep=>⟨_,_,I'.turned (it:=C) (t':=s'.toks) (λb o hb e=>(Ep.2 b hb).trans e) hf.1 hf.2.1 hf.2.2.2.1 hf.2.2.2.2.1 hf.2.2.2.2.2,q D nD⟩⟩
end
theorem xG{lo:Int}{n:Nat}{g:TG}{tc:TT}{te:TE}{σ':St}{H1:Hp}{Fin:List V->Hp->Prop}(Pv:Nat->List V->Hp->Prop)(hz:n<=1000000)(h0:Pv 0 [] H1)(hl:∀i Ab H,i<=n->Pv i Ab H->Ab.length<=i)
  (hs:∀i Ab H,i<n->Pv i Ab H->g (.int (lo+i)) σ' H λσ2 H2=>tc σ2 H2 λb H3=>if b=true then te σ2 H3 λy H4=>Pv (i+1) (Ab++[y]) H4 else Pv (i+1) Ab H3) (hd:∀Ab H,Pv n Ab H->Fin Ab H) :
  ∃W:Nat->Nat->List V->Hp->Prop,(∃m,W 0 m [] H1)/\∀i m Ab H,W i m Ab H->((Itr lo n).stop i H/\Ab.length<=sizeLine/\Fin Ab H) \/
   ((Itr lo n).go i H/\Ab.length<sizeLine/\∃N:List V->Hp->Prop,(∀acc' H',N acc' H'->∃m',m'<m/\W (i+1) m' acc' H')/\∀x H',(Itr lo n).yld i H x H'->g x σ' H' λσ2 H2=>tc σ2 H2 λb H3=>if b=true then te σ2 H3 λy H4=>N (Ab++[y]) H4 else N Ab H3):=by
 have zl:(1000000:Nat)<sizeLine:=by rw[sizeLine_eq];decide
 refine⟨λi m Ab H=>m=n-i/\i<=n/\Pv i Ab H,⟨n,by simp,dU _,h0⟩,?_⟩
 rintro i m Ab H ⟨rfl,hi,p⟩
 have al:=hl i Ab H hi p
 by_cases Av:i<n
 ·refine .inr ⟨Av,by lia,Pv (i + 1),fun acc' H' p'=>⟨n - (i + 1),by lia,rfl,Av,p'⟩,fun x H' y => ?_⟩
  obtain⟨e,y⟩:=y
  subst e y
  exact hs i Ab _ Av p
 ·have e:i=n:=by lia
  subst e
  exact .inl ⟨aK _,by lia,hd Ab H p⟩
def SIter(t:Bool)(h:Heap)(it l:Addr)(k:Nat):Prop:=if t=true then h.IsTupleIter it l k else h.IsListIter it l k
def SSeq(t:Bool)(h:Heap)(l:Addr)(xs:Array Value):Prop:=if t=true then h.IsTuple l xs else h.IsList l xs
theorem SIter.obj{t:Bool}{h:Heap}{it l:Addr}{k:Nat}(x:SIter t h it l k):∃o,h.get? it=some o/\∀v,o.data ≠ .cell v:=by
 cases t
 ·obtain⟨o,e,_,d⟩:=(show h.IsListIter it l k from x);exact⟨o,e,λv z=>by rw[d]at z;cases z⟩
 ·obtain⟨o,e,_,d⟩:=(show h.IsTupleIter it l k from x);exact⟨o,e,λv z=>by rw[d]at z;cases z⟩
theorem SIter.to{t:Bool}{h h':Heap}{it l:Addr}{k:Nat}(x:SIter t h it l k)(e:∀o,h.get? it=some o->h'.get? it=some o):SIter t h' it l k:=by
 cases t
 ·obtain⟨o,a,r⟩:=(show h.IsListIter it l k from x);exact⟨o,e o a,r⟩
 ·obtain⟨o,a,r⟩:=(show h.IsTupleIter it l k from x);exact⟨o,e o a,r⟩
theorem SSeq.to{t:Bool}{h h':Heap}{l:Addr}{xs:Array Value}(x:SSeq t h l xs)(e:∀o,h.get? l=some o->h'.get? l=some o):SSeq t h' l xs:=by
 cases t
 ·obtain⟨o,a,r⟩:=(show h.IsList l xs from x);exact⟨o,e o a,r⟩
 ·obtain⟨o,a,r⟩:=(show h.IsTuple l xs from x);exact⟨o,e o a,r⟩
section
variable{prog:Program}{w:World}{A:Around}{E:eQ}{s:Shared}
theorem wN{it l:Addr}{i:Nat}{items:Array Value}{x:Value}{Q:eQ}(Bh:s.heap.IsTupleIter it l i)(hl:s.heap.IsTuple l items)(hx:items[i]? = some x)
  (hQ:∀h',h'.IsTupleIter it l (i+1)->Heap.SameBut it s.heap h'->Q x { s with heap:=h' }):wpAny (model prog w) A (Builtin.SmallTypes.nextOf (.ref it)) Q E s:=by
 obtain⟨o,ho,hc,hd⟩:=id Bh;obtain⟨ol,Gp,_,nl,E7⟩:=hl
 unfold Builtin.SmallTypes.nextOf
 refine wpAny_bind (wpAny_callSpecial?_slot (name:=Str.ofString "__next__") Bh.typeIs F.slot_tuple_iterator_next (wpAny_call_entry F.slot_tuple_iterator_next Bh.typeIs F.entry_tuple_iterator_next ?_ (F.args_tuple_iterator_next_1 _)))
 show wpAny _ _ (field (.ref it) 0 >>= _) _ _ s;refine wpAny_bind (wpAny_field ho hd (x:=.ref l) rfl ?_)
 show wpAny _ _ (if(Value.ref l == Value.none)=true then _ else _) _ _ s;rw[if_neg (show ¬((Value.ref l == Value.none)=true)from aE)]
 show wpAny _ _ (field (.ref it) 1 >>= _) _ _ s;refine wpAny_bind (wpAny_field ho hd (x:=.int i 0) rfl ?_)
 show wpAny _ _ (seqItems? (.ref l) >>= _) _ _ s;refine wpAny_bind (wpAny_seqItems Gp E7 ?_);simp only[fH,hx]
 exact wpAny_bind (wpAny_setField ho hd (by simp) (wpAny_pure ⟨x,rfl,wpAny_pure (hQ _ ⟨_,gX _ ho (Obj.isFreed_of_fields (Obj.data_mapFields hd _)),(Obj.cls_mapFields ..).trans hc,by rw[Obj.data_mapFields hd];simp[rawInt]⟩ (Heap.SameBut.update ..))⟩))
theorem uG{it l:Addr}{i:Nat}{items:Array Value}{Q:eQ}(hh:A.handled=none)(Bh:s.heap.IsTupleIter it l i)(hl:s.heap.IsTuple l items)(hx:items[i]? = none)
  (hE:∀h' e,Heap.ExtBut it s.heap h'->(∃o,h'.get? e=some o/\o.cls=.type "StopIteration")->E (.ref e) { s with heap:=h' }):wpAny (model prog w) A (Builtin.SmallTypes.nextOf (.ref it)) Q E s:=by
 obtain⟨o,ho,hc,hd⟩:=id Bh;obtain⟨ol,Gp,_,nl,E7⟩:=hl
 unfold Builtin.SmallTypes.nextOf
 refine wpAny_bind (wpAny_callSpecial?_slot (name:=Str.ofString "__next__") Bh.typeIs F.slot_tuple_iterator_next (wpAny_call_entry F.slot_tuple_iterator_next Bh.typeIs F.entry_tuple_iterator_next ?_ (F.args_tuple_iterator_next_1 _)))
 show wpAny _ _ (field (.ref it) 0 >>= _) _ _ s;refine wpAny_bind (wpAny_field ho hd (x:=.ref l) rfl ?_)
 show wpAny _ _ (if(Value.ref l == Value.none)=true then _ else _) _ _ s;rw[if_neg (show ¬((Value.ref l == Value.none)=true)from aE)]
 show wpAny _ _ (field (.ref it) 1 >>= _) _ _ s;refine wpAny_bind (wpAny_field ho hd (x:=.int i 0) rfl ?_)
 show wpAny _ _ (seqItems? (.ref l) >>= _) _ _ s;refine wpAny_bind (wpAny_seqItems Gp E7 ?_);simp only[fH,hx]
 refine wpAny_bind (wpAny_rule (wpAny_bind (wpAny_setField ho hd (by simp) ?_)));show wpAny _ _ (newExc (.type "StopIteration") [] >>= _) _ _ _
 refine wpAny_bind ?_;simp only[newExc,newTuple];refine wpAny_bind (wpAny_newObj_type ?_ (by size_fits))
 refine wpAny_bind (m:=firstArgMember _ _) (wpAny_of_eq (a:=Value.none) (by first | rfl | (simp only[firstArgMember];rfl)) ?_);refine wpAny_newObj_type ?_ (by size_fits);simp only[raiseNew]
 refine wpAny_bind (wpAny_handled ?_);first | rw[show A.in1.handled=none from hh] | rw[hh]
 refine wpAny_bind (wpAny_pure (wpAny_throw ?_));exact hE _ _ (((Heap.SameBut.update ..).extBut.push _).push _) ⟨_,aU _ rfl,rfl⟩
theorem nE{t:Bool}{it l:Addr}{i:Nat}{items:Array Value}{x:Value}{Q:eQ}(Bh:SIter t s.heap it l i)(hl:SSeq t s.heap l items)(hx:items[i]? = some x)
  (hQ:∀h',SIter t h' it l (i+1)->Heap.SameBut it s.heap h'->Q x { s with heap:=h' }):wpAny (model prog w) A (Builtin.SmallTypes.nextOf (.ref it)) Q E s:=by
 cases t
 ·exact wpAny_nextOf_list_item Bh hl hx hQ
 ·exact wN Bh hl hx hQ
theorem pU{t:Bool}{it l:Addr}{i:Nat}{items:Array Value}{Q:eQ}(hh:A.handled=none)(Bh:SIter t s.heap it l i)(hl:SSeq t s.heap l items)(hx:items[i]? = none)
  (hE:∀h' e,Heap.ExtBut it s.heap h'->(∃o,h'.get? e=some o/\o.cls=.type "StopIteration")->E (.ref e) { s with heap:=h' }):wpAny (model prog w) A (Builtin.SmallTypes.nextOf (.ref it)) Q E s:=by
 cases t
 ·exact wpAny_nextOf_list_end hh Bh hl hx hE
 ·exact uG hh Bh hl hx hE
theorem e_{t1 t2:Bool}{z TI TO i1 i2 l1 l2:Addr}{k1 k2:Nat}{xs ys:Array Value}{x y a b:Value}{Q:eQ}(D:ZipApart z TI TO i1 i2 l1 l2)
  (hz:IsZip s.heap z TI TO .none) (Bw:IsPair s.heap TI (.ref i1) (.ref i2)) (B0:IsPair s.heap TO a b)
  (h1:SIter t1 s.heap i1 l1 k1) (h2:SIter t2 s.heap i2 l2 k2) (Cp:SSeq t1 s.heap l1 xs) (Bo:SSeq t2 s.heap l2 ys) (hx:xs[k1]? = some x) (hy:ys[k2]? = some y)
  (hQ:∀ h',IsZip h' z TI TO (rawInt s.heap.objs.size)→IsPair h' TO x y→SIter t1 h' i1 l1 (k1 + 1)→SIter t2 h' i2 l2 (k2 + 1)→IsPair h' s.heap.objs.size x y→h'.objs.size=s.heap.objs.size + 1 →
   (∀c o,c≠z->c≠TO->c≠i1->c≠i2->s.heap.get? c=some o->h'.get? c=some o)->Q (.ref s.heap.objs.size) { s with heap:=h' }) :
  wpAny (model prog w) A (Builtin.«zip.__next__» ⟨[.ref z],[]⟩) (λfin s'=>∃v,fin=.done (.ret v)/\Q v s') E s:=by
 show wpAny _ _ (field (.ref z) 2 >>= _) _ _ _;refine wpAny_bind (wpAny_field hz rfl (x:=.bool false) rfl ?_)
 show wpAny _ _ (field (.ref z) 3 >>= _) _ _ _;refine wpAny_bind (wpAny_field hz rfl (x:=.ref TI) rfl ?_);refine wpAny_bind (wpAny_seqItems Bw rfl ?_)
 show wpAny _ _ (Builtin.SmallTypes.ownedTupleIsFree (.ref z) >>= _) _ _ _;refine wpAny_bind ?_;unfold Builtin.SmallTypes.ownedTupleIsFree
 refine wpAny_bind (wpAny_field hz rfl (x:=.none) rfl (wpAny_pure ?_));simp only[if_true];refine wpAny_bind (wpAny_rule ?_)
 refine wpAny_bind (wpAny_field hz rfl (x:=.ref TO) rfl ?_);refine wpAny_bind (wpAny_setField_rec hz (by simp) λq1 hz₁ s1=>?_);replace hz₁:IsZip q1 z TI TO .ellipsis:=hz₁
 refine wpAny_bind ?_;simp only[List.zipIdx_cons,List.zipIdx_nil,List.forIn_cons,List.forIn_nil]
 refine wpAny_bind (wpAny_bind (wpAny_onRaise ?_));show wpAny _ _ (Builtin.SmallTypes.nextOf (.ref i1) >>= _) _ _ _
 refine wpAny_bind (nE (h1.to λo e=>s1.extBut _ _ D.i1z e) (Cp.to λo e=>s1.extBut _ _ D.l1z e) hx λq2 a2 s2=>wpAny_pure ?_)
 have b2:IsPair q2 TO a b:=s2.extBut _ _ D.TOi1 (s1.extBut _ _ D.TOz B0)
 refine wpAny_bind (wpAny_seqItems b2 rfl ?_);refine wpAny_bind (wpAny_updateSeq_pair b2 λq3 b3 s3=>?_);replace b3:IsPair q3 TO x b:=b3
 refine wpAny_bind (wpAny_letGo (wpAny_pure ?_));refine wpAny_bind (wpAny_bind (wpAny_onRaise ?_));show wpAny _ _ (Builtin.SmallTypes.nextOf (.ref i2) >>= _) _ _ _
 refine wpAny_bind (nE (h2.to λo e=>s3.extBut _ _ D.TOi2.symm (s2.extBut _ _ D.i12.symm (s1.extBut _ _ D.i2z e))) (Bo.to λo e=>s3.extBut _ _ D.l2TO (s2.extBut _ _ D.l2i1 (s1.extBut _ _ D.l2z e))) hy λq4 a4 s4=>wpAny_pure ?_)
 have b4:IsPair q4 TO x b:=s4.extBut _ _ D.TOi2 b3
 refine wpAny_bind (wpAny_seqItems b4 rfl ?_);refine wpAny_bind (wpAny_updateSeq_pair b4 λq5 b5 s5=>?_);replace b5:IsPair q5 TO x y:=b5
 refine wpAny_bind (wpAny_letGo (wpAny_pure (wpAny_pure ?_)));refine wpAny_bind (wpAny_seqItems b5 rfl ?_);refine wpAny_bind (wpAny_newTuple ?_)
 have hsz:q5.objs.size=s.heap.objs.size:=by rw[s5.1,s4.1,s3.1,s2.1,s1.1]
 have z5:IsZip q5 z TI TO .ellipsis:=s5.extBut _ _ D.TOz.symm (s4.extBut _ _ D.i2z.symm (s3.extBut _ _ D.TOz.symm (s2.extBut _ _ D.i1z.symm hz₁)))
 have k5:∀c o,c≠z->c≠TO->c≠i1->c≠i2->s.heap.get? c=some o->q5.get? c=some o:=λc o c1 c2 c3 c4 e=>s5.extBut _ _ c2 (s4.extBut _ _ c4 (s3.extBut _ _ c2 (s2.extBut _ _ c3 (s1.extBut _ _ c1 e))))
 have d1:SIter t1 q5 i1 l1 (k1+1):=a2.to λo e=>s5.extBut _ _ D.TOi1.symm (s4.extBut _ _ D.i12 (s3.extBut _ _ D.TOi1.symm e))
 have d2:SIter t2 q5 i2 l2 (k2+1):=a4.to λo e=>s5.extBut _ _ D.TOi2.symm e
 have zlt:z<q5.objs.size:=aQ z5
 show wpAny _ _ (Builtin.SmallTypes.ownedTupleHandOut (.ref z) (.ref q5.objs.size) >>= _) _ _ _;refine wpAny_bind ?_;unfold Builtin.SmallTypes.ownedTupleHandOut
 have z6:IsZip (q5.push { cls:=.type "tuple",data:=.seq #[x,y] }) z TI TO .ellipsis:=aC _ z5
 refine wpAny_bind (wpAny_setField_rec z6 (by simp) λq7 z7 s7=>?_);replace z7:IsZip q7 z TI TO (rawInt q5.objs.size):=z7
 refine wpAny_setField_rec z7 (by simp) λq8 z8 s8=>?_;replace z8:IsZip q8 z TI TO (rawInt q5.objs.size):=z8
 have up:∀c o,c≠z->q5.get? c=some o->q8.get? c=some o:=λc o c1 e=>s8.extBut _ _ c1 (s7.extBut _ _ c1 (aC _ e))
 have t8:IsPair q8 q5.objs.size x y:=s8.extBut _ _ (Nat.ne_of_gt zlt) (s7.extBut _ _ (Nat.ne_of_gt zlt) (aU _ rfl))
 have n8:q8.objs.size=q5.objs.size+1:=by rw[s8.1,s7.1,gN]
 rw[hsz]at z8 t8 n8;refine wpAny_pure ⟨_,rfl,?_⟩;show Q (.ref q5.objs.size) _;rw[hsz]
 exact hQ q8 z8 (up _ _ D.TOz b5) (d1.to λo e=>up _ o D.i1z e) (d2.to λo e=>up _ o D.i2z e) t8 n8 λc o c1 c2 c3 c4 e=>up c o c1 (k5 c o c1 c2 c3 c4 e)
theorem t9{t1 t2:Bool}{z TI TO i1 i2 l1 l2:Addr}{k1 k2:Nat}{xs ys:Array Value}{a b:Value}{Q:Fin->Shared->Prop}(hh:A.handled=none)(D:ZipApart z TI TO i1 i2 l1 l2)
  (hz:IsZip s.heap z TI TO .none) (Bw:IsPair s.heap TI (.ref i1) (.ref i2)) (B0:IsPair s.heap TO a b)
  (h1:SIter t1 s.heap i1 l1 k1) (h2:SIter t2 s.heap i2 l2 k2) (Cp:SSeq t1 s.heap l1 xs) (Bo:SSeq t2 s.heap l2 ys) (D5:xs[k1]? = none\/ys[k2]? = none)
  (hE:∀h' e,(∀c o,c≠z->c≠TO->c≠i1->c≠i2->s.heap.get? c=some o->h'.get? c=some o)->(∃o,h'.get? e=some o/\o.cls=.type "StopIteration")->E (.ref e) { s with heap:=h' }) :
  wpAny (model prog w) A (Builtin.«zip.__next__» ⟨[.ref z],[]⟩) Q E s:=by
 show wpAny _ _ (field (.ref z) 2 >>= _) _ _ _;refine wpAny_bind (wpAny_field hz rfl (x:=.bool false) rfl ?_)
 show wpAny _ _ (field (.ref z) 3 >>= _) _ _ _;refine wpAny_bind (wpAny_field hz rfl (x:=.ref TI) rfl ?_);refine wpAny_bind (wpAny_seqItems Bw rfl ?_)
 show wpAny _ _ (Builtin.SmallTypes.ownedTupleIsFree (.ref z) >>= _) _ _ _;refine wpAny_bind ?_;unfold Builtin.SmallTypes.ownedTupleIsFree
 refine wpAny_bind (wpAny_field hz rfl (x:=.none) rfl (wpAny_pure ?_));simp only[if_true];refine wpAny_bind (wpAny_rule ?_)
 refine wpAny_bind (wpAny_field hz rfl (x:=.ref TO) rfl ?_);refine wpAny_bind (wpAny_setField_rec hz (by simp) λq1 hz₁ s1=>?_);replace hz₁:IsZip q1 z TI TO .ellipsis:=hz₁
 refine wpAny_bind ?_;simp only[List.zipIdx_cons,List.zipIdx_nil,List.forIn_cons,List.forIn_nil]
 refine wpAny_bind (wpAny_bind (wpAny_onRaise ?_));show wpAny _ _ (Builtin.SmallTypes.nextOf (.ref i1) >>= _) _ _ _
 cases hx:xs[k1]? with
 |none =>
  refine wpAny_bind (pU hh (h1.to λo e=>s1.extBut _ _ D.i1z e) (Cp.to λo e=>s1.extBut _ _ D.l1z e) hx λq2 e s2 he=>?_)
  obtain⟨oe,Dy,Fb⟩:=he
  have z2:IsZip q2 z TI TO .ellipsis:=s2 _ _ D.i1z.symm hz₁
  have ez:e≠z:=λx=>by subst x;rw[z2]at Dy;cases Dy;simp at Fb
  exact wpAny_setField_rec z2 (by simp) λq3 _ s3=>hE q3 e (λc o c1 _ c3 _ x=>s3.extBut _ _ c1 (s2 _ _ c3 (s1.extBut _ _ c1 x))) ⟨oe,s3.extBut _ _ ez Dy,Fb⟩
 |some x =>
  have hy:ys[k2]? = none:=by rcases D5 with h | h;rw[hx]at h;cases h;exact h
  refine wpAny_bind (nE (h1.to λo e=>s1.extBut _ _ D.i1z e) (Cp.to λo e=>s1.extBut _ _ D.l1z e) hx λq2 a2 s2=>wpAny_pure ?_)
  have b2:IsPair q2 TO a b:=s2.extBut _ _ D.TOi1 (s1.extBut _ _ D.TOz B0)
  refine wpAny_bind (wpAny_seqItems b2 rfl ?_);refine wpAny_bind (wpAny_updateSeq_pair b2 λq3 b3 s3=>?_)
  refine wpAny_bind (wpAny_letGo (wpAny_pure ?_));refine wpAny_bind (wpAny_bind (wpAny_onRaise ?_));show wpAny _ _ (Builtin.SmallTypes.nextOf (.ref i2) >>= _) _ _ _
  refine wpAny_bind (pU hh (h2.to λo e=>s3.extBut _ _ D.TOi2.symm (s2.extBut _ _ D.i12.symm (s1.extBut _ _ D.i2z e))) (Bo.to λo e=>s3.extBut _ _ D.l2TO (s2.extBut _ _ D.l2i1 (s1.extBut _ _ D.l2z e))) hy λq4 e s4 he=>?_)
  obtain⟨oe,Dy,Fb⟩:=he
  have z4:IsZip q4 z TI TO .ellipsis:=s4 _ _ D.i2z.symm (s3.extBut _ _ D.TOz.symm (s2.extBut _ _ D.i1z.symm hz₁))
  have ez:e≠z:=λx=>by subst x;rw[z4]at Dy;cases Dy;simp at Fb
  exact wpAny_setField_rec z4 (by simp) λq5 _ s5=>hE q5 e (λc o c1 c2 c3 c4 x=>s5.extBut _ _ c1 (s4 _ _ c4 (s3.extBut _ _ c2 (s2.extBut _ _ c3 (s1.extBut _ _ c1 x))))) ⟨oe,s5.extBut _ _ ez Dy,Fb⟩
theorem tU{t1 t2:Bool}{z TI TO i1 i2 l1 l2:Addr}{k1 k2:Nat}{xs ys:Array Value}{x y a b:Value}{Q:Option Value->Shared->Prop}(D:ZipApart z TI TO i1 i2 l1 l2)
  (hz:IsZip s.heap z TI TO .none) (Bw:IsPair s.heap TI (.ref i1) (.ref i2)) (B0:IsPair s.heap TO a b)
  (h1:SIter t1 s.heap i1 l1 k1) (h2:SIter t2 s.heap i2 l2 k2) (Cp:SSeq t1 s.heap l1 xs) (Bo:SSeq t2 s.heap l2 ys) (hx:xs[k1]? = some x) (hy:ys[k2]? = some y)
  (hQ:∀ h',IsZip h' z TI TO (rawInt s.heap.objs.size)→IsPair h' TO x y→SIter t1 h' i1 l1 (k1 + 1)→SIter t2 h' i2 l2 (k2 + 1)→IsPair h' s.heap.objs.size x y→h'.objs.size=s.heap.objs.size + 1 →
   (∀c o,c≠z->c≠TO->c≠i1->c≠i2->s.heap.get? c=some o->h'.get? c=some o)->Q (some (.ref s.heap.objs.size)) { s with heap:=h' }) :
  wpAny (model prog w) A (pyNext (.ref z)) Q E s:=by
 have hT:s.TypeIs (.ref z) "zip":=⟨_,hz,rfl⟩
 unfold pyNext
 exact wpAny_bind (wpAny_attempt (wpAny_callSpecial?_slot (name:=Str.ofString "__next__") hT F.slot_zip_next (wpAny_call_entry F.slot_zip_next hT F.entry_zip_next (e_ D hz Bw B0 h1 h2 Cp Bo hx hy λh' a1 a2 a3 a4 a5 a6 a7=>wpAny_pure (hQ h' a1 a2 a3 a4 a5 a6 a7)) (F.args_zip_next_1 _))))
theorem rF{t1 t2:Bool}{z TI TO i1 i2 l1 l2:Addr}{k1 k2:Nat}{xs ys:Array Value}{a b:Value}{Q:Option Value->Shared->Prop}(hh:A.handled=none)(D:ZipApart z TI TO i1 i2 l1 l2)
  (hz:IsZip s.heap z TI TO .none) (Bw:IsPair s.heap TI (.ref i1) (.ref i2)) (B0:IsPair s.heap TO a b)
  (h1:SIter t1 s.heap i1 l1 k1) (h2:SIter t2 s.heap i2 l2 k2) (Cp:SSeq t1 s.heap l1 xs) (Bo:SSeq t2 s.heap l2 ys) (D5:xs[k1]? = none\/ys[k2]? = none)
  (hQ:∀h',(∀c o,c≠z->c≠TO->c≠i1->c≠i2->s.heap.get? c=some o->h'.get? c=some o)->Q none { s with heap:=h' }):wpAny (model prog w) A (pyNext (.ref z)) Q E s:=by
 have hT:s.TypeIs (.ref z) "zip":=⟨_,hz,rfl⟩
 unfold pyNext
 refine wpAny_bind (wpAny_attempt (wpAny_callSpecial?_slot (name:=Str.ofString "__next__") hT F.slot_zip_next (wpAny_call_entry F.slot_zip_next hT F.entry_zip_next (t9 hh D hz Bw B0 h1 h2 Cp Bo D5 λh' e hk he=>?_) (F.args_zip_next_1 _))))
 obtain⟨o,ho,hc⟩:=he
 exact wpAny_bind (wpAny_isInstance (T:= "StopIteration") (b:=true) ⟨o,ho,hc⟩ isSubtype_stop (wpAny_pure (hQ _ hk)))
end
abbrev aBy(t:Bool):String:=if t=true then "tuple_iterator" else "list_iterator"
abbrev zq1(t1:Bool)(h:Heap)(l1:Addr):Heap:=h.push { cls:=.type (aBy t1),data:=.fields #[.ref l1,.int 0 0] }
abbrev zq2(t1 t2:Bool)(h:Heap)(l1 l2:Addr):Heap:=(zq1 t1 h l1).push { cls:=.type (aBy t2),data:=.fields #[.ref l2,.int 0 0] }
abbrev zq3(t1 t2:Bool)(h:Heap)(l1 l2:Addr):Heap:=(zq2 t1 t2 h l1 l2).push { cls:=.type "tuple",data:=.seq #[.ref h.objs.size,.ref (zq1 t1 h l1).objs.size] }
abbrev zq4(t1 t2:Bool)(h:Heap)(l1 l2:Addr):Heap:=(zq3 t1 t2 h l1 l2).push { cls:=.type "tuple",data:=.seq #[.none,.none] }
abbrev zq5(t1 t2:Bool)(h:Heap)(l1 l2:Addr):Heap:=(zq4 t1 t2 h l1 l2).push { cls:=.type "zip",data:=.fields #[.none,.bool false,.bool false,.ref (zq2 t1 t2 h l1 l2).objs.size,.ref (zq3 t1 t2 h l1 l2).objs.size] }
theorem tV{prog:Program}{w:World}{A:Around}{E:eQ}{s:Shared}{t:Bool}{l:Addr}{xs:Array Value}{Q:eQ}(hl:SSeq t s.heap l xs)
  (hQ:Q (.ref s.heap.objs.size) { s with heap:=zq1 t s.heap l }):wpAny (model prog w) A (pyIter (.ref l)) Q E s:=by
 cases t
 ·exact wpAny_pyIter_list hl hQ
 ·exact wpAny_pyIter_tuple hl hQ
theorem t7(t1 t2:Bool)(l1 l2:Addr)(xs ys:Array Value) :
  Meets (Builtin.«zip.__new__» ⟨[.type "zip",.ref l1,.ref l2],[]⟩) (λ_ R s=>SSeq t1 s.heap l1 xs/\SSeq t2 s.heap l2 ys/\R (.ok (.ret (.ref (zq4 t1 t2 s.heap l1 l2).objs.size))) { s with heap:=zq5 t1 t2 s.heap l1 l2 }):=
 .of_wp fun prog w A R s h=>by
  obtain⟨hp,g,d,tk,os⟩:=s
  obtain⟨Cp,Bo,h⟩:=h
  have El:=sub_zip
  have hL1:SSeq t1 (Shared.heap ⟨hp,g,d,tk,os⟩) l1 xs:=Cp
  have hL2:SSeq t2 (Shared.heap ⟨zq1 t1 hp l1,g,d,tk,os⟩) l2 ys:=Bo.to λo e=>aC _ e
  wp_walk using tV hL1,tV hL2
  exact⟨_,rfl,h⟩
theorem n6{prog:Program}{w:World}{A:Around}{E:eQ}{s:Shared}{t1 t2:Bool}{l1 l2:Addr}{xs ys:Array Value}{Q:eQ}(Cp:SSeq t1 s.heap l1 xs)(Bo:SSeq t2 s.heap l2 ys)
  (h:∀ h',IsZip h' (s.heap.objs.size + 4) (s.heap.objs.size + 2) (s.heap.objs.size + 3) .none→IsPair h' (s.heap.objs.size + 2) (.ref s.heap.objs.size) (.ref (s.heap.objs.size + 1)) →
   IsPair h' (s.heap.objs.size+3) .none .none->SIter t1 h' s.heap.objs.size l1 0->SIter t2 h' (s.heap.objs.size+1) l2 0->(∀c o,s.heap.get? c=some o->h'.get? c=some o)->Q (.ref (s.heap.objs.size+4)) { s with heap:=h' }) :
  wpAny (model prog w) A (call (.type "zip") [.ref l1,.ref l2]) Q E s:=by
 refine callType_new F.called_zip (by decide) (F.typeCall_zip_2 _ _) (F.newCall_zip_2 _ _) (λobj=>F.args_object_init_3 obj _ _) F.entry_zip_new (t7 t1 t2 l1 l2 xs ys) ⟨Cp,Bo,?_⟩
 have z1:(zq1 t1 s.heap l1).objs.size=s.heap.objs.size+1:=gN ..
 have z2:(zq2 t1 t2 s.heap l1 l2).objs.size=s.heap.objs.size+2:=by rw[gN,z1]
 have z3:(zq3 t1 t2 s.heap l1 l2).objs.size=s.heap.objs.size+3:=by rw[gN,z2]
 have z4:(zq4 t1 t2 s.heap l1 l2).objs.size=s.heap.objs.size+4:=by rw[gN,z3]
 have g5:(zq5 t1 t2 s.heap l1 l2).get? (zq4 t1 t2 s.heap l1 l2).objs.size=some _:=aU _ rfl
 have g4:(zq5 t1 t2 s.heap l1 l2).get? (zq3 t1 t2 s.heap l1 l2).objs.size=some _:=aC _ (aU _ rfl)
 have g3:(zq5 t1 t2 s.heap l1 l2).get? (zq2 t1 t2 s.heap l1 l2).objs.size=some _:=aC _ (aC _ (aU _ rfl))
 have g2:(zq5 t1 t2 s.heap l1 l2).get? (zq1 t1 s.heap l1).objs.size=some _:=aC _ (aC _ (aC _ (aU _ rfl)))
 have g1:(zq5 t1 t2 s.heap l1 l2).get? s.heap.objs.size=some _:=aC _ (aC _ (aC _ (aC _ (aU _ rfl))))
 show _/\_
 rw[z2,z3,z4]at g5;rw[z1,z2]at g3;rw[z3]at g4;rw[z1]at g2;rw[z4]
 refine⟨⟨_,g5,rfl⟩,h _ g5 g3 g4 ?_ ?_ λc o x=>aC _ (aC _ (aC _ (aC _ (aC _ x))))⟩
 ·cases t1<;>exact⟨_,g1,rfl,rfl⟩
 ·cases t2<;>exact⟨_,g2,rfl,rfl⟩
def Sq(t:Bool)(K:dQ)(H:Hp)(a:Addr)(xs:List V):Prop:=if t=true then SqT K H a xs else SqL K H a xs
theorem Inv.sseq{X:Cx}{Aa:eS}{σ:St}{H:Hp}{s:Shared}{t:Bool}{a:Addr}{xs:List V}(I:Inv X Aa σ H s)(h:Sq t X.K H a xs):∃its:List Value,Vals xs its/\SSeq t s.heap a its.toArray/\xs.length<=sizeLine:=by
 cases t
 ·obtain ⟨its,r,p,z⟩:=I.list h
  exact⟨its,r,p.isList,z⟩
 ·obtain ⟨its,r,p,z⟩:=I.tuple h
  exact⟨its,r,p,z⟩
theorem Inv.sseq_inj{X:Cx}{Aa:eS}{σ:St}{H:Hp}{s:Shared}{t:Bool}{a:Addr}{xs ys:List V}(I:Inv X Aa σ H s)(h:Sq t X.K H a xs)(h':Sq t X.K H a ys):xs=ys:=by
 cases t
 ·exact I.list_inj h h'
 ·exact I.tuple_inj h h'
def Itz(t1 t2:Bool)(K:dQ)(a b:Addr):It:=
  ⟨fun i H => ∃ xs ys x y,Sq t1 K H a xs∧Sq t2 K H b ys∧xs[i]? = some x∧ys[i]? = some y,
   λi H v H'=>∃p x y,v=.ref p/\H p=none/\H'=upd H p (.tup [x,y])/\∀xs ys,Sq t1 K H a xs->Sq t2 K H b ys->xs[i]? = some x/\ys[i]? = some y,
   λi H=>∃xs ys,Sq t1 K H a xs/\Sq t2 K H b ys/\(xs.length<=i\/ys.length<=i)⟩
section
variable{X:Cx}{Aa:eS}{σ:St}{H:Hp}{s:Shared}
theorem Inv.turnedL{ch:List Addr}{h':Heap}{t':Nat}(I:Inv X Aa σ H s)(hf:∀b∈ch,jQ X Aa H b)(k:∀b o,b∉ch->s.heap.get? b=some o->h'.get? b=some o):Inv X Aa σ H { s with heap:=h',toks:=t' }:=by
 have nch:∀b u,H b=some u->b∉ch:=λb u e z=>by rw[(hf b z).1]at e;cases e
 refine I.step (g':=s.gens) (d':=s.drawn) (ch:=ch) (λb hb=>⟨(hf b hb).2.2.2.1,(hf b hb).2.1,(hf b hb).2.2.2.2.1,(hf b hb).2.2.2.2.2⟩) (λb o _ _ hc e _=>k b o hc e) (λb o _ _ hc e _=>⟨o.slots,k b o hc e⟩) (λ_ _ _ _ n=>n)
  (λb o hc e=>⟨o,k b o hc e⟩) (λ_ _ e=>e) (λ_ _ _ e=>e) (λb ps e=>⟨#[],by rw[e];simp⟩) (λm hm=>?_) (λb u e=>?_) I.bare
 ·obtain ⟨o,es,ep,ho,r⟩:=hm
  exact⟨o,es,ep,k _ o (λz=>(hf _ z).2.1 rfl) ho,r⟩
 ·refine (I.hok b u e).stay (fun c v hc q=>k c v ?_ q) (fun _ q=>q) fun _ _ q=>q
  rcases hc with z | z
  ·rw[z];exact nch b u e
  ·exact nch c _ z
theorem Inv.turnedT{ch:List Addr}{h':Heap}{t':Nat}{T:Addr}{xs:List V}{its:List Value}(I:Inv X Aa σ H s)(hf:∀b∈ch,jQ X Aa H b)(k:∀b o,b∉ch->s.heap.get? b=some o->h'.get? b=some o)
  (hT:s.heap.objs.size<=T) (r:Vals xs its) (hz:xs.length<=sizeLine) (e:IsTup h' T its.toArray):Inv X Aa σ (upd H T (.tup xs)) { s with heap:=h',toks:=t' }:=by
 have nT:H T=none:=I.hok.fresh hT
 have nch:∀b u,H b=some u->b∉ch:=λb u e z=>by rw[(hf b z).1]at e;cases e
 have neT:∀b o,s.heap.get? b=some o->b≠T:=λb o e z=>absurd (bF (aQ e) (by rw[z];exact hT)) (dR _)
 refine I.step (g':=s.gens) (d':=s.drawn) (ch:=ch) (λb hb=>⟨(hf b hb).2.2.2.1,(hf b hb).2.1,(hf b hb).2.2.2.2.1,(hf b hb).2.2.2.2.2⟩) (λb o _ _ hc e _=>k b o hc e) (λb o _ _ hc e _=>⟨o.slots,k b o hc e⟩)
  (λb o _ e n=>by rw[eJ (neT b o e)];exact n) (λb o hc e=>⟨o,k b o hc e⟩) (λb ys q=>by rw[eJ (vV q nT)];exact q) (λb o u q=>by rw[eJ (vV q nT)];exact q)
  (λb ps q=>⟨#[],by rw[eJ (vV q nT),q];simp⟩) (λm hm=>?_) (λb u q=>?_) I.bare
 ·obtain ⟨o,es,ep,ho,rr⟩:=hm
  exact⟨o,es,ep,k _ o (λz=>(hf _ z).2.1 rfl) ho,rr⟩
 ·by_cases hb:b=T
  ·subst hb
   rw[bU]at q
   cases q
   exact⟨hz,its,r,e⟩
  ·rw [eJ hb] at q
   refine(I.hok b u q).stay (λc v hc z=>k c v ?_ z) (λc z=>by rw[eJ (vV z nT)];exact z) λc ys z=>by rw[eJ (vV z nT)];exact z
   rcases hc with z | z
   ·rw[z];exact nch b u q
   ·exact nch c _ z
end
theorem w4{P:Program}{w:World}{K:dQ}{es:List Expr}{kk:Nat}{tpos:Pos}{t1 t2:Bool}{a b z TI TO i1 i2:Addr}(D:ZipApart z TI TO i1 i2 a b) :
  Turn P w K (.Tuple es kk tpos) (Itz t1 t2 K a b) [z,TI,TO,i1,i2] z (λi h=>IsZip h z TI TO .none/\IsPair h TI (.ref i1) (.ref i2)/\(∃u v,IsPair h TO u v)/\SIter t1 h i1 a i/\SIter t2 h i2 b i)where
 mem:=by simp
 obj:=λi h st c hb=>by
  obtain⟨hz,Bw,⟨u,v,B0⟩,h1,h2⟩:=st
  simp only[aF,bJ,or_false]at hb
  rcases hb with rfl | rfl | rfl | rfl | rfl
  ·exact⟨_,hz,λv e=>nomatch e⟩
  ·exact⟨_,Bw,λv e=>nomatch e⟩
  ·exact⟨_,B0,λv e=>nomatch e⟩
  ·exact h1.obj
  ·exact h2.obj
 keep:=λi h h' st k=>by
  obtain⟨hz,Bw,⟨u,v,B0⟩,h1,h2⟩:=st
  exact⟨k z (by simp) _ hz,k TI (by simp) _ Bw,⟨u,v,k TO (by simp) _ B0⟩,h1.to λo e=>k i1 (by simp) o e,h2.to λo e=>k i2 (by simp) o e⟩
 item:=by
  intro X hP hw hK hc i Aa s σ H E I hf st hg
  subst hP hw hK
  obtain⟨xs,ys,x,y,q1,q2,e1,e2⟩:=hg
  obtain⟨its1,r1,p1,z1⟩:=I.sseq q1
  obtain⟨its2,r2,p2,z2⟩:=I.sseq q2
  obtain⟨u1,eu1,ru1⟩:=r1.get e1
  obtain⟨u2,eu2,ru2⟩:=r2.get e2
  obtain⟨hz,Bw,⟨u,v,B0⟩,h1,h2⟩:=st
  have Hi:∀c∈[z,TO,i1,i2],jQ X Aa H c:=λc hc=>hf c (by simp only[aF,bJ,or_false]at hc ⊢;rcases hc with rfl | rfl | rfl | rfl<;>simp)
  have lt:∀{c o},s.heap.get? c=some o->s.heap.objs.size≠c:=λe=>Nat.ne_of_gt (aQ e)
  refine tU D hz Bw B0 h1 h2 p1 p2 (x:=u1) (y:=u2) (by simpa using eu1) (by simpa using eu2) λh' a1 a2 a3 a4 a5 a6 hk=>?_
  refine⟨_,rfl,wpAny_letOwnedTupleGo_zip a1 λF3 b1 b2=>?_⟩
  have b2':Heap.SameBut z h' F3:=b2
  have kk:∀c o,c∉[z,TO,i1,i2]->s.heap.get? c=some o->F3.get? c=some o:=λc o hc e=>by
   simp only[aF,bJ,or_false,not_or]at hc
   exact b2'.extBut _ _ hc.1 (hk c o hc.1 hc.2.1 hc.2.2.1 hc.2.2.2 e)
  have tT:F3.get? s.heap.objs.size=some { cls:=.type "tuple",data:=.seq #[u1,u2] }:=b2'.extBut _ _ (lt hz) a5
  have nT:H s.heap.objs.size=none:=I.hok.fresh (aK _)
  have I':Inv X Aa σ (upd H s.heap.objs.size (.tup [x,y])) { s with heap:=F3 }:=I.turnedT (t':=s.toks) (its:=[u1,u2]) Hi kk (aK _) (.cons ru1 (.cons ru2 .nil)) (by show 2<=sizeLine;decide) ⟨_,tT,rfl,_,rfl⟩
  refine⟨.ref s.heap.objs.size,upd H s.heap.objs.size (.tup [x,y]),I',rfl,
   ⟨_,x,y,rfl,nT,rfl,λxs' ys' w1 w2=>⟨by rw[I.sseq_inj w1 q1];exact e1,by rw[I.sseq_inj w2 q2];exact e2⟩⟩,⟨b1,b2'.extBut _ _ D.TIz (hk _ _ D.TIz D.TITO D.TIi1 D.TIi2 Bw),⟨_,_,b2'.extBut _ _ D.TOz a2⟩,a3.to λo e=>b2'.extBut _ _ D.i1z e,a4.to λo e=>b2'.extBut _ _ D.i2z e⟩,λc hc=>?_⟩
  obtain⟨o,eo,_⟩:∃o,s.heap.get? c=some o/\True:=by
   simp only[aF,bJ,or_false]at hc
   rcases hc with rfl | rfl | rfl | rfl | rfl
   ·exact⟨_,hz,trivial⟩
   ·exact⟨_,Bw,trivial⟩
   ·exact⟨_,B0,trivial⟩
   ·obtain⟨o,e,_⟩:=h1.obj;exact⟨o,e,trivial⟩
   ·obtain⟨o,e,_⟩:=h2.obj;exact⟨o,e,trivial⟩
  rw[eJ (Ne.symm (lt eo))]
  exact(hf c hc).1
 done:=by
  intro X hP hw hK hc i Aa s σ H E I hf st hg
  subst hP hw hK
  obtain⟨xs,ys,q1,q2,e⟩:=hg
  obtain⟨its1,r1,p1,z1⟩:=I.sseq q1
  obtain⟨its2,r2,p2,z2⟩:=I.sseq q2
  obtain⟨hz,Bw,⟨u,v,B0⟩,h1,h2⟩:=st
  have Hi:∀c∈[z,TO,i1,i2],jQ X Aa H c:=λc hc=>hf c (by simp only[aF,bJ,or_false]at hc ⊢;rcases hc with rfl | rfl | rfl | rfl<;>simp)
  have l1:=r1.length
  have l2:=r2.length
  refine rF (I.ok.hd hc) D hz Bw B0 h1 h2 p1 p2 ?_ λh' hk=>⟨rfl,I.turnedL (t':=s.toks) Hi λc o hc e=>?_⟩
  ·rcases e with e | e
   ·exact .inl (by simp;lia)
   ·exact .inr (by simp;lia)
  ·simp only [aF,bJ,or_false,not_or] at hc
   exact hk c o hc.1 hc.2.1 hc.2.2.1 hc.2.2.2 e
 self:=λ_ _ _ _ _ st h=>wpAny_pyIter_zip st.1 h
theorem aMd:bootBuiltins "zip" = some (.type "zip"):=by decide +kernel
def aSd(t1 t2:Bool)(K:dQ)(ta:TA):TI:=λσ H R=>ta σ H λvs H1=>∃a b,vs=[.ref a,.ref b]/\(∃xs,Sq t1 K H1 a xs)/\(∃ys,Sq t2 K H1 b ys)/\R (Itz t1 t2 K a b) H1
theorem aAs{X:Cx}{ea eb:Expr}{ta:TA}{p pos:Pos}{es:List Expr}{kk:Nat}{tpos:Pos}{t1 t2:Bool}(hg:Gl X "zip")(hm:X.mg "zip" = none)(ha:PA X [ea,eb] ta)(hs:starEach [ea,eb] X.env=[(false,eval ea X.env),(false,eval eb X.env)]:=by rfl)(Co:starEach [eb] X.env=[(false,eval eb X.env)]:=by rfl) :
  PI X (.Tuple es kk tpos) (.Call (.Name "zip" p) [ea,eb] [] pos) (aSd t1 t2 X.K ta):=by
 intro Aa s σ H R I h
 refine Call_ (nK I hg hm aMd (PyProof.Rows.callWith_type1 (dX (ha pos Aa s σ H _ I h) λus s1 ⟨vs,H1,I1,r1,q1⟩=>?_) (by rw[hs,Co]) (by rw[Co];rfl)))
 obtain⟨a,b,e,⟨xs,w1⟩,⟨ys,w2⟩,q⟩:=q1
 subst e
 obtain⟨u,v,rfl,ru,rv⟩:=r1.two
 cases ru
 cases rv
 obtain⟨its1,r1,p1,z1⟩:=I1.sseq w1
 obtain⟨its2,r2,p2,z2⟩:=I1.sseq w2
 have lt1:a<s1.heap.objs.size:=by cases t1<;>(obtain⟨_,e,_⟩:=p1;exact aQ e)
 have lt2:b<s1.heap.objs.size:=by cases t2<;>(obtain⟨_,e,_⟩:=p2;exact aQ e)
 refine n6 p1 p2 λh' hz Bw B0 hi1 hi2 hk=>wpAny_pyIter_zip hz ?_
 refine⟨_,_,_,_,H1,rfl,I1.kept (t':=s1.toks) hk,w4 (t1:=t1) (t2:=t2) (zipApart_new lt1 lt2),⟨hz,Bw,⟨_,_,B0⟩,hi1,hi2⟩,λc hc=>?_,q⟩
 have Ec:s1.heap.objs.size<=c:=by
  simp only[aF,bJ,or_false]at hc
  rcases hc with rfl | rfl | rfl | rfl | rfl<;>lia
 exact I1.fpOk Ec (I1.hok.fresh Ec)
section
variable{X:Cx}
theorem o0(hc:X.calm=true):CallR X (.builtin "max") (λxs H Q=>∃p ns,xs=[.ref p]/\SqL X.K H p (ns.map V.int)/\ns≠[]/\∀M,M∈ns->(∀a∈ns,a<=M)->Q (.int M) H):=by
 intro Aa s σ H xs us Q I r h
 obtain⟨p,ns,rfl,hq,Bq,q⟩:=h
 obtain⟨u,rfl,rx⟩:=iG r
 cases rx
 obtain⟨its,r',pl,hz⟩:=I.list hq
 have hi:=wS r'
 obtain⟨zs,e⟩:=hi.allInts.items
 have Cg:ns=zs.toList.map (·.1):=by rw[<-hi.numsOf,<-nums_intItems,<-e]
 have hsz:0<zs.size:=by
  have h3:=List.length_pos_iff.mpr Bq
  rw[Cg,aD,Array.length_toList]at h3
  exact h3
 have pl':=pl.isList
 rw[e]at pl'
 refine max_intList (I.ok.hd hc) pl' hsz λv h' tk hv hk=>?_
 obtain⟨t,rfl⟩:=intItems_at hv
 obtain⟨h1,h2⟩:=argBest_gt (numAt zs) (zs.size-1)
 refine⟨.int _,H,I.kept hk,⟨t,rfl⟩,q _ ?_ λa ha=>?_⟩
 ·rw [Cg,numAt_eq]
  exact getD_mem (by rw[aD,Array.length_toList];lia)
 ·rw [Cg] at ha
  obtain⟨j,hj,rfl⟩:=mem_getD ha
  rw[aD,Array.length_toList]at hj
  rw[<-numAt_eq]
  exact h2 j (by lia)
theorem aBd(hu:X.A.units<cLine):OpR X (compareOp .Eq) (λx y H Q=>∃p b xs,x=.ref p/\y=.ref b/\SqL X.K H p xs/\SqL X.K H b []/\Q (.bl xs.isEmpty) H):=by
 intro Aa s σ H x y v u Q I rx ry h
 obtain⟨p,b,xs,rfl,rfl,h1,h2,q⟩:=h
 cases rx
 cases ry
 obtain⟨its,r1,p1,_⟩:=I.list h1
 obtain⟨its2,r2,p2,_⟩:=I.list h2
 cases r2
 cases r1 with
 |nil=>exact PySem.SeqAt.eq_listAt (e:=λ_=>true) p1.isList p2.isList rfl hu (λj a1=>absurd a1 (by simp)) ⟨.bl true,H,I,rfl,q⟩
 |cons ra rb=>exact PySem.SeqAt.eq_list_lengthsAt p1.isList p2.isList (by simp) hu ⟨.bl false,H,I,rfl,q⟩
theorem uA(hu:X.A.units<cLine):OpR X (compareOp .NotEq) (λx y H Q=>∃p b xs,x=.ref p/\y=.ref b/\SqL X.K H p xs/\SqL X.K H b []/\Q (.bl (!xs.isEmpty)) H):=by
 intro Aa s σ H x y v u Q I rx ry h
 obtain⟨p,b,xs,rfl,rfl,h1,h2,q⟩:=h
 cases rx
 cases ry
 obtain⟨its,r1,p1,_⟩:=I.list h1
 obtain⟨its2,r2,p2,_⟩:=I.list h2
 cases r2
 cases r1 with
 |nil=>exact PySem.SeqAt.RcNeAt.lists (e:=λ_=>true) p1.isList p2.isList rfl hu (λj a1=>absurd a1 (by simp)) _ _ _ _ ⟨.bl false,H,I,rfl,q⟩
 |cons ra rb=>exact PySem.SeqAt.RcNeAt.lists_lengths p1.isList p2.isList (by simp) hu _ _ _ _ ⟨.bl true,H,I,rfl,q⟩
theorem wB:∀{ns:List String} {its:List Value},Vals (ns.map V.ty) its->its=ns.map Value.type
 | [],_,h=>by cases h;rfl
 |m::ms,_,h=>by
  cases h with
  |cons ra rb =>
   rw[aL,<-wB rb]
   exact congrArg (· :: _) (show _=Value.type m from ra)
theorem sP:CallR X (.builtin "isinstance") (λxs H Q=>∃(x:V) (p:Addr) (t:Value) (b:Bool) (ns:List String),xs=[x,.ref p]/\TyOf X.K H x t/\H p=some (.tup (ns.map V.ty))/\PySem.W.kitAny X.K t (ns.map Value.type)=some b/\Q (.bl b) H):=by
 intro Aa s σ H xs us Q I r h
 obtain⟨x,p,t,b,ns,rfl,ty,hp,e,q⟩:=h
 obtain⟨u,w',rfl,r1,r2⟩:=tF r
 cases r2
 obtain⟨_,its,rv,o,h1,h2,n,h3⟩:=(show ObjOk X.prog X.w H s.heap p (.tup (ns.map V.ty))from I.hok p _ hp)
 have ei:=wB rv
 subst ei
 obtain⟨cls,dd,data,sl⟩:=o
 dsimp only at h2 h3
 subst h2 h3
 have fin:∀tk,EP X Aa σ Q (.bool b) { s with toks:=tk }:=λtk=>⟨.bl b,H,I.tok _,rfl,q⟩
 cases ty with
 |non=>cases(show u=Value.none from r1);exact PySem.W.kia_tup PySem.W.kitx_none I.kIn True.intro h1 e (λz=>nomatch z) fin
 |bl y=>cases(show u=Value.bool y from r1);exact PySem.W.kia_tup PySem.W.kitx_bool I.kIn True.intro h1 e (λz=>nomatch z) fin
 |int i=>obtain⟨t,z⟩:=(show ∃t,u=Value.int i t from r1);cases z;exact PySem.W.kia_tup PySem.W.kitx_int I.kIn True.intro h1 e (λz=>nomatch z) fin
 |str y=>obtain⟨t,z⟩:=(show ∃t,u=Value.str y t from r1);cases z;exact PySem.W.kia_tup PySem.W.kitx_str I.kIn True.intro h1 e (λz=>nomatch z) fin
 |flt y=>obtain⟨t,z⟩:=(show ∃t,u=Value.float y t from r1);cases z;exact PySem.W.kia_tup PySem.W.kitx_float I.kIn True.intro h1 e (λz=>nomatch z) fin
 | @lst a xs ea =>
  cases(show u=Value.ref a from r1)
  obtain⟨_,_,n,_,g1⟩:=(show ObjOk X.prog X.w H s.heap a (.lst xs)from I.hok a _ ea)
  exact PySem.W.kia_tup PySem.W.kitx_list I.kIn ⟨_,g1,rfl⟩ h1 e (λz=>nomatch z) fin
 | @frz a ob xs ea =>
  cases(show u=Value.ref a from r1)
  obtain⟨_,_,_,n,_,g1⟩:=(show ObjOk X.prog X.w H s.heap a (.frz ob (.lst xs))from I.hok a _ ea)
  exact PySem.W.kia_tup PySem.W.kitx_list I.kIn ⟨_,g1,rfl⟩ h1 e (λz=>nomatch z) fin
 | @tup a xs ea =>
  cases(show u=Value.ref a from r1)
  obtain⟨_,_,_,p⟩:=(show ObjOk X.prog X.w H s.heap a (.tup xs)from I.hok a _ ea)
  obtain⟨o,g1,g2,_⟩:=p
  exact PySem.W.kia_tup PySem.W.kitx_tuple I.kIn ⟨o,g1,g2⟩ h1 e (λz=>nomatch z) fin
 | @dK a kvs ea =>
  cases(show u=Value.ref a from r1)
  obtain⟨o,es,ep,g1,g2,_⟩:=fu_ (show ObjOk X.prog X.w H s.heap a (.dK kvs)from I.hok a _ ea)
  exact PySem.W.kia_tup PySem.W.kitx_dict I.kIn ⟨o,g1,g2.1⟩ h1 e (λz=>nomatch z) fin
 | @dT a kvs ea =>
  cases(show u=Value.ref a from r1)
  obtain⟨_,_,xs,_,o,es,ep,g1,g2,_⟩:=(show ObjOk X.prog X.w H s.heap a (.dT kvs)from I.hok a _ ea)
  exact PySem.W.kia_tup PySem.W.kitx_dict I.kIn ⟨o,g1,g2.1⟩ h1 e (λz=>nomatch z) fin
 | @ins a C dx fs ea cl ha hn Ft hm =>
  cases(show u=Value.ref a from r1)
  obtain⟨mA,O,_⟩:=zJ I.hok ea
  obtain⟨od,J,_⟩:=O.look
  exact PySem.W.kia_tup (PySem.W.kitx_own (cl.get _) cl.hd ha hn Ft hm) I.kIn J h1 e (λz=>nomatch z) fin
theorem rB:SlR X (λx lo hi H Q=>∃z,x=.str z/\z.length<=sizeLine/\Q (.str (Txt.slice z lo hi)) H):=by
 intro Aa s σ H x v vl vu lo hi sl Q I rx hs pl pu h
 obtain⟨z,rfl,hz,q⟩:=h
 obtain⟨t,rfl⟩:=rx
 refine⟨"str",_,PySem.F.slot_str_getitem.lookup,typeIs_str _ _ _,?_⟩
 obtain⟨o,h1,h2,h3⟩:=hs
 cases pl with
 |none =>
  cases pu with
  |none=>exact wpAny_getItem_str_slice (l:=none) (u:=none) (st:=none) ⟨o,h1,h2,h3⟩ rfl (post_val_or_str ⟨nzL (Txt.slice_le z _ _) hz,λt' k=>⟨.str _,H,I.tok _,⟨_,rfl⟩,q⟩⟩)
  |int j uj=>exact wpAny_getItem_str_slice (l:=none) (u:=some (j,uj)) (st:=none) ⟨o,h1,h2,h3⟩ rfl (post_val_or_str ⟨nzL (Txt.slice_le z _ _) hz,λt' k=>⟨.str _,H,I.tok _,⟨_,rfl⟩,q⟩⟩)
 |int i ui =>
  cases pu with
  |none=>exact wpAny_getItem_str_slice (l:=some (i,ui)) (u:=none) (st:=none) ⟨o,h1,h2,h3⟩ rfl (post_val_or_str ⟨nzL (Txt.slice_le z _ _) hz,λt' k=>⟨.str _,H,I.tok _,⟨_,rfl⟩,q⟩⟩)
  |int j uj=>exact wpAny_getItem_str_slice (l:=some (i,ui)) (u:=some (j,uj)) (st:=none) ⟨o,h1,h2,h3⟩ rfl (post_val_or_str ⟨nzL (Txt.slice_le z _ _) hz,λt' k=>⟨.str _,H,I.tok _,⟨_,rfl⟩,q⟩⟩)
theorem mZ:OpR X (binaryOp .Mult) (λx y H Q=>∃z n,x=.str z/\y=.int n/\z.length<=1000/\0<=n/\n<=1000/\Q (.str (Txt.mul z n)) H):=by
 intro Aa s σ H x y v u Q I rx ry h
 obtain⟨z,n,rfl,rfl,hz,h0,h1,q⟩:=h
 obtain⟨t,rfl⟩:=rx
 obtain⟨t',rfl⟩:=ry
 exact SB.mul (mulOk_of 1000 1000 hz (by lia) (by lia) (by decide) (by decide)) λt' k=>⟨.str _,H,I.tok _,⟨_,rfl⟩,q⟩
theorem strsAre_of{ys:List Str}:∀{us:List Value},Vals (ys.map V.str) us->StrsAre us ys:=by
 induction ys with
 |nil=>intro us r;rw[bI]at r;cases r;exact .nil
 |cons n ns ih =>
  intro us r
  rw[aL]at r
  cases r with
  |cons r1 r2 =>
   obtain⟨t,e⟩:=r1
   subst e
   exact .cons n t (ih r2)
theorem aFz:MtR X "str.join" (λx vs H Q=>∃z p ys,x=.str z/\vs=[.ref p]/\SqL X.K H p (ys.map V.str)/\(ys.map (·.length)).sum+ys.length*z.length<=16777216/\Q (.str (Txt.join z ys)) H):=by
 intro Aa s σ H x vs v us Q I rx rv h
 obtain⟨z,p,ys,rfl,rfl,hq,hok,q⟩:=h
 obtain⟨t,rfl⟩:=rx
 obtain⟨u,rfl,ru⟩:=rv.one
 cases ru
 obtain⟨its,r',pl,hz⟩:=I.list hq
 exact join_list pl.isList (by rw[List.toList_toArray];exact strsAre_of r') hok λt' k=>⟨.str _,H,I.tok _,⟨_,rfl⟩,q⟩
end
section
variable{prog:Program}{w:World}{A:Around}{E:eQ}
theorem vA{it l:Addr}{items:Array Value}(Bq:l≠it):∀(n i:Nat) (s:Shared) (Q:List Value->Shared->Prop),s.heap.IsListIter it l i->s.heap.IsList l items->i+n<=items.size ->
  (∀h',h'.IsListIter it l (i+n)->Heap.SameBut it s.heap h'->Q ((items.toList.drop i).take n) { s with heap:=h' })->wpAny (model prog w) A (draw (.ref it) n) Q E s
 | 0,i,s,Q,Bh,_,_,hQ=>by
  show wpAny _ _ (pure []) Q E s;exact wpAny_pure (by simpa using hQ s.heap Bh (Heap.SameBut.refl ..))
 |n+1,i,s,Q,Bh,ht,Ec,hQ=>by
  have Av:i<items.size:=by lia
  show wpAny _ _ (pyNext (.ref it) >>= _) Q E s;refine wpAny_bind (wpAny_pyNext_list_item Bh ht (x:=items[i]) (by simp[Av]) λh1 D3 Eo=>?_)
  refine wpAny_bind (wpAny_holding (vA Bq n (i+1) _ _ D3 (ht.extBut Eo.extBut Bq) (by lia) λh2 Hc Co=>wpAny_pure ?_))
  have hd:items.toList.drop i=items[i]::items.toList.drop (i+1):=by simp[List.drop_eq_getElem_cons,Av]
  have z:=hQ h2 (by rw[show i+(n+1)=i+1+n by lia];exact Hc) (Eo.trans Co)
  rw[hd,List.take_succ_cons]at z;exact z
theorem wA{s:Shared}{l:Addr}{items:Array Value}{Q:List Value->Shared->Prop}(hh:A.handled=none)(ht:s.heap.IsList l items)
  (hQ:∀h',Heap.ExtBut s.heap.objs.size s.heap h'->Q items.toList { s with heap:=h' }):wpAny (model prog w) A (unpackItems (.ref l) items.size none) Q E s:=by
 have Av:l≠s.heap.objs.size:=by obtain⟨o,ho,_⟩:=ht;exact cD (aQ ho)
 unfold unpackItems;refine wpAny_bind ?_;unfold notIterableAtAll
 refine wpAny_bind (wpAny_specialOf ht.typeIs PySem.F.slot_list_iter.lookup ?_);refine wpAny_pure ?_;simp only[cK,if_false]
 refine wpAny_bind (wpAny_holding (wpAny_pyIter_list ht ?_))
 refine wpAny_bind (wpAny_holding (vA Av items.size 0 _ _ ⟨_,aU _ rfl,rfl,rfl⟩ (ht.push _) (by lia) λh1 D3 Eo=>?_))
 have Aq:List.take items.size (List.drop 0 items.toList)=items.toList:=by rw[cH];exact List.take_of_length_le (by simp)
 rw[Aq,if_neg (by simp)]
 have ht1:h1.IsList l items:=(ht.push _).extBut Eo.extBut Av
 refine wpAny_bind (wpAny_holding (wpAny_pyNext_list_end hh D3 ht1 (by simp) λh2 E6=>?_));simp only[Option.isSome_none,cK,if_false]
 exact wpAny_pure (hQ h2 λb o hb e=>E6 b o hb (Eo.extBut b o hb (aC _ e)))
end
def aGq(K:dQ)(n:Nat)(t:TGs):TG:=λv σ H Q=>∃a xs,v=.ref a/\SqL K H a xs/\xs.length=n/\t xs σ H Q
theorem wI{X:Cx}{pos:Pos}{es:List Expr}{k:Nat}{t:TGs}{n:Nat}(hc:X.calm=true)(h:PGs X es t)(hn:(assignEach es X.env).length=n:=by rfl)(Dv:(assignEach es X.env).findIdx? (·.1)=none:=by rfl):PG X (.Tuple es k pos) (aGq X.K n t):=by
 intro Aa s σ H v u Q I r hw
 obtain⟨a,xs,e1,hq,hl,hw⟩:=hw
 subst e1
 cases r
 obtain⟨its,rv,ht,hz⟩:=I.list hq
 rw[assign_Tuple]
 refine wpAny_bind (wpAny_standAt ?_)
 unfold unpack
 have Ad:(assignEach es X.env).length=its.toArray.size:=by rw[bA,hn,<-hl,rv.length]
 rw[Ad,Dv]
 refine wpAny_bind (wpAny_holding (wA (I.ok.hd hc) ht.isList λh' hx=>?_))
 have I1:Inv X Aa σ H { s with heap:=h' }:=I.kept (t':=s.toks) λb o e=>hx b o (cD (aQ e)) e
 exact h Aa _ σ H xs _ Q I1 (by simpa using rv) hw
theorem qZ{K:dQ}{n k:Nat}{t:TGs}(h:aDr n t):Tgt n (aGq K k t):=λx σ H Q ⟨a,xs,e,hq,hl,q⟩=>⟨a,xs,e,hq,hl,h xs σ H Q q⟩
section
variable{X:Cx}(K:dQ)(h:X.K=K:=by rfl)
include h
theorem aGh:IxR X (aJk K):=h ▸ aLc
theorem uL:IxR X (aAi K):=h ▸ s_
theorem x9:SlR X (aOd K):=h ▸ aEr
theorem yT{pos:Pos}{es:List Expr}{k:Nat}{t:TGs}{n:Nat}(hc:X.calm=true)(hh:PGs X es t)(hn:(assignEach es X.env).length=n:=by rfl)(Dv:(assignEach es X.env).findIdx? (·.1)=none:=by rfl):PG X (.Tuple es k pos) (aGo K n t):=h ▸ mW hc hh hn Dv
theorem rK{pos:Pos}{es:List Expr}{k:Nat}{t:TGs}{n:Nat}(hc:X.calm=true)(hh:PGs X es t)(hn:(assignEach es X.env).length=n:=by rfl)(Dv:(assignEach es X.env).findIdx? (·.1)=none:=by rfl):PG X (.Tuple es k pos) (aGq K n t):=h ▸ wI hc hh hn Dv
end
def aRm(t:TS):TS:=λD σ H=>∃P:St->Hp->Prop,t { D with nx:=P } σ H/\∀σ' H',P σ' H'->D.nx σ' H'
theorem aAp{X:Cx}{st:Stmt}{t:TS}(h:PS X st t):PS X st (aRm t):=by
 intro Aa s σ H D I ⟨P,h1,h2⟩
 refine dX (h Aa s σ H _ I h1) λf s' q=>?_
 cases f with
 |next=>obtain⟨σ',H',I',q'⟩:=q;exact⟨σ',H',I',h2 _ _ q'⟩
 |brk=>exact q
 |cont=>exact q
 |ret u=>exact q
def aAg(K:dQ):List V->Hp->VK->Prop:=λxs H Q=>∃p ns,xs=[.ref p]/\SqL K H p (ns.map V.int)/\ns≠[]/\∀M,M∈ns->(∀a∈ns,a<=M)->Q (.int M) H
theorem n_{X:Cx}(hc:X.calm=true):CallR X (.builtin "max") (aAg X.K):=o0 hc
section
variable{K:dQ}
theorem aBt{t a b:Value}{x y:Bool}(h1:PySem.W.kitOne K t a=some x)(h2:PySem.W.kitOne K t b=some y):PySem.W.kitAny K t [a,b]=some (x||y):=by
 unfold PySem.W.kitAny
 rw[h1]
 cases x with
 |true=>rfl
 |false =>
  show PySem.W.kitAny K t [b]=_
  unfold PySem.W.kitAny
  rw[h2]
  cases y<;>rfl
end
end L2
namespace Lf
open PySem
inductive Kd where
 |num (w m:Int)
 |row (k:Kd) (n:Int)
 |rcd (fs:List (Str×Kd))
 |cho (ks:List Kd)
def up(n m:Int):Int:=(n+m-1)/m*m
theorem aNn{n m:Int}(hm:0<m):up n m=n+m-1-(n+m-1)%m:=by
 have:=Int.mul_ediv_add_emod (n+m-1) m
 rw[Int.mul_comm]at this
 unfold up
 lia
theorem cz_{n m:Int}(hm:0<m):n<=up n m/\up n m<n+m:=by
 have a:=dH (n+m-1) (Int.ne_of_gt hm)
 have b:=cQ (n+m-1) hm
 rw[aNn hm]
 lia
theorem aIy{n m:Int}:up n m%m=0:=Int.mul_emod_left _ _
def upL(n m:Int):Int:=if n%m=0 then n else n+m-n%m
theorem wO{a b m:Int}(hm:0<m)(ha:a%m=0)(hb:b%m=0)(h1:a-b<m)(h2:b-a<m):a=b:=by
 have h:(a-b)%m=0:=by rw[Int.sub_emod,ha,hb];simp
 obtain⟨c,hc⟩:=Int.dvd_of_emod_eq_zero h
 by_cases c0:c=0
 ·subst c0;lia
 ·rcases Int.lt_or_gt_of_ne c0 with c1 | c1
  ·have:m * c≤m * (-1):=eY (by lia) (by lia)
   lia
  ·have:m * 1≤m * c:=eY (by lia) (by lia)
   lia
theorem aIz{n m:Int}(hm:0<m):upL n m=up n m:=by
 have a:=dH n (Int.ne_of_gt hm)
 have b:=cQ n hm
 obtain⟨c,d⟩:=cz_ (n:=n) hm
 refine wO hm ?_ aIy ?_ ?_
 ·unfold upL
  split
  ·assumption
  ·have e:n + m - n % m=(n - n % m) + m:=by lia
   rw[e,Int.add_emod_right,Int.sub_emod]
   simp
 ·unfold upL;split<;>lia
 ·unfold upL;split<;>lia
def fS(d:Int)(l:List Int):Int:=l.foldr max d
theorem yZ{d:Int}:∀{l:List Int} {a:Int},a∈l->a<=fS d l
 |b::r,a,h=>by
  show a<=max b (fS d r)
  rcases aF.mp h with rfl | h
  ·exact Int.le_max_left _ _
  ·exact Int.le_trans (yZ h) (Int.le_max_right _ _)
theorem aGc{d M:Int}{l:List Int}(hm:M∈l)(hd:d<=M)(hM:∀a∈l,a<=M):M=fS d l:=by
 refine Int.le_antisymm (yZ hm) ?_
 clear hm
 induction l with
 |nil=>exact hd
 |cons b r ih =>
  show max b (fS d r)<=M
  exact Int.max_le.mpr ⟨hM b aA,ih λa ha=>hM a (aB _ ha)⟩
def aGv(e:Int):List (Int×Int)->List Int
 | []=>[]
 |r::rs=>(up e r.2+r.1)::aGv (up e r.2+r.1) rs
def fM(e:Int):List (Int×Int)->Int
 | []=>e
 |r::rs=>fM (up e r.2+r.1) rs
def plcs(e:Int):List (Int×Int)->List Int
 | []=>[]
 |r::rs=>up e r.2::plcs (up e r.2+r.1) rs
theorem gn_:∀(rs:List (Int×Int)) (r:Int×Int) (e:Int),fM e (rs++[r])=up (fM e rs) r.2+r.1
 | [],_,_=>rfl
 |s::rs,r,e=>gn_ rs r _
def aAd(rs:List (Int×Int)):Int×Int:=(up (fM 0 rs) (fS 1 (rs.map (·.2))),fS 1 (rs.map (·.2)))
def c9(rs:List (Int×Int)):Int×Int:=(up (up 1 (fS 1 (rs.map (·.2)))+fS 0 (rs.map (·.1))) (fS 1 (rs.map (·.2))),fS 1 (rs.map (·.2)))
mutual
def Kd.rm:Kd->Int×Int
 | .num w m=>(w,m)
 | .row k n=>(n*up k.rm.1 k.rm.2,k.rm.2)
 | .rcd fs=>aAd (rmF fs)
 | .cho ks=>c9 (rmK ks)
def rmF:List (Str×Kd)->List (Int×Int)
 | []=>[]
 |f::r=>f.2.rm::rmF r
def rmK:List Kd->List (Int×Int)
 | []=>[]
 |k::r=>k.rm::rmK r
end
mutual
def Kd.deep:Kd->Nat
 | .num _ _=>1
 | .row k _=>k.deep+1
 | .rcd fs=>cX fs+1
 | .cho ks=>dP ks+1
def cX:List (Str×Kd)->Nat
 | []=>0
 |f::r=>max f.2.deep (cX r)
def dP:List Kd->Nat
 | []=>0
 |k::r=>max k.deep (dP r)
end
mutual
def Kd.Ok:Kd->Prop
 | .num w m=>1<=w/\w<=8/\1<=m/\m<=8
 | .row k n=>k.Ok/\0<=n/\n<=100
 | .rcd fs=>okF fs/\fs.length<=10
 | .cho ks=>okK ks/\ks.length<=10
def okF:List (Str×Kd)->Prop
 | []=>True
 |f::r=>f.2.Ok/\okF r
def okK:List Kd->Prop
 | []=>True
 |k::r=>k.Ok/\okK r
end
theorem rT{d M:Int}:∀{l:List Int},d<=M->(∀a∈l,a<=M)->fS d l<=M
 | [],hd,_=>hd
 |b::r,hd,h=>Int.max_le.mpr ⟨h b aA,rT hd λa ha=>h a (aB _ ha)⟩
theorem rV{d:Int}:∀(l:List Int),d<=fS d l
 | []=>Int.le_refl _
 |b::r=>Int.le_trans (rV r) (Int.le_max_right _ _)
def Bd(B:Int)(r:Int×Int):Prop:=0<=r.1/\r.1<=B/\1<=r.2/\r.2<=8
theorem ez_{B:Int}:∀{rs:List (Int×Int)} {e:Int},0<=e->(∀r∈rs,Bd B r)->0<=fM e rs/\fM e rs<=e+(rs.length:Int)*(B+8)
 | [],e,h0,_=>⟨h0,by simp[fM]⟩
 |r::rs,e,h0,h=>by
  obtain⟨a,b,c,d⟩:=h r aA
  obtain⟨u1,u2⟩:=cz_ (n:=e) (m:=r.2) (by lia)
  have ih:=ez_ (B:=B) (rs:=rs) (e:=up e r.2+r.1) (by lia) λx hx=>h x (aB _ hx)
  refine⟨ih.1,?_⟩
  show fM (up e r.2+r.1) rs<=_
  have e1:((r::rs).length:Int)*(B+8)=(rs.length:Int)*(B+8)+(B+8):=by
   rw[aI]
   push_cast
   rw[Int.add_mul]
   lia
  rw[e1]
  lia
theorem yY{B:Int}{rs:List (Int×Int)}(h:∀r∈rs,Bd B r):1<=fS 1 (rs.map (·.2))/\fS 1 (rs.map (·.2))<=8:=
 ⟨rV _,rT (by decide) λa ha=>by obtain⟨r,hr,rfl⟩:=bH.mp ha;exact(h r hr).2.2.2⟩
theorem aJi{B:Int}{rs:List (Int×Int)}(h:∀r∈rs,Bd B r)(hl:rs.length<=10)(hB:0<=B):Bd (1000*(B+8)) (aAd rs):=by
 obtain⟨a,b⟩:=yY h
 obtain⟨c,d⟩:=ez_ (e:=0) (by lia) h
 obtain⟨u1,u2⟩:=cz_ (n:=fM 0 rs) (m:=fS 1 (rs.map (·.2))) (by lia)
 have:(rs.length:Int)*(B+8)<=10*(B+8):=cR (by lia) (by lia)
 exact⟨by show 0<=up _ _;lia,by show up _ _<=_;lia,a,b⟩
theorem aMc{B:Int}{rs:List (Int×Int)}(h:∀r∈rs,Bd B r)(hB:0<=B):Bd (1000*(B+8)) (c9 rs):=by
 obtain⟨a,b⟩:=yY h
 have c:0<=fS 0 (rs.map (·.1)):=rV _
 have d:fS 0 (rs.map (·.1))<=B:=rT hB λz hz=>by obtain⟨r,hr,rfl⟩:=bH.mp hz;exact(h r hr).2.1
 obtain⟨u1,u2⟩:=cz_ (n:=1) (m:=fS 1 (rs.map (·.2))) (by lia)
 obtain⟨v1,v2⟩:=cz_ (n:=up 1 (fS 1 (rs.map (·.2)))+fS 0 (rs.map (·.1))) (m:=fS 1 (rs.map (·.2))) (by lia)
 exact⟨by show 0<=up _ _;lia,by show up _ _<=_;lia,a,b⟩
def bnd:Nat->Int
 | 0=>0
 |n+1=>1000*(bnd n+8)
theorem fb_:∀n,0<=bnd n
 | 0=>Int.le_refl _
 |n+1=>by have:=fb_ n;show 0<=1000*(bnd n+8);lia
theorem fy_{n m:Nat}(h:n<=m):bnd n<=bnd m:=by
 induction m with
 |zero=>cases(Nat.le_zero.mp h);exact Int.le_refl _
 |succ m ih =>
  by_cases e:n=m+1
  ·subst e;exact Int.le_refl _
  ·have:=ih (by lia)
   have:=fb_ m
   show bnd n<=1000*(bnd m+8)
   lia
theorem Bd.mono{B C:Int}{r:Int×Int}(h:Bd B r)(hb:B<=C):Bd C r:=⟨h.1,Int.le_trans h.2.1 hb,h.2.2⟩
mutual
theorem Kd.bd:∀(k:Kd),k.Ok->Bd (bnd k.deep) k.rm
 | .num w m,h=>by
  obtain⟨a,b,c,d⟩:=h
  refine⟨by show 0<=w;lia,?_,c,d⟩
  show w<=1000*(0+8)
  lia
 | .row k n,h=>by
  obtain⟨hk,h0,h1⟩:=h
  obtain⟨a,b,c,d⟩:=Kd.bd k hk
  obtain⟨u1,u2⟩:=cz_ (n:=k.rm.1) (m:=k.rm.2) (by lia)
  refine⟨gM h0 (by lia),?_,c,d⟩
  have e1:n*up k.rm.1 k.rm.2<=100*up k.rm.1 k.rm.2:=cR h1 (by lia)
  show n*up k.rm.1 k.rm.2<=1000*(bnd k.deep+8)
  lia
 | .rcd fs,h=>by
  refine aJi (rs:=rmF fs) (bdF fs h.1) ?_ (fb_ _)
  have:(rmF fs).length=fs.length:=aKw fs
  rw[this];exact h.2
 | .cho ks,h=>aMc (rs:=rmK ks) (bdK ks h.1) (fb_ _)
theorem bdF:∀(fs:List (Str×Kd)),okF fs->∀r∈rmF fs,Bd (bnd (cX fs)) r
 | [],_,_,h=>nomatch h
 |f::fs,h,r,hr=>by
  have Ap:r∈f.2.rm::rmF fs:=hr
  rcases aF.mp Ap with rfl | Ap
  ·exact(Kd.bd f.2 h.1).mono (fy_ (dG _ _))
  ·exact(bdF fs h.2 r Ap).mono (fy_ (cZ _ _))
theorem bdK:∀(ks:List Kd),okK ks->∀r∈rmK ks,Bd (bnd (dP ks)) r
 | [],_,_,h=>nomatch h
 |k::ks,h,r,hr=>by
  have Ap:r∈k.rm::rmK ks:=hr
  rcases aF.mp Ap with rfl | Ap
  ·exact(Kd.bd k h.1).mono (fy_ (dG _ _))
  ·exact(bdK ks h.2 r Ap).mono (fy_ (cZ _ _))
theorem aKw:∀(fs:List (Str×Kd)),(rmF fs).length=fs.length
 | []=>rfl
 |f::fs=>by show(rmF fs).length+1=_;rw[aKw fs];rfl
end
theorem aOr:∀(ks:List Kd),(rmK ks).length=ks.length
 | []=>rfl
 |f::fs=>by show(rmK fs).length+1=_;rw[aOr fs];rfl
inductive Dt where
 |int (i:Int)
 |str (x:Str)
 |bl (b:Bool)
 |tup (ds:List Dt)
 |lst (ds:List Dt)
theorem Kd.deep_pos:∀k:Kd,1<=k.deep
 | .num _ _=>aK _
 | .row k _=>Nat.le_add_left 1 k.deep
 | .rcd fs=>Nat.le_add_left 1 (cX fs)
 | .cho ks=>Nat.le_add_left 1 (dP ks)
end Lf
namespace Lf
open PySem L2
mutual
def IsD(H:Hp):Dt->V->Prop
 | .int i,v=>v=.int i
 | .str x,v=>v=.str x
 | .bl b,v=>v=.bl b
 | .tup ds,v=>∃a vs,v=.ref a/\H a=some (.tup vs)/\aMp H ds vs
 | .lst ds,v=>∃a vs,v=.ref a/\H a=some (.lst vs)/\aMp H ds vs
def aMp(H:Hp):List Dt->List V->Prop
 | [],vs=>vs=[]
 |d::r,vs=>∃v vr,vs=v::vr/\IsD H d v/\aMp H r vr
end
theorem ds_{H:Hp}{p:Addr}(h:H p=none)(o:HO):Same H (upd H p o):=λb u q=>by rw[eJ (vV q h)];exact q
def uQ(p:Addr)(H:Hp):Hp:=λb=>if b=p then none else H b
theorem fg_{p b:Addr}{H:Hp}(h:b≠p):uQ p H b=H b:=if_neg h
theorem ht_{p b:Addr}{H:Hp}{o:HO}(h:uQ p H b=some o):b≠p/\H b=some o:=by
 by_cases e:b=p
 ·subst e;rw[show uQ b H b=none from if_pos rfl]at h;cases h
 ·rw[fg_ e]at h;exact⟨e,h⟩
theorem k4{p:Addr}{H H':Hp}(e:Same H H'):Same (uQ p H) (uQ p H'):=λb o h=>by
 obtain⟨n,q⟩:=ht_ h
 rw[fg_ n]
 exact e b o q
abbrev SameX(p:Addr)(H H':Hp):Prop:=Same (uQ p H) (uQ p H')
theorem SameX.upd(p:Addr)(H:Hp)(o:HO):SameX p H (L2.upd H p o):=λb u h=>by
 obtain⟨n,q⟩:=ht_ h
 rw[fg_ n,eJ n]
 exact q
theorem SameX.get{p b:Addr}{H H':Hp}{o:HO}(e:SameX p H H')(n:b≠p)(h:H b=some o):H' b=some o:=by
 have:=e b o (by rw[fg_ n];exact h)
 rw[fg_ n]at this
 exact this
theorem SameX.of{p:Addr}{H H':Hp}(e:Same H H'):SameX p H H':=k4 e
theorem aDo{α:Type}{xs:List α}{i:Int}(h0:0<=i)(h1:i<(xs.length:Int)):∃v,atI xs i=some v/\v∈xs:=by
 have hk:i.toNat<xs.length:=by lia
 have ek:((i.toNat:Nat):Int)=i:=by lia
 have q:atI xs ((i.toNat:Nat):Int)=some xs[i.toNat]:=et_ (aS hk)
 rw[ek]at q
 exact⟨_,q,List.getElem_mem _⟩
theorem hY(n:Nat)(h:n<=1000):n<=sizeLine:=Nat.le_of_lt (pO h)
end Lf
namespace L2
open PySem PySem.Spec PyProof.Rows
def veq:Value->Value->Bool
 | .int i _,.int j _=>i == j
 | .str x _,.str y _=>x == y
 | .none,.none=>true
 | .bool a,.bool b=>a == b
 | .ref a,.ref b=>decide (a=b)
 |_,_=>false
section
variable{P:Program}{w:World}{H:Hp}{A:Around}{E:eQ}{s:Shared}{k k':Key}{u v:Value}
theorem hf_{b:Addr}{x:Str}(ok:HOk P w H s.heap)(e:H b=some (.tup [.str x])):IsTupleKey (cT P w) s.heap [.inr x] b/\∃its,s.heap.IsTuple b its:=by
 obtain⟨_,its,r,o,h1,h2,n,h3⟩:=(show ObjOk P w H s.heap b (.tup [.str x])from ok b _ e)
 cases r with
 |cons h t =>
  cases t
  obtain⟨tk,rfl⟩:=h
  exact⟨⟨o,_,n,h1,h2,h3,.cons (hp_ P w x tk) .nil⟩,⟨_,o,h1,h2,n,h3⟩⟩
theorem lW(ok:HOk P w H s.heap)(hu:A.units<cLine)(r:RelV (kV k) u)(t:fL H k):∃n,kU P w A E s u (khash P w k) n:=by
 cases k with
 |inl i=>obtain⟨t,rfl⟩:=r;exact⟨_,λQ q=>wpAny_pyHash_int q⟩
 |inr x=>obtain⟨t,rfl⟩:=r;exact⟨_,λQ q=>wpAny_pyHash_str q⟩
 |non =>
  cases r
  refine⟨s.toks+1,λQ q=>?_⟩
  show wpAny _ _ (pyHashByItsType .none) Q E s
  unfold pyHashByItsType
  refine wpAny_bind ?_
  rw[cRoomFor,if_neg (by rw[show [Value.none].any Value.onHeap=false from rfl];exact aE)]
  refine wpAny_pure (wpAny_bind (wpAny_specialOf (typeIs_none s) F.slot_NoneType_hash.lookup ?_))
  rw[if_neg (by rw[beq_builtin_none];exact aE)]
  refine wpAny_bind (wpAny_specialOf (typeIs_none s) F.slot_NoneType_hash.lookup ?_)
  show wpAny _ _ (callSpecialIfBoundUnlessNone? .none "__hash__" _ >>= _) Q E s
  refine wpAny_bind (wpAny_callSpecialIfBoundUnlessNone?_slot (typeIs_none s) F.slot_NoneType_hash (wpAny_call_entry F.slot_NoneType_hash (typeIs_none s) F.entry_NoneType_hash (show wpAny _ _ (do ret (<-mkInt 0xFCA86420)) _ _ s from wpAny_ret_mkInt ?_) (F.args_NoneType_hash_1 _)))
  exact wpAny_pure q
 |tru =>
  cases r
  refine⟨s.toks+1,λQ q=>?_⟩
  show wpAny _ _ (pyHashByItsType (.bool true)) Q E s
  unfold pyHashByItsType
  refine wpAny_bind ?_
  rw[cRoomFor,if_neg (by rw[show [Value.bool true].any Value.onHeap=false from rfl];exact aE)]
  refine wpAny_pure (wpAny_bind (wpAny_specialOf (PySem.typeIs_bool s true) F.slot_bool_hash.lookup ?_))
  rw[if_neg (by rw[beq_builtin_none];exact aE)]
  refine wpAny_bind (wpAny_specialOf (PySem.typeIs_bool s true) F.slot_bool_hash.lookup ?_)
  show wpAny _ _ (callSpecialIfBoundUnlessNone? (.bool true) "__hash__" _ >>= _) Q E s
  refine wpAny_bind (wpAny_callSpecialIfBoundUnlessNone?_slot (PySem.typeIs_bool s true) F.slot_bool_hash (wpAny_call_entry F.slot_bool_hash (PySem.typeIs_bool s true) F.entry_int_hash (show wpAny _ _ (do ret (<-mkInt (rawHash 1))) _ _ s from wpAny_ret_mkInt ?_) (F.args_int_hash_1 _)))
  exact wpAny_pure q
 |ref b x =>
  cases r
  exact⟨_,λQ q=>wpAny_pyHash_tuple hu (hf_ ok t).1 q⟩
theorem aPp(ok:HOk P w H s.heap)(hu:A.units<cLine)(r:RelV (kV k) u)(t:fL H k)(r':RelV (kV k') v)(t':fL H k')(nc:eU k k'=false):SeqAt.EqAt A s u v (veq u v):=by
 cases k with
 |inl i =>
  obtain⟨_,rfl⟩:=r
  cases k' with
  |inl j=>obtain⟨_,rfl⟩:=r';exact SeqAt.EqAt.int_int _ _ _ _
  |inr y=>obtain⟨_,rfl⟩:=r';exact SeqAt.EqAt.int_str _ _ _ _
  |non=>cases r';exact SeqAt.EqAt.int_none _ _
  |tru=>cases nc
  |ref c y=>cases r';exact SeqAt.EqAt.int_tuple _ _ (hf_ ok t').2.choose_spec hu
 |inr x =>
  obtain⟨_,rfl⟩:=r
  cases k' with
  |inl j=>obtain⟨_,rfl⟩:=r';exact SeqAt.EqAt.str_int _ _ _ _
  |inr y=>obtain⟨_,rfl⟩:=r';exact SeqAt.EqAt.str_str _ _ _ _
  |non=>cases r';exact SeqAt.EqAt.str_none _ _
  |tru=>cases r';exact SeqAt.EqAt.str_bool _ _ _
  |ref c y=>cases r';exact SeqAt.EqAt.str_tuple _ _ (hf_ ok t').2.choose_spec hu
 |non =>
  cases r
  cases k' with
  |inl j=>obtain⟨_,rfl⟩:=r';exact SeqAt.EqAt.none_int _ _
  |inr y=>obtain⟨_,rfl⟩:=r';exact SeqAt.EqAt.none_str _ _
  |non=>cases r';exact SeqAt.EqAt.same _
  |tru=>cases r';exact SeqAt.EqAt.none_bool _
  |ref c y=>cases r';exact SeqAt.EqAt.none_tuple (hf_ ok t').2.choose_spec hu
 |tru =>
  cases r
  cases k' with
  |inl j=>cases nc
  |inr y=>obtain⟨_,rfl⟩:=r';exact SeqAt.EqAt.bool_str _ _ _
  |non=>cases r';exact SeqAt.EqAt.bool_none _
  |tru=>cases r';exact SeqAt.EqAt.same _
  |ref c y=>cases r';exact SeqAt.EqAt.bool_tuple _ (hf_ ok t').2.choose_spec hu
 |ref b x =>
  cases r
  have z:=(hf_ ok t).2.choose_spec
  cases k' with
  |inl j=>obtain⟨_,rfl⟩:=r';exact SeqAt.EqAt.tuple_int _ _ z hu
  |inr y=>obtain⟨_,rfl⟩:=r';exact SeqAt.EqAt.tuple_str _ _ z hu
  |non=>cases r';exact SeqAt.EqAt.tuple_none z hu
  |tru=>cases r';exact SeqAt.EqAt.tuple_bool _ z hu
  |ref c y =>
   cases r'
   have:b=c:=by
    by_cases q:b=c/\x=y
    ·exact q.1
    ·rw[show eU (.ref b x) (.ref c y) = !decide (b=c/\x=y)from rfl,dzF q]at nc;cases nc
   subst this
   rw[show veq (.ref b) (.ref b)=true from dzT rfl]
   exact SeqAt.EqAt.same _
theorem mJ(r:RelV (kV k) u)(t:fL H k)(r':RelV (kV k') v)(t':fL H k')(nc:eU k k'=false):veq u v=decide (k=k'):=by
 cases k<;>cases k'<;>first
  |(obtain⟨_,rfl⟩:=r;obtain⟨_,rfl⟩:=r';simp[veq])
  |(obtain⟨_,rfl⟩:=r;cases r';simp[veq])
  |(cases r;obtain⟨_,rfl⟩:=r';simp[veq])
  |(cases r;cases r';simp[veq])
  |skip
 ·rename_i a b _ _;by_cases h:a=b<;>simp[h]
 ·rename_i a b _ _;by_cases h:a=b<;>simp[h]
 ·intro e
  subst e
  have:=(show H _=some (.tup [.str _])from t).symm.trans (show H _=some (.tup [.str _])from t')
  cases this
  rfl
theorem tS{Q:Bool->Shared->Prop}(ok:HOk P w H s.heap)(r:RelV (kV k) u)(t:fL H k)(q:Q true s):wpAny (model P w) A (eqIsQuiet 8 u) Q E s:=by
 cases k with
 |ref b x=>cases r;exact wpAny_eqIsQuiet_tuple (hf_ ok t).1 q
 |inl i=>obtain⟨_,rfl⟩:=r;rw[eqIsQuiet_byValue 8 rfl];exact wpAny_pure q
 |inr i=>obtain⟨_,rfl⟩:=r;rw[eqIsQuiet_byValue 8 rfl];exact wpAny_pure q
 |non=>cases r;rw[eqIsQuiet_byValue 8 rfl];exact wpAny_pure q
 |tru=>cases r;rw[eqIsQuiet_byValue 8 rfl];exact wpAny_pure q
theorem v8(r:RelV (kV k) u):veq u u=true:=by
 cases k with
 |inl i=>obtain⟨_,rfl⟩:=r;exact beq_self_eq_true _
 |inr i=>obtain⟨_,rfl⟩:=r;exact beq_self_eq_true _
 |non=>cases r;rfl
 |tru=>cases r;rfl
 |ref b x=>cases r;exact dzT rfl
theorem yW(r:RelV (kV k) u)(h:k.odd=true):isExactStrKey u=false:=by
 cases k with
 |inl i=>cases h
 |inr i=>cases h
 |non=>cases r;rfl
 |tru=>cases r;rfl
 |ref b x=>cases r;rfl
theorem Paired.nth{α β:Type}{R:α->β->Prop}:∀{l:List α} {m:List β} {i:Nat} {b:β},Paired R l m->m[i]? = some b->∃a,l[i]? = some a/\R a b
 |_,_,_,_,.nil,e=>by simp at e
 |_,_,0,_,.cons r _,e=>by simp at e;subst e;exact⟨_,rfl,r⟩
 |_,_,i+1,b,.cons _ t,e=>by
  obtain⟨u,h1,h2⟩:=Paired.nth (i:=i) t (by simpa using e)
  exact⟨u,by simpa using h1,h2⟩
theorem Paired.nth'{α β:Type}{R:α->β->Prop}:∀{l:List α} {m:List β} {i:Nat} {a:α},Paired R l m->l[i]? = some a->∃b,m[i]? = some b/\R a b
 |_,_,_,_,.nil,e=>by simp at e
 |_,_,0,_,.cons r _,e=>by simp at e;subst e;exact⟨_,rfl,r⟩
 |_,_,i+1,b,.cons _ t,e=>by
  obtain⟨u,h1,h2⟩:=Paired.nth' (i:=i) t (by simpa using e)
  exact⟨u,by simpa using h1,h2⟩
variable{kvs:List (Key×V)}{es:Array DictEntry}
theorem wZ(rel:Paired (iV P w H) kvs es.toList){e:DictEntry}(he:e∈es):∃p∈kvs,iV P w H p e:=by
 obtain⟨i,hi,rfl⟩:=Array.mem_iff_getElem.mp he
 obtain⟨p,h1,h2⟩:=Paired.nth (i:=i) rel (by rw[Array.getElem?_toList];exact Array.getElem?_eq_getElem hi)
 exact⟨p,bE h1,h2⟩
theorem q9{i j:Nat}{p q:Key×V}(ap:qR kvs)(hi:kvs[i]? = some p)(hj:kvs[j]? = some q)(e:p.1=q.1):i=j:=by
 obtain⟨Dd,rfl⟩:=aV.mp hi
 obtain⟨Iu,rfl⟩:=aV.mp hj
 have h:=List.pairwise_iff_getElem.mp ap
 rcases Nat.lt_trichotomy i j with z | z | z
 ·exact absurd e (h i j Dd Iu z).1
 ·exact z
 ·exact absurd e.symm (h j i Iu Dd z).1
theorem lL(ok:HOk P w H s.heap)(hu:A.units<cLine)(rel:Paired (iV P w H) kvs es.toList)(ap:qR kvs)(r:RelV (kV k) u)(t:fL H k)(nc:∀p∈kvs,eU p.1 k=false)(od:k.odd=true\/dJ kvs=true) :
  Seek P w A E s es u (khash P w k) (λe=>veq e.key u)where
 eq:=λe he _ Q q=>by
  obtain⟨p,hp,h1,h2,h3,h4⟩:=wZ rel he
  exact aPp ok hu h2 h4 r t (nc p hp) _ _ _ _ q
 qu:=λQ q=>tS ok r t q
 qe:=λe he Q q=>by
  obtain⟨p,hp,h1,h2,h3,h4⟩:=wZ rel he
  exact tS ok h2 h4 q
 st:=λe he z=>by
  obtain⟨p,hp,h1,h2,h3,h4⟩:=wZ rel he
  have q:=mJ h2 h4 r t (nc p hp)
  rw[z,v8 r]at q
  rw[h1,of_decide_eq_true q.symm]
 odd:=λz1 z2=>by
  rcases od with z | z
  ·rw[yW r z]at z1;cases z1
  ·obtain ⟨p,hp,z⟩:=eC.mp z
   obtain⟨i,hi⟩:=List.getElem?_of_mem hp
   obtain⟨e,he,h1,h2,h3⟩:=Paired.nth' rel hi
   rw[Array.getElem?_toList]at he
   have q:=yW h2 z
   rw[(Array.all_eq_true_iff_forall_mem.mp z2) e (Array.mem_of_getElem? he)]at q
   cases q
 one:=λi j e f he hf _ _ h1 h2=>by
  obtain⟨p,hp,a1,a2,a3,a4⟩:=Paired.nth (i:=i) rel (by rw[Array.getElem?_toList];exact he)
  obtain⟨q,hq,b1,b2,b3,b4⟩:=Paired.nth (i:=j) rel (by rw[Array.getElem?_toList];exact hf)
  rw[mJ a2 a4 r t (nc p (bE hp))]at h1
  rw[mJ b2 b4 r t (nc q (bE hq))]at h2
  exact q9 ap hp hq ((of_decide_eq_true h1).trans (of_decide_eq_true h2).symm)
theorem aLv{e:DictEntry}{k k':Key}{v:V}(h1:(cT P w).is k e.key=true)(h2:(cT P w).is k' e.key=true)(h3:e.hash=(cT P w).hash k')(h4:RelV v e.val):k.odd=false/\iV P w H (k,v) e:=by
 cases(cT P w).inj _ _ _ h1 h2
 rcases bk_ h1 with⟨i,t,rfl,z⟩ | ⟨x,t,rfl,z⟩
 ·exact⟨rfl,h3,⟨t,z⟩,h4,True.intro⟩
 ·exact⟨rfl,h3,⟨t,z⟩,h4,True.intro⟩
theorem zY:∀{es:List DictEntry} {vs:List (Key×Value)} {kvs:List (Key×V)},Pairs (cT P w) es vs->KV kvs vs->(∀e∈es,∃k,(cT P w).is k e.key=true/\e.hash=(cT P w).hash k)->dJ kvs=false/\Paired (iV P w H) kvs es
 |_,_,_,.nil,r,_=>by cases r;exact⟨rfl,.nil⟩
 |_,_,_,.cons a b t,r,hk=>by
  cases r with
  | @cons p _ ps _ h r =>
   obtain⟨k',h1,h2⟩:=hk _ aA
   obtain⟨c1,c2⟩:=zY t r λe he=>hk e (aB _ he)
   obtain⟨kk,v⟩:=p
   obtain⟨e1,e2⟩:=aLv (H:=H) (by rw[<-h.1]at a;exact a) h1 h2 (b ▸ h.2)
   exact⟨by unfold dJ;rw[eP,e1];exact c1,.cons e2 c2⟩
theorem aGu{h:Heap}{a:Addr}{vs:List (Key×Value)}(rel:KV kvs vs)(dd:h.DictOf (cT P w) a vs):dJ kvs=false/\∃es ep,DAt h a es ep/\Paired (iV P w H) kvs es.toList:=by
 obtain⟨o,es,ep,h1,h2,h3,hk,hp,hn⟩:=dd
 obtain⟨c1,c2⟩:=zY (H:=H) hp rel λe he=>hk e (Array.mem_toList_iff.mp he)
 exact⟨c1,es,ep,⟨o,h1,h2,h3⟩,c2⟩
theorem vJ{k k':Key}(h:k.odd=false)(h':k'.odd=false):eU k k'=false:=by
 cases k<;>cases k'<;>first | rfl | exact Bool.noConfusion h | exact Bool.noConfusion h'
end
section
variable{κ:Type}[DecidableEq κ]
def iH(kvs:List (κ×V))(k:κ):Option V:=(kvs.find? λkv=>decide (kv.1=k)).map (·.2)
def iW(kvs:List (κ×V))(k:κ)(v:V):List (κ×V):=
 if(kvs.any λkv=>decide (kv.1=k))=true then kvs.map (λkv=>if kv.1=k then(kv.1,v)else kv)else kvs++[(k,v)]
def nV(kvs:List (κ×V))(k:κ):List (κ×V):=kvs.filter λkv=>decide (kv.1≠k)
theorem mK{p:κ×V}{r:List (κ×V)}{k:κ}(e:p.1=k):iH (p::r) k=some p.2:=by simp[iH,fA,e]
theorem mL{p:κ×V}{r:List (κ×V)}{k:κ}(e:¬p.1=k):iH (p::r) k=iH r k:=by simp[iH,fA,e]
theorem tG(k:κ):∀kvs:List (κ×V),(kvs.any λkv=>decide (kv.1=k))=(iH kvs k).isSome
 | []=>rfl
 |p::r=>by
  rw[eP]
  by_cases e:p.1=k
  ·simp only[mK e,dzT e,Bool.true_or,bN]
  ·rw[mL e,dzF e,Bool.false_or];exact tG k r
theorem hq_(kvs:List (κ×V))(k:κ)(v:V):(iW kvs k v).length<=kvs.length+1:=by
 unfold iW
 split
 ·rw[aD];lia
 ·rw[aJ,aI,aP];lia
theorem RelO.isSome_eq{o:Option V}{u:Option Value}(r:RelO o u):o.isSome=u.isSome:=by
 cases o with
 |none=>cases u with
  |none=>rfl
  |some _=>exact(show False from r).elim
 |some _=>cases u with
  |none=>exact(show False from r).elim
  |some _=>rfl
theorem RelO.getD{o:Option V}{u:Option Value}{d:V}{d':Value}(r:RelO o u)(rd:RelV d d'):RelV (o.getD d) (u.getD d'):=by
 cases o with
 |none=>cases u with
  |none=>exact rd
  |some _=>exact(show False from r).elim
 |some _=>cases u with
  |none=>exact(show False from r).elim
  |some _=>exact r
theorem KV.val{kvs:List (κ×V)}{vs:List (κ×Value)}(r:KV kvs vs)(k:κ):RelO (iH kvs k) (valueAt vs k):=by
 unfold KV at r
 induction r with
 |nil=>exact True.intro
 | @cons p q ps qs h t ih =>
  obtain⟨h1,h2⟩:=h
  by_cases e:p.1=k
  ·have e':q.1=k:=h1.symm.trans e
   have b:valueAt (q::qs) k=some q.2:=by simp[valueAt,fA,e']
   rw[mK e,b];exact h2
  ·have e':¬ q.1=k:=fun z=>e (h1.trans z)
   have b:valueAt (q::qs) k=valueAt qs k:=by simp[valueAt,fA,e']
   rw[mL e,b];exact ih
theorem KV.any{kvs:List (κ×V)}{vs:List (κ×Value)}(r:KV kvs vs)(k:κ):(kvs.any λkv=>decide (kv.1=k))=vs.any λkv=>decide (kv.1=k):=by
 unfold KV at r
 induction r with
 |nil=>rfl
 |cons h t ih=>rw[eP,eP,ih,h.1]
theorem KV.repl{kvs:List (κ×V)}{vs:List (κ×Value)}(r:KV kvs vs)(k:κ){y:V}{u:Value}(ry:RelV y u) :
  KV (kvs.map λkv=>if kv.1=k then(kv.1,y)else kv) (vs.map λkv=>if kv.1=k then(kv.1,u)else kv):=by
 unfold KV at r ⊢
 induction r with
 |nil=>exact .nil
 | @cons p q ps qs h t ih =>
  rw[aL,aL]
  refine .cons ?_ ih
  obtain⟨h1,h2⟩:=h
  by_cases e:p.1=k
  ·rw[if_pos e,if_pos (h1.symm.trans e)];exact⟨h1,ry⟩
  ·rw[if_neg e,if_neg (λz=>e (h1.trans z))];exact⟨h1,h2⟩
theorem KV.put{kvs:List (κ×V)}{vs:List (κ×Value)}(r:KV kvs vs)(k:κ){y:V}{u:Value}(ry:RelV y u):KV (iW kvs k y) (stored vs k u):=by
 unfold iW stored
 rw[r.any k]
 by_cases e:(vs.any λkv=>decide (kv.1=k))=true
 ·rw[if_pos e,if_pos e];exact r.repl k ry
 ·rw[if_neg e,if_neg e];exact Paired.snoc r ⟨rfl,ry⟩
theorem KV.drop{kvs:List (κ×V)}{vs:List (κ×Value)}(r:KV kvs vs)(k:κ):KV (nV kvs k) (without vs k):=by
 unfold KV at r ⊢
 unfold nV without
 induction r with
 |nil=>exact .nil
 | @cons p q ps qs h t ih =>
  obtain⟨h1,h2⟩:=h
  rw[List.filter_cons,List.filter_cons]
  by_cases e:p.1=k
  ·have a:¬ decide (p.1≠k)=true:=by simp [e]
   have b:¬decide (q.1≠k)=true:=by simp[h1.symm.trans e]
   rw[if_neg a,if_neg b];exact ih
  ·have e':¬ q.1=k:=fun z=>e (h1.trans z)
   have a:decide (p.1≠k)=true:=by simp[e]
   have b:decide (q.1≠k)=true:=by simp[e']
   rw[if_pos a,if_pos b];exact .cons ⟨h1,h2⟩ ih
theorem KV.keys{kvs:List (κ×V)}{vs:List (κ×Value)}(r:KV kvs vs):kvs.map (·.1)=vs.map (·.1):=by
 unfold KV at r
 induction r with
 |nil=>rfl
 |cons h t ih=>rw[aL,aL,ih,h.1]
theorem KV.length{kvs:List (κ×V)}{vs:List (κ×Value)}(r:KV kvs vs):kvs.length=vs.length:=Paired.length r
theorem aCp(kvs:List (κ×V))(k:κ):(nV kvs k).length<=kvs.length:=List.length_filter_le _ _
end
theorem pW{P:Program}{w:World}{k:Key}{u:Value}(o:k.odd=false)(r:RelV (kV k) u):(cT P w).is k u=true:=by
 cases k with
 |inl i=>obtain⟨t,e⟩:=(show ∃t,u=Value.int i t from r);subst e;exact uH P w i t
 |inr x=>obtain⟨t,e⟩:=(show ∃t,u=Value.str x t from r);subst e;exact hp_ P w x t
 |non=>cases o
 |tru=>cases o
 |ref b x=>cases o
section
variable{P:Program}{w:World}{H:Hp}{h:Heap}{a:Addr}
theorem yM{u:HO}(ok:HOk P w H h)(e:Rd H a u):ObjOk P w H h a u:=e.ok ok
theorem vB{kvs:List (Key×V)}(ok:HOk P w H h)(e:Rd H a (.dK kvs))(o:dJ kvs=false):kvs.length<=sizeLine/\(a == sysModules)=false/\∃vs,KV kvs vs/\h.DictOf (cT P w) a vs:=by
 rcases(show ObjOk P w H h a (.dK kvs)from yM ok e)with⟨z,y,q | q⟩
 ·exact⟨z,y,q⟩
 ·exact absurd (o.symm.trans q.1) aE
theorem fv_{kvs:List (Key×V)}(ok:HOk P w H h)(e:Rd H a (.dK kvs)):kvs.length<=sizeLine/\(a == sysModules)=false/\qR kvs/\∃es ep,DAt h a es ep/\Paired (iV P w H) kvs es.toList:=by
 rcases(show ObjOk P w H h a (.dK kvs)from yM ok e)with⟨z,y,⟨vs,q,dd⟩ | ⟨_,ap,q⟩⟩
 ·obtain ⟨o,es,ep,p,r⟩:=aGu (H:=H) q dd
  refine⟨z,y,?_,es,ep,p,r⟩
  have nd:(kvs.map (·.1)).Nodup:=by
   rw[q.keys]
   obtain⟨_,_,_,_,_,_,_,_,hn⟩:=dd
   exact hn
  refine List.Pairwise.imp_of_mem (λ{x y} hx hy h=>⟨h,?_⟩) (eM.mp nd)
  have ev:=λx hx=>(Bool.not_eq_true _).mp λz=>absurd (o.symm.trans (eC.mpr ⟨x,hx,z⟩)) aE
  exact vJ (ev x hx) (ev y hy)
 ·exact⟨z,y,ap,q⟩
theorem aCt{kvs:List (Key×V)}(ok:HOk P w H h)(e:H a=some (.dK kvs))(o:dJ kvs=false):kvs.length<=sizeLine/\(a == sysModules)=false/\∃vs,KV kvs vs/\h.DictOf (cT P w) a vs:=vB ok (.inl e) o
end
def aKt(k:Key)(kvs:List (Key×V)):Prop:=(∀p∈kvs,eU p.1 k=false)/\(k.odd=true->dJ kvs=true)
def DGet(H:Hp)(a:Addr)(y:V)(r:Option V):Prop:=∃kvs k,Rd H a (.dK kvs)/\y=kV k/\fL H k/\aKt k kvs/\r=iH kvs k
def DPut(H:Hp)(a:Addr)(y v:V)(H':Hp):Prop:=∃kvs k,H a=some (.dK kvs)/\y=kV k/\fL H k/\kvs.length<sizeLine/\((k.odd=false/\dJ kvs=false)\/((k.odd=true\/dJ kvs=true)/\(∀p∈kvs,eU p.1 k=false)/\iH kvs k=none))/\H'=upd H a (.dK (iW kvs k v))
theorem v9{kvs:List (Key×V)}{k:Key}(h:iH kvs k=none):∀p∈kvs,p.1≠k:=λp hp e=>by
 have:=List.find?_eq_none.mp (Option.map_eq_none_iff.mp h) p hp
 simp[e]at this
theorem sC{P:Program}{w:World}{H:Hp}{kvs:List (Key×V)}{k:Key}{u:Value}{es:Array DictEntry}(rel:Paired (iV P w H) kvs es.toList)(ap:qR kvs)(r:RelV (kV k) u)(t:fL H k)(nc:∀p∈kvs,eU p.1 k=false) :
  ∃o,Got es (khash P w k) (λe=>veq e.key u) o/\RelO (iH kvs k) o:=by
 cases hv:iH kvs k with
 |none =>
  refine⟨none,.inl ⟨rfl,λi e he hn=>?_⟩,True.intro⟩
  obtain⟨p,hp,a1,a2,a3,a4⟩:=Paired.nth (i:=i) rel (by rw[Array.getElem?_toList];exact he)
  show veq e.key u=false
  rw[mJ a2 a4 r t (nc p (bE hp))]
  exact dzF (v9 hv p (bE hp))
 |some v =>
  obtain⟨p,hp,rfl⟩:=cJ.mp hv
  have hk:p.1=k:=by simpa using List.find?_some hp
  obtain⟨i,hi⟩:=List.getElem?_of_mem (List.mem_of_find?_eq_some hp)
  obtain⟨e,he,a1,a2,a3,a4⟩:=Paired.nth' rel hi
  rw[Array.getElem?_toList]at he
  refine⟨some e.val,.inr ⟨i,e,he,by rw[a1,hk],?_,rfl⟩,a3⟩
  show veq e.key u=true
  rw[mJ a2 a4 r t (nc p (bE hi))]
  exact dzT hk
section
variable{X:Cx}{Aa:eS}{σ:St}{H:Hp}{s:Shared}{a:Addr}{y v:V}{u r:Value}{o:Option V}{A:Around}{E:eQ}
theorem Inv.big(I:Inv X Aa σ H s):sysModules<s.heap.objs.size:=by
 have h:mainGlobals<s.heap.objs.size:=(I.mod.glob.keeps I.bk).lt
 exact Nat.lt_trans (by decide) h
theorem m_{Q:eQ}(hu:A.units+1<cLine)(I:Inv X Aa σ H s)(g:DGet H a y (some v))(ry:RelV y u)(h:∀w' s',Inv X Aa σ H s'->RelV v w'->Q w' s') :
  wpAny (model X.prog X.w) A (getItem (.ref a) u) Q E s:=by
 obtain⟨kvs,k,e,ey,t,⟨nc,od⟩,l⟩:=g
 subst ey
 by_cases o:dJ kvs=true
 ·obtain ⟨z,hd,ap,es,ep,D,rel⟩:=fv_ I.hok e
  obtain⟨n,hh⟩:=lW (A:=A.in1) (E:=E) I.hok hu ry t
  obtain⟨o',g,ro⟩:=sC rel ap ry t nc
  rw[<-l]at ro
  obtain⟨w',rfl,rw'⟩:=RelO.some_of (v:=v) ro
  exact aBx D hh (lL I.hok hu rel ap ry t nc (.inr o)) g (h w' _ (I.tok _) rw')
 ·rw [Bool.not_eq_true] at o
  obtain⟨z,hd,vs,rel,dd⟩:=vB I.hok e o
  obtain⟨w',hw,rw'⟩:=RelO.some_of (v:=v) (o:=valueAt vs k) (by rw[l];exact rel.val k)
  exact wpAny_getItem_of (pW (by cases hk:k.odd with | false=>rfl | true=>exact absurd (o.symm.trans (od hk)) aE) ry) dd.mapOf hw (h w' _ (I.tok _) rw')
theorem aSu{Q:eQ}(hu:A.units+1<cLine)(I:Inv X Aa σ H s)(g:DGet H a y o)(ry:RelV y u)(h:∀s',Inv X Aa σ H s'->Q (.bool (o.isSome)) s') :
  wpAny (model X.prog X.w) A (compareOp .In u (.ref a)) Q E s:=by
 obtain⟨kvs,k,e,ey,t,⟨nc,od⟩,l⟩:=g
 subst ey
 by_cases ho:dJ kvs=true
 ·obtain ⟨z,hd,ap,es,ep,D,rel⟩:=fv_ I.hok e
  obtain⟨n,hh⟩:=lW (A:=A.in1) (E:=E) I.hok hu ry t
  obtain⟨o',g,ro⟩:=sC rel ap ry t nc
  refine aLf D hd hh (lL I.hok hu rel ap ry t nc (.inr ho)) g ?_
  rw[<-ro.isSome_eq,<-l]
  exact h _ (I.tok _)
 ·rw [Bool.not_eq_true] at ho
  obtain⟨z,hd,vs,rel,dd⟩:=vB I.hok e ho
  refine wpAny_in_of (pW (by cases hk:k.odd with | false=>rfl | true=>exact absurd (ho.symm.trans (od hk)) aE) ry) hd dd.mapOf ?_
  rw[<-(rel.val k).isSome_eq,<-l]
  exact h _ (I.tok _)
theorem aGy{Q:eQ}(hu:A.units+1<cLine)(I:Inv X Aa σ H s)(g:DGet H a y o)(ry:RelV y u)(h:∀s',Inv X Aa σ H s'->Q (.bool (!o.isSome)) s') :
  wpAny (model X.prog X.w) A (compareOp .NotIn u (.ref a)) Q E s:=by
 obtain⟨kvs,k,e,ey,t,⟨nc,od⟩,l⟩:=g
 subst ey
 by_cases ho:dJ kvs=true
 ·obtain ⟨z,hd,ap,es,ep,D,rel⟩:=fv_ I.hok e
  obtain⟨n,hh⟩:=lW (A:=A.in1) (E:=E) I.hok hu ry t
  obtain⟨o',g,ro⟩:=sC rel ap ry t nc
  refine j2 D hd hh (lL I.hok hu rel ap ry t nc (.inr ho)) g ?_
  rw[<-ro.isSome_eq,<-l]
  exact h _ (I.tok _)
 ·rw [Bool.not_eq_true] at ho
  obtain⟨z,hd,vs,rel,dd⟩:=vB I.hok e ho
  refine wpAny_notIn_of (pW (by cases hk:k.odd with | false=>rfl | true=>exact absurd (ho.symm.trans (od hk)) aE) ry) hd dd.mapOf ?_
  rw[<-(rel.val k).isSome_eq,<-l]
  exact h _ (I.tok _)
theorem mD{h':Heap}{t':Nat}{ob:HO}(I:Inv X Aa σ H s)(mu:Mut (H a))(hs:Heap.SameBut a s.heap h')(he:∃q,h'.get? a=some q)(new:ObjOk X.prog X.w (upd H a ob) h' a ob) :
  Inv X Aa σ (upd H a ob) { s with heap:=h',toks:=t' }:=
 I.write (x:=a) (e:=a) mu (.inl rfl) (λb q hb z=>(hs.2 b hb).trans z) he new
theorem xA{P:Program}{w:World}{H':Hp}{h':Heap}{kvs:List (Key×V)}{vs:List (Key×Value)}(z:kvs.length<=sizeLine)(hd:(a == sysModules)=false)(rel:KV kvs vs)(dd:h'.DictOf (cT P w) a vs) :
  ObjOk P w H' h' a (.dK kvs):=⟨z,hd,.inl ⟨vs,rel,dd⟩⟩
theorem m9{H':Hp}{Q:Unit->Shared->Prop}(hu:A.units+1<cLine)(I:Inv X Aa σ H s)(g:DPut H a y v H')(ry:RelV y u)(rv:RelV v r)(h:∀s',Inv X Aa σ H' s'->Q () s') :
  wpAny (model X.prog X.w) A (setItem (.ref a) u r) Q E s:=by
 obtain⟨kvs,k,e,ey,t,l,od,eH⟩:=g
 subst ey eH
 have hl:(iW kvs k v).length<=sizeLine:=by have:=hq_ kvs k v;omega
 rcases od with⟨o1,o2⟩ | ⟨od,nc,hv⟩
 ·obtain ⟨z,hd,vs,rel,dd⟩:=aCt I.hok e o2
  have hz:vs.length<=sizeLine:=by rw[<-rel.length];exact z
  refine wpAny_setItem_pairs (hsz:=hz) (pW o1 ry) dd λh' dd' hs=>h _ ?_
  have he:∃q,h'.get? a=some q:=let ⟨q,_,_,hq,_⟩:=dd';⟨q,hq⟩
  exact mD I (by rw[e];exact True.intro) hs he (xA hl hd (rel.put k rv) dd')
 ·obtain ⟨z,hd,ap,es,ep,D,rel⟩:=fv_ I.hok (.inl e)
  obtain⟨n,hh⟩:=lW (A:=A.in1) (E:=E) I.hok hu ry t
  obtain⟨o',g,ro⟩:=sC rel ap ry t nc
  rw[hv]at ro
  cases RelO.none_of ro
  have An:∀(i:Nat) e,es[i]? = some e->e.hash=khash X.prog X.w k->veq e.key u=false:=by
   rcases g with⟨_,g⟩ | ⟨_,_,_,_,_,g⟩
   ·exact g
   ·cases g
  have hp:iW kvs k v=kvs++[(k,v)]:=by
   unfold iW
   rw[if_neg (by rw[tG,hv];exact aE)]
  refine aEu D (by rw[<-Array.length_toList,<-Paired.length rel];exact z) hh (lL I.hok hu rel ap ry t nc od) An λh' D' hs=>h _ ?_
  obtain⟨ob,hob,_⟩:=id D'
  refine mD I (by rw[e];exact True.intro) hs ⟨ob,hob⟩ ⟨hl,hd,.inr ⟨?_,?_,_,_,D',?_⟩⟩
  ·rw [hp]
   unfold dJ
   rw[List.any_append]
   rcases od with z | z
   ·rw[eP,z,Bool.true_or,Bool.or_true]
   ·rw[show(kvs.any λkv=>kv.1.odd)=true from z,Bool.true_or]
  ·rw [hp]
   unfold qR
   rw[List.pairwise_append]
   exact⟨ap,List.pairwise_singleton _ _,λp hp q hq=>by rw[aH.mp hq];exact⟨v9 hv p hp,nc p hp⟩⟩
  ·rw [hp,Array.toList_push]
   refine Paired.snoc (Paired.mapP rel λp q z=>⟨z.1,z.2.1,z.2.2.1,?_⟩) ⟨rfl,ry,rv,?_⟩
   ·have:=z.2.2.2
    obtain⟨kk,vv⟩:=p
    cases kk<;>first | exact True.intro | exact(eJ (yX (show H _=some (.tup _)from this) e (λz=>nomatch z))).trans this
   ·cases k<;>first | exact True.intro | exact(eJ (yX (show H _=some (.tup _)from t) e (λz=>nomatch z))).trans t
end
section
variable{X:Cx}{Aa:eS}{σ:St}{H:Hp}{s:Shared}{a:Addr}{kvs:List (Key×V)}{k:Key}{u:Value}{A:Around}{E:eQ}
theorem aPv{v:V}{more:List Value}{Q:eQ}(I:Inv X Aa σ H s)(e:H a=some (.dK kvs))(o:dJ kvs=false)(ko:k.odd=false)(ry:RelV (kV k) u)(l:iH kvs k=some v)(hm:more=[]\/∃x,more=[x])
  (h:∀w' s',Inv X Aa σ (upd H a (.dK (nV kvs k))) s'->RelV v w'->Q w' s'):wpAny (model X.prog X.w) A (call (.builtin "dict.pop") (.ref a::u::more)) Q E s:=by
 obtain⟨z,hd,vs,rel,dd⟩:=aCt I.hok e o
 obtain⟨w',hw,rw'⟩:=RelO.some_of (v:=v) (o:=valueAt vs k) (by rw[<-l];exact rel.val k)
 have hp:(keyPart u).isSome=true:=by
  cases k with
  |inl i=>obtain⟨t,q⟩:=(show ∃t,u=Value.int i t from ry);subst q;rfl
  |inr x=>obtain⟨t,q⟩:=(show ∃t,u=Value.str x t from ry);subst q;rfl
  |non=>cases ko
  |tru=>cases ko
  |ref b x=>cases ko
 have ha:argsOk "dict.pop" ⟨.ref a::u::more,[]⟩:=by
  rcases hm with q | ⟨x,q⟩
  ·subst q;exact PySem.F.args_dict_pop_2 _ _
  ·subst q;exact PySem.F.args_dict_pop_3 _ _ _
 refine call_meetsIn PySem.F.slot_dict_pop dd.typeIs PySem.F.entry_dict_pop ha (meets_dict_pop_there (cT X.prog X.w) a (pW ko ry) more hm hp)
  ⟨vs,w',dd,by rw[<-rel.length];exact z,hw,λh' dd' hs=>h w' _ ?_ rw'⟩
 have he:∃q,h'.get? a=some q:=let ⟨q,_,_,hq,_⟩:=dd';⟨q,hq⟩
 exact mD I (by rw[e];exact True.intro) hs he (xA (nzL (aCp kvs k) z) hd (rel.drop k) dd')
theorem aPw{Q:eQ}(I:Inv X Aa σ H s)(e:Rd H a (.dK kvs))(h:∀t s',Inv X Aa σ H s'->Q (.int kvs.length t) s'):wpAny (model X.prog X.w) A (call (.builtin "len") [.ref a]) Q E s:=by
 obtain⟨z,hd,ap,es,ep,D,rel⟩:=fv_ I.hok e
 have hl:kvs.length=es.size:=by rw[<-Array.length_toList];exact Paired.length rel
 rw[hl]at h
 exact aGf hd D (by rw[sizeLine_eq]at z;omega) λt t'=>h t _ (I.tok _)
end
def aMo(i:Expr):Prop:=∀ov iv,subscripted i false ov iv=operate [ov,iv] (getItem ov iv)
theorem aEo{prog:Program}{w:World}{A:Around}{E:eQ}{s:Shared}{env:Env}{value slice:Expr}{pos:Pos}{T id:String}{Q:eQ}
  (hl:typeLookup (.type T) "__getitem__" = pure (some (.builtin id))) (hs:aMo slice)
  (h:wpAny (model prog w) A (eval value env) (λo s₁=>wpAny (model prog w) A (eval slice env) (λi s₂=>s₂.TypeIs o T/\wpAny (model prog w) A (getItem o i) Q E s₂) E s₁) E s) :
  wpAny (model prog w) A (eval (.Subscript value slice pos) env) Q E s:=by
 refine Subscript_ (wpAny_mono h (λo s₁ h₁=>wpAny_mono h₁ (λi s₂ h₂=>?_) λ_ _ x=>x) λ_ _ x=>x)
 obtain⟨hT,h₂⟩:=h₂
 unfold subscriptTail
 refine wpAny_bind ?_
 rw[getitemInPython_of_ne hT.not_modules]
 refine wpAny_bind (wpAny_specialOf hT hl ?_)
 have fin:wpAny (model prog w) A (subscripted slice false o i) (λr s₃=>wpAny (model prog w) A (letTemporaryGo value o r >>= λ_=>pure r) Q E s₃) E s₂:=by
  rw[hs o i]
  exact wpAny_operating (wpAny_mono h₂ (λr s₃ h₃=>wpAny_bind (wpAny_letTemporaryGo (wpAny_pure h₃))) λ_ _ x=>x)
 first
  |exact wpAny_pure (wpAny_bind fin)
  |exact wpAny_bind (wpAny_pure (wpAny_bind fin))
  |exact wpAny_bind fin
theorem vD{X:Cx}{Aa:eS}{σ:St}{H:Hp}{s:Shared}{a:Addr}{y:V}{o:Option V}(I:Inv X Aa σ H s)(g:DGet H a y o):s.TypeIs (.ref a) "dict":=by
 obtain⟨kvs,k,e,_⟩:=g
 obtain⟨o,_,_,h1,h2,_⟩:=fu_ (yM I.hok e)
 exact⟨o,h1,h2.1⟩
def aNw(td ty:TE):TE:=λσ H Q=>td σ H λx H1=>ty σ H1 λy H2=>∃a v,x=.ref a/\DGet H2 a y (some v)/\Q v H2
def aRq(ty td:TE):TE:=λσ H Q=>ty σ H λy H1=>td σ H1 λx H2=>∃a o,x=.ref a/\DGet H2 a y o/\Q (.bl o.isSome) H2
def yG(ty td:TE):TE:=λσ H Q=>ty σ H λy H1=>td σ H1 λx H2=>∃a o,x=.ref a/\DGet H2 a y o/\Q (.bl (!o.isSome)) H2
def y_(td ty tv:TE):TS:=λD σ H=>tv σ H λv H1=>td σ H1 λx H2=>ty σ H2 λy H3=>∃a H4,x=.ref a/\DPut H3 a y v H4/\D.nx σ H4
section
variable{X:Cx}{o i e value:Expr}{pos pos' tpos:Pos}{td ty tv:TE}
theorem aFi(hu:X.A.units+1<cLine)(ho:PE X o td)(hi:PE X i ty)(hs:aMo i):PE X (.Subscript o i pos) (aNw td ty):=by
 intro Aa s σ H Q I h
 refine aEo PySem.F.slot_dict_getitem.lookup hs (dX (ho Aa s σ H _ I h) λu s1 ⟨x,H1,I1,rx,q1⟩=>dX (hi Aa s1 σ H1 _ I1 q1) λiv s2 ⟨y,H2,I2,ry,a,v,ex,g,q2⟩=>?_)
 subst ex
 obtain rfl:u=Value.ref a:=rx
 exact⟨vD I2 g,m_ hu I2 g ry λw' s3 I3 rw'=>⟨v,H2,I3,rw',q2⟩⟩
theorem aJz(hu:X.A.units+1<cLine)(hi:PE X i ty)(ho:PE X o td):PC X .In i o (aRq ty td):=by
 intro Aa s σ H Q I h
 refine dX (hi Aa s σ H _ I h) λiv s1 ⟨y,H1,I1,ry,q1⟩=>dX (ho Aa s1 σ H1 _ I1 q1) λu s2 ⟨x,H2,I2,rx,a,ov,ex,g,q2⟩=>?_
 subst ex
 obtain rfl:u=Value.ref a:=rx
 exact aSu hu I2 g ry λs3 I3=>⟨.bl ov.isSome,H2,I3,rfl,q2⟩
theorem i4(hu:X.A.units+1<cLine)(hi:PE X i ty)(ho:PE X o td):PC X .NotIn i o (yG ty td):=by
 intro Aa s σ H Q I h
 refine dX (hi Aa s σ H _ I h) λiv s1 ⟨y,H1,I1,ry,q1⟩=>dX (ho Aa s1 σ H1 _ I1 q1) λu s2 ⟨x,H2,I2,rx,a,ov,ex,g,q2⟩=>?_
 subst ex
 obtain rfl:u=Value.ref a:=rx
 exact aGy hu I2 g ry λs3 I3=>⟨.bl (!ov.isSome),H2,I3,rfl,q2⟩
theorem ff_(hu:X.A.units+1<cLine)(ho:PE X o td)(hi:PE X i ty)(hv:PE X value tv)(hs:swapsWith value (some (.Subscript o i pos')) pos.line X.env=pure false) :
  PS X (.Assign [.Subscript o i pos'] value pos) (y_ td ty tv):=by
 intro Aa s σ H D I h
 refine wpAny_Assign_Subscript (dX (hv Aa s σ H _ I h) λr s1 ⟨v,H1,I1,rv,q1⟩=>dX (ho Aa s1 σ H1 _ I1 q1) λu s2 ⟨x,H2,I2,rx,q2⟩=>dX (hi Aa s2 σ H2 _ I2 q2) λiv s3 ⟨y,H3,I3,ry,a,H4,ex,g,q3⟩=>?_) hs
 subst ex
 obtain rfl:u=Value.ref a:=rx
 exact m9 hu I3 g ry rv λs4 I4=>⟨σ,H4,I4,q3⟩
end
theorem vC{P:Program}{w:World}{H:Hp}(h:Heap)(hb:sysModules<h.objs.size):ObjOk P w H (h.push { cls:=.type "dict",data:=.dict #[] }) h.objs.size (.dK []):=
 ⟨dU _,beq_eq_false_iff_ne.mpr (Ne.symm (cD hb)),.inl ⟨[],.nil,Heap.DictOf.new h⟩⟩
def aJe:TE:=λ_ H Q=>∀p,H p=none->Q (.ref p) (upd H p (.dK []))
section
variable{X:Cx}{pos:Pos}
theorem aAu:PE X (.Dict [] [] pos) aJe:=λAa s σ H Q I h =>
 wpAny_Dict_empty ⟨.ref s.heap.objs.size,_,I.laid (a:=s.heap.objs.size) (o:=.dK []) (t':=s.toks) (λ_ _ q=>aC _ q) (aK _) (vC s.heap I.big),rfl,h _ (I.hok.fresh (aK _))⟩
end
def wE:List (TE×TE)->St->Hp->(List (V×V)->Hp->Prop)->Prop
 | [],_,H,Q=>Q [] H
 |(tk,tv)::r,σ,H,Q=>tk σ H λx H1=>tv σ H1 λy H2=>wE r σ H2 λps H3=>Q ((x,y)::ps) H3
abbrev VV:List (V×V)->List (Value×Value)->Prop:=Paired λp q=>RelV p.1 q.1/\RelV p.2 q.2
def PPs(X:Cx)(pos:Pos)(keys:List (Option Expr))(values:List Expr)(trs:List (TE×TE)):Prop:=
 ∀(Aa:eS) (s:Shared) (σ:St) (H:Hp) (Q:List (V×V)->Hp->Prop),Inv X Aa σ H s->wE trs σ H Q ->
  wpAny (model X.prog X.w) X.A (evalPairs (pairTrees keys values X.env pos)) (λvs s'=>∃ps H',Inv X Aa σ H' s'/\VV ps vs/\Q ps H') X.xe s
theorem aFa{X:Cx}{pos:Pos}:PPs X pos [] [] []:=λAa s σ H Q I h=>pairTrees_nil_walk ⟨[],H,I,.nil,h⟩
theorem aAq{X:Cx}{pos:Pos}{k v:Expr}{ks:List (Option Expr)}{vs:List Expr}{tk tv:TE}{trs:List (TE×TE)}(hk:PE X k tk)(hv:PE X v tv)(hr:PPs X pos ks vs trs) :
  PPs X pos (some k::ks) (v::vs) ((tk,tv)::trs):=λAa s σ H Q I h =>
 pairTrees_cons_walk (dX (hk Aa s σ H _ I h) λu s1 ⟨x,H1,I1,rx,q1⟩=>dX (hv Aa s1 σ H1 _ I1 q1) λw2 s2 ⟨y,H2,I2,ry,q2⟩ =>
  dX (hr Aa s2 σ H2 _ I2 q2) λws s3 ⟨ps,H3,I3,rel,q3⟩=>⟨(x,y)::ps,H3,I3,.cons ⟨rx,ry⟩ rel,q3⟩)
def nF(kvs more:List (Key×V)):List (Key×V):=more.foldl (λAb kv=>iW Ab kv.1 kv.2) kvs
theorem KV.merge:∀{more:List (Key×V)} {rs:List (Key×Value)} {kvs:List (Key×V)} {vs:List (Key×Value)},KV more rs->KV kvs vs->KV (nF kvs more) (merged vs rs):=by
 intro more rs kvs vs r
 unfold KV at r
 induction r generalizing kvs vs with
 |nil=>intro q;exact q
 | @cons p q ps qs h t ih =>
  intro r0
  have e:KV (iW kvs p.1 p.2) (stored vs q.1 q.2):=by
   have:=r0.put p.1 h.2
   rw[<-h.1];exact this
  exact ih e
theorem fo_:∀(more kvs:List (Key×V)),(nF kvs more).length<=kvs.length+more.length
 | [],kvs=>by show kvs.length<=kvs.length+0;lia
 |p::r,kvs=>by
  have h1:=fo_ r (iW kvs p.1 p.2)
  have h2:=hq_ kvs p.1 p.2
  show(nF (iW kvs p.1 p.2) r).length<=_
  rw[aI];lia
theorem oD{P:Program}{w:World}:∀{kvs:List (Key×V)} {ws:List (Value×Value)},dJ kvs=false->VV (kvs.map λkv=>(kV kv.1,kv.2)) ws->∃rs,Carries (cT P w) ws rs/\KV kvs rs
 | [],_,_,r=>by rw[bI]at r;cases r;exact⟨[],True.intro,.nil⟩
 |p::kvs,_,ho,r=>by
  have Ip:p.1.odd=false/\dJ kvs=false:=by simpa [dJ]using ho
  rw[aL]at r
  cases r with
  | @cons a b as bs h t =>
   obtain⟨rs,c,q⟩:=oD (P:=P) (w:=w) Ip.2 t
   obtain⟨b1,b2⟩:=b
   exact⟨(p.1,b2)::rs,⟨pW Ip.1 h.1,rfl,c⟩,.cons ⟨rfl,h.2⟩ q⟩
def aNv(trs:List (TE×TE)):TE:=λσ H Q=>∀p,H p=none->wE trs σ (upd H p (.dK [])) λps H2=>H2 p=some (.dK [])/\∃kvs:List (Key×V),ps=kvs.map (λkv=>(kV kv.1,kv.2))/\dJ kvs=false/\kvs.length<=15/\Q (.ref p) (upd H2 p (.dK (nF [] kvs)))
theorem aFh{X:Cx}{pos:Pos}{keys:List (Option Expr)}{values:List Expr}{trs:List (TE×TE)}(h:PPs X pos keys values trs)(Aq:keys.all (·.isSome)=true)(hl:keys.length=values.length)(h0:keys≠[])
  (h15:keys.length<=15):PE X (.Dict keys values pos) (aNv trs):=by
 intro Aa s σ H Q I q
 have hn:=I.hok.fresh (aK s.heap.objs.size)
 have I1:=I.laid (a:=s.heap.objs.size) (o:=.dK []) (h':=s.heap.push { cls:=.type "dict",data:=.dict #[] }) (t':=s.toks) (λ_ _ q=>aC _ q) (aK _) (vC s.heap I.big)
 refine wpAny_Dict_walk (knd:=cT X.prog X.w) Aq hl h0 h15 (dX (h Aa _ σ _ _ I1 (q _ hn)) λws s2 ⟨ps,H2,I2,rel,e,kvs,ep,od,lk,q2⟩=>?_)
 subst ep
 obtain⟨rs,c,rk⟩:=oD (P:=X.prog) (w:=X.w) od rel
 obtain⟨z,hd,vs0,r0,dd⟩:=aCt I2.hok e rfl
 cases r0
 refine⟨rs,c,dd,λh' dd' hs=>⟨.ref s.heap.objs.size,_,?_,rfl,q2⟩⟩
 have hz:(nF [] kvs).length<=sizeLine:=by
  have h1:=fo_ kvs []
  rw[aP]at h1
  rw[sizeLine_eq];lia
 have he:∃q,h'.get? s.heap.objs.size=some q:=let ⟨q,_,_,hq,_⟩:=dd';⟨q,hq⟩
 exact mD I2 (by rw[e];exact True.intro) hs he (xA hz hd (rk.merge .nil) dd')
structure M1(X:Cx)(o:Expr)(m:Str)(apos:Pos)(e:Expr)(cpos:Pos):Prop where
 base:attributeBase o m X.env (eval o X.env)=eval o X.env
 few:((backTo cpos (starEach [e] X.env)).all (λx=>!x.1)&&(backToKw cpos (keywordEach [] X.env)).all (λx=>x.1.isSome)
  && decide (([e]:List Expr).length+([]:List Keyword).length+(if([]:List Keyword).isEmpty then 0 else 1)<30))=true
 line:(apos.endLine == cpos.line)=true
 trees:backTo cpos (starEach [e] X.env)=[(false,eval e X.env)]
def IsD(H:Hp)(a:Addr):Prop:=∃kvs,Rd H a (.dK kvs)
theorem aLd{X:Cx}{Aa:eS}{σ:St}{H:Hp}{s:Shared}{a:Addr}(I:Inv X Aa σ H s)(d:IsD H a) :
  s.TypeIs (.ref a) "dict" /\ (∀b,Value.ref a=.ref b->∃ob,s.heap.get? b=some ob/\ob.dict=none)/\(a == sysModules)=false:=by
 obtain⟨kvs,e⟩:=d
 obtain⟨o,_,_,h1,h2,_⟩:=fu_ (yM I.hok e)
 refine⟨⟨o,h1,h2.1⟩,λb q=>?_,(fv_ I.hok e).2.1⟩
 cases q
 exact⟨o,h1,h2.2.1⟩
def x6(td ty:TE):TE:=λσ H Q=>td σ H λx H1=>∃a,x=.ref a/\IsD H1 a/\ty σ H1 λy H2=>∃kvs k v,H2 a=some (.dK kvs)/\dJ kvs=false/\k.odd=false/\y=kV k/\iH kvs k=some v/\Q v (upd H2 a (.dK (nV kvs k)))
section
variable{X:Cx}{o e f:Expr}{apos cpos:Pos}{td ty tx:TE}
theorem aAt(ho:PE X o td)(he:PE X e ty)(m:M1 X o "pop" apos e cpos):PE X (.Call (.Attribute o "pop" apos) [e] [] cpos) (x6 td ty):=by
 intro Aa s σ H Q I h
 refine wpAny_Call_method m.base m.few m.line PySem.F.plainAttrs_dict PySem.F.slot_dict_pop PySem.F.type_dict_pop (dX (ho Aa s σ H _ I h) λu s1 ⟨x,H1,I1,rx,a,ex,d,q1⟩=>?_)
 subst ex
 obtain rfl:u=Value.ref a:=rx
 obtain⟨t1,t2,_⟩:=aLd I1 d
 refine⟨t1,t2,?_⟩
 rw[m.trees]
 refine Calls.callWith_builtin rfl (Calls.evalArgs_plain (Calls.spliced_cons (dX (he Aa s1 σ H1 _ I1 q1) λiv s2 ⟨y,H2,I2,ry,kvs,k,v,ea,o1,o2,ey,l,q2⟩=>Calls.spliced_nil ?_)))
 subst ey
 exact aPv I2 ea o1 o2 ry l (.inl rfl) λw' s3 I3 rw'=>⟨v,_,I3,rw',q2⟩
end
theorem xP:bootBuiltins "all" = some (.builtin "all"):=by decide +kernel
theorem yB:∀{bs:List Bool} {us:List Value},Vals (bs.map V.bl) us->us=bs.map Value.bool
 | [],_,h=>by cases h;rfl
 |b::bs,_,h=>by
  cases h with
  |cons ra rb =>
   cases ra
   rw[yB rb]
   rfl
theorem h_:∀(bs:List Bool),(List.range bs.length).all (λi=>bs[i]?.getD false)=bs.all id:=by
 intro bs
 rw[Bool.eq_iff_iff,cG,cG]
 constructor
 ·intro h b hb
  obtain⟨i,hi,rfl⟩:=List.getElem_of_mem hb
  have:=h i (gK.mpr hi)
  rw[aS hi]at this
  exact this
 ·intro h i hi
  have Dd:=gK.mp hi
  rw[aS Dd]
  exact h _ (List.getElem_mem Dd)
section
variable{X:Cx}
def aAj(K:dQ):List V->Hp->VK->Prop:=λxs H Q=>∃(p:Addr) (bs:List Bool),xs=[.ref p]/\SqL K H p (bs.map V.bl)/\Q (.bl (bs.all id)) H
theorem p0(hc:X.calm=true):CallR X (.builtin "all") (aAj X.K):=by
 intro Aa s σ H xs us Q I r h
 obtain⟨p,bs,rfl,hq,q⟩:=h
 obtain⟨u,rfl,rx⟩:=iG r
 cases rx
 obtain⟨its,r',pl,hz⟩:=I.list hq
 have hi:=yB r'
 subst hi
 have hh:X.A.in1.handled=none:=I.ok.hd hc
 have lt:p<s.heap.objs.size:=by obtain⟨_,e,_⟩:=pl.isList;exact aQ e
 refine call_all_walk (wpAny_pyIter_list pl.isList ⟨_,_,_,_,_,_,λi=>bs[i]?.getD false,rfl,Walks.list hh s.heap.objs.size p (cD lt) (bs.map Value.bool).toArray,⟨⟨_,aU _ rfl,rfl,rfl⟩,?_⟩,?_,λh' tk hk=>?_⟩)
 ·obtain ⟨o,e,r⟩:=pl.isList
  exact⟨o,aC _ e,r⟩
 ·intro i v s' Q' E' hv hQ
  have Bf:(bs.map Value.bool)[i]? = some v:=by simpa using hv
  rw[bP]at Bf
  cases hb:bs[i]? with
  |none=>rw[hb]at Bf;cases Bf
  |some b =>
   rw[hb]at Bf
   cases Bf
   have Iz:Q' (bs[i]?.getD false) s':=hQ
   rw[hb]at Iz
   exact wpAny_truthy_bool Iz
 ·have A3:∀ b o,s.heap.get? b=some o→h'.get? b=some o:=fun b o e=>hk b o (by simp; exact cD (aQ e)) (aC _ e)
  refine⟨.bl _,H,I.kept A3,?_,q⟩
  show Value.bool _=Value.bool _
  rw[bA,aD,h_]
end
section
variable{X:Cx}
def aOe(K:dQ):V->Hp->VK->Prop:=λx H Q=>∃a xs,x=.ref a/\SqL K H a xs/\∀p,H p=none->Q (.ref p) (upd H p (.lst xs.reverse))
def aNq(K:dQ)(te:TE):TE:=λσ H Q=>te σ H λx H1=>aOe K x H1 Q
theorem aFe{e:Expr}{te:TE}{k:Nat}{p1 p2 p3 pos:Pos}(he:PE X e te):PE X (.Subscript e (.Slice none none (some (.UnaryOp .USub (.Constant (.int 1) k p1) p2)) p3) pos) (aNq X.K te):=by
 intro Aa s σ H Q I h
 refine Subscript_ (dX (he Aa s σ H _ I h) λv s1 ⟨x,H1,I1,r1,q1⟩=>?_)
 obtain⟨a,xs,rfl,hx,q⟩:=q1
 cases r1
 refine wpAny_Slice ?_
 rw[evalPart_none]
 refine wpAny_pure (wpAny_pure ?_)
 rw[evalPart_some]
 refine dX ((tW mM iC:PE X (.UnaryOp .USub (.Constant (.int 1) k p1) p2) _) Aa s1 σ H1 (λx H'=>x=.int (-1)/\H'=H1) I1 ⟨_,rfl,rfl,rfl⟩) λvs s2 ⟨y,H2,I2,r2,e2,e3⟩=>?_
 subst e2 e3
 obtain⟨t,rfl⟩:=r2
 have I3:Inv X Aa σ H2 { s2 with heap:=s2.heap.push { cls:=.type "slice",data:=.fields #[.none,.none,.int (-1) t] } }:=I2.kept (t':=s2.toks) λb ob q=>aC _ q
 obtain⟨its,r,ht,hz⟩:=I3.list hx
 have Ad:=r.length
 refine tail_any (ops:=[.ref a,.ref s2.heap.objs.size]) ht.isList.typeIs slot_list_getitem.lookup ?_ (by with_unfolding_all rfl)
 refine wpAny_getItem_list_slice ht.isList (Heap.IsSliceOf.new ..) .none .none (.int _ _) (by simp) ?_ (by rw[bA]<;>lia)
 rw[PySem.W.krv_pick]
 refine⟨.ref _,_,I3.laid (t':=s2.toks) (o:=.lst xs.reverse) (λb ob q=>aC _ q) (aK _) ?_,rfl,q _ (I3.hok.fresh (aK _))⟩
 exact⟨by rw[List.length_reverse];exact hz,its.reverse,0,r.reverse,aU _ rfl⟩
end
end L2
namespace Lf
open PySem L2
end Lf
namespace L2
open PySem PySem.Spec PyProof.Rows
section
variable{X:Cx}
theorem p8:bootBuiltins "sorted" = some (.builtin "sorted"):=by decide +kernel
end
end L2
namespace Lf
open PySem PySem.W PyProof.Rows
section
variable{lt:Nat->Nat->Bool}
structure Ord(lt:Nat->Nat->Bool):Prop where
 tr:∀i j k,lt j i=false->lt k j=false->lt k i=false
 asy:∀i j,lt i j=true->lt j i=false
theorem Ord.rf(o:Ord lt)(i:Nat):lt i i=false:=by
 cases h:lt i i with
 |false=>rfl
 |true=>have:=o.asy i i h;rw[h]at this;exact this
abbrev gk(p:Array Nat)(k:Nat):Nat:=p.getD k 0
def Srt(lt:Nat->Nat->Bool)(p:Array Nat)(n:Nat):Prop:=∀i j,i<=j->j<n->lt (gk p j) (gk p i)=false
def Dec(lt:Nat->Nat->Bool)(p:Array Nat)(n:Nat):Prop:=∀i j,i<=j->j<n->lt (gk p i) (gk p j)=false
theorem Srt.step(o:Ord lt){p:Array Nat}{n:Nat}(h1:1<=n)(h:Srt lt p n)(hn:lt (gk p n) (gk p (n-1))=false):Srt lt p (n+1):=by
 intro i j Hd hj
 by_cases c:j=n
 ·subst c
  by_cases d:i=j
  ·subst d;exact o.rf _
  ·exact o.tr _ _ _ (h i (j-1) (by lia) (by lia)) hn
 ·exact h i j Hd (by lia)
theorem Dec.step(o:Ord lt){p:Array Nat}{n:Nat}(h1:1<=n)(h:Dec lt p n)(hn:lt (gk p (n-1)) (gk p n)=false):Dec lt p (n+1):=by
 intro i j Hd hj
 by_cases c:j=n
 ·subst c
  by_cases d:i=j
  ·subst d;exact o.rf _
  ·exact o.tr _ _ _ hn (h i (j-1) (by lia) (by lia))
 ·exact h i j Hd (by lia)
def Blw(n:Nat)(p:Array Nat):Prop:=0<n/\∀x∈p.toList,x<n
theorem Blw.at{n:Nat}{p:Array Nat}(h:Blw n p)(k:Nat):p.getD k 0<n:=by
 rw[Array.getD_eq_getD_getElem?]
 cases e:p[k]? with
 |none=>exact h.1
 |some x =>
  refine h.2 x ?_
  rw[<-Array.getElem?_toList]at e
  exact bE e
end
end Lf
namespace L2
open PySem PySem.Spec PyProof.Rows PySem.W
section
variable{prog:Program}{w:World}{A:Around}{E:eQ}{s:Shared}
abbrev TI2:=Addr×List Int
def t0:TI2:=(0,[])
end
end L2
namespace Lf
open PySem
end Lf
namespace Lf
end Lf
namespace Lf
open PySem
end Lf
namespace Lf
inductive Vd where
 |num (n:Int)
 |row (vs:List Vd)
 |rcd (vs:List Vd)
 |cho (k:Nat) (v:Vd)
def aOp:Nat->Int->List Int
 | 0,_=>[]
 |w+1,n=>n%256::aOp w (n/256)
def lay(l:List Int)(p:Nat)(some:List Int):List Int:=l.mapIdx λi b=>if p<=i/\i<p+some.length then some.getD (i-p) 0 else b
def aBo(f:Vd->List Int)(step:Nat):Nat->List Vd->List Int->List Int
 |_,[],l=>l
 |j,v::r,l=>aBo f step (j+1) r (lay l (j*step) (f v))
mutual
def Kd.byt:Kd->Vd->List Int
 | .num w _,.num n=>aOp w.toNat n
 | .row k n,.row vs=>aBo k.byt (up k.rm.1 k.rm.2).toNat 0 vs (List.replicate (n*up k.rm.1 k.rm.2).toNat 0)
 | .rcd fs,.rcd vs=>aQc (plcs 0 (rmF fs)) fs vs (List.replicate (aAd (rmF fs)).1.toNat 0)
 | .cho ks,.cho k v=>lay ((List.replicate (c9 (rmK ks)).1.toNat (0:Int)).set 0 (k:Int)) (up 1 (c9 (rmK ks)).2).toNat (aQb ks k v)
 |_,_=>[]
def aQc:List Int->List (PySem.Str×Kd)->List Vd->List Int->List Int
 |p::ps,f::r,v::vs,l=>aQc ps r vs (lay l p.toNat (f.2.byt v))
 |_,_,_,l=>l
def aQb:List Kd->Nat->Vd->List Int
 | [],_,_=>[]
 |k::_,0,v=>k.byt v
 |_::r,j+1,v=>aQb r j v
end
mutual
def Kd.Val:Kd->Vd->Prop
 | .num w _,.num n=>0<=n/\n<256^w.toNat
 | .row k n,.row vs=>(vs.length:Int)=n/\∀v∈vs,k.Val v
 | .rcd fs,.rcd vs=>gU fs vs
 | .cho ks,.cho k v=>qW ks k v
 |_,_=>False
def gU:List (PySem.Str×Kd)->List Vd->Prop
 | [],[]=>True
 |f::r,v::vs=>f.2.Val v/\gU r vs
 |_,_=>False
def qW:List Kd->Nat->Vd->Prop
 | [],_,_=>False
 |k::_,0,v=>k.Val v
 |_::r,j+1,v=>qW r j v
end
end Lf
namespace Lf
def nth(t:Nat)(l:List Vd):Vd:=l.getD (t%l.length) (.num 0)
end Lf
namespace Lf
end Lf
namespace L2
open PySem PySem.Spec PyProof.Rows
section
variable{X:Cx}{Aa:eS}{σ:St}{H:Hp}{s:Shared}{a:Addr}
theorem Inv.other{u u':HO}(I:Inv X Aa σ H s)(e:H a=some u)(n1:∀y,u ≠ .own y)(n2:∀xs,u ≠ .tup xs)(n3:∀ps,u ≠ .tbl ps)(n4:∀o v,X.H₀ a≠some (.frz o v))(hok:ObjOk X.prog X.w (upd H a u') s.heap a u'):Inv X Aa σ (upd H a u') s:=by
 have ne:∀{b:Addr},H b=none->b≠a:=λh z=>by rw[z,e]at h;cases h
 refine⟨I.ok,I.os,I.bare,⟨I.base.keep,I.base.slot,λb o h1 h2 h3=>?_,I.base.there,λb xs h=>?_,λb o v h=>?_,λb ps h=>?_⟩,I.loc,I.cell,?_,λx c h=>?_,λp hp=>?_,λb v h=>?_,I.len⟩
 ·have:=I.base.free b o h1 h2 h3
  rw[eJ (ne this)];exact this
 ·have:=I.base.tups b xs h
  rw[eJ (λz=>by rw[z,e]at this;exact n2 _ (ozI this))];exact this
 ·have:=I.base.frzs b o v h
  rw[eJ (λz=>n4 o v (by rw[<-z];exact h))];exact this
 ·obtain ⟨m,q⟩:=I.base.tbls b ps h
  exact⟨m,by rw[eJ (λz=>by rw[z,e]at q;exact n3 _ (ozI q))];exact q⟩
 ·rw[eJ (ne I.free)];exact I.free
 ·rw[eJ (ne (I.freeC x c h))];exact I.freeC x c h
 ·obtain ⟨p1,p2,p3⟩:=I.pin p hp
  exact⟨p1,by rw[eJ (ne p2)];exact p2,p3⟩
 ·by_cases hb:b=a
  ·subst hb
   rw[bU]at h
   cases h
   exact hok
  ·rw [eJ hb] at h
   refine(I.hok b v h).stay (λ_ _ _ q=>q) (λc q=>?_) λc xs q=>?_
   ·rw[eJ (λz=>by rw[z,e]at q;exact n1 _ (ozI q))];exact q
   ·rw[eJ (λz=>by rw[z,e]at q;exact n2 _ (ozI q))];exact q
theorem aCs{P:Program}{w:World}{H H':Hp}{h:Heap}{a:Addr}{kvs:List (Key×V)}(x:ObjOk P w H h a (.dK kvs))(ht:∀b xs,H b=some (.tup xs)->H' b=some (.tup xs)):ObjOk P w H' h a (.dK kvs):=by
 obtain⟨z,y,q | ⟨od,ap,es,ep,D,r⟩⟩:=x
 ·exact⟨z,y,.inl q⟩
 ·refine ⟨z,y,.inr ⟨od,ap,es,ep,D,Paired.mapP r fun p q u=>⟨u.1,u.2.1,u.2.2.1,?_⟩⟩⟩
  obtain⟨kk,v⟩:=p
  have:=u.2.2.2
  cases kk<;>first | exact True.intro | exact ht _ _ this
theorem Inv.freeze{kvs:List (Key×V)}(I:Inv X Aa σ H s)(e:H a=some (.dK kvs)):∃o,Inv X Aa σ (upd H a (.frz o (.dK kvs))) s:=by
 have x:=I.hok a _ e
 obtain⟨o,es,ep,h1,h2⟩:=fu_ x
 refine⟨o,I.other e (λ_ z=>by cases z) (λ_ z=>by cases z) (λ_ z=>by cases z) (λo v z=>?_) ⟨h1,aCs x λb xs q=>by rw[eJ (yX q e λz=>nomatch z)];exact q⟩⟩
 have:=I.base.frzs a o v z
 rw[e]at this;cases this
theorem Inv.thaw{o:Obj}{kvs:List (Key×V)}(I:Inv X Aa σ H s)(e:H a=some (.frz o (.dK kvs)))(n:∀o v,X.H₀ a≠some (.frz o v)):Inv X Aa σ (upd H a (.dK kvs)) s:=
 I.other e (λ_ z=>by cases z) (λ_ z=>by cases z) (λ_ z=>by cases z) n (aCs (I.hok a _ e).2 λb xs q=>by rw[eJ (yX q e λz=>nomatch z)];exact q)
end
def aRp(H0:Hp)(t:TE):TE:=λσ H Q=>∃a kvs,H a=some (.dK kvs)/\(∀o v,H0 a≠some (.frz o v))/\∀o,t σ (upd H a (.frz o (.dK kvs))) λv H'=>H' a=some (.frz o (.dK kvs))/\Q v (upd H' a (.dK kvs))
theorem aJv{X:Cx}{e:Expr}{t:TE}(h:PE X e t):PE X e (aRp X.H₀ t):=by
 intro Aa s σ H Q I ⟨a,kvs,ha,hn,q⟩
 obtain⟨o,I1⟩:=I.freeze ha
 refine dX (h Aa s σ _ _ I1 (q o)) λu s1 ⟨v,H1,I2,r,e1,q1⟩=>⟨v,_,I2.thaw e1 hn,r,q1⟩
def aRs(H0:Hp)(t:TS):TS:=λD σ H=>∃a kvs,H a=some (.dK kvs)/\(∀o v,H0 a≠some (.frz o v))/\∀o,
 t ⟨λσ' H'=>H' a=some (.frz o (.dK kvs))/\D.nx σ' (upd H' a (.dK kvs)),λv H'=>H' a=some (.frz o (.dK kvs))/\D.rt v (upd H' a (.dK kvs)),λσ' H'=>H' a=some (.frz o (.dK kvs))/\D.bk σ' (upd H' a (.dK kvs)),λσ' H'=>H' a=some (.frz o (.dK kvs))/\D.ct σ' (upd H' a (.dK kvs))⟩ σ (upd H a (.frz o (.dK kvs)))
theorem aJp{X:Cx}{st:Stmt}{t:TS}(h:PS X st t):PS X st (aRs X.H₀ t):=by
 intro Aa s σ H D I ⟨a,kvs,ha,hn,q⟩
 obtain⟨o,I1⟩:=I.freeze ha
 refine dX (h Aa s σ _ _ I1 (q o)) λf s1 h1=>?_
 cases f with
 |next=>obtain⟨σ',H',I2,e1,q1⟩:=h1;exact⟨σ',_,I2.thaw e1 hn,q1⟩
 |brk=>obtain⟨σ',H',I2,e1,q1⟩:=h1;exact⟨σ',_,I2.thaw e1 hn,q1⟩
 |cont=>obtain⟨σ',H',I2,e1,q1⟩:=h1;exact⟨σ',_,I2.thaw e1 hn,q1⟩
 |ret u=>obtain⟨v,σ',H',I2,r,e1,q1⟩:=h1;exact⟨v,σ',_,I2.thaw e1 hn,r,q1⟩
def Itd(a:Addr)(o:Obj)(kvs:List (Key×V)):It:=
 ⟨λi H=>H a=some (.frz o (.dK kvs))/\i<kvs.length,λi H x H'=>H'=H/\∃kv,kvs[i]? = some kv/\x=kV kv.1/\fL H kv.1,λi H=>H a=some (.frz o (.dK kvs))/\kvs.length<=i⟩
theorem aOs{P:Program}{w:World}{k:Key}{u:Value}(h:(cT P w).is k u=true):RelV (kV k) u:=by
 rcases bk_ h with⟨i,t,rfl,z⟩ | ⟨x,t,rfl,z⟩
 ·exact⟨t,z⟩
 ·exact⟨t,z⟩
theorem KV.at'{kvs:List (Key×V)}{vs:List (Key×Value)}(r:KV kvs vs):∀{i:Nat} {kv:Key×V},kvs[i]? = some kv->∃u,vs[i]? = some (kv.1,u):=by
 induction r with
 |nil=>intro i kv h;simp at h
 | @cons p q ps qs hq t ih =>
  intro i kv h
  cases i with
  |zero=>simp at h;subst h;exact⟨q.2,by simp[hq.1]⟩
  |succ i=>obtain⟨u,e⟩:=ih (i:=i) (by simpa using h);exact⟨u,by simpa using e⟩
theorem uU{X:Cx}{Aa:eS}{σ:St}{H:Hp}{s:Shared}{a:Addr}{o:Obj}{kvs:List (Key×V)}{es:Array DictEntry}{ep:Nat}(I:Inv X Aa σ H s)(e:H a=some (.frz o (.dK kvs)))(hd:o.data=.dict es ep) :
  (a == sysModules)=false/\DAt s.heap a es ep/\Paired (iV X.prog X.w H) kvs es.toList:=by
 obtain⟨h0,_⟩:=(show ObjOk X.prog X.w H s.heap a (.frz o (.dK kvs))from I.hok a _ e)
 obtain⟨_,y,_,es',ep',⟨o',h1,h2,h3⟩,r⟩:=fv_ I.hok (.inr ⟨o,e⟩)
 rw[h0]at h1
 cases h1
 rw[hd]at h3
 cases h3
 exact⟨y,⟨o,h0,h2,hd⟩,r⟩
theorem g6{P:Program}{w:World}{K:dQ}{tg:Expr}(a it:Addr)(Bq:a≠it)(o:Obj)(kvs:List (Key×V))(es:Array DictEntry)(ep:Nat)(hd:o.data=.dict es ep):Turn P w K tg (Itd a o kvs) [it] it (λi h=>h.IsKeyIter it a i kvs.length ep)where
 mem:=by simp
 obj:=λi h st b hb=>by
  have e:b=it:=by simpa using hb
  subst e
  obtain⟨o,e,c,d⟩:=st
  exact⟨o,e,λv z=>by rw[d]at z;cases z⟩
 keep:=λi h h' st k=>st.at λo e=>k it (by simp) o e
 item:=by
  intro X hP hw hK hc i Aa s σ H E I hf st hg
  subst hP hw hK
  obtain⟨ha,hi⟩:=hg
  obtain⟨y,D,r⟩:=uU I ha hd
  obtain⟨f0,f1,f2,f3,f4,f5⟩:=hf it (by simp)
  have hl:kvs.length=es.size:=by rw[<-Array.length_toList];exact Paired.length r
  rw[hl]at st
  refine gq_ (λz=>absurd hi (by omega)) st D (λkey h' hk st' sb=>?_) λ_ z=>absurd hi (by omega)
  have I1:Inv X Aa σ H { s with heap:=h' }:=I.turned (t':=s.toks) (λb o hb e=>(sb.2 b hb).trans e) f0 f1 f3 f4 f5
  rw[<-hl]at st'
  obtain⟨o',e,c,d⟩:=id st'
  obtain⟨p,hp,rk⟩:=Paired.nth (i:=i) r (by rw[Array.getElem?_toList];exact hk)
  rw[aS hi]at hp
  cases hp
  exact⟨key.key,rfl,zN (s:={ s with heap:=h' }) e c d (by decide) ⟨kV kvs[i].1,H,I1,rk.2.1,⟨rfl,_,aS hi,rfl,rk.2.2.2⟩,st',λb hb=>(hf b hb).1⟩⟩
 done:=by
  intro X hP hw hK hc i Aa s σ H E I hf st hg
  subst hP hw hK
  obtain⟨ha,hi⟩:=hg
  obtain⟨y,D,r⟩:=uU I ha hd
  obtain⟨f0,f1,f2,f3,f4,f5⟩:=hf it (by simp)
  have hl:kvs.length=es.size:=by rw[<-Array.length_toList];exact Paired.length r
  rw[hl]at st
  exact gq_ (λ_=>I.ok.hd hc) st D (λkey _ hk=>absurd (Array.getElem?_eq_some_iff.mp hk).1 (by omega)) λh' _ eb=>⟨rfl,I.turned (t':=s.toks) (λb o hb e=>eb b o hb e) f0 f1 f3 f4 f5⟩
 self:=λ_ _ _ _ _ st h=>wpAny_pyIter_keyiter st h
def uP(tl:TE):TI:=λσ H R=>tl σ H λx H1=>∃a o kvs,x=.ref a/\H1 a=some (.frz o (.dK kvs))/\R (Itd a o kvs) H1
theorem lP{X:Cx}{tg l:Expr}{tl:TE}(hl:PE X l tl):PI X tg l (uP tl):=by
 intro Aa s σ H R I h
 refine dX (hl Aa s σ H _ I h) λv s1 ⟨x,H1,I1,r1,q1⟩=>?_
 obtain⟨a,o,kvs,e,ha,q⟩:=q1
 subst e
 cases r1
 obtain⟨h0,_⟩:=(show ObjOk X.prog X.w H1 s1.heap a (.frz o (.dK kvs))from I1.hok a _ ha)
 obtain⟨_,y,_,es,ep,⟨o',h1,h2,h3⟩,r⟩:=fv_ I1.hok (.inr ⟨o,ha⟩)
 rw[h0]at h1
 cases h1
 have hl:kvs.length=es.size:=by rw[<-Array.length_toList];exact Paired.length r
 refine uM y ⟨o,h0,h2,h3⟩ ?_
 refine⟨s1.heap.objs.size,[s1.heap.objs.size],_,_,H1,rfl,I1.kept (t':=s1.toks) λb o e=>aC _ e,g6 a _ (cD (aQ h0)) o kvs es ep h3,⟨_,aU _ rfl,rfl,by rw[hl];rfl⟩,λb hb=>?_,q⟩
 have e:b=s1.heap.objs.size:=by simpa using hb
 subst e
 exact I1.fpOk (aK _) (I1.hok.fresh (aK _))
section
variable{X:Cx}
theorem fr_(a:Int)(t:Tok){prog:Program}{w:World}{A:Around}{E:eQ}{s:Shared}{Q:eQ}(h:∀t',Q (.int (Builtin.Int.intBits a) t') { s with toks:=s.toks+1 }) :
  wpAny (model prog w) A (call (.builtin "int.bit_length") [.int a t]) Q E s:=by
 refine wpAny_call_entry F.slot_int_bit_length (typeIs_int s a t) F.entry_int_bit_length ?_ (F.args_int_bit_length_1 _)
 unfold Builtin.«int.bit_length»
 obtain⟨hp,g,d,tk,os⟩:=s
 wp_walk
 exact⟨_,rfl,h _⟩
def aHv:V->List V->Hp->VK->Prop:=λx vs H Q=>∃i:Int,x=.int i/\vs=[]/\Q (.int (Builtin.Int.intBits i)) H
theorem oX:MtR X "int.bit_length" aHv:=by
 intro Aa s σ H x vs v us Q I rx rv h
 obtain⟨i,rfl,rfl,q⟩:=h
 obtain⟨t,rfl⟩:=rx
 cases rv
 exact fr_ i t λt'=>⟨.int _,H,I.tok _,⟨_,rfl⟩,q⟩
end
end L2
namespace L2
open PySem PySem.W PySem.Spec PyProof.Rows PySem.Calls
theorem nI{α β:Type}[BEq α][LawfulBEq α]{a:α}{b:β}:∀{l:List (α×β)},l.lookup a=some b->(a,b)∈l
 | [],h=>by simp at h
 |(c,d)::r,h=>by
  by_cases e:a=c
  ·subst e;simp at h;subst h;exact aA
  ·rw [bW,beq_eq_false_iff_ne.mpr e] at h
   exact aB _ (nI h)
theorem aHh(h:Heap):(aHi h).In h:=λa o e=>by
 obtain⟨b,_,hb⟩:=List.mem_filterMap.mp (nI e)
 obtain⟨o',h1,h2⟩:=cJ.mp hb
 cases h2
 exact h1
def exHook{α:Type}(f:Frag->α)(v:α):Hook where
 α:=α
 obs:=λs=>f (aHi s.heap)
 val:=λ_=>v
 says:=λ_ h=>∃K:Frag,K.In h/\f K=v
 of:=λ_ s e=>⟨aHi s.heap,aHh _,e⟩
 keeps:=λ_ _ _ e g=>by
  obtain⟨K,k,e⟩:=e
  exact⟨K,λa o q=>g _ _ (k a o q),e⟩
theorem p9:∀w:World,((boot_heap w.params).isNs mainGlobals&&(Array.mk []:Array GenState).size == 0,(boot_heap w.params).objs.size,(boot_heap w.params).nsMap mainGlobals "__annotations__")=(true,11,some (.ref 6)):=λw=>by kernel_rfl
theorem j5{p q:Program}{loose:List Str}{Xt:Shared->Bool}{α:Type}{Yf:Frag->α}{v:α}{N:Nat}{g0:Bool}(hN:Nat.ble 600 N=true)(e:opening p=plainProg p.main.scope.names)(f:∀s,fenceModules? p s=some s)
  (all:∀w:World,onceSeen topRun treeTable importedModules (λm s=>openSeen q loose m Xt g0 s) p N Yf w=λ_=>some (true,openGood q loose,v)) :
  LeftO p q loose Xt (exHook Yf v).obs (exHook Yf v).val N g0:=λw=>by
 obtain⟨⟨h,gs,d,k,os⟩,e1,e'⟩:=cJ.mp (boot_open e hN f w)
 obtain⟨rfl,rfl,rfl,rfl⟩:h=boot_heap w.params/\gs=Array.mk []/\d=boot_drawn/\k=boot_toks:=by simpa using e'
 obtain⟨z1,z2,z3⟩:_/\_/\_:=by simpa only[Prod.mk.injEq]using p9 w
 obtain⟨s₁,r,r2⟩:=cJ.mp (congrFun (all w) os)
 obtain⟨l1,l2,l3⟩:_/\_/\_:=by simpa only[Prod.mk.injEq]using r2
 have t:topFrom treeTable p w N ⟨boot_heap w.params,Array.mk [],boot_drawn,boot_toks,os⟩=some s₁:=by
  unfold topFrom
  dsimp only
  rw[z1,z2,z3]
  show(topRun treeTable p w 11 (some (.ref 6)) N _ (topStub p)).bind _=_
  rw[r]
  show(match staticsOk (importedModules p.main.body) (boot_heap w.params) s₁.heap&&namesBound p s₁.heap&&gensDone s₁&&laidKept (boot_heap w.params) s₁.heap with | true=>_ | false=>_)=_
  rw[l1]
 unfold openEnds
 rw[e1]
 show(topFrom treeTable p w N _).map _=_
 rw[t]
 exact congrArg some (Prod.ext l2 l3)
theorem walk_ex{l:PySem.W.OpenLaw}{n k:Nat}{q:Program}{loose:List Str}{XP:(Str->Option Value)->Heap->Prop}{α:Type}{f:Frag->α}{v:α}{d:DefRec}{CX:CXT}{sp:PySem.W.Frag->Sp}{x:Str}
  (hn:l.most=some n) (Gz:n<=sizeLine) (Hl:d.params.defaults=[]) (hr:Room k callerA)
  (F:∀ (w:World) (K:Frag) (mg:lG) (fa:Addr) (h:Heap),f K=v→K.In h→h.Ns mainGlobals mg→mg d.name=some (.ref fa) →
   ∃fd:FuncData,(∀(s:Shared) (u:Value),BindsTo s fd ⟨[u],[]⟩ [(x,u)]) /\
    ∀base:Heap,K.In base->base.Ns mainGlobals mg->FnOk l.prog w K mg base CX k fa fd [x] (sp K))
  (Ck:∀(K:dQ) (H:Hp) (a:Addr) (ns:List Int),ns.length<=n->aMn H->SqL K H a (ns.map V.int)->sp K [.ref a] H (λv _=>v=.bl true) λ_ _ _=>False)
  (Hw:∀(H:Hp) (s:Shared) (e:Value) (s':Shared),CX [] H s (λ_ _ _=>False) e s'->False) :
  PySem.W.WalkO q loose XP (exHook f v).says l.row.toRowW d [] (λf vs=>PySem.call f vs):=by
 refine Att.attach_call hn Hl λw s₀ s₁ mg mb fa o pm cd doc a vs ns G Y ho hd C2 G1 Dz Cz Ad hg=>?_
 obtain⟨K,KX,hK⟩:=Y
 obtain⟨fd,hb,hF⟩:=F w K mg fa _ hK KX G.T.g G1
 exact aBq KX G.T.g G.T.b G.T.builtins G.T.nolimit hg Dz Cz (nzL Ad Gz) hr hF hb (λH hO hS=>Ck K H a ns Ad hO hS) λH e s'=>Hw H s₁ e s'
theorem oS{K:Frag}{s:Stmt}(h:rQ K (eZ s)=sH s):∃f fd,nsIn K mainGlobals (eZ s)=some (some (.ref f))/\Fun K (eZ s) (eZ s) s f fd:=by
 unfold rQ at h
 cases e:nsIn K mainGlobals (eZ s)with
 |none=>rw[e]at h;cases h
 |some o =>
  cases o with
  |none=>rw[e]at h;cases h
  |some v =>
   cases v with
   |ref f =>
    rw[e]at h
    dsimp only at h
    cases e2:K.lookup f with
    |none=>rw[e2]at h;cases h
    |some ob =>
     obtain⟨oc,od,da,sl⟩:=ob
     rw[e2]at h
     cases da with
     |func fd =>
      obtain⟨nm,qn,pa,bo,sc,gl,cl,df,kw,dc,pm,an,cd,ct,bl⟩:=fd
      simp only[sH,Option.some.injEq,Prod.mk.injEq]at h
      obtain⟨⟨rfl,rfl,rfl,rfl,rfl⟩,⟨rfl,rfl,rfl,rfl⟩,h3⟩:=h
      refine⟨f,_,rfl,⟨oc,od,kw,dc,pm,an,cd,ct,sl,rfl,e2,h3⟩,?_⟩
      unfold keepIn
      dsimp only
      rw[e2]
     |_=>cases h
   |_=>rw[e]at h;cases h
theorem aBh{K:Frag}{n:Str}(h:uD K n=true):nsIn K mainGlobals n=some none:=by
 unfold uD at h
 split at h
 ·assumption
 ·cases h
theorem aDq:∀{v:Value} {x:V},aHj v=some x->RelV x v
 | .none,x,h=>by cases h;rfl
 | .bool b,x,h=>by cases h;rfl
 | .int i t,x,h=>by cases h;exact⟨t,rfl⟩
 | .str i t,x,h=>by cases h;exact⟨t,rfl⟩
 | .bytes i t,x,h=>by cases h;exact⟨t,rfl⟩
 | .float i t,x,h=>by cases h;exact⟨t,rfl⟩
 | .ref a,x,h=>by cases h;rfl
 | .type n,x,h=>by cases h;rfl
 | .builtin _,x,h=>by cases h
theorem j0{K:Frag}{n:Str}{x:V}(h:rP K n=some x):∃v,nsIn K mainGlobals n=some (some v)/\RelV x v:=by
 unfold rP at h
 split at h
 ·exact⟨_,by assumption,aDq h⟩
 ·cases h
section
variable{K:Frag}{x qual:Str}{st:Stmt}{f:Addr}{p1 p2 p3 p4 p5 p6:Str}
abbrev BA(x qual:Str)(st:Stmt)(us:List Value)(r:List (Str×Value)):Prop:=∀(kV doc pm:Value) (an:Option Addr) (Af ct:Value),bindArgs (PySem.W.fnOf x qual (mB st) (fW st) (aR st) .none kV doc pm an Af ct) ⟨us,[]⟩=pure r
theorem kS(F:Fun K x qual st f fd)(h:∀a,BA x qual st [a] [(p1,a)]):Binds K fd [p1] []:=F.binds λ_ _ _ _ _ _ us hl=>by
 match us,hl with
 | [a],_=>exact h a _ _ _ _ _ _
theorem gA(F:Fun K x qual st f fd)(h:∀a b,BA x qual st [a,b] [(p1,a),(p2,b)]):Binds K fd [p1,p2] []:=F.binds λ_ _ _ _ _ _ us hl=>by
 match us,hl with
 | [a,b],_=>exact h a b _ _ _ _ _ _
theorem oJ(F:Fun K x qual st f fd)(h:∀a b c,BA x qual st [a,b,c] [(p1,a),(p2,b),(p3,c)]):Binds K fd [p1,p2,p3] []:=F.binds λ_ _ _ _ _ _ us hl=>by
 match us,hl with
 | [a,b,c],_=>exact h a b c _ _ _ _ _ _
end
theorem zT{K:Frag}(h:bltNs.map (uD K)=List.replicate 17 true){n:Str}(i:Nat)(hi:i<17)(e:bltNs[i]? = some n):nsIn K mainGlobals n=some none:=by
 refine aBh ?_
 have:=congrArg (λl=>l[i]?) h
 simp only[bP,e,Option.map_some,gB,hi,if_true,Option.some.injEq]at this
 exact this
end L2
namespace Lf
open PySem L2
def All2{α β:Type}(g:α->β->Prop):List α->List β->Prop
 | [],ys=>ys=[]
 |x::xs,ys=>∃y yr,ys=y::yr/\g x y/\All2 g xs yr
section
variable{α β:Type}{g h:α->β->Prop}
theorem All2.nil:All2 g [] []:=rfl
theorem All2.imp(i:∀v x,g v x->h v x):∀{vs:List α} {xs:List β},All2 g vs xs->All2 h vs xs
 | [],_,e=>e
 |_::_,_,⟨x,xr,e,a,b⟩=>⟨x,xr,e,i _ _ a,All2.imp i b⟩
theorem All2.len:∀{vs:List α} {xs:List β},All2 g vs xs->xs.length=vs.length
 | [],_,e=>by rw[show _=[]from e];rfl
 |_::_,_,⟨x,xr,e,a,b⟩=>by rw[e,aI,aI,All2.len b]
theorem All2.get:∀{vs:List α} {xs:List β} {i:Nat} {x:β},All2 g vs xs->xs[i]? = some x->∃v,vs[i]? = some v/\g v x
 | [],_,_,_,e,h=>by rw[show _=[]from e]at h;simp at h
 |v::vs,_,0,x,⟨y,yr,e,a,b⟩,h=>by rw[e]at h;cases(ozI h);exact⟨v,rfl,a⟩
 |v::vs,_,i+1,x,⟨y,yr,e,a,b⟩,h=>by
  rw[e]at h
  obtain⟨u,hu,hg⟩:=All2.get (i:=i) b (by simpa using h)
  exact⟨u,by simpa using hu,hg⟩
theorem All2.at:∀{vs:List α} {xs:List β} {i:Nat} {v:α},All2 g vs xs->vs[i]? = some v->∃x,xs[i]? = some x/\g v x
 | [],_,_,_,e,h=>by simp at h
 |v::vs,_,0,w,⟨y,yr,e,a,b⟩,h=>by rw[e];cases(ozI h);exact⟨y,rfl,a⟩
 |v::vs,_,i+1,w,⟨y,yr,e,a,b⟩,h=>by
  rw[e]
  obtain⟨u,hu,hg⟩:=All2.at (i:=i) b (by simpa using h)
  exact⟨u,by simpa using hu,hg⟩
theorem All2.app{us:List α}{ys:List β}(hu:All2 g us ys):∀{vs:List α} {xs:List β},All2 g vs xs->All2 g (vs++us) (xs++ys)
 | [],_,e=>by rw[show _=[]from e];exact hu
 |_::_,_,⟨y,yr,e,a,b⟩=>by rw[e];exact⟨y,yr++ys,rfl,a,All2.app hu b⟩
theorem All2.one{v:α}{x:β}(hg:g v x):All2 g [v] [x]:=⟨x,[],rfl,hg,rfl⟩
theorem All2.snoc{v:α}{x:β}(hg:g v x){vs:List α}{xs:List β}(h:All2 g vs xs):All2 g (vs++[v]) (xs++[x]):=All2.app (All2.one hg) h
theorem All2.take:∀(n:Nat) {vs:List α} {xs:List β},All2 g vs xs->All2 g (vs.take n) (xs.take n)
 | 0,_,_,_=>by simp only[List.take_zero];rfl
 |n+1,[],_,e=>by rw[show _=[]from e];rfl
 |n+1,_::_,_,⟨y,yr,e,a,b⟩=>by rw[e];exact⟨y,yr.take n,rfl,a,All2.take n b⟩
theorem All2.drop:∀(n:Nat) {vs:List α} {xs:List β},All2 g vs xs->All2 g (vs.drop n) (xs.drop n)
 | 0,_,_,h=>h
 |n+1,[],_,e=>by rw[show _=[]from e];rfl
 |n+1,_::_,_,⟨y,yr,e,a,b⟩=>by rw[e];exact All2.drop n b
theorem All2.rev:∀{vs:List α} {xs:List β},All2 g vs xs->All2 g vs.reverse xs.reverse
 | [],_,e=>by rw[show _=[]from e];rfl
 |_::_,_,⟨y,yr,e,a,b⟩=>by rw[e,List.reverse_cons,List.reverse_cons];exact All2.snoc a (All2.rev b)
theorem All2.set{v:α}{x:β}(hg:g v x):∀(i:Nat) {vs:List α} {xs:List β},All2 g vs xs->All2 g (vs.set i v) (xs.set i x)
 |_,[],_,e=>by rw[show _=[]from e];rfl
 | 0,_::_,_,⟨y,yr,e,a,b⟩=>by rw[e];exact⟨x,yr,rfl,hg,b⟩
 |i+1,_::_,_,⟨y,yr,e,a,b⟩=>by rw[e];exact⟨y,yr.set i x,rfl,a,All2.set hg i b⟩
end
inductive Dx where
 |non | bl (b:Bool) | int (i:Int) | str (x:Str) | tup (l:List Dx) | lst (l:List Dx) | dic (l:List (Key×Dx)) | scr (K:dQ) (ns:List Int)
 |ins (C:Addr) (fs:List (Str×Dx)) | exc (c:Value) | pin (b:Addr) (x:Str)
def aSt(a:Addr)(c:Value):Heap->Prop:=λh=>∃o vs,h.get? a=some o/\o.cls=c/\o.data=.fields vs/\o.dict=none
mutual
def IsX(H:Hp):Dx->V->Prop
 | .non,v=>v=.non
 | .bl b,v=>v=.bl b
 | .int i,v=>v=.int i
 | .str x,v=>v=.str x
 | .tup ds,v=>∃a vs,v=.ref a/\H a=some (.tup vs)/\IsXs H ds vs
 | .lst ds,v=>∃a vs,v=.ref a/\H a=some (.lst vs)/\IsXs H ds vs
 | .dic ks,v=>∃a ws,v=.ref a/\Rd H a (.dK ws)/\IsXk H ks ws
 | .scr K ns,v=>∃a,v=.ref a/\SqL K H a (ns.map V.int)
 | .ins C fs,v=>∃a dx ws,v=.ref a/\H a=some (.ins C dx ws)/\IsXf H fs ws
 | .exc c,v=>∃a,v=.ref a/\H a=some (.ext (aSt a c))
 | .pin b x,v=>v=.ref b/\H b=some (.tup [.str x])
def IsXs(H:Hp):List Dx->List V->Prop
 | [],vs=>vs=[]
 |d::r,vs=>∃v vr,vs=v::vr/\IsX H d v/\IsXs H r vr
def IsXk(H:Hp):List (Key×Dx)->List (Key×V)->Prop
 | [],ws=>ws=[]
 |k::r,ws=>∃w wr,ws=w::wr/\(k.1=w.1/\IsX H k.2 w.2/\fL H k.1)/\IsXk H r wr
def IsXf(H:Hp):List (Str×Dx)->List (Str×V)->Prop
 | [],ws=>ws=[]
 |k::r,ws=>∃w wr,ws=w::wr/\(k.1=w.1/\IsX H k.2 w.2)/\IsXf H r wr
end
theorem IsXs.all{H:Hp}:∀{ds:List Dx} {vs:List V},IsXs H ds vs↔All2 (IsX H) ds vs
 | [],vs=>by simp only[IsXs,All2]
 |d::r,vs=>by
  simp only[IsXs,All2]
  constructor
  ·rintro⟨v,vr,e,a,b⟩;exact⟨v,vr,e,a,IsXs.all.mp b⟩
  ·rintro⟨v,vr,e,a,b⟩;exact⟨v,vr,e,a,IsXs.all.mpr b⟩
abbrev KvX(H:Hp)(k:Key×Dx)(w:Key×V):Prop:=k.1=w.1/\IsX H k.2 w.2/\fL H k.1
theorem IsXk.all{H:Hp}:∀{ds:List (Key×Dx)} {vs:List (Key×V)},IsXk H ds vs↔All2 (KvX H) ds vs
 | [],vs=>by simp only[IsXk,All2]
 |d::r,vs=>by
  simp only[IsXk,All2]
  constructor
  ·rintro⟨v,vr,e,a,b⟩;exact⟨v,vr,e,a,IsXk.all.mp b⟩
  ·rintro⟨v,vr,e,a,b⟩;exact⟨v,vr,e,a,IsXk.all.mpr b⟩
abbrev FvX(H:Hp)(k:Str×Dx)(w:Str×V):Prop:=k.1=w.1/\IsX H k.2 w.2
theorem IsXf.all{H:Hp}:∀{ds:List (Str×Dx)} {vs:List (Str×V)},IsXf H ds vs↔All2 (FvX H) ds vs
 | [],vs=>by simp only[IsXf,All2]
 |d::r,vs=>by
  simp only[IsXf,All2]
  constructor
  ·rintro⟨v,vr,e,a,b⟩;exact⟨v,vr,e,a,IsXf.all.mp b⟩
  ·rintro⟨v,vr,e,a,b⟩;exact⟨v,vr,e,a,IsXf.all.mpr b⟩
def SameF(H H':Hp):Prop:=∀b o,H b=some o->H' b=some o\/∃ob ws,(o=.dK ws/\H' b=some (.frz ob (.dK ws)))\/(o=.frz ob (.dK ws)/\H' b=some (.dK ws))
theorem SameF.of{H H':Hp}(e:Same H H'):SameF H H':=λb o h=>.inl (e _ _ h)
theorem SameF.tup{H H':Hp}(e:SameF H H'){a:Addr}{vs:List V}(h:H a=some (.tup vs)):H' a=some (.tup vs):=by
 rcases e _ _ h with q | ⟨ob,ws,q | q⟩
 ·exact q
 ·cases q.1
 ·cases q.1
theorem SameF.keyT{H H':Hp}(e:SameF H H'){k:Key}(h:fL H k):fL H' k:=by
 cases k<;>first | exact True.intro | exact e.tup h
theorem SameF.lst{H H':Hp}(e:SameF H H'){a:Addr}{vs:List V}(h:H a=some (.lst vs)):H' a=some (.lst vs):=by
 rcases e _ _ h with q | ⟨ob,ws,q | q⟩
 ·exact q
 ·cases q.1
 ·cases q.1
theorem SameF.dic{H H':Hp}(e:SameF H H'){a:Addr}{ws:List (Key×V)}(h:Rd H a (.dK ws)):Rd H' a (.dK ws):=by
 rcases h with h | ⟨o,h⟩
 ·rcases e _ _ h with q | ⟨ob,ws,q | q⟩
  ·exact .inl q
  ·obtain⟨q1,q2⟩:=q;cases q1;exact .inr ⟨_,q2⟩
  ·cases q.1
 ·rcases e _ _ h with q | ⟨ob,ws,q | q⟩
  ·exact .inr ⟨_,q⟩
  ·cases q.1
  ·obtain⟨q1,q2⟩:=q;cases q1;exact .inl q2
theorem SameF.ins{H H':Hp}(e:SameF H H'){a C dx:Addr}{ws:List (Str×V)}(h:H a=some (.ins C dx ws)):H' a=some (.ins C dx ws):=by
 rcases e _ _ h with q | ⟨ob,ws,q | q⟩
 ·exact q
 ·cases q.1
 ·cases q.1
theorem SameF.ext{H H':Hp}(e:SameF H H'){a:Addr}{φ:Heap->Prop}(h:H a=some (.ext φ)):H' a=some (.ext φ):=by
 rcases e _ _ h with q | ⟨ob,ws,q | q⟩
 ·exact q
 ·cases q.1
 ·cases q.1
theorem SameF.sq{H H':Hp}(e:SameF H H'){K:dQ}{a:Addr}{xs:List V}(h:SqL K H a xs):SqL K H' a xs:=by
 rcases h with(h | ⟨o,h⟩) | h
 ·exact .inl (.inl (e.lst h))
 ·rcases e _ _ h with q | ⟨ob,ws,q | q⟩
  ·exact .inl (.inr ⟨o,q⟩)
  ·cases q.1
  ·cases q.1
 ·exact .inr h
mutual
theorem IsX.sameF{H H':Hp}(e:SameF H H'):∀(d:Dx) (v:V),IsX H d v->IsX H' d v
 | .non,v,h=>by simpa only[IsX]using h
 | .bl _,v,h=>by simpa only[IsX]using h
 | .int _,v,h=>by simpa only[IsX]using h
 | .str _,v,h=>by simpa only[IsX]using h
 | .tup ds,v,h=>by
  simp only[IsX]at h ⊢
  obtain⟨a,vs,h1,h2,h3⟩:=h
  exact⟨a,vs,h1,e.tup h2,IsXs.sameF e ds vs h3⟩
 | .lst ds,v,h=>by
  simp only[IsX]at h ⊢
  obtain⟨a,vs,h1,h2,h3⟩:=h
  exact⟨a,vs,h1,e.lst h2,IsXs.sameF e ds vs h3⟩
 | .dic ks,v,h=>by
  simp only[IsX]at h ⊢
  obtain⟨a,ws,h1,h2,h3⟩:=h
  exact⟨a,ws,h1,e.dic h2,IsXk.sameF e ks ws h3⟩
 | .scr K ns,v,h=>by
  simp only[IsX]at h ⊢
  obtain⟨a,h1,h2⟩:=h
  exact⟨a,h1,e.sq h2⟩
 | .ins C fs,v,h=>by
  simp only[IsX]at h ⊢
  obtain⟨a,dx,ws,h1,h2,h3⟩:=h
  exact⟨a,dx,ws,h1,e.ins h2,IsXf.sameF e fs ws h3⟩
 | .exc c,v,h=>by
  simp only[IsX]at h ⊢
  obtain⟨a,h1,h2⟩:=h
  exact⟨a,h1,e.ext h2⟩
 | .pin b x,v,h=>by
  simp only[IsX]at h ⊢
  exact⟨h.1,e.tup h.2⟩
theorem IsXs.sameF{H H':Hp}(e:SameF H H'):∀(ds:List Dx) (vs:List V),IsXs H ds vs->IsXs H' ds vs
 | [],vs,h=>by simpa only[IsXs]using h
 |d::r,vs,h=>by
  simp only[IsXs]at h ⊢
  obtain⟨v,vr,h1,h2,h3⟩:=h
  exact⟨v,vr,h1,IsX.sameF e d v h2,IsXs.sameF e r vr h3⟩
theorem IsXk.sameF{H H':Hp}(e:SameF H H'):∀(ds:List (Key×Dx)) (ws:List (Key×V)),IsXk H ds ws->IsXk H' ds ws
 | [],vs,h=>by simpa only[IsXk]using h
 |d::r,vs,h=>by
  simp only[IsXk]at h ⊢
  obtain⟨v,vr,h1,h2,h3⟩:=h
  exact⟨v,vr,h1,⟨h2.1,IsX.sameF e d.2 v.2 h2.2.1,e.keyT h2.2.2⟩,IsXk.sameF e r vr h3⟩
theorem IsXf.sameF{H H':Hp}(e:SameF H H'):∀(ds:List (Str×Dx)) (ws:List (Str×V)),IsXf H ds ws->IsXf H' ds ws
 | [],vs,h=>by simpa only[IsXf]using h
 |d::r,vs,h=>by
  simp only[IsXf]at h ⊢
  obtain⟨v,vr,h1,h2,h3⟩:=h
  exact⟨v,vr,h1,⟨h2.1,IsX.sameF e d.2 v.2 h2.2⟩,IsXf.sameF e r vr h3⟩
end
theorem IsX.toF{H H':Hp}{d:Dx}{v:V}(h:IsX H d v)(e:SameF H H'):IsX H' d v:=IsX.sameF e d v h
theorem IsX.to{H H':Hp}{d:Dx}{v:V}(h:IsX H d v)(e:Same H H'):IsX H' d v:=IsX.sameF (.of e) d v h
theorem IsX.int_eq{H:Hp}{i:Int}{v:V}(h:IsX H (.int i) v):v=.int i:=by simpa only[IsX]using h
theorem IsX.bl_eq{H:Hp}{i:Bool}{v:V}(h:IsX H (.bl i) v):v=.bl i:=by simpa only[IsX]using h
theorem IsX.str_eq{H:Hp}{i:Str}{v:V}(h:IsX H (.str i) v):v=.str i:=by simpa only[IsX]using h
theorem IsX.non_eq{H:Hp}{v:V}(h:IsX H .non v):v=.non:=by simpa only[IsX]using h
theorem IsX.tup_eq{H:Hp}{l:List Dx}{v:V}(h:IsX H (.tup l) v):∃a vs,v=.ref a/\H a=some (.tup vs)/\All2 (IsX H) l vs:=by
 simp only[IsX]at h
 obtain⟨a,vs,h1,h2,h3⟩:=h
 exact⟨a,vs,h1,h2,IsXs.all.mp h3⟩
theorem IsX.lst_eq{H:Hp}{l:List Dx}{v:V}(h:IsX H (.lst l) v):∃a vs,v=.ref a/\H a=some (.lst vs)/\All2 (IsX H) l vs:=by
 simp only[IsX]at h
 obtain⟨a,vs,h1,h2,h3⟩:=h
 exact⟨a,vs,h1,h2,IsXs.all.mp h3⟩
theorem IsX.dic_eq{H:Hp}{l:List (Key×Dx)}{v:V}(h:IsX H (.dic l) v):∃a ws,v=.ref a/\Rd H a (.dK ws)/\All2 (KvX H) l ws:=by
 simp only[IsX]at h
 obtain⟨a,vs,h1,h2,h3⟩:=h
 exact⟨a,vs,h1,h2,IsXk.all.mp h3⟩
theorem IsX.scr_eq{H:Hp}{K:dQ}{ns:List Int}{v:V}(h:IsX H (.scr K ns) v):∃a,v=.ref a/\SqL K H a (ns.map V.int):=by simpa only[IsX]using h
theorem IsX.of_scr{H:Hp}{K:dQ}{ns:List Int}{a:Addr}(h:SqL K H a (ns.map V.int)):IsX H (.scr K ns) (.ref a):=by simp only[IsX];exact⟨a,rfl,h⟩
theorem IsX.of_ins{H:Hp}{C a dx:Addr}{fs:List (Str×Dx)}{ws:List (Str×V)}(h:H a=some (.ins C dx ws))(h':All2 (FvX H) fs ws):IsX H (.ins C fs) (.ref a):=by simp only[IsX];exact⟨a,dx,ws,rfl,h,IsXf.all.mpr h'⟩
theorem IsX.pin_eq{H:Hp}{b:Addr}{x:Str}{v:V}(h:IsX H (.pin b x) v):v=.ref b/\H b=some (.tup [.str x]):=by simpa only[IsX]using h
theorem IsX.of_pin{H:Hp}{b:Addr}{x:Str}(h:H b=some (.tup [.str x])):IsX H (.pin b x) (.ref b):=by simp only[IsX];exact⟨trivial,h⟩
theorem IsX.of_int{H:Hp}(i:Int):IsX H (.int i) (.int i):=by simp only[IsX]
theorem IsX.of_bl{H:Hp}(i:Bool):IsX H (.bl i) (.bl i):=by simp only[IsX]
theorem IsX.of_str{H:Hp}(i:Str):IsX H (.str i) (.str i):=by simp only[IsX]
theorem IsX.of_non{H:Hp}:IsX H .non .non:=by simp only[IsX]
theorem IsX.of_tup{H:Hp}{l:List Dx}{a:Addr}{vs:List V}(h:H a=some (.tup vs))(h':All2 (IsX H) l vs):IsX H (.tup l) (.ref a):=by simp only[IsX];exact⟨a,vs,rfl,h,IsXs.all.mpr h'⟩
theorem IsX.of_lst{H:Hp}{l:List Dx}{a:Addr}{vs:List V}(h:H a=some (.lst vs))(h':All2 (IsX H) l vs):IsX H (.lst l) (.ref a):=by simp only[IsX];exact⟨a,vs,rfl,h,IsXs.all.mpr h'⟩
theorem IsX.of_dic{H:Hp}{l:List (Key×Dx)}{a:Addr}{vs:List (Key×V)}(h:Rd H a (.dK vs))(h':All2 (KvX H) l vs):IsX H (.dic l) (.ref a):=by simp only[IsX];exact⟨a,vs,rfl,h,IsXk.all.mpr h'⟩
inductive Ow where
 |tr (d:Dx) | ol (a:Addr) (l:List Ow) | od (a:Addr) (l:List (Key×Ow)) | oi (C a dx:Addr) (l:List (Str×Ow)) | ot (l:List Ow)
mutual
def Ow.d:Ow->Dx
 | .tr d=>d
 | .ol _ l=>.lst (i7 l)
 | .od _ l=>.dic (aBa l)
 | .oi C _ _ l=>.ins C (aBb l)
 | .ot l=>.tup (i7 l)
def i7:List Ow->List Dx
 | []=>[]
 |o::r=>o.d::i7 r
def aBa:List (Key×Ow)->List (Key×Dx)
 | []=>[]
 |o::r=>(o.1,o.2.d)::aBa r
def aBb:List (Str×Ow)->List (Str×Dx)
 | []=>[]
 |o::r=>(o.1,o.2.d)::aBb r
end
mutual
def Ow.fp:Ow->List Addr
 | .tr _=>[]
 | .ol a l=>a::oW l
 | .od a l=>a::rM l
 | .oi _ a dx l=>a::dx::rO l
 | .ot l=>oW l
def oW:List Ow->List Addr
 | []=>[]
 |o::r=>o.fp++oW r
def rM:List (Key×Ow)->List Addr
 | []=>[]
 |o::r=>o.2.fp++rM r
def rO:List (Str×Ow)->List Addr
 | []=>[]
 |o::r=>o.2.fp++rO r
end
mutual
def OwOk(G H:Hp):Ow->V->Prop
 | .tr d,v=>IsX G d v
 | .ol a l,v=>v=.ref a/\∃vs,H a=some (.lst vs)/\OwOks G H l vs
 | .od a l,v=>v=.ref a/\∃ws,H a=some (.dK ws)/\OwOkk G H l ws
 | .oi C a dx l,v=>v=.ref a/\∃ws,H a=some (.ins C dx ws)/\H dx=some (.own a)/\OwOkf G H l ws
 | .ot l,v=>∃a vs,v=.ref a/\G a=some (.tup vs)/\OwOks G H l vs
def OwOks(G H:Hp):List Ow->List V->Prop
 | [],vs=>vs=[]
 |o::r,vs=>∃v vr,vs=v::vr/\OwOk G H o v/\OwOks G H r vr
def OwOkk(G H:Hp):List (Key×Ow)->List (Key×V)->Prop
 | [],vs=>vs=[]
 |o::r,vs=>∃v vr,vs=v::vr/\(o.1=v.1/\OwOk G H o.2 v.2/\fL G o.1)/\OwOkk G H r vr
def OwOkf(G H:Hp):List (Str×Ow)->List (Str×V)->Prop
 | [],vs=>vs=[]
 |o::r,vs=>∃v vr,vs=v::vr/\(o.1=v.1/\OwOk G H o.2 v.2)/\OwOkf G H r vr
end
section
variable{G G' H H':Hp}
mutual
theorem OwOk.mono(e:SameF G G'):∀(o:Ow) (v:V),(∀b∈o.fp,H' b=H b)->OwOk G H o v->OwOk G' H' o v
 | .tr d,v,_,h=>by simp only[OwOk]at h ⊢;exact h.toF e
 | .ol a l,v,k,h=>by
  simp only[OwOk,Ow.fp]at h k ⊢
  obtain⟨h1,vs,h2,h3⟩:=h
  exact⟨h1,vs,by rw[k a aA];exact h2,OwOks.mono e l vs (λb hb=>k b (aB _ hb)) h3⟩
 | .od a l,v,k,h=>by
  simp only[OwOk,Ow.fp]at h k ⊢
  obtain⟨h1,vs,h2,h3⟩:=h
  exact⟨h1,vs,by rw[k a aA];exact h2,OwOkk.mono e l vs (λb hb=>k b (aB _ hb)) h3⟩
 | .oi C a dx l,v,k,h=>by
  simp only[OwOk,Ow.fp]at h k ⊢
  obtain⟨h1,vs,h2,h4,h3⟩:=h
  exact⟨h1,vs,by rw[k a aA];exact h2,by rw[k dx (aB _ aA)];exact h4,OwOkf.mono e l vs (λb hb=>k b (aB _ (aB _ hb))) h3⟩
 | .ot l,v,k,h=>by
  simp only[OwOk,Ow.fp]at h k ⊢
  obtain⟨a,vs,h1,h2,h3⟩:=h
  exact⟨a,vs,h1,e.tup h2,OwOks.mono e l vs k h3⟩
theorem OwOks.mono(e:SameF G G'):∀(l:List Ow) (vs:List V),(∀b∈oW l,H' b=H b)->OwOks G H l vs->OwOks G' H' l vs
 | [],vs,_,h=>by simpa only[OwOks]using h
 |o::r,vs,k,h=>by
  simp only[OwOks,oW]at h k ⊢
  obtain⟨v,vr,h1,h2,h3⟩:=h
  exact⟨v,vr,h1,OwOk.mono e o v (λb hb=>k b (bG _ hb)) h2,OwOks.mono e r vr (λb hb=>k b (aG _ hb)) h3⟩
theorem OwOkk.mono(e:SameF G G'):∀(l:List (Key×Ow)) (vs:List (Key×V)),(∀b∈rM l,H' b=H b)->OwOkk G H l vs->OwOkk G' H' l vs
 | [],vs,_,h=>by simpa only[OwOkk]using h
 |o::r,vs,k,h=>by
  simp only[OwOkk,rM]at h k ⊢
  obtain⟨v,vr,h1,h2,h3⟩:=h
  exact⟨v,vr,h1,⟨h2.1,OwOk.mono e o.2 v.2 (λb hb=>k b (bG _ hb)) h2.2.1,e.keyT h2.2.2⟩,OwOkk.mono e r vr (λb hb=>k b (aG _ hb)) h3⟩
theorem OwOkf.mono(e:SameF G G'):∀(l:List (Str×Ow)) (vs:List (Str×V)),(∀b∈rO l,H' b=H b)->OwOkf G H l vs->OwOkf G' H' l vs
 | [],vs,_,h=>by simpa only[OwOkf]using h
 |o::r,vs,k,h=>by
  simp only[OwOkf,rO]at h k ⊢
  obtain⟨v,vr,h1,h2,h3⟩:=h
  exact⟨v,vr,h1,⟨h2.1,OwOk.mono e o.2 v.2 (λb hb=>k b (bG _ hb)) h2.2⟩,OwOkf.mono e r vr (λb hb=>k b (aG _ hb)) h3⟩
end
def aHk(H:Hp)(b:Addr):Prop:=∃o,H b=some o/\(∀ob u,o ≠ .frz ob u)/\∀vs,o ≠ .tup vs
mutual
theorem OwOk.there:∀(o:Ow) (v:V),OwOk G H o v->∀b∈o.fp,aHk H b
 | .tr d,v,_,b,hb=>by simp only[Ow.fp]at hb;cases hb
 | .ol a l,v,h,b,hb=>by
  simp only[OwOk,Ow.fp]at h hb
  obtain⟨h1,vs,h2,h3⟩:=h
  rcases aF.mp hb with rfl | hb
  ·exact⟨_,h2,(λ_ _ z=>nomatch z),λ_ z=>nomatch z⟩
  ·exact OwOks.there l vs h3 b hb
 | .od a l,v,h,b,hb=>by
  simp only[OwOk,Ow.fp]at h hb
  obtain⟨h1,vs,h2,h3⟩:=h
  rcases aF.mp hb with rfl | hb
  ·exact⟨_,h2,(λ_ _ z=>nomatch z),λ_ z=>nomatch z⟩
  ·exact OwOkk.there l vs h3 b hb
 | .oi C a dx l,v,h,b,hb=>by
  simp only[OwOk,Ow.fp]at h hb
  obtain⟨h1,vs,h2,h4,h3⟩:=h
  rcases aF.mp hb with rfl | hb
  ·exact⟨_,h2,(λ_ _ z=>nomatch z),λ_ z=>nomatch z⟩
  ·rcases aF.mp hb with rfl | hb
   ·exact⟨_,h4,(λ_ _ z=>nomatch z),λ_ z=>nomatch z⟩
   ·exact OwOkf.there l vs h3 b hb
 | .ot l,v,h,b,hb=>by
  simp only[OwOk,Ow.fp]at h hb
  obtain⟨a,vs,h1,h2,h3⟩:=h
  exact OwOks.there l vs h3 b hb
theorem OwOks.there:∀(l:List Ow) (vs:List V),OwOks G H l vs->∀b∈oW l,aHk H b
 | [],vs,_,b,hb=>by simp only[oW]at hb;cases hb
 |o::r,vs,h,b,hb=>by
  simp only[OwOks,oW]at h hb
  obtain⟨v,vr,h1,h2,h3⟩:=h
  rcases bD.mp hb with hb | hb
  ·exact OwOk.there o v h2 b hb
  ·exact OwOks.there r vr h3 b hb
theorem OwOkk.there:∀(l:List (Key×Ow)) (vs:List (Key×V)),OwOkk G H l vs->∀b∈rM l,aHk H b
 | [],vs,_,b,hb=>by simp only[rM]at hb;cases hb
 |o::r,vs,h,b,hb=>by
  simp only[OwOkk,rM]at h hb
  obtain⟨v,vr,h1,h2,h3⟩:=h
  rcases bD.mp hb with hb | hb
  ·exact OwOk.there o.2 v.2 h2.2.1 b hb
  ·exact OwOkk.there r vr h3 b hb
theorem OwOkf.there:∀(l:List (Str×Ow)) (vs:List (Str×V)),OwOkf G H l vs->∀b∈rO l,aHk H b
 | [],vs,_,b,hb=>by simp only[rO]at hb;cases hb
 |o::r,vs,h,b,hb=>by
  simp only[OwOkf,rO]at h hb
  obtain⟨v,vr,h1,h2,h3⟩:=h
  rcases bD.mp hb with hb | hb
  ·exact OwOk.there o.2 v.2 h2.2 b hb
  ·exact OwOkf.there r vr h3 b hb
end
mutual
theorem OwOk.tree(e:SameF G G'):∀(o:Ow) (v:V),(∀b∈o.fp,G' b=H b)->OwOk G H o v->IsX G' o.d v
 | .tr d,v,_,h=>by simp only[OwOk,Ow.d]at h ⊢;exact h.toF e
 | .ol a l,v,k,h=>by
  simp only[OwOk,Ow.fp,Ow.d]at h k ⊢
  obtain⟨h1,vs,h2,h3⟩:=h
  subst h1
  exact IsX.of_lst (by rw[k a aA];exact h2) (OwOks.tree e l vs (λb hb=>k b (aB _ hb)) h3)
 | .od a l,v,k,h=>by
  simp only[OwOk,Ow.fp,Ow.d]at h k ⊢
  obtain⟨h1,vs,h2,h3⟩:=h
  subst h1
  exact IsX.of_dic (.inl (by rw[k a aA];exact h2)) (OwOkk.tree e l vs (λb hb=>k b (aB _ hb)) h3)
 | .oi C a dx l,v,k,h=>by
  simp only[OwOk,Ow.fp,Ow.d]at h k ⊢
  obtain⟨h1,vs,h2,h4,h3⟩:=h
  subst h1
  exact IsX.of_ins (by rw[k a aA];exact h2) (OwOkf.tree e l vs (λb hb=>k b (aB _ (aB _ hb))) h3)
 | .ot l,v,k,h=>by
  simp only[OwOk,Ow.fp,Ow.d]at h k ⊢
  obtain⟨a,vs,h1,h2,h3⟩:=h
  subst h1
  exact IsX.of_tup (e.tup h2) (OwOks.tree e l vs k h3)
theorem OwOks.tree(e:SameF G G'):∀(l:List Ow) (vs:List V),(∀b∈oW l,G' b=H b)->OwOks G H l vs->All2 (IsX G') (i7 l) vs
 | [],vs,_,h=>by simpa only[OwOks,i7,All2]using h
 |o::r,vs,k,h=>by
  simp only[OwOks,oW,i7]at h k ⊢
  obtain⟨v,vr,h1,h2,h3⟩:=h
  exact⟨v,vr,h1,OwOk.tree e o v (λb hb=>k b (bG _ hb)) h2,OwOks.tree e r vr (λb hb=>k b (aG _ hb)) h3⟩
theorem OwOkk.tree(e:SameF G G'):∀(l:List (Key×Ow)) (vs:List (Key×V)),(∀b∈rM l,G' b=H b)->OwOkk G H l vs->All2 (KvX G') (aBa l) vs
 | [],vs,_,h=>by simpa only[OwOkk,aBa,All2]using h
 |o::r,vs,k,h=>by
  simp only[OwOkk,rM,aBa]at h k ⊢
  obtain⟨v,vr,h1,h2,h3⟩:=h
  exact⟨v,vr,h1,⟨h2.1,OwOk.tree e o.2 v.2 (λb hb=>k b (bG _ hb)) h2.2.1,e.keyT h2.2.2⟩,OwOkk.tree e r vr (λb hb=>k b (aG _ hb)) h3⟩
theorem OwOkf.tree(e:SameF G G'):∀(l:List (Str×Ow)) (vs:List (Str×V)),(∀b∈rO l,G' b=H b)->OwOkf G H l vs->All2 (FvX G') (aBb l) vs
 | [],vs,_,h=>by simpa only[OwOkf,aBb,All2]using h
 |o::r,vs,k,h=>by
  simp only[OwOkf,rO,aBb]at h k ⊢
  obtain⟨v,vr,h1,h2,h3⟩:=h
  exact⟨v,vr,h1,⟨h2.1,OwOk.tree e o.2 v.2 (λb hb=>k b (bG _ hb)) h2.2⟩,OwOkf.tree e r vr (λb hb=>k b (aG _ hb)) h3⟩
end
end
inductive Sv where
 |tr (d:Dx) | ol (l:List Dx) | od (l:List (Key×Dx)) | ow (o:Ow)
def Sv.d:Sv->Dx
 | .tr d=>d
 | .ol l=>.lst l
 | .od l=>.dic l
 | .ow o=>o.d
inductive Sl where
 |un | v (s:Sv) | bw (l:List Dx) | bo (o:Ow) | pn (v:V) | ba (a:Addr) (l:List Dx)
abbrev vT(d:Dx):Sl:=.v (.tr d)
abbrev Rw:=Sl×Option V
def gS:Rw->List Addr
 |(.v (.ol _),some (.ref a))=>[a]
 |(.v (.od _),some (.ref a))=>[a]
 |(.bw _,some (.ref a))=>[a]
 |(.v (.ow o),_)=>o.fp
 |(.bo o,_)=>o.fp
 |(.ba a _,_)=>[a]
 |_=>[]
def bM(P:List Rw):List Addr:=P.flatMap gS
def hid(O:List Addr)(H:Hp):Hp:=λb=>if b∈O then none else H b
theorem aY{O:List Addr}{H:Hp}{b:Addr}{o:HO}:hid O H b=some o↔b∉O/\H b=some o:=by
 unfold hid
 by_cases h:b∈O
 ·rw[if_pos h];simp[h]
 ·rw[if_neg h];simp[h]
theorem nM{O:List Addr}{H H':Hp}(e:Same H H'):Same (hid O H) (hid O H'):=λb o h=>aY.mpr ⟨(aY.mp h).1,e _ _ (aY.mp h).2⟩
theorem kZ{O O':List Addr}{H:Hp}(e:∀a∈O',a∈O):Same (hid O H) (hid O' H):=λb o h=>aY.mpr ⟨λz=>(aY.mp h).1 (e _ z),(aY.mp h).2⟩
theorem zL{O:List Addr}{H:Hp}:Same (hid O H) H:=λb o h=>(aY.mp h).2
def nf:Option HO->Option HO
 |some (.frz _ _)=>none
 |o=>o
theorem lT{x:Option HO}{o:HO}(h:nf x=some o):x=some o:=by
 unfold nf at h
 split at h
 ·cases h
 ·exact h
theorem rS{x y:Option HO}{o:HO}(h:nf x=some o)(e:∀o,x=some o->y=some o):nf y=some o:=by
 have hx:=lT h
 rw[hx]at h
 rw[e o hx]
 exact h
def ext(Hs H0 H:Hp):Hp:=λb=>match H0 b with | none=>nf (H b) | some _=>Hs b
theorem oI{Hs H0 H:Hp}{b:Addr}(h:H0 b=none):ext Hs H0 H b=nf (H b):=by unfold ext;rw[h]
theorem lE{Hs H0 H:Hp}{b:Addr}{o:HO}(h:H0 b=some o):ext Hs H0 H b=Hs b:=by unfold ext;rw[h]
theorem ft_{Hs H0 H H':Hp}(e:Same H H'):Same (ext Hs H0 H) (ext Hs H0 H'):=λb o h=>by
 cases q:H0 b with
 |none=>rw[oI q]at h ⊢;exact rS h (e b)
 |some u=>rw[lE q]at h ⊢;exact h
def RowOk(O:List Addr)(G H:Hp):Rw->Prop
 |(.un,_)=>True
 |(.pn w,v)=>v=some w
 |(.v (.tr d),v)=>∃x,v=some x/\IsX (hid O G) d x
 |(.v (.ol l),v)=>∃a vs,v=some (.ref a)/\H a=some (.lst vs)/\All2 (IsX (hid O G)) l vs
 |(.v (.od l),v)=>∃a ws,v=some (.ref a)/\H a=some (.dK ws)/\All2 (KvX (hid O G)) l ws
 |(.bw l,v)=>∃a vs,v=some (.ref a)/\H a=some (.lst vs)/\All2 (IsX (hid O G)) l vs
 |(.v (.ow o),v)=>∃x,v=some x/\OwOk (hid O G) H o x
 |(.bo o,v)=>∃x,v=some x/\OwOk (hid O G) H o x
 |(.ba a l,v)=>v=some (.ref a)/\∃vs,H a=some (.lst vs)/\All2 (IsX (hid O G)) l vs
theorem KvX.toF{H H':Hp}{k:Key×Dx}{w:Key×V}(h:KvX H k w)(e:SameF H H'):KvX H' k w:=⟨h.1,h.2.1.toF e,e.keyT h.2.2⟩
theorem KvX.to{H H':Hp}{k:Key×Dx}{w:Key×V}(h:KvX H k w)(e:Same H H'):KvX H' k w:=⟨h.1,h.2.1.to e,(SameF.of e).keyT h.2.2⟩
theorem RowOk.mono{O O':List Addr}{G G' H H':Hp}{r:Rw}(h:RowOk O G H r)(e:SameF (hid O G) (hid O' G'))(ho:∀a∈gS r,H' a=H a):RowOk O' G' H' r:=by
 match r,h,ho with
 |(.un,_),_,_=>trivial
 |(.pn w,v),h,_=>exact h
 |(.v (.tr d),v),⟨x,h1,h2⟩,_=>exact⟨x,h1,h2.toF e⟩
 |(.v (.ol l),v),⟨a,vs,h1,h2,h3⟩,ho =>
  subst h1
  exact⟨a,vs,rfl,by rw[ho a (aH.mpr rfl)];exact h2,h3.imp λ_ _ z=>z.toF e⟩
 |(.v (.od l),v),⟨a,vs,h1,h2,h3⟩,ho =>
  subst h1
  exact⟨a,vs,rfl,by rw[ho a (aH.mpr rfl)];exact h2,h3.imp λ_ _ z=>z.toF e⟩
 |(.bw l,v),⟨a,vs,h1,h2,h3⟩,ho =>
  subst h1
  exact⟨a,vs,rfl,by rw[ho a (aH.mpr rfl)];exact h2,h3.imp λ_ _ z=>z.toF e⟩
 |(.v (.ow o),v),⟨x,h1,h2⟩,ho=>exact⟨x,h1,OwOk.mono e o x ho h2⟩
 |(.bo o,v),⟨x,h1,h2⟩,ho=>exact⟨x,h1,OwOk.mono e o x ho h2⟩
 |(.ba a l,v),⟨h1,vs,h2,h3⟩,ho=>exact⟨h1,vs,by rw[ho a (aH.mpr rfl)];exact h2,h3.imp λ_ _ z=>z.toF e⟩
structure Fm where
 H0:Hp
 Hs:Hp
 B:List Addr
 sub:Same Hs H0
 nb:∀b∈B,Hs b=none
 ib:∀b∈B,∃o,H0 b=some o
abbrev Fm.vis(F:Fm)(H:Hp):Hp:=ext F.Hs F.H0 H
def FrOk(F:Fm)(r:Rw)(a:Addr):Prop:=match r.1 with
 | .bw _=>a∈F.B
 | .bo _=>a∈F.B\/F.H0 a=none
 | .ba _ _=>a∈F.B
 |_=>F.H0 a=none
theorem FrOk.or{F:Fm}{r:Rw}{a:Addr}(h:FrOk F r a):a∈F.B\/F.H0 a=none:=by
 unfold FrOk at h
 split at h
 ·exact .inl h
 ·exact h
 ·exact .inl h
 ·exact .inr h
structure Rep(F:Fm)(P:List Rw)(H:Hp):Prop where
 nd:(bM P).Nodup
 ok:∀r∈P,RowOk (bM P) (F.vis H) H r
 fr:∀r∈P,∀a∈gS r,FrOk F r a
 kp:∀b o,F.H0 b=some o->b∉F.B->H b=some o
 lv:∀b∈F.B,∃o,H b=some o
section
variable{F:Fm}{P P':List Rw}{H H':Hp}{r r':Rw}{d:Dx}{v:V}{a p:Addr}{l l':List Dx}{vs vs':List V}{k k':List (Key×Dx)}{ws ws':List (Key×V)}{s:Sv}{x:Option V}
theorem bx_:bM (r::P)=gS r++bM P:=by
 unfold bM
 rw[List.flatMap_cons]
theorem kC(h:gS r=[a]):bM (r::P)=a::bM P:=by rw[bx_,h];rfl
theorem do_(h:gS r=[]):bM (r::P)=bM P:=by rw[bx_,h];rfl
theorem i6(h:P.Perm P'):(bM P).Perm (bM P'):=h.flatMap_right _
theorem Rep.vis(R:Rep F P H):Same (F.vis H) H:=λb o h=>by
 cases q:F.H0 b with
 |none=>exact lT ((oI q).symm.trans h)
 |some u =>
  have h:=(lE q).symm.trans h
  have:=F.sub _ _ h
  exact R.kp b o this λz=>by rw[F.nb b z]at h;cases h
theorem Rep.hv(R:Rep F P H){O:List Addr}:Same (hid O (F.vis H)) H:=λb o h=>R.vis b o (aY.mp h).2
theorem Rep.fresh(R:Rep F P H)(hp:H p=none):F.H0 p=none:=by
 cases q:F.H0 p with
 |none=>rfl
 |some o =>
  by_cases hB:p∈F.B
  ·obtain⟨u,hu⟩:=R.lv p hB;rw[hp]at hu;cases hu
  ·rw[R.kp p o q hB]at hp;cases hp
theorem Rep.perm(R:Rep F P H)(h:P.Perm P'):Rep F P' H:=by
 have hp:(bM P).Perm (bM P'):=i6 h
 exact⟨hp.nodup_iff.mp R.nd,λr hr=>(R.ok r (h.mem_iff.mpr hr)).mono (.of (kZ λa ha=>hp.mem_iff.mpr ha)) λ_ _=>rfl,λr hr=>R.fr r (h.mem_iff.mpr hr),R.kp,R.lv⟩
theorem Rep.tail(R:Rep F (r::P) H):Rep F P H:=by
 have hs:∀a∈bM P,a∈bM (r::P):=λa ha=>by rw[bx_];exact aG _ ha
 refine⟨?_,λx hx=>(R.ok x (aB _ hx)).mono (.of (kZ hs)) λ_ _=>rfl,λx hx=>R.fr x (aB _ hx),R.kp,R.lv⟩
 have:=R.nd
 rw[bx_]at this
 exact(dC.mp this).2.1
theorem dp_(h:r∈P)(e:a∈gS r):a∈bM P:=List.mem_flatMap.mpr ⟨r,h,e⟩
theorem aOq{α:Type}{x:α}{l:List α}(h:l=[x]):x∈l:=by rw[h];exact aH.mpr rfl
theorem eq1{α:Type}{x y:α}{l:List α}(h:l=[x])(hy:y∈l):y=x:=by rw[h]at hy;exact aH.mp hy
theorem Rep.own_in(R:Rep F P H)(h:a∈bM P):∃o,H a=some o:=by
 obtain⟨⟨sl,v⟩,hr,e⟩:=List.mem_flatMap.mp h
 have t:=R.ok (sl,v) hr
 cases sl with
 |v s =>
  cases s with
  |tr d=>exact absurd (show a∈([]:List Addr)from e) bJ
  |ol l =>
   obtain⟨c,vs,h1,h2,_⟩:=t
   cases h1
   rw[aH.mp (show a∈[c]from e)]
   exact⟨_,h2⟩
  |od l =>
   obtain⟨c,vs,h1,h2,_⟩:=t
   cases h1
   rw[aH.mp (show a∈[c]from e)]
   exact⟨_,h2⟩
  |ow o =>
   obtain⟨x,h1,h2⟩:=t
   obtain⟨u,hu,_⟩:=OwOk.there o x h2 a e
   exact⟨u,hu⟩
 |bw l =>
  obtain⟨c,vs,h1,h2,_⟩:=t
  cases h1
  rw[aH.mp (show a∈[c]from e)]
  exact⟨_,h2⟩
 |bo o =>
  obtain⟨x,h1,h2⟩:=t
  obtain⟨u,hu,_⟩:=OwOk.there o x h2 a e
  exact⟨u,hu⟩
 |ba c l =>
  obtain⟨_,vs,h2,_⟩:=t
  rw[aH.mp (show a∈[c]from e)]
  exact⟨_,h2⟩
 |un=>exact absurd (show a∈([]:List Addr)from e) bJ
 |pn _=>exact absurd (show a∈([]:List Addr)from e) bJ
theorem Rep.not_own(R:Rep F P H)(hp:H p=none):p∉bM P:=λz=>by
 obtain⟨o,ho⟩:=R.own_in z
 rw[hp]at ho
 cases ho
theorem Rep.grow(R:Rep F P H)(e:Same H H'):Rep F P H':=by
 refine⟨R.nd,λr hr=>(R.ok r hr).mono (.of (nM (ft_ e))) λa ha=>?_,R.fr,λb o h1 h2=>e _ _ (R.kp b o h1 h2),λb hb=>?_⟩
 ·obtain ⟨o,ho⟩:=R.own_in (dp_ hr ha)
  rw[ho,e _ _ ho]
 ·obtain ⟨o,ho⟩:=R.lv b hb
  exact⟨o,e _ _ ho⟩
theorem Rep.cons0(R:Rep F P H)(ho:gS r=[])(h:RowOk (bM P) (F.vis H) H r):Rep F (r::P) H:=by
 refine⟨by rw[do_ ho];exact R.nd,λx hx=>?_,λx hx a ha=>?_,R.kp,R.lv⟩
 ·rw [do_ ho]
  rcases aF.mp hx with rfl | hx
  ·exact h
  ·exact R.ok x hx
 ·rcases aF.mp hx with rfl | hx
  ·rw[ho]at ha;cases ha
  ·exact R.fr x hx a ha
theorem Rep.add(R:Rep F P H)(h:IsX (hid (bM P) (F.vis H)) d v):Rep F ((vT d,some v)::P) H:=R.cons0 rfl ⟨v,rfl,h⟩
theorem Rep.addU(R:Rep F P H):Rep F ((.un,x)::P) H:=R.cons0 rfl trivial
theorem Rep.head(R:Rep F ((.v s,x)::P) H):∃v,x=some v/\IsX (hid (bM P) (F.vis H)) s.d v:=by
 have h:=R.ok _ aA
 have hs:∀a∈bM P,a∈bM ((.v s,x)::P):=λa ha=>by rw[bx_];exact aG _ ha
 have hn:=R.nd
 have hf:=R.fr _ aA
 match s,h with
 | .tr d,⟨v,h1,h2⟩=>exact⟨v,h1,h2.to (kZ hs)⟩
 | .ol l,⟨a,vs,h1,h2,h3⟩ =>
  subst h1
  have q:F.H0 a=none:=hf a (aH.mpr rfl)
  rw[kC (a:=a) rfl]at hn
  exact⟨.ref a,rfl,IsX.of_lst (vs:=vs) (aY.mpr ⟨(cE.mp hn).1,(oI q).trans (by rw[h2];rfl)⟩) (h3.imp λ_ _ z=>z.to (kZ hs))⟩
 | .od l,⟨a,vs,h1,h2,h3⟩ =>
  subst h1
  have q:F.H0 a=none:=hf a (aH.mpr rfl)
  rw[kC (a:=a) rfl]at hn
  exact⟨.ref a,rfl,IsX.of_dic (vs:=vs) (.inl (aY.mpr ⟨(cE.mp hn).1,(oI q).trans (by rw[h2];rfl)⟩)) (h3.imp λ_ _ z=>z.to (kZ hs))⟩
 | .ow o,⟨v,h1,h2⟩ =>
  refine⟨v,h1,OwOk.tree (.of (kZ hs)) o v (λb hb=>?_) h2⟩
  have q:F.H0 b=none:=hf b hb
  obtain⟨u,hu,Bz,_⟩:=OwOk.there o v h2 b hb
  rw[bx_]at hn
  have hb2:b∉bM P:=λz=>(dC.mp hn).2.2 b hb b z rfl
  rw[hu]
  refine aY.mpr ⟨hb2,(oI q).trans ?_⟩
  rw[hu]
  unfold nf
  split
  ·rename_i e;cases e;exact absurd rfl (Bz _ _)
  ·rfl
theorem Rep.frz(R:Rep F ((.v s,x)::P) H):Rep F ((vT s.d,x)::P) H:=by
 obtain⟨v,rfl,h⟩:=R.head
 exact R.tail.add h
theorem rZ{O:List Addr}{Hs H0:Hp}(hp:H p=none){o:HO}(hq:H0 p=none):Same (hid O (ext Hs H0 H)) (hid (p::O) (ext Hs H0 (upd H p o))):=λb u hb=>by
 have Aj:=aY.mp hb
 have Dp:b≠p:=λz=>by have:=lT ((oI hq).symm.trans (z ▸ Aj.2));rw[hp]at this;cases this
 refine aY.mpr ⟨λz=>(aF.mp z).elim Dp Aj.1,?_⟩
 cases q:H0 b with
 |none=>exact(oI q).trans ((congrArg nf (eJ Dp)).trans ((oI q).symm.trans Aj.2))
 |some w=>exact(lE q).trans ((lE q).symm.trans Aj.2)
theorem Rep.new_own(R:Rep F P H)(hp:H p=none){o:HO}(hA:gS (.v s,some (.ref p))=[p])(h:RowOk (p::bM P) (F.vis (upd H p o)) (upd H p o) (.v s,some (.ref p))):Rep F ((.v s,some (.ref p))::P) (upd H p o):=by
 have An:=R.not_own hp
 have hq:=R.fresh hp
 refine⟨by rw[kC hA];exact cE.mpr ⟨An,R.nd⟩,λr hr=>?_,λr hr a ha=>?_,λb o h1 h2=>?_,λb hb=>?_⟩
 ·rw [kC hA]
  rcases aF.mp hr with rfl | hr
  ·exact h
  ·exact(R.ok r hr).mono (.of (rZ hp hq)) λa ha=>eJ λz=>An (z ▸ dp_ hr ha)
 ·rcases aF.mp hr with rfl | hr
  ·cases eq1 hA ha;exact hq
  ·exact R.fr r hr a ha
 ·have:=R.kp b o h1 h2
  rw[eJ λz=>by rw[z,hp]at this;cases this]
  exact this
 ·obtain ⟨u,hu⟩:=R.lv b hb
  exact⟨u,by rw[eJ λz=>by rw[z,hp]at hu;cases hu];exact hu⟩
theorem Rep.newL(R:Rep F P H)(hp:H p=none)(h:All2 (IsX (hid (bM P) (F.vis H))) l vs):Rep F ((.v (.ol l),some (.ref p))::P) (upd H p (.lst vs)):=
 R.new_own hp rfl ⟨p,vs,rfl,bU,h.imp λ_ _ z=>z.to (rZ hp (R.fresh hp))⟩
theorem Rep.newD(R:Rep F P H)(hp:H p=none)(h:All2 (KvX (hid (bM P) (F.vis H))) k ws):Rep F ((.v (.od k),some (.ref p))::P) (upd H p (.dK ws)):=
 R.new_own hp rfl ⟨p,ws,rfl,bU,h.imp λ_ _ z=>z.to (rZ hp (R.fresh hp))⟩
theorem Rep.newT(R:Rep F P H)(hp:H p=none)(h:All2 (IsX (hid (bM P) (F.vis H))) l vs):Rep F ((vT (.tup l),some (.ref p))::P) (upd H p (.tup vs)):=by
 have e:Same H (upd H p (.tup vs)):=ds_ hp _
 exact(R.grow e).add (IsX.of_tup (vs:=vs) (aY.mpr ⟨R.not_own hp,(oI (R.fresh hp)).trans (by rw[bU];rfl)⟩) (h.imp λ_ _ z=>z.to (nM (ft_ e))))
theorem rY{O:List Addr}{o:HO}{Hs H0:Hp}:Same (hid (a::O) (ext Hs H0 H)) (hid (a::O) (ext Hs H0 (upd H a o))):=λb u hb=>by
 have Aj:=aY.mp hb
 have Fe:b≠a:=λz=>Aj.1 (by rw[z];exact aA)
 refine aY.mpr ⟨Aj.1,?_⟩
 cases q:H0 b with
 |none=>exact(oI q).trans ((congrArg nf (eJ Fe)).trans ((oI q).symm.trans Aj.2))
 |some w=>exact(lE q).trans ((lE q).symm.trans Aj.2)
theorem Rep.put{o:HO}(R:Rep F (r::P) H)(hA:gS r=[a])(D8:gS r'=[a])(hF:FrOk F r a->FrOk F r' a)(h:RowOk (a::bM P) (F.vis (upd H a o)) (upd H a o) r'):Rep F (r'::P) (upd H a o):=by
 have hn:=R.nd
 rw[kC hA]at hn
 have Gy:=(cE.mp hn).1
 have R1:=R.ok
 rw[kC hA]at R1
 have Cl:=R.fr r aA a (aOq hA)
 refine⟨by rw[kC D8];exact hn,λx hx=>?_,λx hx b hb=>?_,λb u h1 h2=>?_,λb hb=>?_⟩
 ·rw [kC D8]
  rcases aF.mp hx with rfl | hx
  ·exact h
  ·exact(R1 x (aB _ hx)).mono (.of rY) λb hb=>eJ λz=>Gy (z ▸ dp_ hx hb)
 ·rcases aF.mp hx with rfl | hx
  ·cases eq1 D8 hb;exact hF Cl
  ·exact R.fr x (aB _ hx) b hb
 ·have hb:=R.kp b u h1 h2
  by_cases z:b=a
  ·subst z
   rcases Cl.or with Cl | Cl
   ·exact absurd Cl h2
   ·rw[Cl]at h1;cases h1
  ·rw[eJ z];exact hb
 ·by_cases z:b=a
  ·subst z;exact⟨o,bU⟩
  ·rw[eJ z];exact R.lv b hb
theorem Rep.putD(R:Rep F ((.v (.od k),some (.ref a))::P) H)(h:All2 (KvX (hid (a::bM P) (F.vis H))) k' ws'):Rep F ((.v (.od k'),some (.ref a))::P) (upd H a (.dK ws')):=
 R.put (a:=a) rfl rfl id ⟨a,ws',rfl,bU,h.imp λ_ _ z=>z.to rY⟩
theorem Rep.atL(R:Rep F ((.v (.ol l),x)::P) H):∃a vs,x=some (.ref a)/\H a=some (.lst vs)/\All2 (IsX (hid (a::bM P) (F.vis H))) l vs:=by
 obtain⟨a,vs,h1,h2,h3⟩:=R.ok _ aA
 subst h1
 exact⟨a,vs,rfl,h2,by rw[<-kC (a:=a) (r:=(.v (.ol l),some (.ref a))) rfl];exact h3⟩
theorem Rep.atB(R:Rep F ((.bw l,x)::P) H):∃a vs,x=some (.ref a)/\H a=some (.lst vs)/\All2 (IsX (hid (a::bM P) (F.vis H))) l vs:=by
 obtain⟨a,vs,h1,h2,h3⟩:=R.ok _ aA
 subst h1
 exact⟨a,vs,rfl,h2,by rw[<-kC (a:=a) (r:=(.bw l,some (.ref a))) rfl];exact h3⟩
theorem Rep.atD(R:Rep F ((.v (.od k),x)::P) H):∃a ws,x=some (.ref a)/\H a=some (.dK ws)/\All2 (KvX (hid (a::bM P) (F.vis H))) k ws:=by
 obtain⟨a,vs,h1,h2,h3⟩:=R.ok _ aA
 subst h1
 exact⟨a,vs,rfl,h2,by rw[<-kC (a:=a) (r:=(.v (.od k),some (.ref a))) rfl];exact h3⟩
theorem Rep.atT(R:Rep F ((vT d,x)::P) H):∃v,x=some v/\IsX (hid (bM P) (F.vis H)) d v:=R.head
end
section
variable{ρ:List Sl}{σ:St}{i:Nat}{s s':Sl}{v v':Option V}
theorem aIr(h1:ρ[i]? = some s)(h2:σ[i]? = some v):(ρ.zip σ)[i]? = some (s,v):=(List.getElem?_zip_eq_some (z:=(s,v))).mpr ⟨h1,h2⟩
theorem aHw{α:Type}:∀(l:List α) (i:Nat) (h:i<l.length),l.Perm (l[i]::l.eraseIdx i)
 |x::l,0,_=>.refl _
 |x::l,i+1,h=>((aHw l i (by simpa using h)).cons x).trans (.swap _ _ _)
theorem aEy{α:Type}{l:List α}{x:α}{i:Nat}(h:l[i]? = some x):l.Perm (x::l.eraseIdx i):=by
 obtain⟨hi,e⟩:=aV.mp h
 subst e
 exact aHw l i hi
theorem eu_(h1:ρ[i]? = some s)(h2:σ[i]? = some v):(ρ.zip σ).Perm ((s,v)::(ρ.zip σ).eraseIdx i):=aEy (aIr h1 h2)
theorem xU:∀{ρ:List Sl} {σ:St} (i:Nat),(ρ.set i s).zip (σ.set i v)=(ρ.zip σ).set i (s,v)
 | [],_,_=>by simp
 |_::_,[],_=>by simp
 |a::ρ,b::σ,0=>rfl
 |a::ρ,b::σ,i+1=>by simp only[aW,List.zip_cons_cons];rw[xU i]
theorem qS(hl:ρ.length=σ.length)(h:i<ρ.length):((ρ.set i s).zip (σ.set i v)).Perm ((s,v)::(ρ.zip σ).eraseIdx i):=by
 rw[xU]
 have hi:i<(ρ.zip σ).length:=by rw[List.length_zip];lia
 have:=aEy (l:=(ρ.zip σ).set i (s,v)) (x:=(s,v)) (i:=i) (by rw[List.getElem?_set_self hi])
 rwa [List.eraseIdx_set_eq]at this
theorem x_(h:σ[i]? = some v):σ.set i v=σ:=by
 obtain⟨hi,e⟩:=aV.mp h
 subst e
 exact List.set_getElem_self hi
theorem cv_(hl:ρ.length=σ.length)(h:i<ρ.length)(h2:σ[i]? = some v):((ρ.set i s).zip σ).Perm ((s,v)::(ρ.zip σ).eraseIdx i):=by
 have:=qS (s:=s) (v:=v) hl h
 rwa [x_ h2]at this
end
end Lf
namespace L2
open PySem
theorem PE.weak{X:Cx}{e:Expr}{t u:TE}(h:PE X e t)(w:∀σ H Q,u σ H Q->t σ H Q):PE X e u:=λAa s σ H Q I q=>h Aa s σ H Q I (w σ H Q q)
theorem PT.weak{X:Cx}{e:Expr}{t u:TT}(h:PT X e t)(w:∀σ H Q,u σ H Q->t σ H Q):PT X e u:=λAa s σ H Q I q=>h Aa s σ H Q I (w σ H Q q)
theorem PW.weak{X:Cx}{e:Expr}{t u:TT}(h:PW X e t)(w:∀σ H Q,u σ H Q->t σ H Q):PW X e u:=λwh Aa s σ H Q I q=>h wh Aa s σ H Q I (w σ H Q q)
theorem PA.weak{X:Cx}{e:List Expr}{t u:TA}(h:PA X e t)(w:∀σ H Q,u σ H Q->t σ H Q):PA X e u:=λpos Aa s σ H Q I q=>h pos Aa s σ H Q I (w σ H Q q)
theorem PE.or{X:Cx}{e:Expr}{t u:TE}(h:PE X e t)(h':PE X e u):PE X e (λσ H Q=>t σ H Q\/u σ H Q):=λAa s σ H Q I q=>q.elim (h Aa s σ H Q I) (h' Aa s σ H Q I)
end L2
namespace Lf
open PySem L2
abbrev En:=List Sl
abbrev XT:=En->(Sv->En->Prop)->Prop
abbrev XC:=En->(Bool->En->Prop)->Prop
abbrev XA:=En->(List Sv->En->Prop)->Prop
structure EOk(F:Fm)(ρ:En)(σ:St)(fr:List Rw)(H:Hp):Prop where
 len:ρ.length=σ.length
 rep:Rep F (ρ.zip σ++fr) H
def tX(F:Fm)(t:XT):TE:=λσ H Q=>∃ρ fr Qx,EOk F ρ σ fr H/\t ρ Qx/\∀v s H' ρ',EOk F ρ' σ ((.v s,some v)::fr) H'->Qx s ρ'->Q v H'
def tXc(F:Fm)(t:XC):TT:=λσ H Q=>∃ρ fr Qx,EOk F ρ σ fr H/\t ρ Qx/\∀b H' ρ',EOk F ρ' σ fr H'->Qx b ρ'->Q b H'
def w9(ss:List Sv)(vs:List V):List Rw:=(ss.zip vs).map λp=>(.v p.1,some p.2)
def tXa(F:Fm)(t:XA):TA:=λσ H Q=>∃ρ fr Qx,EOk F ρ σ fr H/\t ρ Qx/\∀vs ss H' ρ',ss.length=vs.length->EOk F ρ' σ (w9 ss vs++fr) H'->Qx ss ρ'->Q vs H'
abbrev ExT:=Value->Prop
abbrev dZ:ExT:=λ_=>False
def aTb(F:Fm)(H:Hp):Prop:=∀b o,F.H0 b=some o->b∉F.B->H b=some o
def Air(nw:Addr->Prop)(h':Heap)(H:Hp)(ea:Addr)(cls:Value):Prop:=nw ea/\H ea=none/\∃oe vs,h'.get? ea=some oe/\oe.cls=cls/\oe.data=.fields vs/\oe.dict=none/\1<vs.size /\
 (vs[1]? = some .none\/∃T oT ts,vs[1]? = some (.ref T)/\T≠ea/\nw T/\H T=none/\h'.get? T=some oT/\oT.data=.fields ts/\3<ts.size)
abbrev NwX(X:Cx)(Aa:eS):Addr->Prop:=λb=>(X.s₀.heap.get? b=none\/b∈X.ex)/\∀p∈X.pn++Aa,p.1≠b
class OkF(X:Cx)(Ex:ExT)(F:Fm):Prop where
 pass1:∀(Aa:eS) (σ:St) (H:Hp) (s':Shared) (ea:Addr) (cls:Value),Inv X Aa σ H s'->Air (NwX X Aa) s'.heap H ea cls->Ex cls->aTb F H->X.xe (.ref ea) s'
instance{X:Cx}{F:Fm}:OkF X dZ F:=⟨λ_ _ _ _ _ _ _ _ h _=>h.elim⟩
def XE(X:Cx)(Ex:ExT)(e:Expr)(t:XT):Prop:=∀F,[OkF X Ex F]->PE X e (tX F t)
def XTe(X:Cx)(Ex:ExT)(e:Expr)(t:XC):Prop:=∀F,[OkF X Ex F]->PT X e (tXc F t)
def XW(X:Cx)(Ex:ExT)(e:Expr)(t:XC):Prop:=∀F,[OkF X Ex F]->PW X e (tXc F t)
def XAs(X:Cx)(Ex:ExT)(es:List Expr)(t:XA):Prop:=∀F,[OkF X Ex F]->PA X es (tXa F t)
section
variable{F:Fm}{ρ ρ':En}{σ:St}{fr P:List Rw}{H H':Hp}{s:Sv}{v x y:V}{a b:Dx}
theorem lB{α:Type}{x:α}{A B:List α}:(A++x::B).Perm (x::(A++B)):=List.perm_middle
theorem EOk.front{r:Rw}(E:EOk F ρ σ (r::fr) H):Rep F (r::(ρ.zip σ++fr)) H:=E.rep.perm lB
theorem EOk.back{r:Rw}(hl:ρ.length=σ.length)(R:Rep F (r::(ρ.zip σ++fr)) H):EOk F ρ σ (r::fr) H:=⟨hl,R.perm lB.symm⟩
theorem EOk.drop{r:Rw}(E:EOk F ρ σ (r::fr) H):EOk F ρ σ fr H:=⟨E.len,E.front.tail⟩
theorem EOk.one(E:EOk F ρ σ ((.v s,some v)::fr) H):Rep F (ρ.zip σ++fr) H/\IsX (hid (bM (ρ.zip σ++fr)) (F.vis H)) s.d v:=by
 obtain⟨v',e,h⟩:=E.front.head
 cases e
 exact⟨E.front.tail,h⟩
theorem EOk.two{s1 s2:Sv}{v1 v2:V}(E:EOk F ρ σ ((.v s2,some v2)::(.v s1,some v1)::fr) H) :
  Rep F (ρ.zip σ++fr) H/\IsX (hid (bM (ρ.zip σ++fr)) (F.vis H)) s1.d v1/\IsX (hid (bM (ρ.zip σ++fr)) (F.vis H)) s2.d v2:=by
 obtain⟨R1,h1⟩:=E.drop.one
 obtain⟨R2,h2⟩:=E.one
 refine⟨R1,h1,h2.to (kZ λc hc=>?_)⟩
 have:(bM ((.v s1,some v1)::(ρ.zip σ++fr))).Perm (bM (ρ.zip σ++(.v s1,some v1)::fr)):=lB.symm.flatMap_right _
 refine this.mem_iff.mp ?_
 rw[bx_]
 exact aG _ hc
end
def cP(i:Nat):XT:=λρ Q=>match ρ[i]? with
 |some (.v s)=>Q (.tr s.d) (ρ.set i (.v (.tr s.d)))
 |_=>False
def pF(i:Nat):XT:=λρ Q=>match ρ[i]? with
 |some (.v s)=>Q s (ρ.set i .un)
 |_=>False
theorem aGn{ρ:En}{σ:St}{i:Nat}{s:Sl}(hl:ρ.length=σ.length)(h:ρ[i]? = some s):∃v,σ[i]? = some v:=by
 have:=(aV.mp h).1
 exact⟨_,aS (by lia)⟩
section
variable{X:Cx}{Ex:ExT}{i:Nat}{x:Str}{pos:Pos}
theorem cw_{F:Fm}{ρ:En}{σ:St}{fr:List Rw}{H:Hp}{s:Sl}(E:EOk F ρ σ fr H)(h:ρ[i]? = some s):∃v,σ[i]? = some v/\i<ρ.length/\Rep F ((s,v)::((ρ.zip σ).eraseIdx i++fr)) H:=by
 obtain⟨v,hv⟩:=aGn E.len h
 exact⟨v,hv,(aV.mp h).1,E.rep.perm ((eu_ h hv).append_right fr)⟩
theorem lZ{F:Fm}{ρ:En}{σ:St}{fr:List Rw}{H:Hp}{s:Sl}{v:Option V}(hl:ρ.length=σ.length)(hi:i<ρ.length)(hv:σ[i]? = some v)(R:Rep F ((s,v)::((ρ.zip σ).eraseIdx i++fr)) H):EOk F (ρ.set i s) σ fr H:=
 ⟨by rw[bX];exact hl,R.perm ((cv_ hl hi hv).append_right fr).symm⟩
theorem bL(h:PE X (.Name x pos) (fQ i)):XE X Ex (.Name x pos) (cP i):=λF=>h.weak λσ H Q=>by
 rintro⟨ρ,fr,Qx,E,t,k⟩
 unfold cP at t
 split at t
 ·rename_i s hs
  obtain⟨v,hv,hi,R⟩:=cw_ E hs
  obtain⟨w,rfl,hx⟩:=R.head
  refine⟨w,hv,k w _ H _ ?_ t⟩
  have R2:=R.frz
  have R3:Rep F ((vT s.d,some w)::(vT s.d,some w)::((ρ.zip σ).eraseIdx i++fr)) H:=R2.add hx
  exact EOk.back (by rw[bX];exact E.len) (R3.perm (((cv_ E.len hi hv).append_right fr).symm.cons _))
 ·exact t.elim
theorem dk_(h:PE X (.Name x pos) (fQ i)):XE X Ex (.Name x pos) (pF i):=λF=>h.weak λσ H Q=>by
 rintro⟨ρ,fr,Qx,E,t,k⟩
 unfold pF at t
 split at t
 ·rename_i s hs
  obtain⟨v,hv,hi,R⟩:=cw_ E hs
  obtain⟨w,rfl,hx⟩:=R.head
  refine⟨w,hv,k w _ H _ ?_ t⟩
  have R3:Rep F ((.v s,some w)::(.un,some w)::((ρ.zip σ).eraseIdx i++fr)) H:=(R.addU (x:=some w)).perm (.swap _ _ _)
  exact EOk.back (by rw[bX];exact E.len) (R3.perm (((cv_ E.len hi hv).append_right fr).symm.cons _))
 ·exact t.elim
end
def xC(d:Dx):XT:=λρ Q=>Q (.tr d) ρ
theorem u6{X:Cx}{Ex:ExT}{e:Expr}{v:V}(h:PE X e (tC v))(d:Dx)(hd:∀H,IsX H d v):XE X Ex e (xC d):=λF=>h.weak λσ H Q=>by
 rintro⟨ρ,fr,Qx,E,t,k⟩
 exact k v _ H ρ (EOk.back E.len (E.rep.add (hd _))) t
section
variable{X:Cx}{Ex:ExT}
theorem cY{i j pos}:XE X Ex (.Constant (.int i) j pos) (xC (.int i)):=u6 iC _ λ_=>IsX.of_int _
theorem qF{b j pos}:XE X Ex (.Constant (.bool b) j pos) (xC (.bl b)):=u6 aOi _ λ_=>IsX.of_bl _
theorem qU{j pos}:XE X Ex (.Constant .none j pos) (xC .non):=u6 aJu _ λ_=>IsX.of_non
theorem lD{x j pos}:XE X Ex (.Constant (.str x) j pos) (xC (.str x)):=u6 hm_ _ λ_=>IsX.of_str _
end
abbrev G2:=Dx->Dx->(Sv->Prop)->Prop
def OpX(r:R2)(g:G2):Prop:=∀(F:Fm) (P:List Rw) (H:Hp) (a b:Dx) (x y:V) (Q:VK) (Qx:Sv->Prop),Rep F P H->IsX (hid (bM P) (F.vis H)) a x->IsX (hid (bM P) (F.vis H)) b y->g a b Qx ->
 (∀v s H',Rep F ((.v s,some v)::P) H'->Qx s->Q v H')->r x y H Q
def xOp(g:G2)(ta tb:XT):XT:=λρ Q=>ta ρ λa ρ1=>tb ρ1 λb ρ2=>g a.d b.d λs=>Q s ρ2
theorem kW{F:Fm}{r:R2}{g:G2}{ta tb:XT}(hx:OpX r g):∀σ H Q,tX F (xOp g ta tb) σ H Q->tOp r (tX F ta) (tX F tb) σ H Q:=by
 rintro σ H Q ⟨ρ,fr,Qx,E,t,k⟩
 refine⟨ρ,fr,_,E,t,λv s H' ρ' E' t'=>?_⟩
 refine⟨ρ',_,_,E',t',λw s2 H2 ρ2 E2 t2=>?_⟩
 obtain⟨R,h1,h2⟩:=E2.two
 exact hx F _ H2 s.d s2.d v w Q (λz=>Qx z ρ2) R h1 h2 t2 λv' s' H' R' q=>k v' s' H' ρ2 (EOk.back E2.len R') q
def xB(t:XT):XC:=λρ Q=>t ρ λs ρ'=>match s with
 | .tr (.bl b)=>Q b ρ'
 |_=>False
theorem lJ{F:Fm}{t:TE}{u:XT}(h:∀σ H Q,tX F u σ H Q->t σ H Q):∀σ H Q,tXc F (xB u) σ H Q->x5 t σ H Q:=by
 rintro σ H Q ⟨ρ,fr,Qx,E,t,k⟩
 refine h _ _ _ ⟨ρ,fr,_,E,t,λv s H' ρ' E' q=>?_⟩
 split at q
 ·rename_i b
  obtain⟨_,hx⟩:=E'.one
  cases hx.bl_eq
  exact⟨b,rfl,k b H' ρ' E'.drop q⟩
 ·exact q.elim
section
variable{X:Cx}{Ex:ExT}{a b c e:Expr}{pos:Pos}{r r':R2}{g g':G2}{ta tb tc:XT}
theorem pE{op:Operator}(ho:OpR X (binaryOp op) r)(hx:OpX r g)(ha:XE X Ex a ta)(hb:XE X Ex b tb):XE X Ex (.BinOp a op b pos) (xOp g ta tb):=λF=>(kX ho (ha F) (hb F)).weak (kW hx)
theorem fc_{op:CmpOp}(ho:OpR X (compareOp op) r)(hx:OpX r g)(ha:XE X Ex a ta)(hb:XE X Ex b tb)(hm:behindInMarks op b=false):XE X Ex (.Compare a [op] [b] pos) (xOp g ta tb):=λF=>(aFj ho (ha F) (hb F) hm).weak (kW hx)
theorem iA{op:CmpOp}(ho:OpR X (compareOp op) r)(hx:OpX r g)(ha:XE X Ex a ta)(hb:XE X Ex b tb)(hm:behindInMarks op b=false):XTe X Ex (.Compare a [op] [b] pos) (xB (xOp g ta tb)):=λF=>(gf_ ho (ha F) (hb F) hm).weak (lJ (kW hx))
theorem kY{t:XT}(h:XE X Ex e t)(he:∀whole,isTrue e X.env whole=(do let v <-whole;standAt e.pos;holding [v] (truthy v)):=by intro _;rfl):XTe X Ex e (xB t):=λF=>(aJm (h F) he).weak (lJ λ_ _ _ z=>z)
def aIx(t u:XC):XC:=λρ Q=>t ρ λc ρ1=>if c=true then u ρ1 Q else Q false ρ1
def xOr(t u:XC):XC:=λρ Q=>t ρ λc ρ1=>if c=true then Q true ρ1 else u ρ1 Q
def jT(t:XC):XC:=λρ Q=>t ρ λc ρ1=>Q (!c) ρ1
theorem xV{t:XC}(h:XTe X Ex a t):XW X Ex (.BoolOp .And [a] pos) t:=λF=>yN (h F)
theorem m8{t:XC}(h:XTe X Ex a t):XW X Ex (.BoolOp .Or [a] pos) t:=λF=>aJl (h F)
theorem t_{t u:XC}{rest:List Expr}(h:XTe X Ex a t)(h':XW X Ex (.BoolOp .And (b::rest) pos) u):XW X Ex (.BoolOp .And (a::b::rest) pos) (aIx t u):=λF=>(aAk (h F) (h' F)).weak λσ H Q=>by
 rintro⟨ρ,fr,Qx,E,t,k⟩
 refine⟨ρ,fr,_,E,t,λc H' ρ' E' q=>?_⟩
 cases c with
 |true=>exact⟨ρ',fr,Qx,E',q,k⟩
 |false=>exact k false H' ρ' E' q
theorem k8{t u:XC}{rest:List Expr}(h:XTe X Ex a t)(h':XW X Ex (.BoolOp .Or (b::rest) pos) u):XW X Ex (.BoolOp .Or (a::b::rest) pos) (xOr t u):=λF=>(aOg (h F) (h' F)).weak λσ H Q=>by
 rintro⟨ρ,fr,Qx,E,t,k⟩
 refine⟨ρ,fr,_,E,t,λc H' ρ' E' q=>?_⟩
 cases c with
 |true=>exact k true H' ρ' E' q
 |false=>exact⟨ρ',fr,Qx,E',q,k⟩
theorem vG{t:XC}(h:XTe X Ex a t):XTe X Ex (.UnaryOp .Not a pos) (jT t):=λF=>(aJn (h F)).weak λσ H Q=>by
 rintro⟨ρ,fr,Qx,E,t,k⟩
 exact⟨ρ,fr,_,E,t,λc H' ρ' E' q=>k (!c) H' ρ' E' q⟩
theorem XW.pt{t:XC}(h:XW X Ex e t):XTe X Ex e t:=λF=>(h F).pt
def jU(t u:XT):XT:=λρ Q=>xB t ρ λc ρ1=>if c=true then u ρ1 Q else Q (.tr (.bl false)) ρ1
def sZ(t:XT):XT:=λρ Q=>xB t ρ λc ρ1=>Q (.tr (.bl (!c))) ρ1
theorem gl_{op}{t:XT}(h:XE X Ex a t):XE X Ex (.BoolOp op [a] pos) t:=λF=>aJs (h F)
theorem fd_{t u:XT}{rest:List Expr}(h:XE X Ex a t)(h':XE X Ex (.BoolOp .And (b::rest) pos) u):XE X Ex (.BoolOp .And (a::b::rest) pos) (jU t u):=λF=>(aJy (h F) (h' F)).weak λσ H Q=>by
 rintro⟨ρ,fr,Qx,E,t,k⟩
 refine⟨ρ,fr,_,E,t,λv s H' ρ' E' q=>?_⟩
 split at q
 ·rename_i c
  obtain⟨_,hx⟩:=E'.one
  cases hx.bl_eq
  refine⟨c,rfl,?_⟩
  cases c with
  |true=>exact⟨ρ',fr,Qx,E'.drop,q,k⟩
  |false=>exact k _ _ H' ρ' (EOk.back E'.len (E'.drop.rep.add (IsX.of_bl _))) q
 ·exact q.elim
theorem u5{t:XT}(h:XE X Ex a t):XE X Ex (.UnaryOp .Not a pos) (sZ t):=λF=>(aJt (h F)).weak λσ H Q=>by
 rintro⟨ρ,fr,Qx,E,t,k⟩
 refine⟨ρ,fr,_,E,t,λv s H' ρ' E' q=>?_⟩
 split at q
 ·rename_i c
  obtain⟨_,hx⟩:=E'.one
  cases hx.bl_eq
  exact⟨c,rfl,k _ _ H' ρ' (EOk.back E'.len (E'.drop.rep.add (IsX.of_bl _))) q⟩
 ·exact q.elim
end
def dF:XA:=λρ Q=>Q [] ρ
def bS(t:XT)(u:XA):XA:=λρ Q=>t ρ λs ρ1=>u ρ1 λss ρ2=>Q (s::ss) ρ2
section
variable{X:Cx}{Ex:ExT}{e:Expr}{es:List Expr}{t:XT}{u:XA}{pos:Pos}
theorem cI:XAs X Ex [] dF:=λF=>(oP (X:=X)).weak λσ H Q=>by
 rintro⟨ρ,fr,Qx,E,t,k⟩
 exact k [] [] H ρ rfl E t
theorem bK(h:XE X Ex e t)(h':XAs X Ex es u)(he:starEach (e::es) X.env=(false,eval e X.env)::starEach es X.env:=by rfl):XAs X Ex (e::es) (bS t u):=λF=>(iE (h F) (h' F) he).weak λσ H Q=>by
 rintro⟨ρ,fr,Qx,E,t,k⟩
 refine⟨ρ,fr,_,E,t,λv s H' ρ' E' q=>⟨ρ',_,_,E',q,λvs ss H2 ρ2 hl E2 q2=>?_⟩⟩
 refine k (v::vs) (s::ss) H2 ρ2 (by rw[aI,aI,hl]) ⟨E2.len,E2.rep.perm ?_⟩ q2
 exact List.Perm.append_left _ List.perm_middle
theorem EOk.many{F:Fm}{ρ:En}{σ:St}{fr:List Rw}{H:Hp}:∀{ss:List Sv} {vs:List V},ss.length=vs.length->EOk F ρ σ (w9 ss vs++fr) H->Rep F (ρ.zip σ++fr) H/\All2 (IsX (hid (bM (ρ.zip σ++fr)) (F.vis H))) (ss.map Sv.d) vs
 | [],[],_,E=>⟨E.rep,rfl⟩
 | [],_::_,h,_=>by simp at h
 |_::_,[],h,_=>by simp at h
 |s::ss,v::vs,h,E=>by
  have E':EOk F ρ σ ((.v s,some v)::(w9 ss vs++fr)) H:=E
  obtain⟨R,hs⟩:=EOk.many (ss:=ss) (vs:=vs) (by simpa using h) E'.drop
  obtain⟨_,hx⟩:=E'.one
  refine⟨R,v,vs,rfl,hx.to (kZ λc hc=>?_),hs⟩
  have:bM (ρ.zip σ++(w9 ss vs++fr))=bM (ρ.zip σ)++(bM (w9 ss vs)++bM fr):=by unfold bM;rw[List.flatMap_append,List.flatMap_append]
  rw[this]
  have h2:bM (ρ.zip σ++fr)=bM (ρ.zip σ)++bM fr:=by unfold bM;rw[List.flatMap_append]
  rw[h2]at hc
  rcases bD.mp hc with hc | hc
  ·exact bG _ hc
  ·exact aG _ (aG _ hc)
def u8(u:XA):XT:=λρ Q=>u ρ λss ρ'=>ss.length<=1000000/\Q (.tr (.tup (ss.map Sv.d))) ρ'
def iP(u:XA):XT:=λρ Q=>u ρ λss ρ'=>ss.length<=1000000/\Q (.ol (ss.map Sv.d)) ρ'
theorem gV:(1000000:Nat)<sizeLine:=by rw[sizeLine_eq];decide
theorem fi_{j:Nat}(h:XAs X Ex es u):XE X Ex (.Tuple es j pos) (u8 u):=λF=>(wJ (h F)).weak λσ H Q=>by
 rintro⟨ρ,fr,Qx,E,t,k⟩
 refine⟨ρ,fr,_,E,t,λvs ss H2 ρ2 hl E2 q2=>⟨by have:=gV;lia,λp hp=>?_⟩⟩
 obtain⟨R,hs⟩:=E2.many hl
 exact k _ _ _ ρ2 (EOk.back E2.len (R.newT hp hs)) q2.2
theorem kG(h:XAs X Ex es u):XE X Ex (.List es pos) (iP u):=λF=>(rL (h F)).weak λσ H Q=>by
 rintro⟨ρ,fr,Qx,E,t,k⟩
 refine⟨ρ,fr,_,E,t,λvs ss H2 ρ2 hl E2 q2=>⟨by have:=gV;lia,λp hp=>?_⟩⟩
 obtain⟨R,hs⟩:=E2.many hl
 exact k _ _ _ ρ2 (EOk.back E2.len (R.newL hp hs)) q2.2
end
def gI(f:Int->Int->Dx):G2
 | .int i,.int j,Q=>Q (.tr (f i j))
 |_,_,_=>False
def gIC(C:Int->Int->Prop)(f:Int->Int->Dx):G2
 | .int i,.int j,Q=>C i j/\Q (.tr (f i j))
 |_,_,_=>False
theorem tZ{f:Int->Int->V}{fd:Int->Int->Dx}(h:∀H i j,IsX H (fd i j) (f i j)):OpX (rI0 f) (gI fd):=by
 intro F P H a b x y Q Qx R ha hb g k
 unfold gI at g
 split at g
 ·cases ha.int_eq; cases hb.int_eq
  exact⟨_,_,rfl,rfl,k _ _ H (R.add (h _ _ _)) g⟩
 ·exact g.elim
theorem wK{C:Int->Int->Prop}{f:Int->Int->V}{fd:Int->Int->Dx}(h:∀H i j,IsX H (fd i j) (f i j)):OpX (rI C f) (gIC C fd):=by
 intro F P H a b x y Q Qx R ha hb g k
 unfold gIC at g
 split at g
 ·cases ha.int_eq; cases hb.int_eq
  exact⟨_,_,rfl,rfl,g.1,k _ _ H (R.add (h _ _ _)) g.2⟩
 ·exact g.elim
abbrev aNz:G2:=gI λi j=>.int (i-j)
abbrev aPo:G2:=gIC aIq λi j=>.int (i/j)
abbrev aRw:G2:=gIC (λ_ j=>0<j) λi j=>.int (i%j)
abbrev aRv:G2:=gIC aMq λi j=>.int (i^j.toNat)
abbrev ltX:G2:=gI λi j=>.bl (decide (i<j))
abbrev leX:G2:=gI λi j=>.bl (decide (i<=j))
abbrev gtX:G2:=gI λi j=>.bl (decide (j<i))
abbrev geX:G2:=gI λi j=>.bl (decide (j<=i))
theorem oi{f:Int->Int->Int}:∀H i j,IsX H (.int (f i j)) (.int (f i j)):=λ_ _ _=>IsX.of_int _
theorem ob{f:Int->Int->Bool}:∀H i j,IsX H (.bl (f i j)) (.bl (f i j)):=λ_ _ _=>IsX.of_bl _
def oN:G2
 | .int i,.int j,Q=>Q (.tr (.int (i+j)))
 | .str i,.str j,Q=>i.length+j.length<=1000000/\Q (.tr (.str (i++j)))
 | .lst l,.lst m,Q=>l.length+m.length<=1000000/\Q (.ol (l++m))
 |_,_,_=>False
def aFy:G2
 | .int i,.int j,Q=>CMulB i j/\Q (.tr (.int (i*j)))
 | .lst l,.int j,Q=>(j<=1000000 /\ -1000000<=j/\l.length*j.toNat<=1000000)/\Q (.ol (List.replicate j.toNat l).flatten)
 | .str z,.int j,Q=>(z.length<=1000/\0<=j/\j<=1000)/\Q (.tr (.str (Txt.mul z j)))
 |_,_,_=>False
section
variable{X:Cx}{Ex:ExT}{a b e:Expr}{pos:Pos}{ta tb:XT}
theorem iS(ha:XE X Ex a ta)(hb:XE X Ex b tb):XE X Ex (.BinOp a .Add b pos) (xOp oN ta tb):=pE (hX.or (hW.or aKe)) (by
 intro F P H a b x y Q Qx R ha hb g k
 unfold oN at g
 split at g
 ·cases ha.int_eq; cases hb.int_eq
  exact .inl ⟨_,_,rfl,rfl,k _ _ H (R.add (IsX.of_int _)) g⟩
 ·cases ha.str_eq; cases hb.str_eq
  exact .inr (.inl ⟨_,_,rfl,rfl,by have:=gV;lia,k _ _ H (R.add (IsX.of_str _)) g.2⟩)
 ·obtain ⟨p,vs,rfl,h1,h2⟩:=ha.lst_eq
  obtain⟨q,ws,rfl,h3,h4⟩:=hb.lst_eq
  refine .inr (.inr ⟨p,q,vs,ws,rfl,rfl,R.hv _ _ h1,R.hv _ _ h3,by rw[h2.len,h4.len];have:=gV;lia,λl hl=>k _ _ _ (R.newL hl (All2.app h4 h2)) g.2⟩)
 ·exact g.elim) ha hb
theorem qQ{α β:Type}{g:α->β->Prop}{l:List α}{m:List β}(h:All2 g l m):∀n,All2 g (List.replicate n l).flatten (List.replicate n m).flatten
 | 0=>rfl
 |n+1=>by rw[aO,aO,eO,eO];exact All2.app (qQ h n) h
theorem s9(ha:XE X Ex a ta)(hb:XE X Ex b tb):XE X Ex (.BinOp a .Mult b pos) (xOp aFy ta tb):=pE (hU.or (aKc.or mZ)) (by
 intro F P H a b x y Q Qx R ha hb g k
 unfold aFy at g
 split at g
 ·cases ha.int_eq; cases hb.int_eq
  exact .inl ⟨_,_,rfl,rfl,g.1,k _ _ H (R.add (IsX.of_int _)) g.2⟩
 ·obtain ⟨p,vs,rfl,h1,h2⟩:=ha.lst_eq
  cases hb.int_eq
  obtain⟨⟨g1,g2,g3⟩,g4⟩:=g
  refine .inr (.inl ⟨p,_,vs,rfl,rfl,R.hv _ _ h1,by lia,by lia,by rw[h2.len];have:=gV;lia,λl hl=>k _ _ _ (R.newL hl (qQ h2 _)) g4⟩)
 ·cases ha.str_eq; cases hb.int_eq
  exact .inr (.inr ⟨_,_,rfl,rfl,g.1.1,g.1.2.1,g.1.2.2,k _ _ H (R.add (IsX.of_str _)) g.2⟩)
 ·exact g.elim) ha hb
theorem hd_(ha:XE X Ex a ta)(hb:XE X Ex b tb):XE X Ex (.BinOp a .Sub b pos) (xOp aNz ta tb):=pE aKb (tZ oi) ha hb
theorem xY(ha:XE X Ex a ta)(hb:XE X Ex b tb):XE X Ex (.BinOp a .FloorDiv b pos) (xOp aPo ta tb):=pE nB (wK oi) ha hb
theorem kI(ha:XE X Ex a ta)(hb:XE X Ex b tb):XE X Ex (.BinOp a .Mod b pos) (xOp aRw ta tb):=pE kJ (wK oi) ha hb
theorem u4(ha:XE X Ex a ta)(hb:XE X Ex b tb):XE X Ex (.BinOp a .Pow b pos) (xOp aRv ta tb):=pE aKd (wK oi) ha hb
end
theorem mX:OpX (rI0 λi j=>.bl (decide (i<j))) ltX:=tZ ob
theorem tY:OpX (rI0 λi j=>.bl (decide (i<=j))) leX:=tZ ob
theorem aAx:OpX (rI0 λi j=>.bl (decide (j<i))) gtX:=tZ ob
theorem aHy:OpX (rI0 λi j=>.bl (decide (j<=i))) geX:=tZ ob
def eqS:Dx->Dx->Option Bool
 | .int i,.int j=>some (decide (i=j))
 | .str i,.str j=>some (decide (i=j))
 | .bl i,.bl j=>some (decide (i=j))
 | .non,.non=>some true
 | .non,.int _=>some false | .int _,.non=>some false | .non,.bl _=>some false | .bl _,.non=>some false | .non,.str _=>some false | .str _,.non=>some false
 | .int _,.str _=>some false | .str _,.int _=>some false | .bl _,.str _=>some false | .str _,.bl _=>some false
 | .lst l,.lst []=>some l.isEmpty
 |_,_=>none
def eqX:G2:=λa b Q=>match eqS a b with
 |some c=>Q (.tr (.bl c))
 |none=>False
def neX:G2:=λa b Q=>match eqS a b with
 |some c=>Q (.tr (.bl (!c)))
 |none=>False
def scV:Dx->Option V
 | .int i=>some (.int i)
 | .str i=>some (.str i)
 | .bl i=>some (.bl i)
 | .non=>some .non
 |_=>none
theorem rC{H:Hp}{d:Dx}{x v:V}(h:IsX H d x)(e:scV d=some v):x=v:=by
 cases d<;>simp only[scV,Option.some.injEq]at e<;>first | (subst e;first | exact h.int_eq | exact h.str_eq | exact h.bl_eq | exact h.non_eq) | cases e
theorem uX{a b:Dx}{c:Bool}(h:eqS a b=some c):(∃l,a=.lst l/\b=.lst []/\c=l.isEmpty)\/∃x y,scV a=some x/\scV b=some y/\aJg x y=true/\decide (x=y)=c:=by
 unfold eqS at h
 split at h<;>(try simp only[Option.some.injEq]at h)<;>first
  |(subst h;exact .inr ⟨_,_,rfl,rfl,rfl,by simp⟩)
  |(subst h;exact .inl ⟨_,rfl,rfl,rfl⟩)
  |cases h
section
variable{K:dQ}
def aEs(K:dQ)(n:Bool):R2:=λx y H Q=>∃p b xs,x=.ref p/\y=.ref b/\SqL K H p xs/\SqL K H b []/\Q (.bl (if n then !xs.isEmpty else xs.isEmpty)) H
theorem kE:OpX (λx y H Q=>rEq x y H Q\/aEs K false x y H Q) eqX:=by
 intro F P H a b x y Q Qx R ha hb g k
 unfold eqX at g
 split at g
 ·rename_i c hc
  rcases uX hc with⟨l,rfl,rfl,rfl⟩ | ⟨u,w,h1,h2,h3,h4⟩
  ·obtain ⟨p,vs,rfl,q1,q2⟩:=ha.lst_eq
   obtain⟨p',vs',rfl,q3,q4⟩:=hb.lst_eq
   cases(show vs'=[]from q4)
   refine .inr ⟨p,p',vs,rfl,rfl,SqL.of (R.hv _ _ q1),SqL.of (R.hv _ _ q3),k _ (.tr (.bl l.isEmpty)) H (R.add ?_) g⟩
   have:vs.isEmpty=l.isEmpty:=by
    have:=q2.len
    cases vs<;>cases l<;>simp at this ⊢
   simp only[IsX,this];rfl
  ·cases rC ha h1; cases rC hb h2
   exact .inl ⟨h3,k _ _ H (R.add (by rw[h4];exact IsX.of_bl _)) g⟩
 ·exact g.elim
theorem hn_:OpX (λx y H Q=>rNe x y H Q\/aEs K true x y H Q) neX:=by
 intro F P H a b x y Q Qx R ha hb g k
 unfold neX at g
 split at g
 ·rename_i c hc
  rcases uX hc with⟨l,rfl,rfl,rfl⟩ | ⟨u,w,h1,h2,h3,h4⟩
  ·obtain ⟨p,vs,rfl,q1,q2⟩:=ha.lst_eq
   obtain⟨p',vs',rfl,q3,q4⟩:=hb.lst_eq
   cases(show vs'=[]from q4)
   refine .inr ⟨p,p',vs,rfl,rfl,SqL.of (R.hv _ _ q1),SqL.of (R.hv _ _ q3),k _ (.tr (.bl (!l.isEmpty))) H (R.add ?_) g⟩
   have:vs.isEmpty=l.isEmpty:=by
    have:=q2.len
    cases vs<;>cases l<;>simp at this ⊢
   simp only[IsX,this];rfl
  ·cases rC ha h1; cases rC hb h2
   exact .inl ⟨h3,k _ _ H (R.add (by rw[h4];exact IsX.of_bl _)) g⟩
 ·exact g.elim
end
section
variable{X:Cx}{Ex:ExT}(K:dQ)(h:X.K=K)
theorem kF(hu:X.A.units<cLine)(h:X.K=K:=by rfl):OpR X (compareOp .Eq) (λx y H Q=>rEq x y H Q\/aEs K false x y H Q):=by subst h;exact yV.or (aBd hu)
theorem eo_(hu:X.A.units<cLine)(h:X.K=K:=by rfl):OpR X (compareOp .NotEq) (λx y H Q=>rNe x y H Q\/aEs K true x y H Q):=by subst h;exact aOk.or (uA hu)
end
def ixX:G2
 | .lst l,.int i,Q=>(match atI l i with | some d=>Q (.tr d) | none=>False)
 | .tup l,.int i,Q=>(match atI l i with | some d=>Q (.tr d) | none=>False)
 | .str z,.int i,Q=>z.length<=1000000/\(match atI z.cps.toList i with | some c=>Q (.tr (.str ⟨#[c]⟩)) | none=>False)
 |_,_,_=>False
theorem oM{α β:Type}{g:α->β->Prop}{l:List α}{m:List β}{i:Int}{d:α}(h:All2 g l m)(e:atI l i=some d):∃v,atI m i=some v/\g d v:=by
 unfold atI at e ⊢
 rw[h.len]
 obtain⟨j,h1,h2⟩:=eV.mp e
 obtain⟨v,h3,h4⟩:=h.at h2
 exact⟨v,eV.mpr ⟨j,h1,h3⟩,h4⟩
theorem aOj{K:dQ}:OpX (λx y H Q=>aAi K x y H Q\/aJk K x y H Q\/aOf x y H Q) ixX:=by
 intro F P H a b x y Q Qx R ha hb g k
 unfold ixX at g
 split at g
 ·obtain ⟨p,vs,rfl,h1,h2⟩:=ha.lst_eq
  cases hb.int_eq
  split at g
  ·rename_i d hd
   obtain⟨v,h3,h4⟩:=oM h2 hd
   exact .inl ⟨p,vs,_,v,rfl,rfl,SqL.of (R.hv _ _ h1),h3,k _ _ H (R.add h4) g⟩
  ·exact g.elim
 ·obtain ⟨p,vs,rfl,h1,h2⟩:=ha.tup_eq
  cases hb.int_eq
  split at g
  ·rename_i d hd
   obtain⟨v,h3,h4⟩:=oM h2 hd
   exact .inr (.inl ⟨p,vs,_,v,rfl,rfl,SqT.of (R.hv _ _ h1),h3,k _ _ H (R.add h4) g⟩)
  ·exact g.elim
 ·cases ha.str_eq; cases hb.int_eq
  obtain⟨g0,g⟩:=g
  split at g
  ·rename_i c hc
   exact .inr (.inr ⟨_,_,c,rfl,rfl,by have:=gV;lia,hc,k _ _ H (R.add (IsX.of_str _)) g⟩)
  ·exact g.elim
 ·exact g.elim
theorem IxR.or{X:Cx}{r r':R2}(h:IxR X r)(h':IxR X r'):IxR X (λx y H Q=>r x y H Q\/r' x y H Q):=λa b Aa s σ H x y v u Q I rx ry q hs=>q.elim (λq=>h a b Aa s σ H x y v u Q I rx ry q hs) λq=>h' a b Aa s σ H x y v u Q I rx ry q hs
theorem sU{X:Cx}{Ex:ExT}{a b:Expr}{pos:Pos}{ta tb:XT}(K:dQ)(ha:XE X Ex a ta)(hb:XE X Ex b tb)(hs:kD b)(h:X.K=K:=by rfl):XE X Ex (.Subscript a b pos) (xOp ixX ta tb):=λF =>
 (uY (IxR.or (uL K h) (IxR.or (aGh K h) nL)) (ha F) (hb F) hs).weak (kW aOj)
def eE(l:List (Key×Dx))(k:Key):Option Dx:=(l.find? λp=>decide (p.1=k)).map (·.2)
theorem fs_{G:Hp}{k:Key}:∀{l:List (Key×Dx)} {ws:List (Key×V)},All2 (KvX G) l ws->(eE l k=none/\iH ws k=none)\/∃d v,eE l k=some d/\iH ws k=some v/\IsX G d v
 | [],_,h=>by rw[show _=[]from h];exact .inl ⟨rfl,rfl⟩
 |p::l,_,⟨w,wr,e,⟨h1,h2,_⟩,h3⟩=>by
  rw[e]
  by_cases hk:p.1=k
  ·refine .inr ⟨p.2,w.2,?_,mK (h1 ▸ hk),h2⟩
   unfold eE
   rw[fA,dzT hk]
   rfl
  ·rw [mL (h1 ▸ hk)]
   have:eE (p::l) k=eE l k:=by unfold eE;rw[fA,dzF hk]
   rw[this]
   exact fs_ h3
def iZ:Dx->Option Key
 | .int i=>some (.inl i)
 | .str x=>some (.inr x)
 | .non=>some .non
 | .bl true=>some .tru
 | .pin b x=>some (.ref b x)
 |_=>none
theorem gg_{H:Hp}{d:Dx}{x:V}{k:Key}(h:IsX H d x)(e:iZ d=some k):x=kV k/\fL H k:=by
 cases d with
 |int i=>cases e;exact⟨h.int_eq,True.intro⟩
 |str i=>cases e;exact⟨h.str_eq,True.intro⟩
 |non=>cases e;exact⟨h.non_eq,True.intro⟩
 |bl b =>
  cases b with
  |true=>cases e;exact⟨h.bl_eq,True.intro⟩
  |false=>cases e
 |pin b x=>cases e;exact h.pin_eq
 |_=>cases e
def tN(k:Key)(l:List (Key×Dx)):Bool:=match k with
 | .inr _=>true
 |k=>(l.all λp=>! eU p.1 k)&&(!k.odd||l.any λp=>p.1.odd)
theorem n5{k:Key}{x:Str}:eU k (.inr x)=false:=by cases k<;>rfl
theorem yJ{G:Hp}{k:Key}{l:List (Key×Dx)}{ws:List (Key×V)}(h:tN k l=true)(hl:All2 (KvX G) l ws):aKt k ws:=by
 have eq:l.map (·.1)=ws.map (·.1):=by
  clear h
  induction l generalizing ws with
  |nil=>rw[show ws=[]from hl];rfl
  |cons p l ih=>obtain⟨w,wr,rfl,⟨h1,_⟩,h3⟩:=hl;rw[aL,aL,ih h3,h1]
 have mem:∀p∈ws,∃q∈l,q.1=p.1:=λp hp=>by
  have:=bY (f:=λx:Key×V=>x.1) hp
  rw[<-eq]at this
  exact bH.mp this
 by_cases hx:∃x,k=.inr x
 ·obtain ⟨x,rfl⟩:=hx
  exact⟨λp _=>n5,λz=>by cases z⟩
 ·have h':((l.all fun p => ! eU p.1 k) && (!k.odd || l.any fun p=>p.1.odd))=true:=by
   cases k with
   |inr x=>exact absurd ⟨x,rfl⟩ hx
   |_=>exact h
  rw[cB]at h'
  refine⟨λp hp=>?_,λz=>?_⟩
  ·obtain ⟨q,hq,e⟩:=mem p hp
   have:=cG.mp h'.1 q hq
   rw[e]at this
   simpa using this
  ·have h2:=h'.2
   rw[z,fC,Bool.false_or]at h2
   obtain⟨q,hq,e⟩:=eC.mp h2
   have:=bY (f:=λx:Key×Dx=>x.1) hq
   rw[eq]at this
   obtain⟨p,hp,e2⟩:=bH.mp this
   exact eC.mpr ⟨p,hp,by rw[e2];exact e⟩
def dgX:G2:=λa b Q=>match a,iZ b with
 | .dic l,some k=>(match eE l k with | some d=>tN k l=true/\Q (.tr d) | none=>False)
 |_,_=>False
def sJ(neg:Bool):G2:=λa b Q=>match iZ a,b with
 |some k,.dic l=>tN k l=true/\Q (.tr (.bl (if neg then !(eE l k).isSome else(eE l k).isSome)))
 |_,_=>False
theorem DGet.rd{H:Hp}{a:Addr}{kvs:List (Key×V)}{k:Key}(e:Rd H a (.dK kvs))(t:fL H k)(o:aKt k kvs):DGet H a (kV k) (iH kvs k):=⟨kvs,k,e,rfl,t,o,rfl⟩
theorem hr_{F:Fm}{P:List Rw}{H:Hp}(R:Rep F P H){O:List Addr}{k:Key}(h:fL (hid O (F.vis H)) k):fL H k:=by
 cases k<;>first | exact True.intro | exact R.hv _ _ h
theorem tR{F:Fm}{P:List Rw}{H:Hp}(R:Rep F P H){O:List Addr}{a:Addr}{u:HO}(h:Rd (hid O (F.vis H)) a u):Rd H a u:=by
 rcases h with h | ⟨o,h⟩
 ·exact .inl (R.hv _ _ h)
 ·exact .inr ⟨o,R.hv _ _ h⟩
theorem aFl:OpX (λx y H Q=>∃a v,x=.ref a/\DGet H a y (some v)/\Q v H) dgX:=by
 intro F P H a b x y Q Qx R ha hb g k
 unfold dgX at g
 split at g
 ·rename_i l kk hk
  obtain⟨p,ws,rfl,h1,h2⟩:=ha.dic_eq
  obtain⟨rfl,kt⟩:=gg_ hb hk
  split at g
  ·rename_i d hd
   rcases fs_ (k:=kk) h2 with⟨z,_⟩ | ⟨d',v,z1,z2,z3⟩
   ·rw[z]at hd;cases hd
   ·rw [z1] at hd; cases hd
    exact⟨p,v,rfl,by rw[<-z2];exact DGet.rd (tR R h1) (hr_ R kt) (yJ g.1 h2),k _ _ H (R.add z3) g.2⟩
  ·exact g.elim
 ·exact g.elim
theorem aAy(neg:Bool):OpX (λy x H Q=>∃a o,x=.ref a/\DGet H a y o/\Q (.bl (if neg then !o.isSome else o.isSome)) H) (sJ neg):=by
 intro F P H a b x y Q Qx R ha hb g k
 unfold sJ at g
 split at g
 ·rename_i kk l hk
  obtain⟨p,ws,rfl,h1,h2⟩:=hb.dic_eq
  obtain⟨rfl,kt⟩:=gg_ ha hk
  refine⟨p,_,rfl,DGet.rd (k:=kk) (tR R h1) (hr_ R kt) (yJ g.1 h2),k _ _ H (R.add ?_) g.2⟩
  rcases fs_ (k:=kk) h2 with⟨z1,z2⟩ | ⟨d',v,z1,z2,z3⟩
  ·rw[z1,z2];simp only[IsX];rfl
  ·rw[z1,z2];simp only[IsX];rfl
 ·exact g.elim
section
variable{X:Cx}{Ex:ExT}{a b o i:Expr}{pos:Pos}{ta tb:XT}
theorem du_(hu:X.A.units+1<cLine)(ha:XE X Ex o ta)(hb:XE X Ex i tb)(hs:aMo i):XE X Ex (.Subscript o i pos) (xOp dgX ta tb):=λF=>(aFi hu (ha F) (hb F) hs).weak λσ H Q h=>kW aFl σ H Q h
theorem aIu(hu:X.A.units+1<cLine)(ha:XE X Ex i ta)(hb:XE X Ex o tb)(hm:behindInMarks .In o=false):XE X Ex (.Compare i [.In] [o] pos) (xOp (sJ false) ta tb):=λF=>(aJw (aJz hu (ha F) (hb F)) hm).weak λσ H Q h=>kW (aAy false) σ H Q h
theorem pD(hu:X.A.units+1<cLine)(ha:XE X Ex i ta)(hb:XE X Ex o tb)(hm:behindInMarks .NotIn o=false):XTe X Ex (.Compare i [.NotIn] [o] pos) (xB (xOp (sJ true) ta tb)):=λF=>(aJo (i4 hu (ha F) (hb F)) hm).weak (lJ (t:=yG (tX F ta) (tX F tb)) λσ H Q h=>kW (aAy true) σ H Q h)
def v0:XT:=λρ Q=>Q (.od []) ρ
theorem gd_:XE X Ex (.Dict [] [] pos) v0:=λF=>(aAu (X:=X)).weak λσ H Q=>by
 rintro⟨ρ,fr,Qx,E,t,k⟩
 exact λp hp=>k _ _ _ ρ (EOk.back E.len (E.rep.newD hp All2.nil)) t
end
abbrev GC:=List Dx->(Sv->Prop)->Prop
def fU(r:List V->Hp->VK->Prop)(g:GC):Prop:=∀(F:Fm) (P:List Rw) (H:Hp) (ds:List Dx) (xs:List V) (Q:VK) (Qx:Sv->Prop),Rep F P H->All2 (IsX (hid (bM P) (F.vis H))) ds xs->g ds Qx ->
 (∀v s H',Rep F ((.v s,some v)::P) H'->Qx s->Q v H')->r xs H Q
def cW(g:GC)(u:XA):XT:=λρ Q=>u ρ λss ρ'=>g (ss.map Sv.d) λs=>Q s ρ'
theorem aHr{F:Fm}{r:List V->Hp->VK->Prop}{g:GC}{u:XA}(hx:fU r g):∀σ H Q,tX F (cW g u) σ H Q->tCB r (tXa F u) σ H Q:=by
 rintro σ H Q ⟨ρ,fr,Qx,E,t,k⟩
 refine⟨ρ,fr,_,E,t,λvs ss H2 ρ2 hl E2 q2=>?_⟩
 obtain⟨R,hs⟩:=E2.many hl
 exact hx F _ H2 _ vs Q (λs=>Qx s ρ2) R hs q2 λv s H' R' q=>k v s H' ρ2 (EOk.back E2.len R') q
section
variable{X:Cx}{Ex:ExT}{e:Expr}{es:List Expr}{x:Str}{p pos:Pos}{r:List V->Hp->VK->Prop}{g:GC}{u:XA}{id T:String}
theorem kB(hc:CallR X (.builtin id) r)(hx:fU r g)(hg:Gl X x)(hm:X.mg x=none)(hv:bootBuiltins x=some (.builtin id))(ha:XAs X Ex (e::es) u)(hn:x ≠ "__name__":=by decide)(Bn:(x == ("__debug__" : Str))=false:=by decide)
  (he:starEach (e::es) X.env=(false,eval e X.env)::starEach es X.env:=by rfl) (A8:(backTo pos (starEach es X.env)).any (·.1)=false:=by rfl):XE X Ex (.Call (.Name x p) (e::es) [] pos) (cW g u):=λF=>(gv_ hc hg hm hv (ha F) hn Bn he A8).weak (aHr hx)
theorem cy_(hc:CallR X (.type T) r)(hx:fU r g)(hg:Gl X x)(hm:X.mg x=none)(hv:bootBuiltins x=some (.type T))(ha:XAs X Ex (e::es) u)(hn:x ≠ "__name__":=by decide)(Bn:(x == ("__debug__" : Str))=false:=by decide)
  (he:starEach (e::es) X.env=(false,eval e X.env)::starEach es X.env:=by rfl) (A8:(backTo pos (starEach es X.env)).any (·.1)=false:=by rfl):XE X Ex (.Call (.Name x p) (e::es) [] pos) (cW g u):=λF=>(i3 hc hg hm hv (ha F) hn Bn he A8).weak (aHr hx)
end
theorem vE{α β:Type}{g:α->β->Prop}{a:α}{xs:List β}(h:All2 g [a] xs):∃x,xs=[x]/\g a x:=by
 obtain⟨x,xr,rfl,h1,h2⟩:=h
 cases(show xr=[]from h2)
 exact⟨x,rfl,h1⟩
theorem aDp{α β:Type}{g:α->β->Prop}{a b:α}{xs:List β}(h:All2 g [a,b] xs):∃x y,xs=[x,y]/\g a x/\g b y:=by
 obtain⟨x,xr,rfl,h1,h2⟩:=h
 obtain⟨y,rfl,h3⟩:=vE h2
 exact⟨x,y,rfl,h1,h3⟩
def jX:GC
 | [.lst l],Q=>Q (.tr (.int l.length))
 | [.tup l],Q=>Q (.tr (.int l.length))
 | [.str z],Q=>z.length<=1000000/\Q (.tr (.int z.length))
 | [.dic l],Q=>Q (.tr (.int l.length))
 |_,_=>False
abbrev aJj(K:dQ):List V->Hp->VK->Prop:=λxs H Q=>(∃p ys,xs=[.ref p]/\(SqL K H p ys\/SqT K H p ys)/\Q (.int ys.length) H)\/(∃z,xs=[.str z]/\z.length<=sizeLine/\Q (.int z.length) H)\/(∃a kvs,xs=[V.ref a]/\Rd H a (.dK kvs)/\Q (.int kvs.length) H)
theorem pC{X:Cx}(K:dQ)(h:X.K=K:=by rfl):CallR X (.builtin "len") (aJj K):=by
 subst h
 refine sO.or (kA.or ?_)
 intro Aa s σ H xs us Q I r h
 obtain⟨a,kvs,rfl,ha,q⟩:=h
 obtain⟨u,rfl,ru⟩:=iG r
 cases ru
 exact aPw I ha λt s' I'=>⟨.int kvs.length,H,I',⟨t,rfl⟩,q⟩
theorem sL{K:dQ}:fU (aJj K) jX:=by
 intro F P H ds xs Q Qx R hs g k
 unfold jX at g
 split at g
 ·obtain ⟨x,rfl,hx⟩:=vE hs
  obtain⟨a,vs,rfl,h1,h2⟩:=hx.lst_eq
  exact .inl ⟨a,vs,rfl,.inl (SqL.of (R.hv _ _ h1)),k _ _ H (R.add (by rw[h2.len];exact IsX.of_int _)) g⟩
 ·obtain ⟨x,rfl,hx⟩:=vE hs
  obtain⟨a,vs,rfl,h1,h2⟩:=hx.tup_eq
  exact .inl ⟨a,vs,rfl,.inr (SqT.of (R.hv _ _ h1)),k _ _ H (R.add (by rw[h2.len];exact IsX.of_int _)) g⟩
 ·obtain ⟨x,rfl,hx⟩:=vE hs
  cases hx.str_eq
  exact .inr (.inl ⟨_,rfl,by have:=gV;lia,k _ _ H (R.add (IsX.of_int _)) g.2⟩)
 ·obtain ⟨x,rfl,hx⟩:=vE hs
  obtain⟨a,vs,rfl,h1,h2⟩:=hx.dic_eq
  exact .inr (.inr ⟨a,vs,rfl,tR R h1,k _ _ H (R.add (by rw[h2.len];exact IsX.of_int _)) g⟩)
 ·exact g.elim
def aBz:GC
 | [.int i],Q=>Q (.tr (.int i))
 | [.bl b],Q=>Q (.tr (.int (if b then 1 else 0)))
 |_,_=>False
theorem aCx:fU (λxs H Q=>(∃i,xs=[.int i]/\Q (.int i) H)\/∃k,xs=[.bl k]/\Q (.int (if k then 1 else 0)) H) aBz:=by
 intro F P H ds xs Q Qx R hs g k
 unfold aBz at g
 split at g
 ·obtain ⟨x,rfl,hx⟩:=vE hs
  cases hx.int_eq
  exact .inl ⟨_,rfl,k _ _ H (R.add (IsX.of_int _)) g⟩
 ·obtain ⟨x,rfl,hx⟩:=vE hs
  cases hx.bl_eq
  exact .inr ⟨_,rfl,k _ _ H (R.add (IsX.of_int _)) g⟩
 ·exact g.elim
def aTc:GC
 | [.lst l],Q=>Q (.ol l)
 | [.tup l],Q=>Q (.ol l)
 |_,_=>False
def w5:GC
 | [.lst l],Q=>Q (.tr (.tup l))
 | [.tup l],Q=>Q (.tr (.tup l))
 |_,_=>False
theorem fh_{X:Cx}(K:dQ)(h:X.K=K:=by rfl):CallR X (.type "tuple") (λxs H Q=>∃p ys,xs=[.ref p]/\((SqL K H p ys/\∀l,H l=none->Q (.ref l) (upd H l (.tup ys)))\/(SqT K H p ys/\Q (.ref p) H))):=by subst h;exact pA
theorem nZ{K:dQ}:fU (λxs H Q=>∃p ys,xs=[.ref p]/\((SqL K H p ys/\∀l,H l=none->Q (.ref l) (upd H l (.tup ys)))\/(SqT K H p ys/\Q (.ref p) H))) w5:=by
 intro F P H ds xs Q Qx R hs g k
 unfold w5 at g
 split at g
 ·obtain ⟨x,rfl,hx⟩:=vE hs
  obtain⟨a,vs,rfl,h1,h2⟩:=hx.lst_eq
  exact⟨a,vs,rfl,.inl ⟨SqL.of (R.hv _ _ h1),λl hl=>k _ _ _ (R.newT hl h2) g⟩⟩
 ·obtain ⟨x,rfl,hx⟩:=vE hs
  obtain⟨a,vs,rfl,h1,h2⟩:=hx.tup_eq
  exact⟨a,vs,rfl,.inr ⟨SqT.of (R.hv _ _ h1),k _ _ H (R.add (IsX.of_tup h1 h2)) g⟩⟩
 ·exact g.elim
inductive Ty where
 |bool | int | str | tuple | list | dict
def Ty.nm:Ty->String
 | .bool => "bool" | .int => "int" | .str => "str" | .tuple => "tuple" | .list => "list" | .dict => "dict"
def tyN:Dx->String
 | .non => "NoneType" | .bl _ => "bool" | .int _ => "int" | .str _ => "str" | .tup _ => "tuple" | .lst _ => "list" | .dic _ => "dict" | .scr _ _ => "list" | .ins _ _ => "object" | .exc _ => "object" | .pin _ _ => "tuple"
def isT:Ty->Dx->Bool
 | .bool,.bl _=>true
 | .int,.int _=>true
 | .int,.bl _=>true
 | .str,.str _=>true
 | .tuple,.tup _=>true
 | .tuple,.pin _ _=>true
 | .list,.lst _=>true
 | .dict,.dic _=>true
 | .list,.scr _ _=>true
 |_,_=>false
def pS:Dx->Prop
 | .scr _ _=>False
 | .ins _ _=>False
 | .exc _=>False
 |_=>True
theorem rX{K:dQ}{d:Dx}{n:Ty}(hd:pS d):PySem.W.kitOne K (.type (tyN d)) (.type n.nm)=some (isT n d):=by
 have h:∀T∈["NoneType","bool","int","str","tuple","list","dict"],∀n:Ty,PySem.W.kitOne K (.type T) (.type n.nm)=some (T == n.nm||(n.nm == "int" && T == "bool")):=by
  intro T hT n
  simp only[aF,bJ,or_false]at hT
  rcases hT with rfl | rfl | rfl | rfl | rfl | rfl | rfl<;>cases n<;>first
   |exact aBs _
   |exact aKx (by decide +kernel) (by decide +kernel) (by decide +kernel)
 rw[h _ (by cases d<;>first | exact hd.elim | simp[tyN]) n]
 cases d<;>cases n<;>first | rfl | exact hd.elim
theorem j9{X:Cx}{Aa:eS}{σ:St}{H:Hp}{s:Shared}{A:Around}{E:eQ}{Q:eQ}{b:Bool}{c:Value}{d:Dx}{x:V}{u:Value}(I:Inv X Aa σ H s)(rx:RelV x u)(hx:IsX H d x)(hd:pS d)(e:PySem.W.kitOne X.K (.type (tyN d)) c=some b)(h:∀tk,Q (.bool b) { s with toks:=tk }) :
  wpAny (model X.prog X.w) A (call (.builtin "isinstance") [u,c]) Q E s:=by
 cases d with
 |non=>cases hx.non_eq;exact db_ I rx .non e h
 |bl _=>cases hx.bl_eq;exact db_ I rx (.bl _) e h
 |int _=>cases hx.int_eq;exact db_ I rx (.int _) e h
 |str _=>cases hx.str_eq;exact db_ I rx (.str _) e h
 |tup _=>obtain⟨a,vs,rfl,h1,_⟩:=hx.tup_eq;exact db_ I rx (.tup h1) e h
 |lst _=>obtain⟨a,vs,rfl,h1,_⟩:=hx.lst_eq;exact db_ I rx (.lst h1) e h
 |dic _ =>
  obtain⟨a,vs,rfl,h1,_⟩:=hx.dic_eq
  rcases h1 with h1 | ⟨ob,h1⟩
  ·exact db_ I rx (.dK h1) e h
  ·cases (show u=Value.ref a from rx)
   obtain⟨o,es,ep,h1,h2,_⟩:=fu_ (show ObjOk X.prog X.w H s.heap a (.frz ob (.dK vs))from I.hok a _ h1).2
   exact PySem.W.kia_one PySem.W.kitx_dict I.kIn ⟨o,h1,h2.1⟩ e (λz=>nomatch z) h
 |scr _ _=>exact hd.elim
 |ins _ _=>exact hd.elim
 |exc _=>exact hd.elim
 |pin b x=>obtain⟨rfl,h1⟩:=hx.pin_eq;exact db_ I rx (.tup h1) e h
theorem aDf{X:Cx}(n:Ty):CallR X (.builtin "isinstance") (λxs H Q=>∃x d,xs=[x,.ty n.nm]/\IsX H d x/\pS d/\Q (.bl (isT n d)) H):=by
 intro Aa s σ H xs us Q I r h
 obtain⟨x,d,rfl,hx,hd,q⟩:=h
 obtain⟨u,w',rfl,r1,r2⟩:=tF r
 cases(show w'=Value.type n.nm from r2)
 exact j9 I r1 hx hd (rX hd) (λtk=>⟨.bl _,H,I.tok _,rfl,q⟩)
def xIs(n:Ty)(t:XT):XT:=λρ Q=>t ρ λs ρ'=>match s.d with
 | .scr _ _=>False
 | .ins _ _=>False
 | .exc _=>False
 |d=>Q (.tr (.bl (isT n d))) ρ'
theorem kH{X:Cx}{Ex:ExT}{e:Expr}{t:XT}{nm:Str}{p q pos:Pos}(n:Ty)(hm:X.mg "isinstance" = none)(h:XE X Ex e t)(hT:PE X (.Name nm q) (tC (.ty n.nm)))(hg:Gl X "isinstance":=by rfl)
  (he:starEach [e,.Name nm q] X.env=(false,eval e X.env)::starEach [.Name nm q] X.env:=by rfl) (E6:starEach [.Name nm q] X.env=(false,eval (.Name nm q) X.env)::starEach [] X.env:=by rfl) (A8:(backTo pos (starEach [.Name nm q] X.env)).any (·.1)=false:=by rfl):XE X Ex (.Call (.Name "isinstance" p) [e,.Name nm q] [] pos) (xIs n t):=λF =>
 (gv_ (aDf n) hg hm fx_ (iE (h F) (iE hT oP E6) he) (by decide) (by decide) he A8).weak fun σ H Q=>by
  rintro⟨ρ,fr,Qx,E,t,k⟩
  refine⟨ρ,fr,_,E,t,λv s H' ρ' E' q=>?_⟩
  obtain⟨R,hx⟩:=E'.one
  generalize hd:s.d=d at q hx
  cases d with
  |scr _ _=>exact q.elim
  |ins _ _=>exact q.elim
  |exc _=>exact q.elim
  |_=>exact⟨v,_,rfl,hx.to R.hv,trivial,k _ _ H' ρ' (EOk.back E'.len (R.add (IsX.of_bl _))) q⟩
def Cal(P:Program)(w:World)(K:dQ)(mg:lG)(base:Heap)(j:Nat)(x:Str)(ps:List Str)(sp:Sp):Prop:=∃f fd,FnOk P w K mg base CX0 j f fd ps sp/\Binds K fd ps []/\PySem.W.keepIn K (.ref f)=true/\mg x=some (.ref f)
theorem aAw{X:Cx}{j:Nat}{x:Str}{ps:List Str}{sp:Sp}{e:Expr}{es:List Expr}{t:TA}{p pos:Pos}(C:Cal X.prog X.w X.K X.mg X.base j x ps sp)(hr:Room j X.A)(ha:PA X (e::es) t)(hg:Gl X x:=by rfl)(Bn:(x == ("__debug__" : Str))=false:=by decide)
  (he:starEach (e::es) X.env=(false,eval e X.env)::starEach es X.env:=by rfl) (A8:(backTo pos (starEach es X.env)).any (·.1)=false:=by rfl):PE X (.Call (.Name x p) (e::es) [] pos) (aHq sp [] E0 t):=by
 obtain⟨f,fd,G,b,k,m⟩:=C
 exact ee_ G hr hg m k b .nil jW ha Bn he A8
def aDs(Hs H H':Hp):Sv->V->Prop
 | .tr d,v=>IsX (ext Hs H H') d v
 | .ol l,v=>∃a vs,v=.ref a/\H a=none/\H' a=some (.lst vs)/\All2 (IsX (hid [a] (ext Hs H H'))) l vs
 | .od l,v=>∃a ws,v=.ref a/\H a=none/\H' a=some (.dK ws)/\All2 (KvX (hid [a] (ext Hs H H'))) l ws
 | .ow o,v=>o.fp.Nodup/\(∀a∈o.fp,H a=none)/\OwOk (hid o.fp (ext Hs H H')) H' o v
def spX(g:GC):Sp:=λvs H Q _=>∃Hs ds Qx,Same Hs H/\All2 (IsX Hs) ds vs/\g ds Qx/\∀s v H',Same H H'->aDs Hs H H' s v->Qx s->Q v H'
section
variable{F:Fm}{P:List Rw}{H H':Hp}{a:Addr}{s:Sv}{v:V}
theorem sG(R:Rep F P H)(e:Same H H'):Same (ext (hid (bM P) (F.vis H)) H H') (hid (bM P) (F.vis H')):=λb o hb=>by
 cases q:H b with
 |none =>
  rw[oI q]at hb
  exact aY.mpr ⟨R.not_own q,(oI (R.fresh q)).trans hb⟩
 |some u =>
  rw[lE q]at hb
  exact nM (ft_ e) _ _ hb
theorem Rep.adopt(R:Rep F P H)(e:Same H H')(ha:H a=none)(hA:gS (.v s,some (.ref a))=[a])(h:RowOk (a::bM P) (F.vis H') H' (.v s,some (.ref a))):Rep F ((.v s,some (.ref a))::P) H':=by
 have An:=R.not_own ha
 have hq:=R.fresh ha
 have R':=R.grow e
 refine⟨by rw[kC hA];exact cE.mpr ⟨An,R.nd⟩,λr hr=>?_,λr hr b hb=>?_,R'.kp,R'.lv⟩
 ·rw [kC hA]
  rcases aF.mp hr with rfl | hr
  ·exact h
  ·refine (R.ok r hr).mono (.of fun b o hb => ?_) fun b hb => ?_
   ·have Aj:=aY.mp hb
    have Fe:b≠a:=λz=>by have:=R.vis _ _ Aj.2;rw[z,ha]at this;cases this
    exact aY.mpr ⟨λz=>(aF.mp z).elim Fe Aj.1,ft_ e _ _ Aj.2⟩
   ·obtain ⟨o,ho⟩:=R.own_in (dp_ hr hb)
    rw[ho,e _ _ ho]
 ·rcases aF.mp hr with rfl | hr
  ·cases eq1 hA hb;exact hq
  ·exact R.fr r hr b hb
theorem Rep.adoptW{o:Ow}(R:Rep F P H)(e:Same H H')(hn:o.fp.Nodup)(ha:∀a∈o.fp,H a=none)(h:OwOk (hid (o.fp++bM P) (F.vis H')) H' o v):Rep F ((.v (.ow o),some v)::P) H':=by
 have R':=R.grow e
 have hO:bM ((.v (.ow o),some v)::P)=o.fp++bM P:=bx_
 have Hk:∀a∈o.fp,a∉bM P:=λa h1=>R.not_own (ha a h1)
 refine⟨?_,λr hr=>?_,λr hr b hb=>?_,R'.kp,R'.lv⟩
 ·rw [hO]
  exact dC.mpr ⟨hn,R.nd,λa h1 b h2 z=>Hk a h1 (z ▸ h2)⟩
 ·rw [hO]
  rcases aF.mp hr with rfl | hr
  ·exact⟨v,rfl,h⟩
  ·refine (R.ok r hr).mono (.of fun b u hb => ?_) fun b hb => ?_
   ·have Aj:=aY.mp hb
    refine aY.mpr ⟨λz=>(bD.mp z).elim (λz=>?_) Aj.1,ft_ e _ _ Aj.2⟩
    have:=R.vis _ _ Aj.2;rw[ha b z]at this;cases this
   ·obtain ⟨u,hu⟩:=R.own_in (dp_ hr hb)
    rw[hu,e _ _ hu]
 ·rcases aF.mp hr with rfl | hr
  ·exact R.fresh (ha b hb)
  ·exact R.fr r hr b hb
theorem uW(R:Rep F P H)(e:Same H H')(ha:H a=none):Same (hid [a] (ext (hid (bM P) (F.vis H)) H H')) (hid (a::bM P) (F.vis H')):=λb o hb=>by
 have Aj:=aY.mp hb
 have:=aY.mp (sG R e _ _ Aj.2)
 exact aY.mpr ⟨λz=>(aF.mp z).elim (λz=>Aj.1 (by rw[z];exact aA)) this.1,this.2⟩
theorem Rep.res(R:Rep F P H)(e:Same H H')(h:aDs (hid (bM P) (F.vis H)) H H' s v):Rep F ((.v s,some v)::P) H':=by
 match s,h with
 | .tr d,h=>exact(R.grow e).add (IsX.to h (sG R e))
 | .ol l,⟨a,vs,h1,h2,h3,h4⟩ =>
  subst h1
  exact R.adopt e h2 rfl ⟨a,vs,rfl,h3,h4.imp λ_ _ z=>z.to (uW R e h2)⟩
 | .od l,⟨a,vs,h1,h2,h3,h4⟩ =>
  subst h1
  exact R.adopt e h2 rfl ⟨a,vs,rfl,h3,h4.imp λ_ _ z=>z.to (uW R e h2)⟩
 | .ow o,⟨h1,h2,h3⟩ =>
  refine R.adoptW e h1 h2 (OwOk.mono (.of λb u hb=>?_) o v (λ_ _=>rfl) h3)
  have Aj:=aY.mp hb
  have:=aY.mp (sG R e _ _ Aj.2)
  exact aY.mpr ⟨λz=>(bD.mp z).elim Aj.1 this.1,this.2⟩
end
theorem gY{X:Cx}{Ex:ExT}{j:Nat}{x:Str}{ps:List Str}{g:GC}{e:Expr}{es:List Expr}{u:XA}{p pos:Pos}(C:Cal X.prog X.w X.K X.mg X.base j x ps (spX g))(hr:Room j X.A)(ha:XAs X Ex (e::es) u)(hg:Gl X x:=by rfl)(Bn:(x == ("__debug__" : Str))=false:=by decide)
  (he:starEach (e::es) X.env=(false,eval e X.env)::starEach es X.env:=by rfl) (A8:(backTo pos (starEach es X.env)).any (·.1)=false:=by rfl):XE X Ex (.Call (.Name x p) (e::es) [] pos) (cW g u):=λF=>(aAw C hr (ha F) hg Bn he A8).weak λσ H Q=>by
 rintro⟨ρ,fr,Qx,E,t,k⟩
 refine⟨ρ,fr,_,E,t,λvs ss H2 ρ2 hl E2 q2=>?_⟩
 obtain⟨R,hs⟩:=E2.many hl
 rw[cF]
 exact⟨_,_,_,R.hv,hs,q2,λs v H' e hr q=>k v s H' ρ2 (EOk.back E2.len (R.res e hr)) q⟩
abbrev GB:=List Dx->List Dx->(Dx->List Dx->Prop)->Prop
def spB(g:GB):Sp:=λvs H Q _=>∃p ws l vr Hs ds Qx,vs=.ref p::vr/\H p=some (.lst ws)/\Same Hs H/\Hs p=none/\All2 (IsX Hs) l ws/\All2 (IsX Hs) ds vr/\g l ds Qx /\
 ∀d v l' ws' H',SameX p H H'->H' p=some (.lst ws')->All2 (IsX (hid [p] (ext Hs H H'))) l' ws'->IsX (ext Hs H H') d v->Qx d l'->Q v H'
def kL:Sl->Option (List Dx×(List Dx->Sl))
 | .bw l=>some (l,.bw)
 | .ba a l=>some (l,.ba a)
 | .v (.ol l)=>some (l,λl'=>.v (.ol l'))
 |_=>none
def fY(g:GB)(i:Nat)(u:XA):XT:=λρ Q=>((ρ[i]?).bind kL).isSome=true/\u ρ λss ρ'=>match (ρ'[i]?).bind kL with
 |some (l,f)=>g l (ss.map Sv.d) λd l'=>Q (.tr d) (ρ'.set i (f l'))
 |none=>False
section
variable{F:Fm}{P:List Rw}{H H':Hp}{a p:Addr}{s:Sv}{v:V}{r r':Rw}
theorem Rep.called(R:Rep F (r::P) H)(hA:gS r=[p])(D8:gS r'=[p])(hF:FrOk F r p->FrOk F r' p)(e:SameX p H H')(hp:∃o,H' p=some o)(h:RowOk (p::bM P) (F.vis H') H' r'):Rep F (r'::P) H':=by
 have hn:=R.nd
 rw[kC hA]at hn
 have Gy:=(cE.mp hn).1
 have R1:=R.ok
 rw[kC hA]at R1
 have Cl:=R.fr r aA p (aOq hA)
 have ev:Same (hid (p::bM P) (F.vis H)) (hid (p::bM P) (F.vis H')):=λb o hb=>by
  have Aj:=aY.mp hb
  have Dp:b≠p:=λz=>Aj.1 (by rw[z];exact aA)
  refine aY.mpr ⟨Aj.1,?_⟩
  cases q:F.H0 b with
  |none=>exact(oI q).trans (rS ((oI q).symm.trans Aj.2) λo h=>e.get Dp h)
  |some u=>exact(lE q).trans ((lE q).symm.trans Aj.2)
 refine⟨by rw[kC D8];exact hn,λx hx=>?_,λx hx b hb=>?_,λb u h1 h2=>?_,λb hb=>?_⟩
 ·rw [kC D8]
  rcases aF.mp hx with rfl | hx
  ·exact h
  ·refine (R1 x (aB _ hx)).mono (.of ev) fun b hb => ?_
   have Dp:b≠p:=λz=>Gy (z ▸ dp_ hx hb)
   obtain⟨o,ho⟩:=R.own_in (dp_ (aB _ hx) hb)
   rw[ho,e.get Dp ho]
 ·rcases aF.mp hx with rfl | hx
  ·cases eq1 D8 hb;exact hF Cl
  ·exact R.fr x (aB _ hx) b hb
 ·have hb:=R.kp b u h1 h2
  by_cases z:b=p
  ·subst z
   rcases Cl.or with Cl | Cl
   ·exact absurd Cl h2
   ·rw[Cl]at h1;cases h1
  ·exact e.get z hb
 ·by_cases z:b=p
  ·subst z;exact hp
  ·obtain ⟨o,ho⟩:=R.lv b hb
   exact⟨o,e.get z ho⟩
theorem wY(R:Rep F (r::P) H)(hA:gS r=[p])(e:SameX p H H'):Same (ext (hid (bM (r::P)) (F.vis H)) H H') (hid (bM (r::P)) (F.vis H')):=λb o hb=>by
 have hpo:p∈bM (r::P):=by rw[kC hA];exact aA
 cases q:H b with
 |none =>
  rw[oI q]at hb
  exact aY.mpr ⟨R.not_own q,(oI (R.fresh q)).trans hb⟩
 |some u =>
  rw[lE q]at hb
  have Aj:=aY.mp hb
  have Dp:b≠p:=λz=>Aj.1 (by rw[z];exact hpo)
  refine aY.mpr ⟨Aj.1,?_⟩
  cases q:F.H0 b with
  |none=>exact(oI q).trans (rS ((oI q).symm.trans Aj.2) λo h=>e.get Dp h)
  |some u=>exact(lE q).trans ((lE q).symm.trans Aj.2)
end
theorem nJ{sl:Sl}{x:Option V}{l:List Dx}{f:List Dx->Sl}{F:Fm}{P:List Rw}{H:Hp}(h:kL sl=some (l,f))(R:Rep F ((sl,x)::P) H):∃p ws,x=some (.ref p)/\H p=some (.lst ws)/\gS (sl,some (.ref p))=[p]/\All2 (IsX (hid (p::bM P) (F.vis H))) l ws /\
  ∀l',gS (f l',some (.ref p))=[p]/\(FrOk F (sl,some (.ref p)) p->FrOk F (f l',some (.ref p)) p)/\∀{O:List Addr} {G H':Hp} {ws':List V},H' p=some (.lst ws')->All2 (IsX (hid O G)) l' ws'->RowOk O G H' (f l',some (.ref p)):=by
 match sl,h with
 | .bw l,h =>
  cases h
  obtain⟨p,ws,h1,h2,h3⟩:=R.atB
  exact⟨p,ws,h1,h2,rfl,h3,λl'=>⟨rfl,id,λa b=>⟨p,_,rfl,a,b⟩⟩⟩
 | .v (.ol l),h =>
  cases h
  obtain⟨p,ws,h1,h2,h3⟩:=R.atL
  exact⟨p,ws,h1,h2,rfl,h3,λl'=>⟨rfl,id,λa b=>⟨p,_,rfl,a,b⟩⟩⟩
 | .ba a l,h =>
  cases h
  obtain⟨h1,ws,h2,h3⟩:=R.ok _ aA
  subst h1
  exact⟨a,ws,rfl,h2,rfl,by rw[<-kC (a:=a) (r:=(.ba a l,some (.ref a))) rfl];exact h3,λl'=>⟨rfl,id,λa b=>⟨rfl,_,a,b⟩⟩⟩
theorem gW{X:Cx}{Ex:ExT}{j i:Nat}{x:Str}{ps:List Str}{g:GB}{e:Expr}{es:List Expr}{u:XA}{p pos:Pos}(C:Cal X.prog X.w X.K X.mg X.base j x ps (spB g))(hr:Room j X.A)(hv:PE X e (fQ i))(ha:XAs X Ex es u)(hg:Gl X x:=by rfl)(Bn:(x == ("__debug__" : Str))=false:=by decide)
  (he:starEach (e::es) X.env=(false,eval e X.env)::starEach es X.env:=by rfl) (A8:(backTo pos (starEach es X.env)).any (·.1)=false:=by rfl):XE X Ex (.Call (.Name x p) (e::es) [] pos) (fY g i u):=λF=>(aAw C hr (iE hv (ha F) he) hg Bn he A8).weak λσ H Q=>by
 rintro⟨ρ,fr,Qx,E,⟨t0,t⟩,k⟩
 obtain⟨⟨l0,f0⟩,h0⟩:=fV.mp t0
 obtain⟨sl0,h1,h2⟩:=eV.mp h0
 obtain⟨v,hv,hi,R0⟩:=cw_ E h1
 obtain⟨p,_,rfl,_⟩:=nJ h2 R0
 refine⟨.ref p,hv,ρ,fr,_,E,t,λvs ss H2 ρ2 hl E2 q2=>?_⟩
 obtain⟨R,hs⟩:=E2.many hl
 split at q2
 ·rename_i l f hb
  obtain⟨sl,h3,h4⟩:=eV.mp hb
  have E3:EOk F ρ2 σ fr H2:=⟨E2.len,R⟩
  obtain⟨v',Bf,Dd,R2⟩:=cw_ E3 h3
  rw[hv]at Bf
  cases Bf
  obtain⟨p',ws,ep,h5,h6,h7,h8⟩:=nJ h4 R2
  cases ep
  rw[cF]
  have hO:(bM (ρ2.zip σ++fr)).Perm (bM ((sl,some (V.ref p))::((ρ2.zip σ).eraseIdx i++fr))):=((eu_ h3 hv).append_right fr).flatMap_right _
  have hOm:∀a∈bM ((sl,some (V.ref p))::((ρ2.zip σ).eraseIdx i++fr)),a∈bM (ρ2.zip σ++fr):=λa ha=>hO.mem_iff.mpr ha
  refine⟨p,ws,l,vs,hid (bM ((sl,some (V.ref p))::((ρ2.zip σ).eraseIdx i++fr))) (F.vis H2),_,_,rfl,h5,R2.hv,?_,?_,hs.imp λ_ _ z=>z.to (kZ hOm),q2,λd w l' ws' H' e hp Cq hd q=>?_⟩
  ·unfold hid
   rw[if_pos (by rw[kC h6];exact aA)]
  ·rw [kC h6]
   exact h7
  ·obtain ⟨k1,k2,k3⟩:=h8 l'
   have ev:=wY R2 h6 e
   have R3:=R2.called h6 k1 k2 e ⟨_,hp⟩ (k3 hp (Cq.imp λ_ _ z=>z.to λb o hb=>by
    have Aj:=aY.mp hb
    have:=ev _ _ Aj.2
    rw[kC h6]at this
    exact this))
   refine k w (.tr d) H' _ (EOk.back (by rw[bX];exact E2.len) ?_) q
   have R4:=R3.add (d:=d) (v:=w) (hd.to λb o hb=>by
    have:=ev _ _ hb
    rw[kC h6]at this
    rw[kC k1]
    exact this)
   exact R4.perm (((cv_ E2.len Dd hv).append_right fr).symm.cons _)
 ·exact q2.elim
end Lf
variable{X:L2.Cx}{Ex:Lf.ExT}
namespace L2
open PySem
theorem PI.weak{X:Cx}{tg e:Expr}{t u:TI}(h:PI X tg e t)(w:∀σ H Q,u σ H Q->t σ H Q):PI X tg e u:=λAa s σ H Q I q=>h Aa s σ H Q I (w σ H Q q)
theorem PCs.weak{X:Cx}{e:List Expr}{t u:TT}(h:PCs X e t)(w:∀σ H Q,u σ H Q->t σ H Q):PCs X e u:=λAa s σ H Q I q=>h Aa s σ H Q I (w σ H Q q)
end L2
namespace Lf
open PySem L2
abbrev XI:=En->(List Dx->En->Prop)->Prop
structure ItX(F:Fm)(J:It)(row:List Rw)(ds:List Dx):Prop where
 go:∀P H i d,Rep F (row++P) H->ds[i]? = some d->J.go i H
 stop:∀P H i,Rep F (row++P) H->ds.length<=i->J.stop i H
 yld:∀P H i d x H',Rep F (row++P) H->ds[i]? = some d->J.yld i H x H'->Rep F ((vT d,some x)::(row++P)) H'
def tXi(F:Fm)(t:XI):TI:=λσ H R=>∃ρ fr Qx,EOk F ρ σ fr H/\t ρ Qx/\∀J H' ρ' row ds,EOk F ρ' σ (row++fr) H'->ItX F J row ds->Qx ds ρ'->R J H'
def XIt(X:Cx)(Ex:ExT)(tg iter:Expr)(t:XI):Prop:=∀F,[OkF X Ex F]->PI X tg iter (tXi F t)
def xiL(t:XT):XI:=λρ Q=>t ρ λs ρ'=>match s.d with
 | .lst l=>Q l ρ'
 |_=>False
def xiT(t:XT):XI:=λρ Q=>t ρ λs ρ'=>match s.d with
 | .tup l=>Q l ρ'
 |_=>False
theorem aBw{F:Fm}{K:dQ}{a:Addr}{l:List Dx}:ItX F (Itl K a) [(vT (.lst l),some (.ref a))] l where
 go:=λP H i d R hd=>by
  obtain⟨v,e,h⟩:=R.atT;cases e
  obtain⟨_,vs,e,h1,h2⟩:=h.lst_eq;cases e
  obtain⟨x,h3,_⟩:=h2.at hd
  exact⟨vs,x,SqL.of (R.hv _ _ h1),h3⟩
 stop:=λP H i R hi=>by
  obtain⟨v,e,h⟩:=R.atT;cases e
  obtain⟨_,vs,e,h1,h2⟩:=h.lst_eq;cases e
  exact⟨vs,SqL.of (R.hv _ _ h1),by rw[h2.len];exact hi⟩
 yld:=λP H i d x H' R hd q=>by
  obtain⟨rfl,q⟩:=q
  obtain⟨v,e,h⟩:=R.atT;cases e
  obtain⟨_,vs,e,h1,h2⟩:=h.lst_eq;cases e
  obtain⟨y,h3,h4⟩:=h2.at hd
  rw[q vs (SqL.of (R.hv _ _ h1))]at h3
  cases h3
  exact R.add h4
theorem aGk{F:Fm}{K:dQ}{a:Addr}{l:List Dx}:ItX F (Itt K a) [(vT (.tup l),some (.ref a))] l where
 go:=λP H i d R hd=>by
  obtain⟨v,e,h⟩:=R.atT;cases e
  obtain⟨_,vs,e,h1,h2⟩:=h.tup_eq;cases e
  obtain⟨x,h3,_⟩:=h2.at hd
  exact⟨vs,x,SqT.of (R.hv _ _ h1),h3⟩
 stop:=λP H i R hi=>by
  obtain⟨v,e,h⟩:=R.atT;cases e
  obtain⟨_,vs,e,h1,h2⟩:=h.tup_eq;cases e
  exact⟨vs,SqT.of (R.hv _ _ h1),by rw[h2.len];exact hi⟩
 yld:=λP H i d x H' R hd q=>by
  obtain⟨rfl,q⟩:=q
  obtain⟨v,e,h⟩:=R.atT;cases e
  obtain⟨_,vs,e,h1,h2⟩:=h.tup_eq;cases e
  obtain⟨y,h3,h4⟩:=h2.at hd
  rw[q vs (SqT.of (R.hv _ _ h1))]at h3
  cases h3
  exact R.add h4
section
variable{tg l a b:Expr}{t:XT}{u:XA}{p pos:Pos}
theorem vM(h:XE X Ex l t):XIt X Ex tg l (xiL t):=λF=>(aFd (h F)).weak λσ H R=>by
 rintro⟨ρ,fr,Qx,E,t,k⟩
 refine⟨ρ,fr,_,E,t,λv s H' ρ' E' q=>?_⟩
 split at q
 ·rename_i m hm
  have R1:=E'.front.frz
  rw[hm]at R1
  obtain⟨v',e,h⟩:=R1.atT;cases e
  obtain⟨c,vs,rfl,h1,h2⟩:=h.lst_eq
  exact⟨c,rfl,⟨vs,SqL.of (R1.hv _ _ h1)⟩,k _ H' ρ' [(vT (.lst m),some (.ref c))] m (EOk.back E'.len R1) aBw q⟩
 ·exact q.elim
theorem u3(h:XE X Ex l t):XIt X Ex tg l (xiT t):=λF=>(aJq (h F)).weak λσ H R=>by
 rintro⟨ρ,fr,Qx,E,t,k⟩
 refine⟨ρ,fr,_,E,t,λv s H' ρ' E' q=>?_⟩
 split at q
 ·rename_i m hm
  have R1:=E'.front.frz
  rw[hm]at R1
  obtain⟨v',e,h⟩:=R1.atT;cases e
  obtain⟨c,vs,rfl,h1,h2⟩:=h.tup_eq
  exact⟨c,rfl,⟨vs,SqT.of (R1.hv _ _ h1)⟩,k _ H' ρ' [(vT (.tup m),some (.ref c))] m (EOk.back E'.len R1) aGk q⟩
 ·exact q.elim
def z9(lo:Int)(n:Nat):List Dx:=(List.range n).map λk:Nat=>.int (lo+(k:Int))
theorem yL{lo:Int}{n i:Nat}{d:Dx}(h:(z9 lo n)[i]? = some d):i<n/\d=.int (lo+i):=by
 unfold z9 at h
 rw[bP]at h
 obtain⟨k,h1,h2⟩:=cJ.mp h
 obtain⟨h3,h4⟩:=aV.mp h1
 rw[List.getElem_range]at h4
 rw[dY]at h3
 subst h4
 exact⟨h3,h2.symm⟩
theorem j8{F:Fm}{lo:Int}{n:Nat}:ItX F (Itr lo n) [] (z9 lo n)where
 go:=λP H i d R hd=>(yL hd).1
 stop:=λP H i R hi=>by unfold z9 at hi;rw[aD,dY]at hi;exact hi
 yld:=λP H i d x H' R hd q=>by
  obtain⟨rfl,rfl⟩:=q
  rw[(yL hd).2]
  exact R.add (IsX.of_int _)
def aEf(u:XA):XI:=λρ Q=>u ρ λss ρ'=>match ss.map Sv.d with
 | [.int j]=>(-(2^62)<=j/\j<2^62)/\Q (z9 0 j.toNat) ρ'
 |_=>False
theorem ek_(hm:X.mg "range" = none)(ha:XAs X Ex [a] u)(hg:Gl X "range":=by rfl)(hs:starEach [a] X.env=[(false,eval a X.env)]:=by rfl):XIt X Ex tg (.Call (.Name "range" p) [a] [] pos) (aEf u):=λF=>(hl_ hg hm (ha F) hs).weak λσ H R=>by
 rintro⟨ρ,fr,Qx,E,t,k⟩
 refine⟨ρ,fr,_,E,t,λvs ss H2 ρ2 hl E2 q=>?_⟩
 obtain⟨R,hs⟩:=E2.many hl
 split at q
 ·rename_i j hj
  rw[hj]at hs
  obtain⟨x,rfl,hx⟩:=vE hs
  cases hx.int_eq
  exact⟨j,rfl,q.1.1,q.1.2,k _ H2 ρ2 [] _ ⟨E2.len,R⟩ j8 q.2⟩
 ·exact q.elim
def jS(l m:List Dx):List Dx:=List.zipWith (λa b=>.tup [a,b]) l m
theorem lH{l m:List Dx}{i:Nat}{d:Dx}(h:(jS l m)[i]? = some d):∃a b,l[i]? = some a/\m[i]? = some b/\d=.tup [a,b]:=by
 unfold jS at h
 rw[List.getElem?_zipWith]at h
 cases e1:l[i]? with
 |none=>rw[e1]at h;cases h
 |some a =>
  cases e2:m[i]? with
  |none=>rw[e1,e2]at h;cases h
  |some b=>rw[e1,e2]at h;exact⟨a,b,rfl,rfl,(ozI h).symm⟩
theorem aGj{F:Fm}{K:dQ}{a b:Addr}{l m:List Dx}:ItX F (Itz false false K a b) [(vT (.lst l),some (.ref a)),(vT (.lst m),some (.ref b))] (jS l m)where
 go:=λP H i d R hd=>by
  obtain⟨v,e,h⟩:=R.atT;cases e
  obtain⟨_,vs,e,h1,h2⟩:=h.lst_eq;cases e
  obtain⟨v,e,h'⟩:=R.tail.atT;cases e
  obtain⟨_,ws,e,h3,h4⟩:=h'.lst_eq;cases e
  obtain⟨c,c',e1,e2,_⟩:=lH hd
  obtain⟨x,h5,_⟩:=h2.at e1
  obtain⟨y,h6,_⟩:=h4.at e2
  exact⟨vs,ws,x,y,SqL.of (R.hv _ _ h1),SqL.of (R.hv _ _ h3),h5,h6⟩
 stop:=λP H i R hi=>by
  obtain⟨v,e,h⟩:=R.atT;cases e
  obtain⟨_,vs,e,h1,h2⟩:=h.lst_eq;cases e
  obtain⟨v,e,h'⟩:=R.tail.atT;cases e
  obtain⟨_,ws,e,h3,h4⟩:=h'.lst_eq;cases e
  refine⟨vs,ws,SqL.of (R.hv _ _ h1),SqL.of (R.hv _ _ h3),?_⟩
  unfold jS at hi
  rw[List.length_zipWith]at hi
  rw[h2.len,h4.len]
  lia
 yld:=λP H i d x H' R hd q=>by
  obtain⟨p,x,y,rfl,hp,rfl,q⟩:=q
  obtain⟨v,e,h⟩:=R.atT;cases e
  obtain⟨_,vs,e,h1,h2⟩:=h.lst_eq;cases e
  obtain⟨v,e,h'⟩:=R.tail.atT;cases e
  obtain⟨_,ws,e,h3,h4⟩:=h'.lst_eq;cases e
  obtain⟨c,c',e1,e2,rfl⟩:=lH hd
  obtain⟨x',h5,h7⟩:=h2.at e1
  obtain⟨y',h6,h8⟩:=h4.at e2
  obtain⟨q1,q2⟩:=q vs ws (SqL.of (R.hv _ _ h1)) (SqL.of (R.hv _ _ h3))
  rw[q1]at h5;cases h5
  rw[q2]at h6;cases h6
  exact R.newT hp ⟨_,_,rfl,h7,_,_,rfl,h8,rfl⟩
end
abbrev XG:=Dx->En->(En->Prop)->Prop
def GX(n:Nat)(g:TG)(gx:XG):Prop:=∀(F:Fm) (ρ:En) (σ:St) (fr:List Rw) (H:Hp) (d:Dx) (x:V) (Q:St->Hp->Prop) (Qx:En->Prop),EOk F ρ σ ((vT d,some x)::fr) H->gx d ρ Qx ->
 (∀σ' H' ρ',EOk F ρ' σ' fr H'->σ'.length=σ.length->(∀i,n<=i->σ'[i]? = σ[i]?)->Qx ρ'->Q σ' H')->g x σ H Q
def gxN(i:Nat):XG:=λd ρ Q=>Q (ρ.set i (vT d))
theorem lY{F:Fm}{ρ:En}{σ:St}{fr:List Rw}{H:Hp}{s:Sv}{x:V}{i:Nat}(E:EOk F ρ σ ((.v s,some x)::fr) H):EOk F (ρ.set i (.v s)) (σ.set i (some x)) fr H:=by
 by_cases hi:i<ρ.length
 ·refine ⟨by rw [bX,bX]; exact E.len,?_⟩
  have hz:=aEy (l:=ρ.zip σ) (i:=i) (aS (by rw[List.length_zip];have:=E.len;lia))
  have R:=E.front.perm ((hz.append_right fr).cons _)
  exact(R.perm (.swap _ _ _)).tail.perm ((qS E.len hi).append_right fr).symm
 ·rw [dS (by lia),dS (by have:=E.len; lia)]
  exact E.drop
theorem oQ{n i:Nat}(h:i<n):GX n (iM i) (gxN i):=λF ρ σ fr H d x Q Qx E g k=>k _ H _ (lY E) (bX) (λj hj=>dW (by lia)) g
@[reducible] def aGl:List Nat->TGs
 | []=>aGp
 |i::is=>zP (iM i) (aGl is)
def gxs:List Nat->List Dx->En->(En->Prop)->Prop
 | [],[],ρ,Q=>Q ρ
 |i::is,d::ds,ρ,Q=>gxs is ds (ρ.set i (.v (.tr d))) Q
 |_,_,_,_=>False
def gxT(is:List Nat):XG:=λd ρ Q=>match d with
 | .tup ds=>gxs is ds ρ Q
 |_=>False
def gxL(is:List Nat):XG:=λd ρ Q=>match d with
 | .lst ds=>gxs is ds ρ Q
 |_=>False
theorem wT{n:Nat}{F:Fm}{fr:List Rw}{H:Hp}{Q:St->Hp->Prop}{Qx:En->Prop}:∀{is:List Nat} {ds:List Dx} {xs:List V} {ρ:En} {σ:St},(∀i∈is,i<n)->EOk F ρ σ fr H->All2 (IsX (hid (bM (ρ.zip σ++fr)) (F.vis H))) ds xs->gxs is ds ρ Qx ->
  (∀σ' ρ',EOk F ρ' σ' fr H->σ'.length=σ.length->(∀i,n<=i->σ'[i]? = σ[i]?)->Qx ρ'->Q σ' H)->aGl is xs σ H Q
 | [],[],xs,ρ,σ,_,E,ha,g,k=>⟨ha,k σ ρ E rfl (λ_ _=>rfl) g⟩
 |i::is,d::ds,xs,ρ,σ,hi,E,⟨x,xr,e,h1,h2⟩,g,k=>by
  have E1:EOk F (ρ.set i (vT d)) (σ.set i (some x)) fr H:=lY (EOk.back E.len (E.rep.add h1))
  refine⟨x,xr,e,wT (λj hj=>hi j (aB _ hj)) E1 (h2.imp λa b z=>z.to (kZ λc hc=>?_)) g λσ' ρ' E' hl hs q=>k σ' ρ' E' (hl.trans bX) (λj hj=>(hs j hj).trans (dW (by have:=hi i aA;lia))) q⟩
  by_cases Av:i<ρ.length
  ·have hp:=((qS (s:=.v (.tr d)) (v:=some x) E.len Av).append_right fr).flatMap_right gS
   have hz:=((aEy (l:=ρ.zip σ) (i:=i) (aS (by rw[List.length_zip];have:=E.len;lia))).append_right fr).flatMap_right gS
   refine hz.mem_iff.mpr ?_
   have:=hp.mem_iff.mp hc
   rw[aX,List.flatMap_cons]at this
   rw[aX,List.flatMap_cons]
   rcases bD.mp this with z | z
   ·cases z
   ·exact aG _ z
  ·rw [dS (by lia),dS (by have:=E.len; lia)] at hc
   exact hc
 | [],_::_,_,_,_,_,_,_,g,_=>g.elim
 |_::_,[],_,_,_,_,_,_,g,_=>g.elim
theorem sB{Q:En->Prop}:∀{is:List Nat} {ds:List Dx} {ρ:En},gxs is ds ρ Q->ds.length=is.length
 | [],[],_,_=>rfl
 |i::is,d::ds,ρ,g=>congrArg (· + 1) (sB (is:=is) (ds:=ds) (ρ:=ρ.set i (.v (.tr d))) g)
 | [],_::_,_,g=>g.elim
 |_::_,[],_,g=>g.elim
theorem kO{K:dQ}{n m:Nat}{is:List Nat}(hm:is.length=m)(h:∀i∈is,i<n):GX n (aGo K m (aGl is)) (gxT is):=λF ρ σ fr H d x Q Qx E g k=>by
 unfold gxT at g
 split at g
 ·obtain ⟨R,hx⟩:=E.one
  obtain⟨a,vs,rfl,h1,h2⟩:=hx.tup_eq
  exact⟨a,vs,rfl,SqT.of (R.hv _ _ h1),by rw[h2.len,sB g,hm],wT h E.drop h2 g λσ' ρ' E' hl hs q=>k σ' H ρ' E' hl hs q⟩
 ·exact g.elim
theorem nN{K:dQ}{n m:Nat}{is:List Nat}(hm:is.length=m)(h:∀i∈is,i<n):GX n (aGq K m (aGl is)) (gxL is):=λF ρ σ fr H d x Q Qx E g k=>by
 unfold gxL at g
 split at g
 ·obtain ⟨R,hx⟩:=E.one
  obtain⟨a,vs,rfl,h1,h2⟩:=hx.lst_eq
  exact⟨a,vs,rfl,SqL.of (R.hv _ _ h1),by rw[h2.len,sB g,hm],wT h E.drop h2 g λσ' ρ' E' hl hs q=>k σ' H ρ' E' hl hs q⟩
 ·exact g.elim
def iO:XC:=λρ Q=>Q true ρ
def XCs(X:Cx)(Ex:ExT)(ifs:List Expr)(t:XC):Prop:=∀F,[OkF X Ex F]->PCs X ifs (tXc F t)
theorem vL{X:Cx}{Ex:ExT}:XCs X Ex [] iO:=λF=>(yU (X:=X)).weak λσ H Q=>by
 rintro⟨ρ,fr,Qx,E,t,k⟩
 exact k true H ρ E t
theorem lI{c:Expr}{t:XC}(h:XTe X Ex c t):XCs X Ex [c] t:=λF=>aFk (h F)
def dB(n:Nat)(gx:XG)(tc:XC)(te:XT)(Q:List Dx->List Sl->Prop):List Dx->List Sl->List Dx->Prop
 | [],cs,Ab=>Q Ab cs
 |d::ds,cs,Ab=>gx d (List.replicate n .un++cs) λρ1=>tc ρ1 λb ρ2=>if b=true then te ρ2 λs ρ3=>dB n gx tc te Q ds (ρ3.drop n) (Ab++[s.d])else dB n gx tc te Q ds (ρ2.drop n) Ab
def cut:List Nat->En->En
 | [],ρ=>ρ
 |j::js,ρ=>cut js (ρ.set j .un)
def fF(outs:List Nat)(ρ:En):List Sl:=outs.map λj=>(ρ[j]?).getD .un
def back:List Nat->List Sl->En->En
 |j::js,c::cs,ρ=>back js cs (ρ.set j c)
 |_,_,ρ=>ρ
def fP(n:Nat)(outs:List Nat)(ti:XI)(gx:XG)(tc:XC)(te:XT):XT:=λρ Q=>ti ρ λds ρ1=>ds.length<=1000000/\dB n gx tc te (λAb cs=>Q (.ol Ab) (back outs cs ρ1)) ds (fF outs ρ1) []
theorem sw{α:Type}{A B C:List α}:(A++(B++C)).Perm (B++(A++C)):=by
 rw[<-bC,<-bC]
 exact List.perm_append_comm.append_right C
section
variable{F:Fm}{H:Hp}{σ:St}
abbrev iQ(σ:St)(outs:List Nat):St:=outs.map λj=>(σ[j]?).join
theorem aDc{js:List Nat}{j:Nat}{s:Sl}{ρ:En}(h:j∉js):fF js (ρ.set j s)=fF js ρ:=by
 unfold fF
 refine List.map_congr_left λk hk=>?_
 rw[dW (λz=>h (by rw[z];exact hk))]
theorem mE:∀{js:List Nat} {ρ:En},(cut js ρ).length=ρ.length
 | [],_=>rfl
 |j::js,ρ=>(mE (js:=js)).trans bX
theorem c7:∀{js:List Nat} {j:Nat} {s:Sl} {ρ:En},j∉js->cut js (ρ.set j s)=(cut js ρ).set j s
 | [],_,_,_,_=>rfl
 |k::js,j,s,ρ,h=>by
  show cut js ((ρ.set j s).set k .un)=(cut js (ρ.set k .un)).set j s
  rw[List.set_comm _ _ (λz=>h (by rw[z];exact aA)),c7 λz=>h (aB _ z)]
theorem yO:∀{outs:List Nat} {ρ:En} {T:List Rw},outs.Nodup->ρ.length=σ.length->Rep F (ρ.zip σ++T) H->Rep F ((fF outs ρ).zip (iQ σ outs)++((cut outs ρ).zip σ++T)) H
 | [],_,_,_,_,R=>R
 |j::js,ρ,T,hn,hl,R=>by
  have Bz:=cE.mp hn
  have step:Rep F ((ρ.set j .un).zip σ++(((ρ[j]?).getD .un,(σ[j]?).join)::T)) H:=by
   by_cases hj:j<ρ.length
   ·have h1:ρ[j]? = some ρ[j]:=aS hj
    have h2:σ[j]? = some (σ[j]'(by lia)):=aS (by lia)
    have R1:=R.perm ((eu_ h1 h2).append_right T)
    have R2:=R1.addU (x:=σ[j]'(by lia))
    rw[h1,h2]
    refine R2.perm ?_
    refine(List.Perm.swap _ _ _).trans ?_
    exact(((cv_ hl hj h2).append_right T).symm.cons _).trans lB.symm
   ·rw [dS (by lia),List.getElem?_eq_none (by lia),List.getElem?_eq_none (by lia)]
    exact(R.addU (x:=none)).perm lB.symm
  have:=yO (outs:=js) Bz.2 (by rw[bX];exact hl) step
  rw[aDc Bz.1]at this
  show Rep F ((((ρ[j]?).getD .un,(σ[j]?).join)::(fF js ρ).zip (iQ σ js))++((cut js (ρ.set j .un)).zip σ++T)) H
  refine this.perm ?_
  refine List.Perm.trans ?_ (List.Perm.refl _)
  rw[<-bC]
  exact lB.trans (by rw[bC];exact .refl _)
theorem aAm:∀{outs:List Nat} {cs:List Sl} {ρ:En} {T:List Rw},outs.Nodup->ρ.length=σ.length->cs.length=outs.length->Rep F (cs.zip (iQ σ outs)++((cut outs ρ).zip σ++T)) H->Rep F ((back outs cs ρ).zip σ++T) H
 | [],[],_,_,_,_,_,R=>R
 | [],_::_,_,_,_,_,h,_=>by simp at h
 |_::_,[],_,_,_,_,h,_=>by simp at h
 |j::js,c::cs,ρ,T,hn,hl,hc,R=>by
  have Bz:=cE.mp hn
  refine aAm (outs:=js) (cs:=cs) (ρ:=ρ.set j c) Bz.2 (by rw[bX];exact hl) (by simpa using hc) ?_
  have R1:Rep F ((c,(σ[j]?).join)::(cs.zip (iQ σ js)++((cut js (ρ.set j .un)).zip σ++T))) H:=R
  rw[c7 Bz.1]at R1 ⊢
  have Ef:(cut js ρ).length=σ.length:=mE.trans hl
  by_cases hj:j<ρ.length
  ·have Is:j < (cut js ρ).length:=by rw [mE]; exact hj
   have h2:σ[j]? = some (σ[j]'(by lia)):=aS (by lia)
   rw[h2]at R1
   have p1:=((cv_ (s:=.un) Ef Is h2).append_right T)
   have p2:=((cv_ (s:=c) Ef Is h2).append_right T)
   have R2:=R1.perm ((List.Perm.append_left _ p1).cons _)
   have R3:=R2.perm ((lB.cons _).trans (.swap _ _ _))
   exact R3.tail.perm (lB.symm.trans (List.Perm.append_left _ p2.symm))
  ·have hz:(cut js ρ).length≤j:=by rw [mE]; lia
   rw[dS hz]at R1 ⊢
   exact R1.tail
theorem Rep.drops:∀{A P:List Rw},Rep F (A++P) H->Rep F P H
 | [],_,R=>R
 |_::_,_,R=>Rep.drops R.tail
theorem Rep.addUs{P:List Rw}(R:Rep F P H):∀n,Rep F (List.replicate n (.un,none)++P) H
 | 0=>R
 |n+1=>(Rep.addUs R n).addU
def lF(ds:List Dx)(xs:List V):List Rw:=(ds.zip xs).map λp=>(vT p.1,some p.2)
theorem Rep.accs:∀{ds:List Dx} {xs:List V} {P:List Rw},ds.length=xs.length->Rep F (lF ds xs++P) H->Rep F P H/\All2 (IsX (hid (bM P) (F.vis H))) ds xs
 | [],[],P,_,R=>⟨R,rfl⟩
 | [],_::_,_,h,_=>by simp at h
 |_::_,[],_,h,_=>by simp at h
 |d::ds,x::xs,P,h,R=>by
  obtain⟨v,e,hx⟩:=Rep.atT (show Rep F ((vT d,some x)::(lF ds xs++P)) H from R)
  cases e
  obtain⟨R1,h1⟩:=Rep.accs (ds:=ds) (xs:=xs) (by simpa using h) (Rep.tail (show Rep F ((vT d,some x)::(lF ds xs++P)) H from R))
  refine⟨R1,x,xs,rfl,hx.to (kZ λc hc=>?_),h1⟩
  unfold bM
  rw[List.flatMap_append]
  exact aG _ hc
end
section
variable{dsc scope:Scope}{tgs N':List Str}{outs:List Nat}{tg iter elt:Expr}{ifs:List Expr}{pos:Pos}{ti:XI}{g:TG}{gx:XG}{tc:XC}{te:XT}
theorem hv_{F:Fm}{n:Nat}(A5:GX n g gx)(An:outs.Nodup){tcT:TT}{teT:TE}(htc:∀σ H Q,tXc F tc σ H Q->tcT σ H Q)(hte:∀σ H Q,tX F te σ H Q->teT σ H Q){σ:St}{H':Hp}{Q:VK}{Qx:Sv->En->Prop}{ρ':En}{fr row:List Rw}{ds:List Dx}{J:It}
  (k:∀v s H' ρ',EOk F ρ' σ ((.v s,some v)::fr) H'->Qx s ρ'->Q v H') (E':EOk F ρ' σ (row++fr) H') (hJ:ItX F J row ds) (q:ds.length<=1000000/\dB n gx tc te (λAb cs=>Qx (.ol Ab) (back outs cs ρ')) ds (fF outs ρ') []) :
  ∃W:Nat->Nat->List V->Hp->Prop,(∃m,W 0 m [] H')/\∀i m Ab H,W i m Ab H ->
  (J.stop i H/\Ab.length<=sizeLine/\∀l,H l=none->Q (.ref l) (upd H l (.lst Ab))) \/
  (J.go i H∧Ab.length < sizeLine∧∃ N:List V→Hp→Prop,(∀ acc' H',N acc' H'→∃ m',m' < m∧W (i + 1) m' acc' H')∧∀ x H',J.yld i H x H'→g x (iL n outs σ) H' fun σ2 H2=>tcT σ2 H2 fun b H3 =>
   if b=true then teT σ2 H3 λy H4=>N (Ab++[y]) H4 else N Ab H3):=by
 obtain⟨hd,q⟩:=q
 have zl:=gV
 refine⟨λi m Ab H=>m=ds.length-i/\i<=ds.length/\∃cs accD,cs.length=outs.length/\accD.length=Ab.length/\Ab.length<=i/\Rep F (cs.zip (iQ σ outs)++(lF accD Ab++(row++((cut outs ρ').zip σ++fr)))) H /\
  dB n gx tc te (λAb cs=>Qx (.ol Ab) (back outs cs ρ')) (ds.drop i) cs accD,⟨ds.length,by simp,dU _,fF outs ρ',[],by simp[fF],rfl,aK _,?_,by simpa using q⟩,?_⟩
 ·have R:=yO (outs:=outs) An E'.len E'.rep
  refine R.perm (List.Perm.append_left _ ?_)
  exact sw
 rintro i m Ab H3 ⟨rfl,hi,cs,accD,Ef,D7,hai,R,hq⟩
 have B6:Rep F (row++(cs.zip (iQ σ outs)++(lF accD Ab++((cut outs ρ').zip σ++fr)))) H3:=by
  exact R.perm ((List.Perm.append_left _ sw).trans sw)
 by_cases Av:i<ds.length
 ·right
  have E8:ds[i]? = some ds[i]:=aS Av
  rw[List.drop_eq_getElem_cons Av]at hq
  refine⟨hJ.go _ _ i _ B6 E8,by lia,λacc' H4=>∃m',m'<ds.length-i/\(m'=ds.length-(i+1)/\i+1<=ds.length/\∃cs accD,cs.length=outs.length/\accD.length=acc'.length/\acc'.length<=i+1/\Rep F (cs.zip (iQ σ outs)++(lF accD acc'++(row++((cut outs ρ').zip σ++fr)))) H4 /\
   dB n gx tc te (λAb cs=>Qx (.ol Ab) (back outs cs ρ')) (ds.drop (i+1)) cs accD),λacc' H4 h=>h,λx H4 hy=>?_⟩
  have R4:=hJ.yld _ _ i _ x H4 B6 E8 hy
  have Gb:∀(cs:List Sl),cs.length=outs.length->(List.replicate n Sl.un++cs).zip (iL n outs σ)=List.replicate n (Sl.un,none)++cs.zip (iQ σ outs):=λcs C1=>by
   unfold iL
   rw[List.zip_append (by rw[bV,bV]),List.zip_replicate]
   simp
  have Ei:EOk F (List.replicate n .un++cs) (iL n outs σ) ((vT ds[i],some x)::(lF accD Ab++(row++((cut outs ρ').zip σ++fr)))) H4:=by
   refine⟨by rw[mV,aJ,bV,Ef],?_⟩
   rw[Gb cs Ef,bC]
   refine Rep.addUs (R4.perm ?_) n
   exact((sw.trans (List.Perm.append_left _ sw)).cons _).trans lB.symm
  have fin:∀{ρ3:En} {σ2:St} {H5:Hp} {accD':List Dx} {acc':List V},σ2.length=(iL n outs σ).length->(∀j,n<=j->σ2[j]? = (iL n outs σ)[j]?)->EOk F ρ3 σ2 (lF accD' acc'++(row++((cut outs ρ').zip σ++fr))) H5->accD'.length=acc'.length->acc'.length<=i+1 ->
    dB n gx tc te (λAb cs=>Qx (.ol Ab) (back outs cs ρ')) (ds.drop (i+1)) (ρ3.drop n) accD' ->
    ∃m',m'<ds.length-i/\(m'=ds.length-(i+1)/\i+1<=ds.length/\∃cs accD,cs.length=outs.length/\accD.length=acc'.length/\acc'.length<=i+1/\Rep F (cs.zip (iQ σ outs)++(lF accD acc'++(row++((cut outs ρ').zip σ++fr)))) H5 /\
     dB n gx tc te (λAb cs=>Qx (.ol Ab) (back outs cs ρ')) (ds.drop (i+1)) cs accD):=λ{ρ3 σ2 H5 accD' acc'} Bo Co E3 h1 h2 h3=>by
   have G6:ρ3.length=n+outs.length:=by rw[E3.len,Bo,mV]
   refine⟨ds.length-(i+1),by lia,rfl,Av,ρ3.drop n,accD',by rw[List.length_drop,G6];lia,h1,h2,?_,h3⟩
   have hv:σ2.drop n=iQ σ outs:=by
    apply List.ext_getElem?
    intro j
    rw[List.getElem?_drop,Co _ (Nat.le_add_right n j)]
    unfold iL
    rw[fJ (by rw[bV];lia),bV,Nat.add_sub_cancel_left]
   have hz:ρ3.zip σ2=(ρ3.take n).zip (σ2.take n)++(ρ3.drop n).zip (σ2.drop n):=by
    rw[<-List.zip_append (by rw[fO,fO,E3.len]),List.take_append_drop,List.take_append_drop]
   have R5:=E3.rep
   rw[hz,hv,bC]at R5
   exact Rep.drops R5
  refine A5 F _ _ _ H4 _ x _ _ Ei hq λσ2 H5 ρ1 E1 Bo Co q1=>htc _ _ _ ⟨ρ1,_,_,E1,q1,λb H6 ρ2 E2 q2=>?_⟩
  cases b with
  |false=>exact fin Bo Co E2 D7 (by lia) q2
  |true =>
   refine hte _ _ _ ⟨ρ2,_,_,E2,q2,λy s H7 ρ3 E3 q3=>?_⟩
   refine fin (accD':=accD++[s.d]) (acc':=Ab++[y]) Bo Co ⟨E3.len,?_⟩ (by rw[aJ,aJ,D7];rfl) (by rw[aJ];show Ab.length+1<=_;lia) q3
   have R7:=(EOk.front E3).frz
   have he:lF (accD++[s.d]) (Ab++[y])=lF accD Ab++[(vT s.d,some y)]:=by
    unfold lF
    rw[List.zip_append D7,cL]
    rfl
   rw[he,bC]
   exact R7.perm (lB.symm.trans (List.Perm.append_left _ lB.symm))
 ·left
  have He:i=ds.length:=by lia
  subst He
  rw[List.drop_length]at hq
  refine⟨hJ.stop _ _ _ B6 (aK _),by lia,λl hl=>?_⟩
  have R1:=R.perm (sw.trans (List.Perm.append_left _ sw))
  obtain⟨R2,ha⟩:=R1.accs D7
  have R3:Rep F (row++((.v (.ol accD),some (.ref l))::(cs.zip (iQ σ outs)++((cut outs ρ').zip σ++fr)))) (upd H3 l (.lst Ab)):=(R2.newL hl ha).perm lB.symm
  have R4:Rep F (cs.zip (iQ σ outs)++((cut outs ρ').zip σ++((.v (.ol accD),some (.ref l))::fr))) (upd H3 l (.lst Ab)):=R3.drops.perm (lB.symm.trans (List.Perm.append_left _ lB.symm))
  have hbl:∀{js:List Nat} {cs:List Sl} {ρ:En},(back js cs ρ).length=ρ.length:=by
   intro js
   induction js with
   |nil=>intro cs ρ;cases cs<;>rfl
   |cons j js ih=>intro cs ρ;cases cs with
    |nil=>rfl
    |cons c cs=>exact(ih (cs:=cs) (ρ:=ρ.set j c)).trans bX
  exact k _ (.ol accD) _ (back outs cs ρ') ⟨hbl.trans E'.len,aAm An E'.len Ef R4⟩ hq
theorem yH{F:Fm}{n:Nat}(A5:GX n g gx)(An:outs.Nodup):∀σ H Q,tX F (fP n outs ti gx tc te) σ H Q->pL n outs (tXi F ti) g (tXc F tc) (tX F te) σ H Q:=by
 rintro σ H Q ⟨ρ,fr,Qx,E,t,k⟩
 exact⟨ρ,fr,_,E,t,λJ H' ρ' row ds E' hJ q=>hv_ A5 An (λ_ _ _ z=>z) (λ_ _ _ z=>z) k E' hJ q⟩
end
end Lf
namespace L2
open PySem
theorem PS.weak{X:Cx}{e:Stmt}{t u:TS}(h:PS X e t)(w:∀D σ H,u D σ H->t D σ H):PS X e u:=λAa s σ H D I q=>h Aa s σ H D I (w D σ H q)
theorem PSs.weak{X:Cx}{e:List Stmt}{t u:TS}(h:PSs X e t)(w:∀D σ H,u D σ H->t D σ H):PSs X e u:=λAa s σ H D I q=>h Aa s σ H D I (w D σ H q)
end L2
namespace Lf
open PySem L2
theorem vU{dsc scope:Scope}{tgs N' N:List Str}{outs:List Nat}{tg iter elt:Expr}{ifs:List Expr}{pos:Pos}{ti:XI}{g:TG}{gx:XG}{tc:XC}{te:XT}(S:CompScope dsc scope N tgs outs N')(hi:XIt X Ex tg iter ti)(hg:∀cl C s H ex,PG (dE X N' scope cl C s H ex) tg g)(A5:GX tgs.length g gx)(C8:Tgt tgs.length g)
  (C1:∀cl C s H ex,XCs (dE X N' scope cl C s H ex) dZ ifs tc) (he:∀cl C s H ex,XE (dE X N' scope cl C s H ex) dZ elt te) (An:outs.Nodup:=by decide) (Dq:X.N=N:=by rfl) (Cc:X.env.scope=dsc:=by rfl) (hc:X.calm=true:=by rfl) (hs:∀x,foldedSetIterable iter X.env x=pure x:=by intro _;rfl) :
  XE X Ex (.ListComp elt [⟨tg,iter,ifs,0⟩] scope pos) (fP tgs.length outs ti gx tc te):=λF =>
 (lQ S (hi F) hg C8 (λa b c d e=>C1 a b c d e F) (λa b c d e=>he a b c d e F) Dq Cc hc hs).weak (yH A5 An)
structure XD where
 nx:En->Prop
 rt:Sv->En->Prop
 bk:En->Prop
 ct:En->Prop
abbrev XS:=En->XD->Prop
structure DOk(F:Fm)(n:Nat)(fr:List Rw)(D:Ends)(d:XD):Prop where
 nx:∀σ' H' ρ',σ'.length=n->EOk F ρ' σ' fr H'->d.nx ρ'->D.nx σ' H'
 rt:∀v s σ' H' ρ',σ'.length=n->EOk F ρ' σ' ((.v s,some v)::fr) H'->d.rt s ρ'->D.rt v H'
 bk:∀σ' H' ρ',σ'.length=n->EOk F ρ' σ' fr H'->d.bk ρ'->D.bk σ' H'
 ct:∀σ' H' ρ',σ'.length=n->EOk F ρ' σ' fr H'->d.ct ρ'->D.ct σ' H'
def tXS(F:Fm)(G:XS):TS:=λD σ H=>∃ρ fr d,EOk F ρ σ fr H/\G ρ d/\DOk F σ.length fr D d
def XSt(X:Cx)(Ex:ExT)(st:Stmt)(G:XS):Prop:=∀F,[OkF X Ex F]->PS X st (tXS F G)
def XSs(X:Cx)(Ex:ExT)(st:List Stmt)(G:XS):Prop:=∀F,[OkF X Ex F]->PSs X st (tXS F G)
def eF:XS:=λρ D=>D.nx ρ
def dM(G K:XS):XS:=λρ D=>G ρ { D with nx:=λρ'=>K ρ' D }
def gF(i:Nat)(t:XT):XS:=λρ D=>t ρ λs ρ'=>D.nx (ρ'.set i (.v s))
def aIw(t:XT)(gx:XG):XS:=λρ D=>t ρ λs ρ'=>gx s.d ρ' D.nx
def aNl(t:XT):XS:=λρ D=>t ρ λ_ ρ'=>D.nx ρ'
def gG(t:XT):XS:=λρ D=>t ρ λs ρ'=>D.rt s ρ'
def xIf(c:XC)(G K:XS):XS:=λρ D=>c ρ λb ρ'=>if b=true then G ρ' D else K ρ' D
def hZ(gx:XG)(G:XS)(D:XD):List Dx->En->Prop
 | [],ρ=>D.nx ρ
 |d::ds,ρ=>gx d ρ λρ1=>G ρ1 { D with nx:=hZ gx G D ds,ct:=hZ gx G D ds,bk:=D.nx }
def mH(ti:XI)(gx:XG)(G:XS):XS:=λρ D=>ti ρ λds ρ'=>hZ gx G D ds ρ'
section
variable{st:Stmt}{rest:List Stmt}{G K:XS}{e c tg iter:Expr}{t:XT}{tc:XC}{pos:Pos}{i:Nat}
theorem gT:XSs X Ex [] eF:=λF=>(lM (X:=X)).weak λD σ H=>by
 rintro⟨ρ,fr,d,E,q,k⟩
 exact k.nx σ H ρ rfl E q
theorem eB(h:XSt X Ex st G)(h':XSs X Ex rest K):XSs X Ex (st::rest) (dM G K):=λF=>(pB (h F) (h' F)).weak λD σ H=>by
 rintro⟨ρ,fr,d,E,q,k⟩
 exact⟨ρ,fr,_,E,q,⟨λσ' H' ρ' hl E' q'=>⟨ρ',fr,d,E',q',by rw[hl];exact k⟩,k.rt,k.bk,k.ct⟩⟩
theorem eI(h:XSt X Ex st G):XSs X Ex [st] G:=λF=>em_ (h F)
theorem ak_(h:∀F,[OkF X Ex F]->PS X st (wG (tX F t) (iM i))):XSt X Ex st (gF i t):=λF=>(h F).weak λD σ H=>by
 rintro⟨ρ,fr,d,E,q,k⟩
 exact⟨ρ,fr,_,E,q,λv s H' ρ' E' q'=>k.nx _ H' _ bX (lY E') q'⟩
theorem qT{n:Nat}{g:TG}{gx:XG}(A5:GX n g gx)(h:∀F,[OkF X Ex F]->PS X st (wG (tX F t) g)):XSt X Ex st (aIw t gx):=λF=>(h F).weak λD σ H=>by
 rintro⟨ρ,fr,d,E,q,k⟩
 exact⟨ρ,fr,_,E,q,λv s H' ρ' E' q'=>A5 F ρ' σ fr H' s.d v _ _ (EOk.back E'.len E'.front.frz) q' λσ' H2 ρ2 E2 hl _ q2=>k.nx σ' H2 ρ2 hl E2 q2⟩
theorem xX(he:XE X Ex e t)(hs:swapsWith e none pos.line X.env=pure false:=by rfl):XSt X Ex (.Expr e pos) (aNl t):=λF=>(yR (he F) hs).weak λD σ H=>by
 rintro⟨ρ,fr,d,E,q,k⟩
 exact⟨ρ,fr,_,E,q,λv s H' ρ' E' q'=>k.nx σ H' ρ' rfl E'.drop q'⟩
theorem fB(he:XE X Ex e t):XSt X Ex (.Return (some e) pos) (gG t):=λF=>(rG (he F)).weak λD σ H=>by
 rintro⟨ρ,fr,d,E,q,k⟩
 exact⟨ρ,fr,_,E,q,λv s H' ρ' E' q'=>k.rt v s σ H' ρ' rfl E' q'⟩
theorem fX{a b:List Stmt}(hc:XTe X Ex c tc)(ha:XSs X Ex a G)(hb:XSs X Ex b K):XSt X Ex (.If c a b pos) (xIf tc G K):=λF=>(yQ (hc F) (ha F) (hb F)).weak λD σ H=>by
 rintro⟨ρ,fr,d,E,q,k⟩
 refine⟨ρ,fr,_,E,q,λb H' ρ' E' q'=>?_⟩
 cases b with
 |true=>exact⟨ρ',fr,d,E',q',k⟩
 |false=>exact⟨ρ',fr,d,E',q',k⟩
theorem nQ{F:Fm}{n:Nat}{g:TG}{gx:XG}(A5:GX n g gx){tb:TS}(Gg:∀D σ H,tXS F G D σ H->tb D σ H){D:Ends}{d:XD}{σ:St}{H':Hp}{ρ':En}{fr row:List Rw}{ds:List Dx}{J:It}(k:DOk F σ.length fr D d)(E':EOk F ρ' σ (row++fr) H')(hJ:ItX F J row ds)(q':hZ gx G d ds ρ') :
  ∃W:Nat->Nat->St->Hp->Prop,(∃m,W 0 m σ H')/\∀i m σ H,W i m σ H ->
  (J.stop i H/\D.nx σ H)\/(J.go i H/\∃N:St->Hp->Prop,(∀σ' H',N σ' H'->∃m',m'<m/\W (i+1) m' σ' H')/\∀x H',J.yld i H x H'->g x σ H' λσ2 H2=>tb { D with nx:=N,ct:=N,bk:=D.nx } σ2 H2):=by
 refine⟨λi m σ1 H1=>m=ds.length-i/\i<=ds.length/\σ1.length=σ.length/\∃ρ1,EOk F ρ1 σ1 (row++fr) H1/\hZ gx G d (ds.drop i) ρ1,⟨ds.length,by simp,dU _,rfl,ρ',E',by simpa using q'⟩,?_⟩
 rintro i m σ1 H1 ⟨rfl,hi,hl,ρ1,E1,q1⟩
 have B6:Rep F (row++(ρ1.zip σ1++fr)) H1:=E1.rep.perm sw
 by_cases Av:i<ds.length
 ·right
  have E8:ds[i]? = some ds[i]:=aS Av
  rw[List.drop_eq_getElem_cons Av]at q1
  refine⟨hJ.go _ _ i _ B6 E8,λσ2 H2=>∃m',m'<ds.length-i/\(m'=ds.length-(i+1)/\i+1<=ds.length/\σ2.length=σ.length/\∃ρ1,EOk F ρ1 σ2 (row++fr) H2/\hZ gx G d (ds.drop (i+1)) ρ1),λ_ _ h=>h,λx H2 hy=>?_⟩
  have R2:=hJ.yld _ _ i _ x H2 B6 E8 hy
  have E2:EOk F ρ1 σ1 ((vT ds[i],some x)::(row++fr)) H2:=⟨E1.len,R2.perm ((sw.cons _).trans lB.symm)⟩
  refine A5 F ρ1 σ1 _ H2 _ x _ _ E2 q1 λσ2 H3 ρ2 E3 Bo _ q2=>?_
  have nxt:∀σ' H' ρ',σ'.length=σ2.length->EOk F ρ' σ' (row++fr) H'->hZ gx G d (ds.drop (i+1)) ρ'->∃m',m'<ds.length-i/\(m'=ds.length-(i+1)/\i+1<=ds.length/\σ'.length=σ.length/\∃ρ1,EOk F ρ1 σ' (row++fr) H'/\hZ gx G d (ds.drop (i+1)) ρ1):=λσ' H' ρ' h1 h2 h3 =>
   ⟨ds.length-(i+1),by lia,rfl,Av,by rw[h1,Bo,hl],ρ',h2,h3⟩
  have aGv:∀{σ':St} {H':Hp} {ρ':En} {Jc:List Rw},EOk F ρ' σ' (row++Jc) H'->EOk F ρ' σ' Jc H':=λh=>⟨h.len,Rep.drops (A:=row) (h.rep.perm sw)⟩
  refine Gg _ _ _ ⟨ρ2,row++fr,_,E3,q2,⟨nxt,λv s σ' H' ρ' h1 h2 h3=>k.rt v s σ' H' ρ' (by rw[h1,Bo,hl]) ?_ h3,λσ' H' ρ' h1 h2 h3=>k.nx σ' H' ρ' (by rw[h1,Bo,hl]) (aGv h2) h3,nxt⟩⟩
  exact aGv ⟨h2.len,h2.rep.perm (List.Perm.append_left _ lB.symm)⟩
 ·left
  have He:i=ds.length:=by lia
  subst He
  rw[List.drop_length]at q1
  exact⟨hJ.stop _ _ _ B6 (aK _),k.nx σ1 H1 ρ1 hl ⟨E1.len,Rep.drops (A:=row) B6⟩ q1⟩
theorem aJd{F:Fm}{ti:XI}{n:Nat}{g:TG}{gx:XG}(A5:GX n g gx):∀D σ H,tXS F (mH ti gx G) D σ H->aEm (tXi F ti) g (tXS F G) D σ H:=by
 rintro D σ H ⟨ρ,fr,d,E,q,k⟩
 exact⟨ρ,fr,_,E,q,λJ H' ρ' row ds E' hJ q'=>nQ A5 (λ_ _ _ z=>z) k E' hJ q'⟩
theorem hc_{body:List Stmt}{ti:XI}{n:Nat}{g:TG}{gx:XG}(hp:PassesOwn (model X.prog X.w) X.A X.env X.xe)(hc:X.calm=true)(hi:XIt X Ex tg iter ti)(hg:PG X tg g)(A5:GX n g gx)(hb:XSs X Ex body G)(hs:∀x,foldedSetIterable iter X.env x=pure x:=by intro _;rfl):XSt X Ex (.For tg iter body [] pos) (mH ti gx G):=λF =>
 (rH hp hc (hi F) hg (hb F) hs).weak (aJd A5)
theorem hb_(h:∀F,[OkF X Ex F]->PS X st (tXS F G)):XSt X Ex st G:=h
end
section
variable{F:Fm}{ρ:En}{σ:St}{fr:List Rw}{H:Hp}{i:Nat}
theorem gx_{l:List Dx}{f:List Dx->Sl}(E:EOk F ρ σ fr H)(h:(ρ[i]?).bind kL=some (l,f)):∃p ws,σ[i]? = some (some (.ref p))/\H p=some (.lst ws)/\All2 (IsX (hid (bM (ρ.zip σ++fr)) (F.vis H))) l ws /\
  ∀l' ws',All2 (IsX (hid (bM (ρ.zip σ++fr)) (F.vis H))) l' ws'->EOk F (ρ.set i (f l')) σ fr (upd H p (.lst ws')):=by
 obtain⟨sl,h3,h4⟩:=eV.mp h
 obtain⟨v,hv,hi,R⟩:=cw_ E h3
 obtain⟨p,ws,rfl,h5,h6,h7,h8⟩:=nJ h4 R
 have hO:(bM (ρ.zip σ++fr)).Perm (bM ((sl,some (V.ref p))::((ρ.zip σ).eraseIdx i++fr))):=((eu_ h3 hv).append_right fr).flatMap_right _
 rw[kC h6]at hO
 refine⟨p,ws,hv,h5,h7.imp λ_ _ z=>z.to (kZ λa ha=>hO.mem_iff.mp ha),λl' ws' Cq=>?_⟩
 obtain⟨k1,k2,k3⟩:=h8 l'
 exact lZ E.len hi hv (R.put h6 k1 k2 (k3 bU (Cq.imp λ_ _ z=>(z.to (kZ λa ha=>hO.mem_iff.mpr ha)).to rY)))
theorem dt_{l:List (Key×Dx)}(E:EOk F ρ σ fr H)(h:ρ[i]? = some (.v (.od l))):∃p ws,σ[i]? = some (some (.ref p))/\H p=some (.dK ws)/\All2 (KvX (hid (bM (ρ.zip σ++fr)) (F.vis H))) l ws /\
  ∀l' ws',All2 (KvX (hid (bM (ρ.zip σ++fr)) (F.vis H))) l' ws'->EOk F (ρ.set i (.v (.od l'))) σ fr (upd H p (.dK ws')):=by
 obtain⟨v,hv,hi,R⟩:=cw_ E h
 obtain⟨p,ws,rfl,h5,h7⟩:=R.atD
 have hO:(bM (ρ.zip σ++fr)).Perm (bM ((.v (.od l),some (V.ref p))::((ρ.zip σ).eraseIdx i++fr))):=((eu_ h hv).append_right fr).flatMap_right _
 rw[kC (a:=p) rfl]at hO
 refine⟨p,ws,hv,h5,h7.imp λ_ _ z=>z.to (kZ λa ha=>hO.mem_iff.mp ha),λl' ws' Cq=>?_⟩
 exact lZ E.len hi hv (R.putD (Cq.imp λ_ _ z=>z.to (kZ λa ha=>hO.mem_iff.mpr ha)))
theorem aGd{l:List Dx}{f:List Dx->Sl}(E:EOk F ρ σ fr H)(h:(ρ[i]?).bind kL=some (l,f)):∃p ws,σ[i]? = some (some (.ref p))/\H p=some (.lst ws):=by
 obtain⟨p,ws,h1,h2,_⟩:=gx_ E h
 exact⟨p,ws,h1,h2⟩
end
def aTk(i:Nat)(t:XT):XS:=λρ D=>((ρ[i]?).bind kL).isSome=true/\t ρ λs ρ'=>match (ρ'[i]?).bind kL,s.d with
 |some (l,f),.lst m=>l.length+m.length<=1000000/\D.nx (ρ'.set i (f (l++m)))
 |_,_=>False
def aHl(i:Nat)(ti te:XT):XS:=λρ D=>te ρ λs ρ1=>((ρ1[i]?).bind kL).isSome=true/\ti ρ1 λk ρ2=>match (ρ2[i]?).bind kL,k.d with
 |some (l,f),.int j=>(match ixN l.length j with | some n=>D.nx (ρ2.set i (f (l.set n s.d))) | none=>False)
 |_,_=>False
def gR(l:List (Key×Dx))(k:Key)(d:Dx):List (Key×Dx):=if(l.any λkv=>decide (kv.1=k))=true then l.map (λkv=>if kv.1=k then(kv.1,d)else kv)else l++[(k,d)]
def mS(k:Key)(l:List (Key×Dx)):Bool:=(!k.odd && !l.any λp=>p.1.odd)||((k.odd||l.any λp=>p.1.odd)&&(l.all λp=>! eU p.1 k)&&(eE l k).isNone)
theorem lV{G:Hp}:∀{l:List (Key×Dx)} {ws:List (Key×V)},All2 (KvX G) l ws->l.map (·.1)=ws.map (·.1)
 | [],ws,h=>by rw[show ws=[]from h];rfl
 |p::l,_,⟨w,wr,e,⟨h1,_⟩,h3⟩=>by rw[e,aL,aL,lV h3,h1]
theorem aBg{G:Hp}{l:List (Key×Dx)}{ws:List (Key×V)}(h:All2 (KvX G) l ws):(l.any λp=>p.1.odd)=dJ ws:=by
 have e1:(l.any λp=>p.1.odd)=(l.map (·.1)).any Key.odd:=by rw[List.any_map];rfl
 have e2:dJ ws=(ws.map (·.1)).any Key.odd:=by unfold dJ;rw[List.any_map];rfl
 rw[e1,e2,lV h]
theorem DPut.k{G H:Hp}{a:Addr}{l:List (Key×Dx)}{ws:List (Key×V)}{k:Key}{v:V}(e:H a=some (.dK ws))(hl:ws.length<sizeLine)(t:fL H k)(h:All2 (KvX G) l ws)(b:mS k l=true):DPut H a (kV k) v (upd H a (.dK (iW ws k v))):=by
 refine⟨ws,k,e,rfl,t,hl,?_,rfl⟩
 unfold mS at b
 rw[Bool.or_eq_true,cB,cB,cB,aBg h]at b
 rcases b with⟨b1,b2⟩ | ⟨⟨b1,b2⟩,b3⟩
 ·exact .inl ⟨by simpa using b1,by simpa using b2⟩
 ·refine .inr ⟨by simpa using b1,fun p hp => ?_,?_⟩
  ·have:=bY (f:=fun x:Key×V=>x.1) hp
   rw[<-lV h]at this
   obtain⟨q,hq,e⟩:=bH.mp this
   have:=cG.mp b2 q hq
   rw[show q.1=p.1 from e]at this
   simpa using this
  ·rcases fs_ (k:=k) h with ⟨_,z⟩ | ⟨d,v,z,_⟩
   ·exact z
   ·rw[z]at b3;cases b3
def tD(i:Nat)(tk tv:XT):XS:=λρ D=>tv ρ λs ρ1=>(∃l,ρ1[i]? = some (.v (.od l)))/\tk ρ1 λk ρ2=>match ρ2[i]?,iZ k.d with
 |some (.v (.od l)),some key=>l.length<1000000/\mS key l=true/\D.nx (ρ2.set i (.v (.od (gR l key s.d))))
 |_,_=>False
theorem mR{G:Hp}{l:List (Key×Dx)}{ws:List (Key×V)}{k:Key}{d:Dx}{v:V}(h:All2 (KvX G) l ws)(hd:IsX G d v)(kt:fL G k):All2 (KvX G) (gR l k d) (iW ws k v):=by
 have any:∀{l:List (Key×Dx)} {ws:List (Key×V)},All2 (KvX G) l ws->(l.any λkv=>decide (kv.1=k))=(ws.any λkv=>decide (kv.1=k)):=by
  intro l
  induction l with
  |nil=>intro ws h;rw[show ws=[]from h];rfl
  |cons p l ih =>
   intro ws h
   obtain⟨w,wr,rfl,⟨h1,_⟩,h3⟩:=h
   rw[eP,eP,ih h3,h1]
 have mp:∀{l:List (Key×Dx)} {ws:List (Key×V)},All2 (KvX G) l ws->All2 (KvX G) (l.map λkv=>if kv.1=k then(kv.1,d)else kv) (ws.map λkv=>if kv.1=k then(kv.1,v)else kv):=by
  intro l
  induction l with
  |nil=>intro ws h;rw[show ws=[]from h];rfl
  |cons p l ih =>
   intro ws h
   obtain⟨w,wr,rfl,⟨h1,h2⟩,h3⟩:=h
   refine⟨_,_,rfl,?_,ih h3⟩
   by_cases e:p.1=k
   ·show KvX G (if p.1=k then (p.1,d) else p) (if w.1=k then (w.1,v) else w)
    rw[if_pos e,if_pos (h1 ▸ e)];exact⟨h1,hd,e ▸ kt⟩
   ·show KvX G (if p.1=k then (p.1,d) else p) (if w.1=k then (w.1,v) else w)
    rw[if_neg e,if_neg (h1 ▸ e)];exact⟨h1,h2⟩
 unfold gR iW
 rw[any h]
 split
 ·exact mp h
 ·exact h.snoc ⟨rfl,hd,kt⟩
section
variable{st:Stmt}{i:Nat}{t ti te tk tv:XT}{F:Fm}{K:dQ}
theorem yF:∀D σ H,tXS F (aHl i ti te) D σ H->wG (tX F te) (aPa (fQ i) (tX F ti) aHu) D σ H:=by
 rintro D σ H ⟨ρ,fr,d,E,q,k⟩
 refine⟨ρ,fr,_,E,q,λy s H' ρ' E' q'=>?_⟩
 obtain⟨q0,q'⟩:=q'
 obtain⟨⟨l0,f0⟩,h0⟩:=fV.mp q0
 obtain⟨p,ws,hv,hp⟩:=aGd E' h0
 refine⟨.ref p,hv,ρ',_,_,E',q',λz s2 H2 ρ2 E2 q2=>?_⟩
 split at q2
 ·rename_i l f j hb hj
  obtain⟨R,C5,Bp⟩:=E2.two
  rw[hj]at Bp
  cases Bp.int_eq
  obtain⟨p',ws',Bf,Bt,hl,B7⟩:=gx_ (E2.drop.drop) hb
  rw[hv]at Bf
  cases Bf
  split at q2
  ·rename_i n hn
   exact⟨p,ws',j,n,rfl,rfl,Bt,by rw[hl.len];exact hn,k.nx σ _ _ rfl (B7 _ _ (hl.set C5 n)) q2⟩
  ·exact q2.elim
 ·exact q2.elim
theorem hg_:∀D σ H,tXS F (tD i tk tv) D σ H->y_ (fQ i) (tX F tk) (tX F tv) D σ H:=by
 rintro D σ H ⟨ρ,fr,d,E,q,k⟩
 refine⟨ρ,fr,_,E,q,λy s H' ρ' E' q'=>?_⟩
 obtain⟨⟨l0,h0⟩,q'⟩:=q'
 obtain⟨p,ws,hv,hp,_⟩:=dt_ E' h0
 refine⟨.ref p,hv,ρ',_,_,E',q',λz s2 H2 ρ2 E2 q2=>?_⟩
 split at q2
 ·rename_i l key hb hk
  obtain⟨R,C5,Bp⟩:=E2.two
  obtain⟨p',ws',Bf,Bt,hl,B7⟩:=dt_ (E2.drop.drop) hb
  rw[hv]at Bf
  cases Bf
  obtain⟨rfl,kt⟩:=gg_ Bp hk
  exact⟨p,_,rfl,DPut.k Bt (by rw[hl.len];have:=gV;lia) (hr_ R kt) hl q2.2.1,k.nx σ _ _ rfl (B7 _ _ (mR hl C5 kt)) q2.2.2⟩
 ·exact q2.elim
end
def dO(N:List Str)(ds:List Dx):En:=ds.map (λd=>.v (.tr d))++List.replicate (N.length-ds.length) .un
abbrev aOc(Q:Sv->Prop):XD:=⟨λ_=>Q (.tr .non),λs _=>Q s,λ_=>False,λ_=>False⟩
theorem mQ{F:Fm}{H:Hp}(R0:Rep F [] H){m:Nat}:∀{ds:List Dx} {vs:List V},All2 (IsX (F.vis H)) ds vs->Rep F ((ds.map (λd=>Sl.v (.tr d))++List.replicate m Sl.un).zip (vs.map some++List.replicate m none)) H
 | [],_,h=>by
  rw[show _=[]from h]
  simp only[bI,aT]
  rw[List.zip_replicate,Nat.min_self]
  have:=R0.addUs m
  simpa using this
 |d::ds,_,⟨v,vr,e,h1,h2⟩=>by
  subst e
  have R:=mQ (m:=m) R0 h2
  simp only[aL,aX,List.zip_cons_cons]
  refine R.add (h1.to λb o hb=>aY.mpr ⟨λz=>?_,hb⟩)
  obtain⟨r,hr,hb⟩:=List.mem_flatMap.mp z
  have:∀{ds:List Dx} {vs:List (Option V)} {r:Rw},r∈((ds.map (λd=>Sl.v (.tr d))++List.replicate m Sl.un).zip vs)->gS r=[]:=by
   intro ds vs r hr
   obtain⟨a,b⟩:=r
   have:=(List.of_mem_zip hr).1
   rcases bD.mp this with h | h
   ·obtain⟨d,_,rfl⟩:=bH.mp h;rfl
   ·rw[(List.mem_replicate.mp h).2];rfl
  rw[this hr]at hb
  cases hb
theorem aAb{H Hs:Hp}{sub:Same Hs H}{nb:∀b∈([]:List Addr),Hs b=none}{ib:∀b∈([]:List Addr),∃o,H b=some o}{P:List Rw}{H':Hp}{s:Sv}{v:V}(R:Rep ⟨H,Hs,[],sub,nb,ib⟩ ((.v s,some v)::P) H'):Same H H'/\aDs Hs H H' s v:=by
 refine⟨λb o h=>R.kp b o h (by simp),?_⟩
 match s with
 | .tr d =>
  obtain⟨v',e,h⟩:=R.atT
  cases e
  exact h.to zL
 | .ol l =>
  obtain⟨a,vs,e,h1,h2⟩:=R.atL
  cases e
  exact⟨a,vs,rfl,R.fr _ aA a (aH.mpr rfl),h1,h2.imp λ_ _ z=>z.to (kZ λc hc=>by rw[aH.mp hc];exact aA)⟩
 | .od l =>
  obtain⟨a,vs,e,h1,h2⟩:=R.atD
  cases e
  exact⟨a,vs,rfl,R.fr _ aA a (aH.mpr rfl),h1,h2.imp λ_ _ z=>z.to (kZ λc hc=>by rw[aH.mp hc];exact aA)⟩
 | .ow o =>
  have hn:=R.nd
  rw[bx_]at hn
  obtain⟨x,e,h⟩:=R.ok _ aA
  cases e
  refine⟨(dC.mp hn).1,λa ha=>R.fr _ aA a ha,OwOk.mono (.of (kZ λc hc=>?_)) o v (λ_ _=>rfl) h⟩
  rw[bx_]
  exact bG _ hc
theorem jD{x qual:Str}{st:Stmt}{f:Addr}{fd:FuncData}{N ps:List Str}{k:Nat}{g:GC}(Fn:Fun K x qual st f fd)(S:FnScope N ps (aR st))(Ad:∀ds Q,g ds Q->ds.length=ps.length)(hN:ps.length<=N.length)
  (A6:∀ (Af:Value) (A:Around) (outer:List Env) (s:Shared) (H:Hp) (E:XK),Room k (A.deeper (PyProof.Rows.envOfC qual (aR st) s.heap.objs.size f Af)) →
   ∃G,XSs (oZ CX0 P w K mg base N qual (aR st) f Af A outer s H E).nox dZ (fW st) G/\∀ds Q,g ds Q->G (dO N ds) (aOc Q)):FnOk P w K mg base CX0 (k+1) f fd ps (spX g):=by
 refine Fn.ok S (λvs H Q E h=>?_) (λAf A outer s H vs Q E hr h=>?_)
 ·obtain ⟨Hs,ds,Qx,h1,h2,h3,_⟩:=h
  rw[h2.len]
  exact Ad ds Qx h3
 obtain⟨Hs,ds,Qx,h1,h2,h3,h4⟩:=h
 obtain⟨G,hG,hq⟩:=A6 Af A outer s H E hr
 have hl:=Ad ds Qx h3
 refine⟨_,hG ⟨H,Hs,[],h1,by simp,by simp⟩,dO N ds,[],aOc Qx,⟨?_,?_⟩,hq ds Qx h3,⟨λσ' H' ρ' _ E' q=>?_,λv s σ' H' ρ' _ E' q=>?_,λ_ _ _ _ _ q=>q.elim,λ_ _ _ _ _ q=>q.elim⟩⟩
 ·unfold dO L2.start
  simp only[aJ,aD,bV]
  rw[h2.len]
 ·rw [cF]
  have hv:(Fm.vis ⟨H,Hs,[],h1,by simp,by simp⟩ H)=ext Hs H H:=rfl
  have R0:Rep ⟨H,Hs,[],h1,by simp,by simp⟩ [] H:=⟨List.nodup_nil,λr hr=>by simp at hr,λr hr=>by simp at hr,λb o h _=>h,λb hb=>by simp at hb⟩
  unfold dO L2.start
  rw[h2.len]
  refine mQ R0 (h2.imp λ_ _ z=>z.to λb o hb=>?_)
  cases q:H b with
  |none=>rw[h1 _ _ hb]at q;cases q
  |some u=>exact(lE q).trans hb
 ·have R:=E'.rep.add (d:=.non) (v:=.non) IsX.of_non
  obtain⟨e1,e2⟩:=aAb R
  exact h4 _ _ _ e1 e2 q
 ·obtain ⟨e1,e2⟩:=aAb E'.front
  exact h4 _ _ _ e1 e2 q
end Lf
namespace L2
open PySem
def aHp(t:TE):TE:=λσ H Q=>∃a kvs,H a=some (.dK kvs)/\∀o,t σ (upd H a (.frz o (.dK kvs))) λv H'=>H' a=some (.frz o (.dK kvs))/\Q v (upd H' a (.dK kvs))
theorem aFg{X:Cx}{e:Expr}{t:TE}(h:PE X e t):PE X e (aHp t):=by
 intro Aa s σ H Q I ⟨a,kvs,ha,q⟩
 exact aJv h Aa s σ H Q I ⟨a,kvs,ha,λo v z=>(by have:=I.base.frzs a o v z;rw[ha]at this;cases this),q⟩
def aHt(t:TS):TS:=λD σ H=>∃a kvs,H a=some (.dK kvs)/\∀o,
 t ⟨λσ' H'=>H' a=some (.frz o (.dK kvs))/\D.nx σ' (upd H' a (.dK kvs)),λv H'=>H' a=some (.frz o (.dK kvs))/\D.rt v (upd H' a (.dK kvs)),λσ' H'=>H' a=some (.frz o (.dK kvs))/\D.bk σ' (upd H' a (.dK kvs)),λσ' H'=>H' a=some (.frz o (.dK kvs))/\D.ct σ' (upd H' a (.dK kvs))⟩ σ (upd H a (.frz o (.dK kvs)))
theorem aEz{X:Cx}{st:Stmt}{t:TS}(h:PS X st t):PS X st (aHt t):=by
 intro Aa s σ H D I ⟨a,kvs,ha,q⟩
 exact aJp h Aa s σ H D I ⟨a,kvs,ha,λo v z=>(by have:=I.base.frzs a o v z;rw[ha]at this;cases this),q⟩
theorem PS.or{X:Cx}{st:Stmt}{t u:TS}(h:PS X st t)(h':PS X st u):PS X st (λD σ H=>t D σ H\/u D σ H):=λAa s σ H D I q=>q.elim (h Aa s σ H D I) (h' Aa s σ H D I)
end L2
namespace Lf
open PySem L2
section
variable{F:Fm}{P:List Rw}{H H':Hp}{a:Addr}{kvs:List (Key×V)}{o:Obj}
theorem nem{b a:Addr}{B:List Addr}(h:b∈B)(h':a∉B):b≠a:=λz=>h' (by rw[<-z];exact h)
def Fm.fz(F:Fm)(a:Addr)(o:Obj)(kvs:List (Key×V))(ha:a∉F.B):Fm where
 H0:=upd F.H0 a (.frz o (.dK kvs))
 Hs:=upd F.Hs a (.frz o (.dK kvs))
 B:=F.B
 sub:=λb u h=>by
  by_cases e:b=a
  ·subst e;rw[bU]at h ⊢;exact h
  ·rw[eJ e]at h ⊢;exact F.sub _ _ h
 nb:=λb hb=>by rw[eJ (nem hb ha)];exact F.nb b hb
 ib:=λb hb=>by rw[eJ (nem hb ha)];exact F.ib b hb
theorem aHo(h:F.vis H a=some (.dK kvs)):a∉F.B:=λhB=>by
 obtain⟨u,hu⟩:=F.ib a hB
 have:=(lE hu).symm.trans h
 rw[F.nb a hB]at this
 cases this
theorem v7{F:Fm}{ha:a∉F.B}{b:Addr}{H H':Hp}(hb:b≠a)(e:H' b=H b):(F.fz a o kvs ha).vis H' b=F.vis H b:=by
 have e1:(F.fz a o kvs ha).H0 b=F.H0 b:=eJ hb
 have e2:(F.fz a o kvs ha).Hs b=F.Hs b:=eJ hb
 show ext _ _ _ b=ext _ _ _ b
 unfold ext
 rw[e1,e2,e]
theorem Rep.fzD(R:Rep F P H)(hv:F.vis H a=some (.dK kvs))(An:a∉bM P)(ha:a∉F.B):Rep (F.fz a o kvs ha) P (upd H a (.frz o (.dK kvs))):=by
 refine⟨R.nd,λr hr=>(R.ok r hr).mono (λb u hb=>?_) λb hb=>eJ λz=>An (z ▸ dp_ hr hb),λr hr b hb=>?_,λb u h1 h2=>?_,λb hb=>?_⟩
 ·have Aj:=aY.mp hb
  by_cases e:b=a
  ·subst e
   rw[hv]at Aj
   cases Aj.2
   refine .inr ⟨o,kvs,.inl ⟨rfl,aY.mpr ⟨Aj.1,?_⟩⟩⟩
   exact(lE (show(F.fz b o kvs ha).H0 b=some (.frz o (.dK kvs))from bU)).trans bU
  ·exact .inl (aY.mpr ⟨Aj.1,by rw[v7 e (eJ e)];exact Aj.2⟩)
 ·have Fe:b≠a:=fun z=>An (z ▸ dp_ hr hb)
  have:=R.fr r hr b hb
  unfold FrOk at this ⊢
  split at this<;>simp_all [Fm.fz,eJ]
 ·by_cases e:b=a
  ·subst e
   have:some (HO.frz o (.dK kvs))=some u:=bU.symm.trans h1
   rw[bU];exact this
  ·rw [eJ e]
   exact R.kp b u ((eJ e).symm.trans h1) h2
 ·obtain ⟨u,hu⟩:=R.lv b hb
  exact⟨u,by rw[eJ (nem hb ha)];exact hu⟩
theorem Rep.thD{ha:a∉F.B}(R:Rep (F.fz a o kvs ha) P H)(hv:F.H0 a=none\/(F.H0 a=some (.dK kvs)/\F.Hs a=some (.dK kvs))):H a=some (.frz o (.dK kvs))/\Rep F P (upd H a (.dK kvs)):=by
 have hk:H a=some (.frz o (.dK kvs)):=R.kp a _ bU ha
 have An:a∉bM P:=λz=>by
  obtain⟨r,hr,e⟩:=List.mem_flatMap.mp z
  have:=R.fr r hr a e
  rcases this.or with this | this
  ·exact ha this
  ·have h2:some (HO.frz o (.dK kvs))=none:=bU.symm.trans this
   cases h2
 refine⟨hk,R.nd,λr hr=>(R.ok r hr).mono (λb u hb=>?_) λb hb=>eJ λz=>An (z ▸ dp_ hr hb),λr hr b hb=>?_,λb u h1 h2=>?_,λb hb=>?_⟩
 ·have Aj:=aY.mp hb
  by_cases e:b=a
  ·subst e
   have hu:(F.fz b o kvs ha).vis H b=some (.frz o (.dK kvs)):=(lE (show(F.fz b o kvs ha).H0 b=some (.frz o (.dK kvs))from bU)).trans bU
   rw[hu]at Aj
   cases Aj.2
   refine .inr ⟨o,kvs,.inr ⟨rfl,aY.mpr ⟨Aj.1,?_⟩⟩⟩
   rcases hv with q | ⟨q1,q2⟩
   ·exact(oI q).trans (by rw[bU];rfl)
   ·exact(lE q1).trans q2
  ·exact .inl (aY.mpr ⟨Aj.1,by rw[<-v7 (F:=F) (o:=o) (kvs:=kvs) (ha:=ha) e (eJ (o:=.dK kvs) e).symm];exact Aj.2⟩)
 ·have Fe:b≠a:=fun z=>An (z ▸ dp_ hr hb)
  have:=R.fr r hr b hb
  unfold FrOk at this ⊢
  split at this<;>simp_all [Fm.fz,eJ]
 ·by_cases e:b=a
  ·subst e
   rcases hv with q | ⟨q1,q2⟩
   ·rw[q]at h1;cases h1
   ·rw[q1]at h1;rw[bU];exact h1
  ·rw [eJ e]
   exact R.kp b u ((eJ e).trans h1) h2
 ·obtain ⟨u,hu⟩:=R.lv b hb
  exact⟨u,by rw[eJ (nem hb ha)];exact hu⟩
end
def iY:Key->Dx
 | .inl i=>.int i
 | .inr x=>.str x
 | .non=>.non
 | .tru=>.bl true
 | .ref b x=>.pin b x
theorem zH{H:Hp}(k:Key)(t:fL H k):IsX H (iY k) (kV k):=by
 cases k with
 |ref b x=>exact IsX.of_pin t
 |inl i=>exact IsX.of_int _
 |inr x=>exact IsX.of_str _
 |non=>exact IsX.of_non
 |tru=>exact IsX.of_bl _
theorem aAz{F:Fm}{P:List Rw}{H:Hp}{b:Addr}(R:Rep F P H)(h:b∈bM P):∀vs,H b≠some (.tup vs):=by
 intro vs e
 obtain⟨r,hr,hb⟩:=List.mem_flatMap.mp h
 have ok:=R.ok r hr
 have fin:∀o:Ow,∀x,OwOk (hid (bM P) (F.vis H)) H o x->b∈o.fp->False:=λo x z hb=>by
  obtain⟨u,h1,_,h2⟩:=OwOk.there o x z b hb
  rw[e]at h1
  cases h1
  exact h2 _ rfl
 match r,ok,hb with
 |(.v (.ol l),some (.ref a)),⟨a',vs',h1,h2,_⟩,hb=>cases h1;rw[aH.mp hb]at e;rw[e]at h2;cases h2
 |(.v (.od l),some (.ref a)),⟨a',vs',h1,h2,_⟩,hb=>cases h1;rw[aH.mp hb]at e;rw[e]at h2;cases h2
 |(.bw l,some (.ref a)),⟨a',vs',h1,h2,_⟩,hb=>cases h1;rw[aH.mp hb]at e;rw[e]at h2;cases h2
 |(.v (.ow o),v),⟨x,_,h2⟩,hb=>exact fin o x h2 hb
 |(.bo o,v),⟨x,_,h2⟩,hb=>exact fin o x h2 hb
 |(.ba a l,v),⟨h1,vs',h2,_⟩,hb=>rw[aH.mp hb]at e;rw[e]at h2;cases h2
theorem aBu{F:Fm}{P:List Rw}{H:Hp}{k:Key}(R:Rep F P H)(t:fL H k)(hs:∀b x u,k=.ref b x->F.H0 b=some u->F.Hs b=some (.tup [.str x])):fL (hid (bM P) (F.vis H)) k:=by
 cases k with
 |ref b x =>
  have t':H b=some (.tup [.str x]):=t
  refine aY.mpr ⟨λz=>aAz R z _ t',?_⟩
  cases q:F.H0 b with
  |none=>exact(oI q).trans (by rw[t'];rfl)
  |some u=>exact(lE q).trans (hs b x u rfl q)
 |_=>exact True.intro
def eG(l:List (Key×Dx)):List Dx:=l.map λp=>iY p.1
theorem fp_{l:List (Key×Dx)}:(eG l).length=l.length:=aD _
theorem gy_{F:Fm}{a:Addr}{o:Obj}{kvs:List (Key×V)}{l:List (Key×Dx)}{G:Hp}(h:∀P H,Rep F P H->H a=some (.frz o (.dK kvs)))(hl:All2 (KvX G) l kvs)(hs:∀b x u,G b=some (.tup [.str x])->F.H0 b=some u->F.Hs b=some (.tup [.str x])):ItX F (Itd a o kvs) [] (eG l)where
 go:=λP H i d R hd=>⟨h _ _ R,by have:=(aV.mp hd).1;rw[fp_]at this;rw[hl.len];exact this⟩
 stop:=λP H i R hi=>⟨h _ _ R,by rw[fp_]at hi;rw[hl.len];exact hi⟩
 yld:=λP H i d x H' R hd q=>by
  obtain⟨rfl,kv,q1,rfl,kt⟩:=q
  obtain⟨p,h1,h2⟩:=hl.get q1
  unfold eG at hd
  rw[bP,h1]at hd
  cases hd
  show Rep F ((Sl.v (Sv.tr (iY p.1)),some (kV kv.1))::([]++P)) H'
  have t:=h2.2.2
  rw[h2.1]at t ⊢
  exact R.add (zH _ (aBu R kt λb x u e h0=>hs b x u (by rw[e]at t;exact t) h0))
def x4(G:XS):TS:=λD σ H=>∃F,tXS F G D σ H
def tXe(t:XT):TE:=λσ H Q=>∃F,tX F t σ H Q
def w_(t:XC):TT:=λσ H Q=>∃F,tXc F t σ H Q
theorem XSs.ex{X:Cx}{st:List Stmt}{G:XS}(h:XSs X dZ st G):PSs X st (x4 G):=λAa s σ H D I ⟨F,q⟩=>h F Aa s σ H D I q
theorem XE.ex{X:Cx}{e:Expr}{t:XT}(h:XE X dZ e t):PE X e (tXe t):=λAa s σ H D I ⟨F,q⟩=>h F Aa s σ H D I q
theorem XCs.ex{X:Cx}{e:List Expr}{t:XC}(h:XCs X dZ e t):PCs X e (w_ t):=λAa s σ H D I ⟨F,q⟩=>h F Aa s σ H D I q
def u9(i:Nat)(gx:XG)(G:XS):XS:=λρ D=>match ρ[i]? with
 |some (.v s)=>(match s.d with | .dic l=>hZ gx G D (eG l) (ρ.set i (.v (.tr s.d))) | _=>False)
 |_=>False
def vX(i n:Nat)(outs:List Nat)(gx:XG)(tc:XC)(te:XT):XT:=λρ Q=>match ρ[i]? with
 |some (.v s)=>(match s.d with | .dic l=>l.length<=1000000/\dB n gx tc te (λAb cs=>Q (.ol Ab) (back outs cs (ρ.set i (.v (.tr s.d))))) (eG l) (fF outs (ρ.set i (.v (.tr s.d)))) [] | _=>False)
 |_=>False
theorem pQ{F:Fm}{ρ:En}{σ:St}{fr:List Rw}{H:Hp}{i:Nat}{s:Sv}{l:List (Key×Dx)}(E:EOk F ρ σ fr H)(h:ρ[i]? = some (.v s))(hs:s.d=.dic l) :
  ∃a ws,σ[i]? = some (some (.ref a))/\EOk F (ρ.set i (vT s.d)) σ fr H/\Rd (hid (bM ((ρ.set i (vT s.d)).zip σ++fr)) (F.vis H)) a (.dK ws)/\All2 (KvX (hid (bM ((ρ.set i (vT s.d)).zip σ++fr)) (F.vis H))) l ws:=by
 obtain⟨v,hv,hi,R⟩:=cw_ E h
 have R2:=R.frz
 have E2:=lZ E.len hi hv R2
 obtain⟨w,e,hx⟩:=R2.atT
 subst e
 rw[hs]at hx
 have hO:(bM ((ρ.set i (vT s.d)).zip σ++fr)).Perm (bM ((vT s.d,some w)::((ρ.zip σ).eraseIdx i++fr))):=((cv_ E.len hi hv).append_right fr).flatMap_right _
 rw[do_ rfl]at hO
 have Bp:=hx.to (kZ λa ha=>hO.mem_iff.mp ha)
 obtain⟨a,ws,rfl,h1,h2⟩:=Bp.dic_eq
 exact⟨a,ws,hv,E2,h1,h2⟩
theorem v6{F:Fm}{P:List Rw}{H:Hp}{a:Addr}{kvs:List (Key×V)}(R:Rep F P H)(h:F.vis H a=some (.dK kvs)):F.H0 a=none\/(F.H0 a=some (.dK kvs)/\F.Hs a=some (.dK kvs)):=by
 cases q:F.H0 a with
 |none=>exact .inl rfl
 |some u =>
  have h1:F.Hs a=some (.dK kvs):=(lE q).symm.trans h
  have h2:=F.sub _ _ h1
  rw[q]at h2
  exact .inr ⟨h2,h1⟩
theorem aCc{F:Fm}{H:Hp}{a b:Addr}{o:Obj}{kvs:List (Key×V)}{x:Str}{u:HO}{hB:a∉F.B}(h0:F.vis H b=some (.tup [.str x]))(h2:F.vis H a=some (.dK kvs))(h1:(F.fz a o kvs hB).H0 b=some u):(F.fz a o kvs hB).Hs b=some (.tup [.str x]):=by
 have ne:b≠a:=λz=>by rw[z,h2]at h0;cases h0
 have Ja:upd F.H0 a (.frz o (.dK kvs)) b=some u:=h1
 show upd F.Hs a (.frz o (.dK kvs)) b=_
 rw[eJ ne]at Ja ⊢
 exact(lE Ja).symm.trans h0
theorem zS{F:Fm}{H:Hp}{a:Addr}{o:Obj}{kvs:List (Key×V)}(h:F.vis H a=some (.frz o (.dK kvs))):∀P H,Rep F P H->H a=some (.frz o (.dK kvs)):=λP H2 R=>by
 cases q:F.H0 a with
 |none =>
  have h1:=(oI q).symm.trans h
  rw[lT h1]at h1
  cases h1
 |some u =>
  have h1:F.Hs a=some (.frz o (.dK kvs)):=(lE q).symm.trans h
  exact R.kp a _ (F.sub _ _ h1) λhB=>by rw[F.nb a hB]at h1;cases h1
section
variable{st:Stmt}{i n:Nat}{g:TG}{gx:XG}{G:XS}{outs:List Nat}{tc:XC}{te:XT}
theorem aLr(A5:GX n g gx){F:Fm}:∀D σ H,tXS F (u9 i gx G) D σ H->aEm (uP (fQ i)) g (x4 G) D σ H\/aHt (aEm (uP (fQ i)) g (x4 G)) D σ H:=by
 rintro D σ H ⟨ρ,fr,d,E,q,k⟩
 unfold u9 at q
 split at q
 ·rename_i s hs
  split at q
  ·rename_i l hl
   obtain⟨a,ws,hv,E2,hr,hk⟩:=pQ E hs hl
   rw[hl]at E2 hr hk
   rw[<-hl]at E2
   rcases hr with hr | ⟨o,hr⟩
   ·have Ap:=aY.mp hr
    have hB:=aHo Ap.2
    have Eb:=v6 E2.rep Ap.2
    refine .inr ⟨a,ws,E2.rep.vis _ _ Ap.2,λo=>⟨.ref a,hv,a,o,ws,rfl,bU,?_⟩⟩
    have E3:EOk (F.fz a o ws hB) (ρ.set i (vT s.d)) σ ([]++fr) (upd H a (.frz o (.dK ws))):=⟨E2.len,E2.rep.fzD Ap.2 (by rw[hl];exact Ap.1) hB⟩
    refine nQ (F:=F.fz a o ws hB) A5 (tb:=x4 G) (λ_ _ _ z=>⟨_,z⟩) (d:=d) ⟨λσ' H' ρ' h1 h2 h3=>?_,λv s σ' H' ρ' h1 h2 h3=>?_,λσ' H' ρ' h1 h2 h3=>?_,λσ' H' ρ' h1 h2 h3=>?_⟩ E3 (gy_ (λP H R=>R.kp a _ bU hB) hk (λb x u h0 h1=>aCc (aY.mp h0).2 Ap.2 h1)) q
    ·obtain⟨e1,e2⟩:=h2.rep.thD Eb;exact⟨e1,k.nx σ' _ ρ' h1 ⟨h2.len,e2⟩ h3⟩
    ·obtain⟨e1,e2⟩:=h2.rep.thD Eb;exact⟨e1,k.rt v s σ' _ ρ' h1 ⟨h2.len,e2⟩ h3⟩
    ·obtain⟨e1,e2⟩:=h2.rep.thD Eb;exact⟨e1,k.bk σ' _ ρ' h1 ⟨h2.len,e2⟩ h3⟩
    ·obtain⟨e1,e2⟩:=h2.rep.thD Eb;exact⟨e1,k.ct σ' _ ρ' h1 ⟨h2.len,e2⟩ h3⟩
   ·have Ap:=aY.mp hr
    refine .inl ⟨.ref a,hv,a,o,ws,rfl,E2.rep.vis _ _ Ap.2,?_⟩
    exact nQ (F:=F) A5 (tb:=x4 G) (λ_ _ _ z=>⟨_,z⟩) k (row:=[]) E2 (gy_ (zS Ap.2) hk (λb x u h0 h1=>(lE h1).symm.trans (aY.mp h0).2)) q
  ·exact q.elim
 ·exact q.elim
theorem aHb(A5:GX n g gx)(An:outs.Nodup){F:Fm}:∀σ H Q,tX F (vX i n outs gx tc te) σ H Q->pL n outs (uP (fQ i)) g (w_ tc) (tXe te) σ H Q\/aHp (pL n outs (uP (fQ i)) g (w_ tc) (tXe te)) σ H Q:=by
 rintro σ H Q ⟨ρ,fr,Qx,E,q,k⟩
 unfold vX at q
 split at q
 ·rename_i s hs
  split at q
  ·rename_i l hl
   obtain⟨a,ws,hv,E2,hr,hk⟩:=pQ E hs hl
   rw[hl]at E2 hr hk
   rw[<-hl]at E2
   have q':(eG l).length<=1000000/\_:=⟨by rw[fp_];exact q.1,q.2⟩
   rcases hr with hr | ⟨o,hr⟩
   ·have Ap:=aY.mp hr
    have hB:=aHo Ap.2
    have Eb:=v6 E2.rep Ap.2
    refine .inr ⟨a,ws,E2.rep.vis _ _ Ap.2,λo=>⟨.ref a,hv,a,o,ws,rfl,bU,?_⟩⟩
    have E3:EOk (F.fz a o ws hB) (ρ.set i (vT s.d)) σ ([]++fr) (upd H a (.frz o (.dK ws))):=⟨E2.len,E2.rep.fzD Ap.2 (by rw[hl];exact Ap.1) hB⟩
    refine hv_ (F:=F.fz a o ws hB) (Q:=λv H'=>H' a=some (.frz o (.dK ws))/\Q v (upd H' a (.dK ws))) (tcT:=w_ tc) (teT:=tXe te) A5 An (λ_ _ _ z=>⟨_,z⟩) (λ_ _ _ z=>⟨_,z⟩) (λv s H' ρ' h2 h3=>?_) E3 (gy_ (λP H R=>R.kp a _ bU hB) hk (λb x u h0 h1=>aCc (aY.mp h0).2 Ap.2 h1)) q'
    obtain⟨e1,e2⟩:=h2.rep.thD Eb
    exact⟨e1,k v s _ ρ' ⟨h2.len,e2⟩ h3⟩
   ·have Ap:=aY.mp hr
    refine .inl ⟨.ref a,hv,a,o,ws,rfl,E2.rep.vis _ _ Ap.2,?_⟩
    exact hv_ (F:=F) (Q:=Q) (tcT:=w_ tc) (teT:=tXe te) A5 An (λ_ _ _ z=>⟨_,z⟩) (λ_ _ _ z=>⟨_,z⟩) k (row:=[]) E2 (gy_ (zS Ap.2) hk (λb x u h0 h1=>(lE h1).symm.trans (aY.mp h0).2)) q'
  ·exact q.elim
 ·exact q.elim
theorem xW{x:Str}{px pos:Pos}{tg:Expr}{body:List Stmt}(hp:PassesOwn (model X.prog X.w) X.A X.env X.xe)(hc:X.calm=true)(hv:PE X (.Name x px) (fQ i))(hg:PG X tg g)(A5:GX n g gx)(hb:XSs X dZ body G)(hs:∀y,foldedSetIterable (.Name x px) X.env y=pure y:=by intro _;rfl):XSt X Ex (.For tg (.Name x px) body [] pos) (u9 i gx G):=λF =>
 (PS.or (rH hp hc (lP hv) hg hb.ex hs) (aEz (rH hp hc (lP hv) hg hb.ex hs))).weak (aLr A5)
theorem mG{dsc scope:Scope}{tgs N' N:List Str}{x:Str}{px pos:Pos}{tg elt:Expr}{ifs:List Expr}(S:CompScope dsc scope N tgs outs N')(hv:PE X (.Name x px) (fQ i))(hg:∀cl C s H ex,PG (dE X N' scope cl C s H ex) tg g)(A5:GX tgs.length g gx)(C8:Tgt tgs.length g)
  (C1:∀cl C s H ex,XCs (dE X N' scope cl C s H ex) dZ ifs tc) (he:∀cl C s H ex,XE (dE X N' scope cl C s H ex) dZ elt te) (An:outs.Nodup:=by decide) (Dq:X.N=N:=by rfl) (Cc:X.env.scope=dsc:=by rfl) (hc:X.calm=true:=by rfl) (hs:∀y,foldedSetIterable (.Name x px) X.env y=pure y:=by intro _;rfl) :
  XE X Ex (.ListComp elt [⟨tg,.Name x px,ifs,0⟩] scope pos) (vX i tgs.length outs gx tc te):=λF =>
 (PE.or (lQ S (lP hv) hg C8 (λa b c d e=>(C1 a b c d e).ex) (λa b c d e=>(he a b c d e).ex) Dq Cc hc hs) (aFg (lQ S (lP hv) hg C8 (λa b c d e=>(C1 a b c d e).ex) (λa b c d e=>(he a b c d e).ex) Dq Cc hc hs))).weak (aHb A5 An)
end
theorem o_{X:Cx}(n m:Ty):CallR X (.builtin "isinstance") (λxs H Q=>∃x d p,xs=[x,.ref p]/\IsX H d x/\pS d/\H p=some (.tup [.ty n.nm,.ty m.nm])/\Q (.bl (isT n d||isT m d)) H):=by
 intro Aa s σ H xs us Q I r h
 obtain⟨x,d,p,rfl,hx,Cg,hp,q⟩:=h
 have e:PySem.W.kitAny X.K (.type (tyN d)) ([n.nm,m.nm].map Value.type)=some (isT n d||isT m d):=aBt (rX Cg) (rX Cg)
 have gen:∀{t:Value},TyOf X.K H x t->t=.type (tyN d)->wpAny (model X.prog X.w) X.A (call (.builtin "isinstance") us) (EP X Aa σ Q) X.xe s:=λty et =>
  sP Aa s σ H _ us Q I r ⟨x,p,_,_,[n.nm,m.nm],rfl,ty,hp,by rw[et];exact e,q⟩
 cases d with
 |non=>cases hx.non_eq;exact gen .non rfl
 |bl _=>cases hx.bl_eq;exact gen (.bl _) rfl
 |int _=>cases hx.int_eq;exact gen (.int _) rfl
 |str _=>cases hx.str_eq;exact gen (.str _) rfl
 |tup _=>obtain⟨a,vs,rfl,h1,_⟩:=hx.tup_eq;exact gen (.tup h1) rfl
 |lst _=>obtain⟨a,vs,rfl,h1,_⟩:=hx.lst_eq;exact gen (.lst h1) rfl
 |dic _ =>
  obtain⟨a,vs,rfl,h1,_⟩:=hx.dic_eq
  rcases h1 with h1 | ⟨ob,h1⟩
  ·exact gen (.dK h1) rfl
  ·obtain ⟨u,w',rfl,r1,r2⟩:=tF r
   cases r2
   obtain⟨_,its,rv,o,h2,h3,n',h4⟩:=(show ObjOk X.prog X.w H s.heap p (.tup ([n.nm,m.nm].map V.ty))from I.hok p _ hp)
   have ei:=wB rv
   subst ei
   obtain⟨cls,dd,data,sl⟩:=o
   dsimp only at h3 h4
   subst h3 h4
   have fin:∀tk,EP X Aa σ Q (.bool (isT n (.dic _)||isT m (.dic _))) { s with toks:=tk }:=λtk=>⟨.bl _,H,I.tok _,rfl,q⟩
   cases(show u=Value.ref a from r1)
   obtain⟨o,es,ep,g1,g2,_⟩:=fu_ (show ObjOk X.prog X.w H s.heap a (.frz ob (.dK vs))from I.hok a _ h1).2
   exact PySem.W.kia_tup PySem.W.kitx_dict I.kIn ⟨o,g1,g2.1⟩ h2 e (λz=>nomatch z) fin
 |scr _ _=>exact Cg.elim
 |ins _ _=>exact Cg.elim
 |exc _=>exact Cg.elim
 |pin b x=>obtain⟨rfl,h1⟩:=hx.pin_eq;exact gen (.tup h1) rfl
def aRi(n m:Ty)(t:XT):XT:=λρ Q=>t ρ λs ρ'=>match s.d with
 | .scr _ _=>False
 | .ins _ _=>False
 | .exc _=>False
 |d=>Q (.tr (.bl (isT n d||isT m d))) ρ'
theorem mF{e:Expr}{t:XT}{nm Du:Str}{p q q2 q3 pos:Pos}{j:Nat}(n m:Ty)(hm:X.mg "isinstance" = none)(h:XE X Ex e t)(hT:PE X (.Tuple [.Name nm q,.Name Du q2] j q3) (aNp (tI (tC (.ty n.nm)) (tI (tC (.ty m.nm)) aJc))))(hg:Gl X "isinstance":=by rfl)
  (he:starEach [e,.Tuple [.Name nm q,.Name Du q2] j q3] X.env=(false,eval e X.env)::starEach [.Tuple [.Name nm q,.Name Du q2] j q3] X.env:=by rfl) (E6:starEach [.Tuple [.Name nm q,.Name Du q2] j q3] X.env=(false,eval (.Tuple [.Name nm q,.Name Du q2] j q3) X.env)::starEach [] X.env:=by rfl)
  (A8:(backTo pos (starEach [.Tuple [.Name nm q,.Name Du q2] j q3] X.env)).any (·.1)=false:=by rfl):XE X Ex (.Call (.Name "isinstance" p) [e,.Tuple [.Name nm q,.Name Du q2] j q3] [] pos) (aRi n m t):=λF =>
 (gv_ (o_ n m) hg hm fx_ (iE (h F) (iE hT oP E6) he) (by decide) (by decide) he A8).weak fun σ H Q=>by
  rintro⟨ρ,fr,Qx,E,t,k⟩
  refine⟨ρ,fr,_,E,t,λv s H' ρ' E' q=>⟨by have:=gV;show 2<=sizeLine;lia,λp hp=>?_⟩⟩
  obtain⟨R,hx⟩:=E'.one
  have e:Same H' (upd H' p (.tup [.ty n.nm,.ty m.nm])):=ds_ hp _
  have R2:=R.grow e
  generalize hd:s.d=d at q hx
  cases d with
  |scr _ _=>exact q.elim
  |ins _ _=>exact q.elim
  |exc _=>exact q.elim
  |_=>exact⟨v,_,p,rfl,(hx.to R.hv).to e,trivial,bU,k _ _ _ ρ' (EOk.back E'.len (R2.add (IsX.of_bl _))) q⟩
def iF(g g':G2)(ta tb tc:XT):XT:=λρ Q=>ta ρ λa ρ1=>tb ρ1 λb ρ2=>g a.d b.d λs=>match s with
 | .tr (.bl k)=>if k=true then tc ρ2 λc ρ3=>g' b.d c.d λs'=>Q s' ρ3 else Q (.tr (.bl false)) ρ2
 |_=>False
theorem tJ{F:Fm}{r r':R2}{g g':G2}{ta tb tc:XT}(hx:OpX r g)(Cv:OpX r' g'):∀σ H Q,tX F (iF g g' ta tb tc) σ H Q->wF r r' (tX F ta) (tX F tb) (tX F tc) σ H Q:=by
 rintro σ H Q ⟨ρ,fr,Qx,E,t,k⟩
 refine⟨ρ,fr,_,E,t,λv s H' ρ' E' t'=>⟨ρ',_,_,E',t',λw s2 H2 ρ2 E2 t2=>?_⟩⟩
 obtain⟨R,h1,h2⟩:=E2.two
 have E2b:EOk F ρ2 σ ((.v s2,some w)::fr) H2:=⟨E2.len,((E2.rep.perm (List.Perm.append_left _ (.swap _ _ _))).perm lB).tail.perm (.refl _)⟩
 have E2c:EOk F ρ2 σ ((vT s2.d,some w)::fr) H2:=EOk.back E2.len (E2b.front.frz)
 obtain⟨Rb,hb⟩:=E2c.one
 have h1b:IsX (hid (bM (ρ2.zip σ++(vT s2.d,some w)::fr)) (F.vis H2)) s.d v:=h1.to (kZ λc hc=>by
  have:(bM ((vT s2.d,some w)::(ρ2.zip σ++fr))).Perm (bM (ρ2.zip σ++(vT s2.d,some w)::fr)):=lB.symm.flatMap_right _
  have:=this.mem_iff.mpr hc
  rw[do_ rfl]at this
  exact this)
 have h2b:IsX (hid (bM (ρ2.zip σ++(vT s2.d,some w)::fr)) (F.vis H2)) s2.d w:=hb.to (kZ λc hc=>by
  have:(bM ((vT s2.d,some w)::(ρ2.zip σ++fr))).Perm (bM (ρ2.zip σ++(vT s2.d,some w)::fr)):=lB.symm.flatMap_right _
  have:=this.mem_iff.mpr hc
  rw[do_ rfl]at this
  exact this)
 refine hx F (ρ2.zip σ++(vT s2.d,some w)::fr) H2 s.d s2.d v w _ _ E2c.rep h1b h2b t2 λz s3 H3 R3 q=>?_
 split at q
 ·rename_i kb
  obtain⟨z',e,hz⟩:=R3.atT
  cases e
  cases hz.bl_eq
  refine⟨kb,rfl,?_⟩
  have E3:EOk F ρ2 σ ((vT s2.d,some w)::fr) H3:=⟨E2.len,R3.tail⟩
  cases kb with
  |true =>
   refine⟨ρ2,_,_,E3,q,λu s4 H4 ρ4 E4 q4=>?_⟩
   obtain⟨R5,h5,h6⟩:=E4.two
   exact Cv F _ H4 s2.d s4.d w u Q (λz=>Qx z ρ4) R5 h5 h6 q4 λv' s' H' R' q=>k v' s' H' ρ4 (EOk.back E4.len R') q
  |false=>exact k _ _ H3 ρ2 (EOk.back E2.len (E3.drop.rep.add (IsX.of_bl _))) q
 ·exact q.elim
section
variable{a b c e:Expr}{pos:Pos}{r r':R2}{g g':G2}{ta tb tc te:XT}{op op':CmpOp}
theorem sX(ho:OpR X (compareOp op) r)(hx:OpX r g)(Cd:OpR X (compareOp op') r')(Cv:OpX r' g')(ha:XE X Ex a ta)(hb:XE X Ex b tb)(hc:XE X Ex c tc)(hm:lastMarks [op,op'] [b,c]=false:=by with_unfolding_all rfl):XE X Ex (.Compare a [op,op'] [b,c] pos) (iF g g' ta tb tc):=λF=>(aAv ho Cd (ha F) (hb F) (hc F) hm).weak (tJ hx Cv)
theorem u0(ho:OpR X (compareOp op) r)(hx:OpX r g)(Cd:OpR X (compareOp op') r')(Cv:OpX r' g')(ha:XE X Ex a ta)(hb:XE X Ex b tb)(hc:XE X Ex c tc)(hm:lastMarks [op,op'] [b,c]=false:=by with_unfolding_all rfl):XTe X Ex (.Compare a [op,op'] [b,c] pos) (xB (iF g g' ta tb tc)):=λF=>(aAn ho Cd (ha F) (hb F) (hc F) hm).weak (lJ (tJ hx Cv))
end
abbrev XO:=En->(Option Int->En->Prop)->Prop
def tXo(F:Fm)(t:XO):TO:=λσ H Q=>∃ρ fr Qx,EOk F ρ σ fr H/\t ρ Qx/\∀b H' ρ',EOk F ρ' σ fr H'->Qx b ρ'->Q b H'
def XOp(X:Cx)(Ex:ExT)(e:Option Expr)(t:XO):Prop:=∀F,[OkF X Ex F]->PO X e (tXo F t)
def xoN:XO:=λρ Q=>Q none ρ
def xoS(t:XT):XO:=λρ Q=>t ρ λs ρ'=>match s.d with
 | .int i=>Q (some i) ρ'
 |_=>False
theorem gb_{X:Cx}{Ex:ExT}:XOp X Ex none xoN:=λF _ Aa s σ H Q I h=>by
 obtain⟨ρ,fr,Qx,E,t,k⟩:=h
 exact lO Aa s σ H Q I (k none H ρ E t)
theorem ej_{e:Expr}{t:XT}(h:XE X Ex e t):XOp X Ex (some e) (xoS t):=λF _ Aa s σ H Q I hq=>by
 refine lN (h F) Aa s σ H Q I ?_
 obtain⟨ρ,fr,Qx,E,t,k⟩:=hq
 refine⟨ρ,fr,_,E,t,λv s H' ρ' E' q=>?_⟩
 split at q
 ·rename_i i hi
  obtain⟨R,hx⟩:=E'.one
  rw[hi]at hx
  cases hx.int_eq
  exact⟨i,rfl,k (some i) H' ρ' E'.drop q⟩
 ·exact q.elim
def jZ{α:Type}(xs:List α)(lo hi:Option Int):List α:=(xs.drop (HT.sIx xs.length 0 lo)).take (HT.sIx xs.length xs.length hi-HT.sIx xs.length 0 lo)
def slX(a:Dx)(lo hi:Option Int)(Q:Sv->Prop):Prop:=match a with
 | .lst l=>Q (.ol (jZ l lo hi))
 | .str z=>z.length<=1000000/\Q (.tr (.str (Txt.slice z lo hi)))
 |_=>False
def xSl(t:XT)(lo hi:XO):XT:=λρ Q=>t ρ λa ρ1=>lo ρ1 λl ρ2=>hi ρ2 λh ρ3=>slX a.d l h λs=>Q s ρ3
theorem ec_{e:Expr}{lo hi:Option Expr}{p2 pos:Pos}{t:XT}{tl th:XO}(K:dQ)(he:XE X Ex e t)(hl:XOp X Ex lo tl)(hh:XOp X Ex hi th)(h:X.K=K:=by rfl):XE X Ex (.Subscript e (.Slice lo hi none p2) pos) (xSl t tl th):=λF =>
 (gu_ (SlR.or (x9 K h) rB) (he F) (hl F) (hh F)).weak fun σ H Q=>by
  rintro⟨ρ,fr,Qx,E,t,k⟩
  refine⟨ρ,fr,_,E,t,λv s H' ρ' E' q=>⟨ρ',_,_,E',q,λl H2 ρ2 E2 q2=>⟨ρ2,_,_,E2,q2,λu H3 ρ3 E3 q3=>?_⟩⟩⟩
  obtain⟨R,hx⟩:=E3.one
  unfold slX at q3
  split at q3
  ·rename_i m hm
   rw[hm]at hx
   obtain⟨a,vs,rfl,h1,h2⟩:=hx.lst_eq
   refine .inl ⟨a,vs,rfl,SqL.of (R.hv _ _ h1),λp hp=>k _ _ _ ρ3 (EOk.back E3.len (R.newL hp ?_)) q3⟩
   unfold aCy jZ
   rw[h2.len]
   exact(h2.drop _).take _
  ·rename_i z hz
   rw[hz]at hx
   cases hx.str_eq
   exact .inr ⟨z,rfl,by have:=gV;lia,k _ _ H3 ρ3 (EOk.back E3.len (R.add (IsX.of_str _))) q3.2⟩
  ·exact q3.elim
def aNj(t:XT):XT:=λρ Q=>t ρ λs ρ'=>match s.d with
 | .lst l=>Q (.ol l.reverse) ρ'
 |_=>False
theorem aEg{e:Expr}{t:XT}{k:Nat}{p1 p2 p3 pos:Pos}(he:XE X Ex e t):XE X Ex (.Subscript e (.Slice none none (some (.UnaryOp .USub (.Constant (.int 1) k p1) p2)) p3) pos) (aNj t):=λF=>(aFe (he F)).weak λσ H Q=>by
 rintro⟨ρ,fr,Qx,E,t,k⟩
 refine⟨ρ,fr,_,E,t,λv s H' ρ' E' q=>?_⟩
 split at q
 ·rename_i m hm
  obtain⟨R,hx⟩:=E'.one
  rw[hm]at hx
  obtain⟨a,vs,rfl,h1,h2⟩:=hx.lst_eq
  exact⟨a,vs,rfl,SqL.of (R.hv _ _ h1),λp hp=>k _ _ _ ρ' (EOk.back E'.len (R.newL hp h2.rev)) q⟩
 ·exact q.elim
def aQg:GC
 | [.lst l],Q=>(∃bs:List Bool,l=bs.map Dx.bl/\Q (.tr (.bl (bs.all id))))
 |_,_=>False
theorem d3{G:Hp}:∀{bs:List Bool} {vs:List V},All2 (IsX G) (bs.map Dx.bl) vs->vs=bs.map V.bl
 | [],_,h=>h
 |b::bs,_,⟨v,vr,e,h1,h2⟩=>by rw[e,h1.bl_eq,d3 h2];rfl
theorem uN{G:Hp}:∀{bs:List Int} {vs:List V},All2 (IsX G) (bs.map Dx.int) vs->vs=bs.map V.int
 | [],_,h=>h
 |b::bs,_,⟨v,vr,e,h1,h2⟩=>by rw[e,h1.int_eq,uN h2];rfl
theorem xD{K:dQ}:fU (aAj K) aQg:=by
 intro F P H ds xs Q Qx R hs g k
 unfold aQg at g
 split at g
 ·obtain ⟨bs,rfl,g⟩:=g
  obtain⟨x,rfl,hx⟩:=vE hs
  obtain⟨a,vs,rfl,h1,h2⟩:=hx.lst_eq
  have:=d3 h2
  subst this
  exact⟨a,bs,rfl,SqL.of (R.hv _ _ h1),k _ _ H (R.add (IsX.of_bl _)) g⟩
 ·exact g.elim
theorem hz_{X:Cx}(K:dQ)(hc:X.calm=true)(h:X.K=K:=by rfl):CallR X (.builtin "all") (aAj K):=by subst h;exact p0 hc
def aBk:GC
 | [.int i,.int j],Q=>Q (.tr (.int (if j>i then j else i)))
 |_,_=>False
def aBj:GC
 | [.int i,.int j],Q=>Q (.tr (.int (if j<i then j else i)))
 |_,_=>False
theorem aHa:fU (λxs H Q=>∃i j,xs=[.int i,.int j]/\Q (.int (if j>i then j else i)) H) aBk:=by
 intro F P H ds xs Q Qx R hs g k
 unfold aBk at g
 split at g
 ·obtain ⟨x,y,rfl,hx,hy⟩:=aDp hs
  cases hx.int_eq;cases hy.int_eq
  exact⟨_,_,rfl,k _ _ H (R.add (IsX.of_int _)) g⟩
 ·exact g.elim
theorem aGz:fU (λxs H Q=>∃i j,xs=[.int i,.int j]/\Q (.int (if j<i then j else i)) H) aBj:=by
 intro F P H ds xs Q Qx R hs g k
 unfold aBj at g
 split at g
 ·obtain ⟨x,y,rfl,hx,hy⟩:=aDp hs
  cases hx.int_eq;cases hy.int_eq
  exact⟨_,_,rfl,k _ _ H (R.add (IsX.of_int _)) g⟩
 ·exact g.elim
def zA:GC
 | [.lst l],Q=>(∃ns:List Int,l=ns.map Dx.int/\ns≠[]/\∀M,M∈ns->(∀a∈ns,a<=M)->Q (.tr (.int M)))
 |_,_=>False
theorem sK{K:dQ}:fU (aAg K) zA:=by
 intro F P H ds xs Q Qx R hs g k
 unfold zA at g
 split at g
 ·obtain ⟨bs,rfl,g1,g⟩:=g
  obtain⟨x,rfl,hx⟩:=vE hs
  obtain⟨a,vs,rfl,h1,h2⟩:=hx.lst_eq
  have:=uN h2
  subst this
  exact⟨a,bs,rfl,SqL.of (R.hv _ _ h1),g1,λM h3 h4=>k _ _ H (R.add (IsX.of_int _)) (g M h3 h4)⟩
 ·exact g.elim
theorem hy_{X:Cx}(K:dQ)(hc:X.calm=true)(h:X.K=K:=by rfl):CallR X (.builtin "max") (aAg K):=by subst h;exact n_ hc
theorem y9{F:Fm}{ti:XI}{n i:Nat}{g:TG}{gx:XG}{outs:List Nat}{tc:XC}{te:XT}(A5:GX n g gx)(An:outs.Nodup):∀D σ H,tXS F (gF i (fP n outs ti gx tc te)) D σ H->wG (pL n outs (tXi F ti) g (tXc F tc) (tX F te)) (iM i) D σ H:=by
 rintro D σ H ⟨ρ,fr,d,E,q,k⟩
 exact yH A5 An σ H _ ⟨ρ,fr,_,E,q,λv s H' ρ' E' q'=>k.nx _ H' _ bX (lY E') q'⟩
def dD(N:List Str)(l:List Dx)(ds:List Dx):En:=.bw l::(ds.map (λd=>.v (.tr d))++List.replicate (N.length-(ds.length+1)) .un)
def dI(Q:Dx->List Dx->Prop)(d:Dx)(ρ:En):Prop:=match (ρ[0]? : Option Sl)with
 |some (Sl.bw l)=>Q d l
 |_=>False
abbrev iD(Q:Dx->List Dx->Prop):XD:=⟨λρ=>dI Q .non ρ,λs ρ=>dI Q s.d ρ,λ_=>False,λ_=>False⟩
theorem l_{x:Str}{st:Stmt}{f:Addr}{fd:FuncData}{N ps:List Str}{k:Nat}{g:GB}(Fn:Fun K x x st f fd)(S:FnScope N ps (aR st))(Ad:∀l ds Q,g l ds Q->ds.length+1=ps.length)(hN:ps.length<=N.length)
  (A6:∀ (Af:Value) (A:Around) (outer:List Env) (s:Shared) (H:Hp) (E:XK),Room k (A.deeper (PyProof.Rows.envOfC x (aR st) s.heap.objs.size f Af)) →
   ∃G,XSs (oZ CX0 P w K mg base N x (aR st) f Af A outer s H E).nox dZ (fW st) G/\∀l ds Q,g l ds Q->G (dD N l ds) (iD Q)):FnOk P w K mg base CX0 (k+1) f fd ps (spB g):=by
 refine Fn.ok S (λvs H Q E h=>?_) (λAf A outer s H vs Q E hr h=>?_)
 ·obtain ⟨p,ws,l,vr,Hs,ds,Qx,rfl,_,_,_,_,h2,h3,_⟩:=h
  rw[aI,h2.len]
  exact Ad l ds Qx h3
 obtain⟨p,ws,l,vr,Hs,ds,Qx,rfl,hp,h1,Ck,hl,h2,h3,h4⟩:=h
 obtain⟨G,hG,hq⟩:=A6 Af A outer s H E hr
 have Iq:=Ad l ds Qx h3
 have nb:∀b∈[p],Hs b=none:=λb hb=>by rw[aH.mp hb];exact Ck
 have ib:∀b∈[p],∃o,H b=some o:=λb hb=>by rw[aH.mp hb];exact⟨_,hp⟩
 have fin:∀{d:Dx} {v:V} {σ':St} {H':Hp} {ρ':En},EOk ⟨H,Hs,[p],h1,nb,ib⟩ ρ' σ' ((vT d,some v)::[]) H'->dI Qx d ρ'->Q v H':=λ{d v σ' H' ρ'} E' q=>by
  unfold dI at q
  split at q
  ·rename_i l' h0
   obtain⟨R,hx⟩:=E'.one
   obtain⟨y,hy,hi,R2⟩:=cw_ ⟨E'.len,R⟩ h0
   obtain⟨a,ws',rfl,h5,h6⟩:=R2.atB
   have ha:a=p:=aH.mp (R2.fr _ aA a (aH.mpr rfl))
   subst ha
   refine h4 d v l' ws' H' (λb o hb=>?_) h5 (h6.imp λ_ _ z=>z.to (kZ λc hc=>by rw[aH.mp hc];exact aA)) (hx.to zL) q
   have Aj:b≠a:=λz=>by rw[z]at hb;unfold uQ at hb;rw[if_pos rfl]at hb;cases hb
   rw[fg_ Aj]at hb ⊢
   exact R.kp b o hb λz=>Aj (aH.mp z)
  ·exact q.elim
 refine⟨_,hG ⟨H,Hs,[p],h1,nb,ib⟩,dD N l ds,[],iD Qx,⟨?_,?_⟩,hq l ds Qx h3,⟨λσ' H' ρ' _ E' q=>fin (EOk.back E'.len (E'.rep.add (d:=.non) (v:=.non) IsX.of_non)) q,λv s σ' H' ρ' _ E' q=>fin (EOk.back E'.len E'.front.frz) q,λ_ _ _ _ _ q=>q.elim,λ_ _ _ _ _ q=>q.elim⟩⟩
 ·unfold dD L2.start
  simp only[aJ,aD,bV,aI]
  rw[h2.len]
  lia
 ·have R0:Rep ⟨H,Hs,[p],h1,nb,ib⟩ [] H:=⟨List.nodup_nil,fun r hr=>by simp at hr,fun r hr=>by simp at hr,fun b o h _=>h,ib⟩
  have Ej:Same Hs (Fm.vis ⟨H,Hs,[p],h1,nb,ib⟩ H):=λb o hb=>(lE (h1 _ _ hb)).trans hb
  have R1:=mQ (m:=N.length-(ds.length+1)) R0 (h2.imp λ_ _ z=>z.to Ej)
  have Et:bM ((ds.map (λd=>Sl.v (.tr d))++List.replicate (N.length-(ds.length+1)) Sl.un).zip (vr.map some++List.replicate (N.length-(ds.length+1)) none))=[]:=by
   unfold bM
   refine List.flatMap_eq_nil_iff.mpr λr hr=>?_
   obtain⟨a,b⟩:=r
   rcases bD.mp (List.of_mem_zip hr).1 with h | h
   ·obtain⟨d,_,rfl⟩:=bH.mp h;rfl
   ·rw[(List.mem_replicate.mp h).2];rfl
  rw[cF]
  have e:(dD N l ds).zip (L2.start N (.ref p::vr))=(.bw l,some (.ref p))::(ds.map (λd=>Sl.v (.tr d))++List.replicate (N.length-(ds.length+1)) Sl.un).zip (vr.map some++List.replicate (N.length-(ds.length+1)) none):=by
   unfold dD L2.start
   rw[aL,aX,List.zip_cons_cons,aI,h2.len]
  rw[e]
  refine⟨by rw[kC (a:=p) rfl,Et];simp,λr hr=>?_,λr hr a ha=>?_,R1.kp,R1.lv⟩
  ·rw [kC (a:=p) rfl,Et]
   rcases aF.mp hr with rfl | hr
   ·refine ⟨p,ws,rfl,hp,hl.imp fun _ _ z=>z.to fun b o hb=>aY.mpr ⟨fun z => ?_,Ej _ _ hb⟩⟩
    rw[aH.mp z,Ck]at hb;cases hb
   ·refine (R1.ok r hr).mono (.of fun b o hb => ?_) fun _ _=>rfl
    have Aj:=aY.mp hb
    refine aY.mpr ⟨λz=>?_,Aj.2⟩
    have h9:Hs p=some o:=(lE hp).symm.trans (aH.mp z ▸ Aj.2)
    rw[Ck]at h9;cases h9
  ·rcases aF.mp hr with rfl | hr
   ·exact ha
   ·exact R1.fr r hr a ha
theorem Cal.mono{i j:Nat}{x:Str}{ps:List Str}{sp:Sp}(C:Cal P w K mg base i x ps sp)(h:i<=j):Cal P w K mg base j x ps sp:=by
 obtain⟨f,fd,G,b,k,m⟩:=C
 exact⟨f,fd,G.mono h,b,k,m⟩
theorem IsX.cast{H:Hp}{d d':Dx}{v:V}(h:IsX H d v)(e:d=d'):IsX H d' v:=e ▸ h
theorem pP{F:Fm}{ρ:En}{σ:St}{fr:List Rw}{H:Hp}{i:Nat}{s:Sv}(E:EOk F ρ σ fr H)(h:ρ[i]? = some (.v s)) :
  ∃v,σ[i]? = some (some v)/\EOk F (ρ.set i (vT s.d)) σ fr H/\IsX (hid (bM ((ρ.set i (vT s.d)).zip σ++fr)) (F.vis H)) s.d v:=by
 obtain⟨v,hv,hi,R⟩:=cw_ E h
 have R2:=R.frz
 have E2:=lZ E.len hi hv R2
 obtain⟨w,e,hx⟩:=R2.atT
 subst e
 have hO:(bM ((ρ.set i (vT s.d)).zip σ++fr)).Perm (bM ((vT s.d,some w)::((ρ.zip σ).eraseIdx i++fr))):=((cv_ E.len hi hv).append_right fr).flatMap_right _
 rw[do_ rfl]at hO
 exact⟨w,hv,E2,hx.to (kZ λa ha=>hO.mem_iff.mp ha)⟩
def aNh(i j:Nat):XI:=λρ Q=>match ρ[i]? with
 |some (.v s)=>(match (ρ.set i (.v (.tr s.d)))[j]? with
  |some (.v s')=>(match s.d,s'.d with
   | .lst l,.lst m=>Q (jS l m) ((ρ.set i (.v (.tr s.d))).set j (.v (.tr s'.d)))
   | .tup l,.tup m=>Q (jS l m) ((ρ.set i (.v (.tr s.d))).set j (.v (.tr s'.d)))
   |_,_=>False)
  |_=>False)
 |_=>False
theorem aBv{F:Fm}{K:dQ}{a b:Addr}{l m:List Dx}:ItX F (Itz true true K a b) [(vT (.tup l),some (.ref a)),(vT (.tup m),some (.ref b))] (jS l m)where
 go:=λP H i d R hd=>by
  obtain⟨v,e,h⟩:=R.atT;cases e
  obtain⟨_,vs,e,h1,h2⟩:=h.tup_eq;cases e
  obtain⟨v,e,h'⟩:=R.tail.atT;cases e
  obtain⟨_,ws,e,h3,h4⟩:=h'.tup_eq;cases e
  obtain⟨c,c',e1,e2,_⟩:=lH hd
  obtain⟨x,h5,_⟩:=h2.at e1
  obtain⟨y,h6,_⟩:=h4.at e2
  exact⟨vs,ws,x,y,SqT.of (R.hv _ _ h1),SqT.of (R.hv _ _ h3),h5,h6⟩
 stop:=λP H i R hi=>by
  obtain⟨v,e,h⟩:=R.atT;cases e
  obtain⟨_,vs,e,h1,h2⟩:=h.tup_eq;cases e
  obtain⟨v,e,h'⟩:=R.tail.atT;cases e
  obtain⟨_,ws,e,h3,h4⟩:=h'.tup_eq;cases e
  refine⟨vs,ws,SqT.of (R.hv _ _ h1),SqT.of (R.hv _ _ h3),?_⟩
  unfold jS at hi
  rw[List.length_zipWith]at hi
  rw[h2.len,h4.len]
  lia
 yld:=λP H i d x H' R hd q=>by
  obtain⟨p,x,y,rfl,hp,rfl,q⟩:=q
  obtain⟨v,e,h⟩:=R.atT;cases e
  obtain⟨_,vs,e,h1,h2⟩:=h.tup_eq;cases e
  obtain⟨v,e,h'⟩:=R.tail.atT;cases e
  obtain⟨_,ws,e,h3,h4⟩:=h'.tup_eq;cases e
  obtain⟨c,c',e1,e2,rfl⟩:=lH hd
  obtain⟨x',h5,h7⟩:=h2.at e1
  obtain⟨y',h6,h8⟩:=h4.at e2
  obtain⟨q1,q2⟩:=q vs ws (SqT.of (R.hv _ _ h1)) (SqT.of (R.hv _ _ h3))
  rw[q1]at h5;cases h5
  rw[q2]at h6;cases h6
  exact R.newT hp ⟨_,_,rfl,h7,_,_,rfl,h8,rfl⟩
theorem aEe{a b:Expr}{i j:Nat}{p pos:Pos}{es:List Expr}{kk:Nat}{tpos:Pos}(hm:X.mg "zip" = none)(ha:PE X a (fQ i))(hb:PE X b (fQ j))(hg:Gl X "zip":=by rfl)(hs:starEach [a,b] X.env=[(false,eval a X.env),(false,eval b X.env)]:=by rfl)(Co:starEach [b] X.env=[(false,eval b X.env)]:=by rfl)
  (hs3:starEach [a,b] X.env=(false,eval a X.env)::starEach [b] X.env:=by rfl) (hs4:starEach [b] X.env=(false,eval b X.env)::starEach [] X.env:=by rfl) :
  XIt X Ex (.Tuple es kk tpos) (.Call (.Name "zip" p) [a,b] [] pos) (aNh i j):=λF _ Aa s σ H R I h=>by
 have pa:PA X [a,b] (tI (fQ i) (tI (fQ j) aJc)):=iE ha (iE hb oP hs4) hs3
 obtain⟨ρ,fr,Qx,E,t,k⟩:=h
 unfold aNh at t
 split at t
 ·rename_i s1 h1
  split at t
  ·rename_i s2 h2
   obtain⟨v,hv,E1,C5⟩:=pP E h1
   obtain⟨w,hw,E2,Bp⟩:=pP E1 h2
   have B4:IsX (hid (bM (((ρ.set i (vT s1.d)).set j (vT s2.d)).zip σ++fr)) (F.vis H)) s1.d v:=C5.to (kZ λc hc=>by
    obtain⟨w',Ij,hj,R2⟩:=cw_ E1 h2
    have hO:(bM (((ρ.set i (vT s1.d)).set j (vT s2.d)).zip σ++fr)).Perm (bM ((vT s2.d,w')::(((ρ.set i (vT s1.d)).zip σ).eraseIdx j++fr))):=((cv_ E1.len hj Ij).append_right fr).flatMap_right _
    have hO2:(bM ((ρ.set i (vT s1.d)).zip σ++fr)).Perm (bM ((.v s2,w')::(((ρ.set i (vT s1.d)).zip σ).eraseIdx j++fr))):=((eu_ h2 Ij).append_right fr).flatMap_right _
    have:=hO.mem_iff.mp hc
    rw[do_ rfl]at this
    refine hO2.mem_iff.mpr ?_
    rw[bx_]
    exact aG _ this)
   split at t
   ·rename_i l m e1 e2
    replace B4:=B4.cast e1
    replace Bp:=Bp.cast e2
    obtain⟨c,cs,rfl,g1,_⟩:=B4.lst_eq
    obtain⟨d,ds,rfl,g2,_⟩:=Bp.lst_eq
    have R1:=(E2.rep.add Bp).add (d:=.lst l) (v:=.ref c) B4
    refine aAs (t1:=false) (t2:=false) hg hm pa hs Co Aa s σ H R I ⟨_,hv,_,hw,c,d,rfl,⟨cs,SqL.of (E2.rep.hv _ _ g1)⟩,⟨ds,SqL.of (E2.rep.hv _ _ g2)⟩,k _ H _ [(vT (.lst l),some (.ref c)),(vT (.lst m),some (.ref d))] _ ⟨E2.len,R1.perm ((lB.symm.cons _).trans lB.symm)⟩ aGj t⟩
   ·rename_i l m e1 e2
    replace B4:=B4.cast e1
    replace Bp:=Bp.cast e2
    obtain⟨c,cs,rfl,g1,_⟩:=B4.tup_eq
    obtain⟨d,ds,rfl,g2,_⟩:=Bp.tup_eq
    have R1:=(E2.rep.add Bp).add (d:=.tup l) (v:=.ref c) B4
    refine aAs (t1:=true) (t2:=true) hg hm pa hs Co Aa s σ H R I ⟨_,hv,_,hw,c,d,rfl,⟨cs,SqT.of (E2.rep.hv _ _ g1)⟩,⟨ds,SqT.of (E2.rep.hv _ _ g2)⟩,k _ H _ [(vT (.tup l),some (.ref c)),(vT (.tup m),some (.ref d))] _ ⟨E2.len,R1.perm ((lB.symm.cons _).trans lB.symm)⟩ aBv t⟩
   ·exact t.elim
  ·exact t.elim
 ·exact t.elim
theorem hw_{n:Nat}{gx:XG}{tc:XC}{te:XT}{Q:List Dx->List Sl->Prop}{cs:List Sl}(f:Dx->List Dx):∀{ds:List Dx} {Ab:List Dx},
  (∀d∈ds,∀(Ab:List Dx) (P:List Dx->List Sl->Prop),P (Ab++f d) cs->gx d (List.replicate n .un++cs) λρ1=>tc ρ1 λb ρ2=>if b=true then te ρ2 λs ρ3=>P (Ab++[s.d]) (ρ3.drop n)else P Ab (ρ2.drop n)) ->
  Q (Ab++(ds.map f).flatten) cs->dB n gx tc te Q ds cs Ab
 | [],Ab,_,q=>by simpa [dB]using q
 |d::ds,Ab,h,q=>by
  show gx d _ _
  exact h d aA Ab (λAb cs=>dB n gx tc te Q ds cs Ab) (hw_ f (λd' hd=>h d' (aB _ hd)) (by simpa [bC]using q))
theorem gz_{gx:XG}{G:XS}{D:XD}(Pv:List Dx->En->Prop)(hd:∀ρ,Pv [] ρ->D.nx ρ)(hs:∀d ds ρ (K:En->Prop),Pv (d::ds) ρ->(∀ρ',Pv ds ρ'->K ρ')->gx d ρ λρ1=>G ρ1 { D with nx:=K,ct:=K,bk:=D.nx }) :
  ∀{ds:List Dx} {ρ:En},Pv ds ρ->hZ gx G D ds ρ
 | [],ρ,h=>hd ρ h
 |d::ds,ρ,h=>hs d ds ρ (hZ gx G D ds) h λρ' h'=>gz_ Pv hd hs h'
section
variable{α:Type}{a b c d:α}
theorem jP:atI [a] 0=some a:=rfl
theorem jO:atI [a,b] 0=some a:=rfl
theorem jN:atI [a,b] 1=some b:=rfl
theorem jL:atI [a,b,c] 0=some a:=rfl
theorem jK:atI [a,b,c] 1=some b:=rfl
theorem jJ:atI [a,b,c] 2=some c:=rfl
theorem jI:atI [a,b,c,d] 0=some a:=rfl
theorem jH:atI [a,b,c,d] 1=some b:=rfl
theorem jG:atI [a,b,c,d] 2=some c:=rfl
theorem jF:atI [a,b,c,d] 3=some d:=rfl
theorem jC:ixN 3 0=some 0:=rfl
theorem jB:ixN 3 1=some 1:=rfl
theorem jA:ixN 3 2=some 2:=rfl
end
theorem xM{l:List Dx}:kL (.bw l)=some (l,.bw):=rfl
theorem xN{l:List Dx}:kL (.v (.ol l))=some (l,λl'=>.v (.ol l')):=rfl
theorem iX{α:Type}{a b c:α}:[a,b,c].length=3:=rfl
theorem aMk{α:Type}{l:List α}{i:Int}(h0:0<=i)(h1:i<l.length):∃x,atI l i=some x/\l[i.toNat]? = some x:=by
 have hk:i.toNat<l.length:=by lia
 refine⟨l[i.toNat],?_,aS hk⟩
 unfold atI
 have:ixN l.length i=some i.toNat:=by
  unfold ixN
  simp only[h0]
  split<;>simp_all<;>lia
 rw[this]
 exact aS hk
abbrev GP:=List Dx->Dx->(Dx->Prop)->Prop
def OpL(r:R2)(g:GP):Prop:=∀(G:Hp) (H:Hp) (p:Addr) (ws:List V) (l:List Dx) (b:Dx) (y:V) (Q:VK) (Qx:Dx->Prop),Same G H->H p=some (.lst ws)->All2 (IsX G) l ws->IsX G b y->g l b Qx->(∀v d,IsX G d v->Qx d->Q v H)->r (.ref p) y H Q
def aIv(g:GP)(i:Nat)(t:XT):XT:=λρ Q=>((ρ[i]?).bind kL).isSome=true/\t ρ λk ρ'=>match (ρ'[i]?).bind kL with
 |some (l,_)=>g l k.d λd=>Q (.tr d) ρ'
 |none=>False
section
variable{F:Fm}{i:Nat}{t:XT}{r:R2}{g:GP}{x:Str}{a b e:Expr}{p pos:Pos}
theorem aOh(hx:OpL r g):∀σ H Q,tX F (aIv g i t) σ H Q->tOp r (fQ i) (tX F t) σ H Q:=by
 rintro σ H Q ⟨ρ,fr,Qx,E,⟨h0,q⟩,k⟩
 obtain⟨⟨l,f⟩,h1⟩:=fV.mp h0
 obtain⟨p,ws,hv,_⟩:=gx_ E h1
 refine⟨.ref p,hv,ρ,fr,_,E,q,λw s H' ρ' E' q'=>?_⟩
 split at q'
 ·rename_i l' f' hb
  obtain⟨R,hs⟩:=E'.one
  obtain⟨p',ws',Bf,hp,hl,_⟩:=gx_ E'.drop hb
  rw[hv]at Bf;cases Bf
  exact hx _ H' p ws' l' s.d w Q _ R.hv hp hl hs q' λv d hd qd=>k v (.tr d) H' ρ' (EOk.back E'.len (R.add hd)) qd
 ·exact q'.elim
def ixP:GP:=λl k Q=>match k with
 | .int j=>(match atI l j with | some d=>Q d | none=>False)
 |_=>False
theorem aOm{K:dQ}:OpL (aAi K) ixP:=by
 intro G H p ws l b y Q Qx hs hp hl hb g k
 unfold ixP at g
 split at g
 ·cases hb.int_eq
  split at g
  ·rename_i d hd
   obtain⟨v,h1,h2⟩:=oM hl hd
   exact⟨_,_,_,_,rfl,rfl,SqL.of hp,h1,k v d h2 g⟩
  ·exact g.elim
 ·exact g.elim
theorem gc_(K:dQ)(hv:PE X (.Name x p) (fQ i))(hb:XE X Ex b t)(hs:kD b)(h:X.K=K:=by rfl):XE X Ex (.Subscript (.Name x p) b pos) (aIv ixP i t):=λF=>by
 subst h
 exact(uY s_ hv (hb F) hs).weak (aOh aOm)
end
theorem XE.at{e:Expr}{t:XT}(F:Fm)[OkF X Ex F](h:XE X Ex e t):PE X e (tX F t):=h F
theorem gE{e:Expr}{t:XT}{x:Str}{i:Nat}{pos pos':Pos}(hN:X.N.Nodup)(hi:X.N[i]? = some x)(hx:Loc X.env.scope x)(he:XE X dZ e t)(hs:swapsWith e (some (.Name x pos')) pos.line X.env=pure false:=by rfl)(hf:X.fn x=true\/X.env.scope.names.lookup x=some .local:=by first | exact .inl rfl | exact .inr rfl | assumption):XSt X Ex (.Assign [.Name x pos'] e pos) (gF i t):=ak_ λF=>sW hN hi hx (XE.at (Ex:=dZ) F he) hs hf
theorem fI{x:Str}{p q pos:Pos}{i j:Nat}{n:Int}(K:dQ)(h0:PE X (.Name x p) (fQ i))(h:X.K=K:=by rfl):XE X Ex (.Subscript (.Name x p) (.Constant (.int n) j q) pos) (xOp ixX (cP i) (xC (.int n))):=sU K (bL h0) cY (λ_ _=>rfl) h
theorem XIt.at{tg e:Expr}{t:XI}(F:Fm)[OkF X Ex F](h:XIt X Ex tg e t):PI X tg e (tXi F t):=h F
theorem XCs.at{e:List Expr}{t:XC}(F:Fm)[OkF X Ex F](h:XCs X Ex e t):PCs X e (tXc F t):=h F
section
variable{α:Type}{n:Nat}{gx:XG}{tc:XC}{te:XT}{Q:List Dx->List Sl->Prop}
abbrev mP(n:Nat)(gx:XG)(tc:XC)(te:XT)(P:List Dx->List Sl->Prop)(d:Dx)(cs:List Sl)(Ab:List Dx):Prop:=gx d (List.replicate n .un++cs) λρ1=>tc ρ1 λb ρ2=>if b=true then te ρ2 λs ρ3=>P (Ab++[s.d]) (ρ3.drop n)else P Ab (ρ2.drop n)
theorem ch_{cs:List Sl}(φ ψ:α->Dx):∀{as:List α} {Ab:List Dx},(∀a∈as,∀(Ab:List Dx) (P:List Dx->List Sl->Prop),P (Ab++[ψ a]) cs->mP n gx tc te P (φ a) cs Ab) ->
  Q (Ab++as.map ψ) cs->dB n gx tc te Q (as.map φ) cs Ab
 | [],Ab,_,q=>by simpa [dB]using q
 |a::as,Ab,h,q=>by
  show gx (φ a) _ _
  exact h a aA Ab (λAb cs=>dB n gx tc te Q (as.map φ) cs Ab) (ch_ φ ψ (λa' ha=>h a' (aB _ ha)) (by simpa [bC]using q))
theorem cg_(φ:α->Dx)(I:List α->List Dx->List Sl->Prop)(hd:∀Ab cs,I [] Ab cs->Q Ab cs)(hs:∀a as Ab cs (P:List Dx->List Sl->Prop),I (a::as) Ab cs->(∀acc' cs',I as acc' cs'->P acc' cs')->mP n gx tc te P (φ a) cs Ab) :
  ∀{as:List α} {Ab:List Dx} {cs:List Sl},I as Ab cs->dB n gx tc te Q (as.map φ) cs Ab
 | [],Ab,cs,h=>hd Ab cs h
 |a::as,Ab,cs,h=>by
  show gx (φ a) _ _
  exact hs a as Ab cs (λAb cs=>dB n gx tc te Q (as.map φ) cs Ab) h λacc' cs' h'=>cg_ φ I hd hs h'
theorem eg_{gx:XG}{G:XS}{D:XD}(φ:α->Dx)(Pv:List α->En->Prop)(hd:∀ρ,Pv [] ρ->D.nx ρ)(hs:∀d ds ρ (K:En->Prop),Pv (d::ds) ρ->(∀ρ',Pv ds ρ'->K ρ')->gx (φ d) ρ λρ1=>G ρ1 { D with nx:=K,ct:=K,bk:=D.nx }) :
  ∀{ds:List α} {ρ:En},Pv ds ρ->hZ gx G D (ds.map φ) ρ
 | [],ρ,h=>hd ρ h
 |d::ds,ρ,h=>hs d ds ρ (hZ gx G D (ds.map φ)) h λρ' h'=>eg_ φ Pv hd hs h'
end
section
variable{F:Fm}{e:Expr}{kws:List Keyword}{x:Str}{p pos:Pos}{u:XA}{t:XT}
theorem aEh{i:Int}(hg:Gl X x)(hm:∃t,X.mg x=some (.int i t))(hd:(x == ("__debug__" : Str))=false:=by decide):XE X Ex (.Name x pos) (xC (.int i)):=by
 obtain⟨t,hm⟩:=hm
 exact u6 (aFf (v:=.int i) hg hm ⟨t,rfl⟩ hd) _ λ_=>IsX.of_int _
def aNm(t:XT):XT:=λρ Q=>t ρ λs ρ'=>match s.d with
 | .int i=>Q (.tr (.int (Builtin.Int.intBits i))) ρ'
 |_=>False
theorem aMh{K:dQ}:∀σ H Q,tX F (aNm t) σ H Q->aNx K "int" aHv (tX F t) σ H Q:=by
 rintro σ H Q ⟨ρ,fr,Qx,E,q,k⟩
 refine⟨ρ,fr,_,E,q,λv s H' ρ' E' q'=>?_⟩
 obtain⟨R,hs⟩:=E'.one
 split at q'
 ·rename_i i hi
  rw[hi]at hs
  cases hs.int_eq
  exact⟨rfl,i,rfl,rfl,k _ _ H' ρ' (EOk.back E'.len (R.add (IsX.of_int _))) q'⟩
 ·exact q'.elim
end
theorem qV:∀{xs:List V} {us:List Value},xs.length=us.length->(∀(i:Nat) x u,xs[i]? = some x->us[i]? = some u->RelV x u)->Vals xs us
 | [],[],_,_=>.nil
 | [],_::_,h,_=>by simp at h
 |_::_,[],h,_=>by simp at h
 |x::xs,u::us,hl,h=>.cons (h 0 x u rfl rfl) (qV (by simpa using hl) λi a b h1 h2=>h (i+1) a b (by simpa using h1) (by simpa using h2))
section
variable{X:Cx}{Ex:ExT}
def aAh:List V->Hp->VK->Prop:=λxs H Q=>∃a kvs,xs=[V.ref a]/\Rd H a (.dK kvs)/\∀l,H l=none->Q (.ref l) (upd H l (.lst (kvs.map λkv=>kV kv.1)))
theorem oF(hc:X.calm=true):CallR X (.type "list") aAh:=by
 intro Aa s σ H xs us Q I r h
 obtain⟨a,kvs,rfl,ha,q⟩:=h
 obtain⟨u,rfl,rx⟩:=iG r
 cases rx
 obtain⟨z,hd,ap,es,ep,D,rel⟩:=fv_ I.hok ha
 have hl:kvs.length=es.size:=by rw[<-Array.length_toList];exact Paired.length rel
 refine PySem.W.kdl_call (aEq (es:=es) (ep:=ep) hd) (I.ok.hd hc) D (by omega) λh' tk acc' c' hk hD Bg=>?_
 have hv:Vals (kvs.map λkv=>kV kv.1) acc'.toList:=by
  refine qV (by have:=Bg.1;rw[aD,hl,<-this];simp) λi x u e1 e2=>?_
  rw[Array.getElem?_toList]at e2
  obtain⟨e,e3,rfl⟩:=Bg.2 i u e2
  obtain⟨p,e5,e6⟩:=Paired.nth (i:=i) rel (by rw[Array.getElem?_toList];exact e3)
  rw[bP,e5]at e1
  cases e1
  exact e6.2.1
 refine⟨.ref s.heap.objs.size,_,I.laid (t':=tk) hk (aK _) (show ObjOk X.prog X.w _ h' _ (.lst (kvs.map λkv=>kV kv.1))from⟨by rw[aD];exact z,acc'.toList,c',hv,by simpa using hD⟩),rfl,q _ (I.hok.fresh (aK _))⟩
def aBn:GC
 | [.dic l],Q=>Q (.ol (eG l))
 |_,_=>False
theorem uJ{G:Hp}:∀{l:List (Key×Dx)} {ws:List (Key×V)},All2 (KvX G) l ws->All2 (IsX G) (eG l) (ws.map λkv=>kV kv.1)
 | [],_,h=>by rw[show _=[]from h];rfl
 |k::l,_,⟨w,wr,e,h1,h2⟩=>by
  subst e
  exact⟨_,_,rfl,by show IsX G (iY k.1) (kV w.1);rw[<-h1.1];exact zH _ h1.2.2,uJ h2⟩
theorem vF:fU aAh aBn:=by
 intro F P H ds xs Q Qx R hs g k
 unfold aBn at g
 split at g
 ·obtain ⟨x,rfl,hx⟩:=vE hs
  obtain⟨a,ws,rfl,h1,h2⟩:=hx.dic_eq
  exact⟨a,ws,rfl,tR R h1,λl hl=>k _ _ _ (R.newL hl (uJ h2)) g⟩
 ·exact g.elim
end
def neL:G2:=λa b Q=>match a,b with
 | .lst l,.lst m=>∃ns:List Int,l=ns.map Dx.int/\m=ns.map Dx.int/\Q (.tr (.bl false))
 |_,_=>False
section
variable{F:Fm}{a b e:Expr}{x:Str}{p pos:Pos}{ta tb t:XT}{tl th:XO}{u:XA}{K:dQ}
theorem aHf{α β:Type}{f:α->β}{l:List α}{i:Int}:atI (l.map f) i=(atI l i).map f:=by
 unfold atI
 rw[aD]
 cases ixN l.length i with
 |none=>rfl
 |some n=>exact bP
def ixZ(K:dQ):G2
 | .scr K' ns,.int i,Q=>K'=K/\(match atI ns i with | some n=>Q (.tr (.int n)) | none=>False)
 |_,_,_=>False
theorem aKa:OpX (aAi K) (ixZ K):=by
 intro F P H a b x y Q Qx R ha hb g k
 unfold ixZ at g
 split at g
 ·obtain ⟨rfl,g⟩:=g
  obtain⟨p,rfl,h1⟩:=ha.scr_eq
  cases hb.int_eq
  split at g
  ·rename_i n hn
   refine⟨p,_,_,V.int n,rfl,rfl,SameF.sq (.of R.hv) h1,?_,k _ _ H (R.add (IsX.of_int _)) g⟩
   rw[aHf,hn];rfl
  ·exact g.elim
 ·exact g.elim
theorem aIt(K:dQ)(ha:XE X Ex a ta)(hb:XE X Ex b tb)(hs:kD b)(h:X.K=K:=by rfl):XE X Ex (.Subscript a b pos) (xOp (ixZ K) ta tb):=λF=>(uY (uL K h) (ha F) (hb F) hs).weak (kW aKa)
def aKv(K:dQ):GC
 | [.scr K' ns],Q=>K'=K/\Q (.tr (.int ns.length))
 |_,_=>False
theorem c6:fU (aJj K) (aKv K):=by
 intro F P H ds xs Q Qx R hs g k
 unfold aKv at g
 split at g
 ·obtain ⟨rfl,g⟩:=g
  obtain⟨x,rfl,hx⟩:=vE hs
  obtain⟨a,rfl,h1⟩:=hx.scr_eq
  exact .inl ⟨a,_,rfl,.inl (SameF.sq (.of R.hv) h1),k _ _ H (R.add (by rw[aD];exact IsX.of_int _)) g⟩
 ·exact g.elim
end
def spLaw(K:dQ):Sp:=λvs H Q _=>∃(a:Addr) (ns:List Int),vs=[.ref a]/\SqL K H a (ns.map V.int)/\ns.length<=63/\∀H',Q (.bl true) H'
def aPb(K:dQ):GC:=λds Q=>∃ns:List Int,ds=[.scr K ns]/\ns.length<=63/\Q (.tr (.bl true))
theorem aBp{f:Addr}{fd:FuncData}{j:Nat}(h:FnOk P w K mg base CX0 j f fd ["script"] (spX (aPb K))):FnOk P w K mg base CX0 j f fd ["script"] (spLaw K):=h.imp λvs H Q E=>by
 rintro⟨a,ns,rfl,hS,hl,q⟩
 refine⟨H,[.scr K ns],λs=>s=.tr (.bl true),Same.refl _,⟨_,_,rfl,IsX.of_scr hS,rfl⟩,⟨ns,rfl,hl,rfl⟩,λs v H' _ hr e=>?_⟩
 subst e
 have Ap:IsX (ext H H H') (.bl true) v:=hr
 cases Ap.bl_eq
 exact q H'
end Lf
namespace L2
open PySem
end L2
namespace Lf
open PySem L2
abbrev GE:=List Dx->(Sv->Prop)->ExT->Prop
theorem j1{P:Program}{w:World}{H:Hp}{h:Heap}{a:Addr}{o:HO}(x:ObjOk P w H h a o):∃ob,h.get? a=some ob:=by
 cases o with
 |lst xs=>obtain⟨z,its,n,r,e⟩:=x;exact⟨_,e⟩
 |tup xs=>obtain⟨z,its,r,ob,e,c⟩:=x;exact⟨_,e⟩
 |dK kvs=>obtain⟨ob,_,_,e,_⟩:=fu_ x;exact⟨_,e⟩
 |dT kvs=>obtain⟨z,y,xs,r,ob,es,ep,e,c⟩:=x;exact⟨_,e⟩
 |set S n=>obtain⟨ob,es,ep,t,e,c⟩:=x;exact⟨_,e⟩
 |ins C dx fs=>obtain⟨d,z,ne,e,_⟩:=x;exact⟨_,e⟩
 |own y=>exact x
 |xd fs=>obtain⟨mA,⟨od,es,ep,e,c⟩,r⟩:=x;exact⟨_,e⟩
 |rng lo hi=>obtain⟨t,u,v,e⟩:=x;exact⟨_,e⟩
 |frz ob u=>exact⟨_,x.1⟩
 |tbl ps=>exact⟨_,x⟩
 |met f y=>exact⟨_,x⟩
 |ext φ=>exact x.2.1
theorem HOk.none{P:Program}{w:World}{H:Hp}{h:Heap}(x:HOk P w H h){a:Addr}(n:h.get? a=.none):H a=.none:=by
 cases q:H a with
 |none=>rfl
 |some o =>
  obtain⟨ob,e⟩:=j1 (x a o q)
  rw[n]at e;cases e
abbrev veM:List Value:=[.type "ValueError",.type "Exception",.type "BaseException",.type "object"]
abbrev XQ:=En->(En->Prop)->(Value->En->Prop)->Prop
end Lf
namespace PySem.W
open PySem PySem.Spec PySem.Calls PyProof.Rows
section
variable{prog:Program}{w:World}{A:Around}{E:eQ}{s:Shared}{K:Frag}{x C D:Addr}{ox:Obj}{od:Obj}{odo:Option Obj}{name:Str}
def excKit(K:Frag)(D:Addr):Bool:=(findIn K (.ref D) "__getattribute__" == some (some (.builtin "BaseException.__getattribute__")))&&(findIn K (.ref D) "__getattr__" == some none)&&(mroIn K D (.type "BaseException") == some true)&&(mroIn K D (.type "object") == some true) &&
 (findIn K (.ref D) "__class__" == some (some (.builtin "object.__class__")))&&(specialIn K (.builtin "object.__class__") "__get__" == some (some (.builtin "getset_descriptor.__get__")))&&(takesIn K (.builtin "object.__class__") == some true)
end
end PySem.W
namespace Lf
open PySem L2
open PySem.W (Frag nsIn)
def rR(K:Frag)(N:Addr)(n:Str):Bool:=match K.lookup N with
 |some ⟨_,_,.dict es _,_⟩=>es.toList.all (λe=>match e.key with | .str _ _=>true | _=>false)&&(es.toList.find? (·.key.isStr n)).isNone
 |_=>false
def eX(K:Frag):Nat->List Value->Bool
 |n+1,.ref A::r=>(match K.lookup A with
  |some ⟨_,_,.cls cd,_⟩=>rR K cd.ns "__init__" && eX K n r
  |_=>false)
 |_,l=>l == veM
def aDb(K:Frag)(C:Addr):Bool:=match K.lookup C with
 |some ⟨.type "type",_,.cls cd,sl⟩=>(match cd.mro with
  | .ref C'::tl=>C' == C&&cd.hasDel == false&&sl.size == 6&&sl[4]? == some (some (.builtin "ValueError.__new__"))&&rR K cd.ns "__init__" && eX K 4 tl
  |_=>false)&&PySem.W.excKit K C
 |_=>false
def aPy(K:Frag)(n:Str):Option Addr:=match nsIn K mainGlobals n with
 |some (some (.ref C))=>some C
 |_=>none
section
variable{K:Frag}{h:Heap}
theorem pT{N:Addr}{n:Str}(e:rR K N n=true)(X:K.In h):∃m,h.Ns N m/\m n=none:=by
 unfold rR at e
 split at e
 ·rename_i c d es ep sl q
  obtain⟨e1,e2⟩:=fK.mp e
  refine⟨nsFind es,⟨_,es,ep,X _ _ q,rfl,λen hen=>?_,λ_=>rfl⟩,?_⟩
  ·have:=cG.mp e1 en (by simpa using hen)
   split at this
   ·rename_i x t hk;exact⟨x,t,hk⟩
   ·cases this
  ·unfold nsFind findBy
   rw[<-Array.find?_toList]
   rw[Option.isNone_iff_eq_none]at e2
   rw[e2]
   rfl
 ·cases e
theorem mO:∀(k:Nat) (l:List Value),eX K k l=true->K.In h->OwnTail h veM l
  | 0, l, e, X => by
    have:l=veM:=by simpa [eX]using e
    rw[this];exact .base
  | k + 1, [], e, X => by
    have:([]:List Value)=veM:=by simpa [eX]using e
    rw[this];exact .base
  | k + 1, v :: r, e, X => by
    cases v with
    | ref A =>
      unfold eX at e
      split at e
      . rename_i c d cd sl q
        obtain⟨e1,e2⟩:=fK.mp e
        obtain⟨m,hm,hn⟩:=pT e1 X
        exact .own (X _ _ q) hm hn (mO k r e2 X)
      . cases e
    | none => have : Value.none :: r = veM := by simpa [eX] using e
              cases this
    | bool b => have : Value.bool b :: r = veM := by simpa [eX] using e
                cases this
    | int i t => have : Value.int i t :: r = veM := by simpa [eX] using e
                 cases this
    | str x t => have : Value.str x t :: r = veM := by simpa [eX] using e
                 cases this
    | bytes x t => have : Value.bytes x t :: r = veM := by simpa [eX] using e
                   cases this
    | float x t => have : Value.float x t :: r = veM := by simpa [eX] using e
                   cases this
    | builtin x => have : Value.builtin x :: r = veM := by simpa [eX] using e
                   cases this
    | type T => have : Value.type T :: r = veM := by simpa [eX] using e
                rw[this];exact .base
    |_=>first | (simp[eX]at e;done) | (exfalso;revert e;simp[eX])
theorem n0{C:Addr}{x:Str}{mg:lG}(e:aDb K C=true)(hm:mg x=some (.ref C))(X:K.In h):PyProof.Rows.OwnCls x C veM "ValueError.__new__" mg h:=by
 unfold aDb at e
 split at e
 ·rename_i dd cd sl q
  obtain⟨e1,_⟩:=fK.mp e
  split at e1
  ·rename_i C' tl Ew
   simp only[cB,beq_iff_eq]at e1
   obtain⟨⟨⟨⟨⟨rfl,h2⟩,h3⟩,h4⟩,h5⟩,h6⟩:=e1
   obtain⟨m,Cg,hni⟩:=pT h5 X
   have hsl:sl = #[sl.getD 0 none,sl.getD 1 none,sl.getD 2 none,sl.getD 3 none,some (.builtin "ValueError.__new__"),sl.getD 5 none]:=by
    apply Array.ext_getElem?
    intro i
    match i with
    | 0=>simp[h3]
    | 1=>simp[h3]
    | 2=>simp[h3]
    | 3=>simp[h3]
    | 4=>simp[h4]
    | 5=>simp[h3]
    |i+6=>rw[Array.getElem?_eq_none (by rw[h3];lia),Array.getElem?_eq_none (by simp)]
   refine⟨hm,tl,cd.ns,cd.name,cd.qualname,cd.bases,cd.hasDict,cd.slotNames,cd.subclasses,cd.abstract,cd.collection,dd,sl.getD 0 none,sl.getD 1 none,sl.getD 2 none,sl.getD 3 none,sl.getD 5 none,m,?_,Cg,hni,mO 4 tl h6 X⟩
   have:=X _ _ q
   rw[this]
   obtain⟨nm,bs,mro,ns,qn,hd,sn,sub,ab,col,hdel⟩:=cd
   dsimp only at Ew h2 ⊢
   subst Ew h2
   unfold excClassObj
   rw[<-hsl]
  ·cases e1
 ·cases e
end
end Lf
namespace L2
open PySem PySem.Spec PySem.SeqAt PySem.AutoSeq1 PySem.MeetsSeq PyProof.Rows
end L2
namespace L2
open PySem PySem.Spec PySem.SeqAt PyProof.Rows
end L2
namespace Lf
open PySem L2
open PySem.W (Frag nsIn)
structure ClsX(K:Frag)(mg:lG)(n:Str)(C:Addr):Prop where
 at':aPy K n=some C
 m:mg n=some (.ref C)
 ok:aDb K C=true
theorem ClsX.own{K:Frag}{mg:lG}{n:Str}{C:Addr}{base:Heap}(x:ClsX K mg n C)(X:K.In base):PyProof.Rows.OwnCls n C veM "ValueError.__new__" mg base:=n0 x.ok x.m X
def aNk(t:XT):XT:=λρ Q=>t ρ λs ρ'=>match s.d with
 | .int i=>Q (.tr (.int (-i))) ρ'
 |_=>False
theorem aIs{e:Expr}{t:XT}{pos:Pos}(h:XE X Ex e t):XE X Ex (.UnaryOp .USub e pos) (aNk t):=λF=>(tW mM (h F)).weak λσ H Q=>by
 rintro⟨ρ,fr,Qx,E,t,k⟩
 refine⟨ρ,fr,_,E,t,λv s H' ρ' E' q=>?_⟩
 split at q
 ·rename_i i hi
  obtain⟨R,hx⟩:=E'.one
  rw[hi]at hx
  cases hx.int_eq
  exact⟨i,rfl,k _ _ H' ρ' (EOk.back E'.len (R.add (IsX.of_int _))) q⟩
 ·exact q.elim
def rows:List Dx->List V->List Rw
 |d::ds,v::vs=>(.v (.tr d),some v)::rows ds vs
 |_,_=>[]
end Lf
namespace L2
open PySem PySem.Spec PyProof.Rows
end L2
namespace Lf
open PySem L2
theorem he_{G K:XS}{ρ:En}{D:XD}(M:En->Prop)(h1:∀ρ',M ρ'->K ρ' D)(h2:∀nx:En->Prop,(∀ρ',M ρ'->nx ρ')->G ρ { D with nx:=nx }):dM G K ρ D:=h2 _ h1
end Lf
namespace L2
open PySem PySem.Spec PyProof.Rows
end L2
namespace Lf
open PySem L2
def xD1(tk tv:XT):XT:=λρ Q=>tk ρ λa ρ1=>tv ρ1 λb ρ2=>match iZ a.d with
 |some kk=>kk.odd=false/\Q (.tr (.dic [(kk,b.d)])) ρ2
 |none=>False
section
variable{k v:Expr}{tk tv:XT}{pos:Pos}
theorem aNi(hk:XE X Ex k tk)(hv:XE X Ex v tv):XE X Ex (.Dict [some k] [v] pos) (xD1 tk tv):=λF=>(aFh (aAq (hk F) (hv F) aFa) rfl rfl (by simp) (by simp)).weak λσ H Q=>by
 rintro⟨ρ,fr,Qx,E,t,kk⟩
 intro p hp
 have E1:EOk F ρ σ ((.v (.od []),some (.ref p))::fr) (upd H p (.dK [])):=EOk.back E.len (E.rep.newD hp All2.nil)
 refine⟨ρ,_,_,E1,t,λx s H1 ρ1 E2 t1=>⟨ρ1,_,_,E2,t1,λy s2 H2 ρ2 E3 t2=>?_⟩⟩
 obtain⟨R,h1,h2⟩:=E3.two
 have R':=R.perm lB
 obtain⟨p',ws,e,h5,h7⟩:=R'.atD
 cases e
 cases(show ws=[]from h7)
 split at t2
 ·rename_i key A3
  obtain⟨rfl,kt⟩:=gg_ h1 A3
  refine⟨h5,[(key,y)],rfl,by show(key.odd||false)=false;rw[t2.1];rfl,by simp,?_⟩
  have hO:(bM (ρ2.zip σ++(.v (.od []),some (V.ref p))::fr)).Perm (p::bM (ρ2.zip σ++fr)):=by
   have:=(lB (x:=(Sl.v (.od []),some (V.ref p))) (A:=ρ2.zip σ) (B:=fr)).flatMap_right gS
   rw[<-kC (r:=(Sl.v (.od []),some (V.ref p))) (a:=p) rfl]
   exact this
  have R2:Rep F ((.v (.od [(key,s2.d)]),some (.ref p))::(ρ2.zip σ++fr)) (upd H2 p (.dK [(key,y)])):=R'.putD ⟨_,_,rfl,⟨rfl,h2.to (kZ λa ha=>hO.mem_iff.mpr ha),(SameF.of (kZ λa ha=>hO.mem_iff.mpr ha)).keyT kt⟩,rfl⟩
  exact kk _ _ _ ρ2 (EOk.back E3.len R2.frz) t2.2
 ·exact t2.elim
end
def nst:Expr->Bool
 | .Starred _ _=>false
 |_=>true
theorem pN{e:Expr}{es:List Expr}{env:Env}(h:nst e=true):starEach (e::es) env=(false,eval e env)::starEach es env:=by
 cases e<;>first | rfl | cases h
theorem u7{e:Expr}{es:List Expr}{t:XT}{u:XA}(h:XE X Ex e t)(h':XAs X Ex es u)(hn:nst e=true:=by rfl):XAs X Ex (e::es) (bS t u):=bK h h' (pN hn)
structure Bx(p:Prop):Prop where
 out:p
section
variable{a b c e o k v l:Expr}{es:List Expr}{t ta tb te tk tv:XT}{u:XA}{pos p p2:Pos}{x:Str}{i j:Nat}
theorem qH{i:Int}{j:Nat}:Bx (XE X Ex (.Constant (.int i) j pos) (xC (.int i))):=⟨cY⟩
theorem vP{b:Bool}{j:Nat}:Bx (XE X Ex (.Constant (.bool b) j pos) (xC (.bl b))):=⟨qF⟩
theorem xR{j:Nat}:Bx (XE X Ex (.Constant .none j pos) (xC .non)):=⟨qU⟩
theorem oK{x:Str}{j:Nat}:Bx (XE X Ex (.Constant (.str x) j pos) (xC (.str x))):=⟨lD⟩
theorem gJ(h:PE X (.Name x pos) (fQ i)):Bx (XE X Ex (.Name x pos) (cP i)):=⟨bL h⟩
theorem xS(h:Bx (XE X Ex e t)):Bx (XE X Ex (.UnaryOp .USub e pos) (aNk t)):=⟨aIs h.out⟩
theorem m6{j:Nat}(h:Bx (XAs X Ex es u)):Bx (XE X Ex (.Tuple es j pos) (u8 u)):=⟨fi_ h.out⟩
theorem es_(h:Bx (XAs X Ex es u)):Bx (XE X Ex (.List es pos) (iP u)):=⟨kG h.out⟩
theorem d8:Bx (XE X Ex (.Dict [] [] pos) v0):=⟨gd_⟩
theorem go_(ha:Bx (XE X Ex a ta))(hb:Bx (XE X Ex b tb)):Bx (XE X Ex (.BinOp a .Add b pos) (xOp oN ta tb)):=⟨iS ha.out hb.out⟩
theorem aMj(ha:Bx (XE X Ex a ta))(hb:Bx (XE X Ex b tb)):Bx (XE X Ex (.BinOp a .Mult b pos) (xOp aFy ta tb)):=⟨s9 ha.out hb.out⟩
theorem iT(K:dQ)(ha:Bx (XE X Ex a ta))(hb:Bx (XE X Ex b tb))(hs:kD b)(h:X.K=K:=by rfl):Bx (XE X Ex (.Subscript a b pos) (xOp ixX ta tb)):=⟨sU K ha.out hb.out hs h⟩
variable{lo hi:Option Expr}{tl th:XO}
theorem iN:Bx (XAs X Ex [] dF):=⟨cI⟩
theorem eK(h:Bx (XE X Ex e t))(h':Bx (XAs X Ex es u))(hn:nst e=true:=by rfl):Bx (XAs X Ex (e::es) (bS t u)):=⟨u7 h.out h'.out hn⟩
def wM:List Expr->Bool
 | []=>true
 |e::es=>nst e&&wM es
theorem tM{env:Env}:∀{es:List Expr},wM es=true->(backTo pos (starEach es env)).any (·.1)=false
 | [],_=>rfl
 |e::es,h=>by
  simp only[wM,cB]at h
  rw[pN h.1]
  exact tM h.2
theorem fz_{ps:List Str}{g:GB}(C:Cal X.prog X.w X.K X.mg X.base j x ps (spB g))(hr:Room j X.A)(hv:PE X e (fQ i))(ha:Bx (XAs X Ex es u))(hg:Gl X x:=by rfl)(Bn:(x == ("__debug__" : Str))=false:=by decide)(he:nst e=true:=by rfl)(D4:wM es=true:=by rfl):Bx (XE X Ex (.Call (.Name x p) (e::es) [] pos) (fY g i u)):=⟨gW C hr hv ha.out hg Bn (pN he) (tM D4)⟩
theorem vO{id:String}{r:List V->Hp->VK->Prop}{g:GC}(hc:CallR X (.builtin id) r)(hx:fU r g)(hg:Gl X x)(hm:X.mg x=none)(hv:bootBuiltins x=some (.builtin id))(ha:Bx (XAs X Ex (e::es) u))(hn:x ≠ "__name__":=by decide)(Bn:(x == ("__debug__" : Str))=false:=by decide)(he:nst e=true:=by rfl)(D4:wM es=true:=by rfl):Bx (XE X Ex (.Call (.Name x p) (e::es) [] pos) (cW g u)):=⟨kB hc hx hg hm hv ha.out hn Bn (pN he) (tM D4)⟩
theorem qO{T:String}{r:List V->Hp->VK->Prop}{g:GC}(hc:CallR X (.type T) r)(hx:fU r g)(hg:Gl X x)(hm:X.mg x=none)(hv:bootBuiltins x=some (.type T))(ha:Bx (XAs X Ex (e::es) u))(hn:x ≠ "__name__":=by decide)(Bn:(x == ("__debug__" : Str))=false:=by decide)(he:nst e=true:=by rfl)(D4:wM es=true:=by rfl):Bx (XE X Ex (.Call (.Name x p) (e::es) [] pos) (cW g u)):=⟨cy_ hc hx hg hm hv ha.out hn Bn (pN he) (tM D4)⟩
variable{r:R2}{g:G2}{op:CmpOp}{tc uc:XC}{rest:List Expr}
theorem xO(ho:OpR X (compareOp op) r)(hx:OpX r g)(ha:Bx (XE X Ex a ta))(hb:Bx (XE X Ex b tb))(hm:behindInMarks op b=false):Bx (XTe X Ex (.Compare a [op] [b] pos) (xB (xOp g ta tb))):=⟨iA ho hx ha.out hb.out hm⟩
variable{st:Stmt}{sts as bs:List Stmt}{G K:XS}
theorem kR{pos':Pos}(hN:X.N.Nodup)(hi:X.N[i]? = some x)(hx:Loc X.env.scope x)(he:Bx (XE X Ex e t))(hs:swapsWith e (some (.Name x pos')) pos.line X.env=pure false:=by rfl)(hf:X.fn x=true\/X.env.scope.names.lookup x=some .local:=by first | exact .inl rfl | exact .inr rfl | assumption):Bx (XSt X Ex (.Assign [.Name x pos'] e pos) (gF i t)):=⟨ak_ λF=>sW hN hi hx (XE.at (Ex:=Ex) F he.out) hs hf⟩
theorem aMg{tg:Expr}{n:Nat}{g:TG}{gx:XG}(A5:GX n g gx)(he:Bx (XE X Ex e t))(hg:PG X tg g)(hs:swapsWithSole [tg] e pos.line X.env=pure false:=by rfl)(hw:swappedStores [tg] e X.env=pure none:=by rfl)(h1:(assignEach [tg] X.env).map (·.2)=[assign tg X.env]:=by rfl):Bx (XSt X Ex (.Assign [tg] e pos) (aIw t gx)):=⟨qT A5 λF=>hk_ (XE.at (Ex:=Ex) F he.out) hg hs hw h1⟩
theorem aDi(hc:Bx (XTe X Ex c tc))(ha:Bx (XSs X Ex as G))(hb:Bx (XSs X Ex bs K)):Bx (XSt X Ex (.If c as bs pos) (xIf tc G K)):=⟨fX hc.out ha.out hb.out⟩
theorem sS(he:Bx (XE X Ex e t)):Bx (XSt X Ex (.Return (some e) pos) (gG t)):=⟨fB he.out⟩
theorem sR:Bx (XSs X Ex [] eF):=⟨gT⟩
theorem dv_(h:Bx (XSt X Ex st G)):Bx (XSs X Ex [st] G):=⟨eI h.out⟩
theorem qP(h:Bx (XSt X Ex st G))(h':Bx (XSs X Ex sts K)):Bx (XSs X Ex (st::sts) (dM G K)):=⟨eB h.out h'.out⟩
end
theorem aPl{x:Str}{st:Stmt}{f:Addr}{fd:FuncData}{N ps:List Str}{k:Nat}{g:GB}(Fn:Fun K x x st f fd)(S:FnScope N ps (aR st))(Ad:∀l ds Q,g l ds Q->ds.length+1=ps.length)(hN:ps.length<=N.length)
  (A6:∀ (Af:Value) (A:Around) (outer:List Env) (s:Shared) (H:Hp) (E:XK),Room k (A.deeper (PyProof.Rows.envOfC x (aR st) s.heap.objs.size f Af)) →
   ∃G,Bx (XSs (oZ CX0 P w K mg base N x (aR st) f Af A outer s H E).nox dZ (fW st) G)/\∀l ds Q,g l ds Q->G (dD N l ds) (iD Q)):FnOk P w K mg base CX0 (k+1) f fd ps (spB g):=
 l_ Fn S Ad hN λAf A outer s H E hr=>let ⟨G,b,q⟩:=A6 Af A outer s H E hr;⟨G,b.out,q⟩
theorem i8{X:Cx}:OpR X (compareOp .IsNot) (λx y H Q=>∃b c,x=.bl b/\y=.bl c/\Q (.bl (!decide (b=c))) H):=by
 intro Aa s σ H x y v u Q I rx ry h
 obtain⟨b,c,rfl,rfl,q⟩:=h
 cases rx
 cases ry
 have e:compareOp .IsNot (.bool b) (.bool c)=pure (.bool (!decide (b=c))):=by cases b<;>cases c<;>rfl
 rw[e]
 exact wpAny_pure ⟨.bl _,H,I,rfl,q⟩
def aLe(neg:Bool):G2
 | .bl b,.bl c,Q=>Q (.tr (.bl (if neg then !decide (b=c)else decide (b=c))))
 |_,_,_=>False
theorem i5:OpX (λx y H Q=>∃b c,x=.bl b/\y=.bl c/\Q (.bl (!decide (b=c))) H) (aLe true):=by
 intro F P H a b x y Q Qx R ha hb g k
 unfold aLe at g
 split at g
 ·cases ha.bl_eq
  cases hb.bl_eq
  exact⟨_,_,rfl,rfl,k _ _ H (R.add (IsX.of_bl _)) g⟩
 ·exact g.elim
end Lf
namespace L2
open PySem PySem.Spec PySem.SeqAt PySem.AutoSeq1 PySem.MeetsSeq PyProof.Rows
def isNone:Value->Bool
 | .none=>true
 |_=>false
end L2
namespace Lf
open PySem L2
end Lf
namespace L2
open PySem PySem.Spec PySem.SeqAt PyProof.Rows
end L2
namespace Lf
open PySem L2
end Lf
namespace L2
open PySem PySem.Spec PyProof.Rows
end L2
namespace Lf
open PySem L2
end Lf
namespace L2
open PySem PySem.Spec PyProof.Rows Builtin Builtin.Str
end L2
namespace Lf
open PySem L2
theorem tK{G:Hp}:∀(ys:List Str),All2 (IsX G) (ys.map Dx.str) (ys.map V.str)
 | []=>rfl
 |x::xs=>⟨_,_,rfl,IsX.of_str _,tK xs⟩
theorem strsAre_of:∀{ks:List Str} {us:List Value},Vals (ks.map V.str) us->PyProof.Rows.StrsAre us ks
 | [],us,h=>by cases h;exact .nil
 |k::ks,us,h=>by
  cases h with
  |cons r t =>
   obtain⟨tk,rfl⟩:=r
   exact .cons k tk (strsAre_of t)
theorem pG:∀{us:List Value} {ks:List Str},PyProof.Rows.StrsAre us ks->Vals (ks.map V.str) us
 |_,_,.nil=>.nil
 |_,_,.cons y t h=>.cons ⟨t,rfl⟩ (pG h)
section
variable{X:Cx}{Ex:ExT}
def aAf:List V->Hp->VK->Prop:=λxs H Q=>∃a kvs ks,xs=[V.ref a]/\Rd H a (.dK kvs)/\(kvs.map (·.1)=ks.map Key.inr)/\ks.length<64/\∀ss:List Str,ss.Perm ks->PyProof.Rows.sortedS ss=true->∀l,H l=none->Q (.ref l) (upd H l (.lst (ss.map V.str)))
theorem sN(hc:X.calm=true):CallR X (.builtin "sorted") aAf:=by
 intro Aa s σ H xs us Q I r h
 obtain⟨a,kvs,ks,rfl,ha,D0,Hx,q⟩:=h
 obtain⟨u,rfl,rx⟩:=iG r
 cases rx
 obtain⟨z,hd,vs,rel,dd⟩:=vB I.hok ha (by
  unfold dJ
  rw[show(kvs.any λkv=>kv.1.odd)=(kvs.map (·.1)).any Key.odd by rw[List.any_map];rfl,D0,List.any_map]
  exact fG.mpr λ_ _=>by simp[Key.odd])
 obtain⟨o,es,ep,h1,h2,h3,h4⟩:=dd
 have hl:kvs.length=vs.length:=rel.length
 have hkl:kvs.length=ks.length:=by have:=congrArg List.length D0;rwa [aD,aD]at this
 refine Calls.call_function_entry PyProof.Rows.kind_sorted PyProof.Rows.plain_sorted PyProof.Rows.entry_sorted (PyProof.Rows.args_sorted1 _) ?_
 unfold Builtin.«sorted»
 refine wpAny_bind (m:=checkCount "sorted" 1 1 _) (wpAny_pure ?_)
 refine wpAny_bind (PySem.W.kdu_collect (A:=X.A.in1) (PySem.W.kdl_dict (knd:=cT X.prog X.w) (kvs:=vs) (ep:=ep) hd) (I.ok.hd hc) ⟨o,es,h1,h2,h3,h4⟩ (by lia) λh' tk Ab hk Bg=>?_)
 have hv:Vals (ks.map V.str) Ab.toList:=by
  refine qV (by have h5:=Bg.1;have h6:=Array.length_toList (xs:=Ab);rw[aD];lia) λi x u e1 e2=>?_
  rw[Array.getElem?_toList]at e2
  obtain⟨k,y,e3,e4⟩:=Bg.2 i u e2
  rw[bP]at e1
  obtain⟨kx,e5,rfl⟩:=cJ.mp e1
  have e6:(kvs.map (·.1))[i]? = some (Key.inr kx):=by rw[D0,bP,e5];rfl
  rw[bP]at e6
  obtain⟨kv,e7,e8⟩:=cJ.mp e6
  obtain⟨v',e9⟩:=rel.at' e7
  rw[e3]at e9
  cases e9
  have:=aOs e4
  rw[e8]at this
  exact this
 have hS:=strsAre_of hv
 have D7:Ab.toList.length=ks.length:=by rw[Array.length_toList,Bg.1];lia
 refine wpAny_bind (wpAny_newList ?_ (by rw[D7,sizeLine_eq];lia))
 have Eu:(h'.push (PyProof.Rows.seqObj "list" Ab.toList.toArray 0)).get? h'.objs.size=some (PyProof.Rows.seqObj "list" Ab.toList.toArray 0):=aU _ rfl
 show wpAny _ _ _ _ _ { s with heap:=h'.push (PyProof.Rows.seqObj "list" Ab.toList.toArray 0),toks:=tk }
 refine wpAny_bind (wpAny_holding (wpAny_call_entry PyProof.Rows.slot_list_sort ⟨_,Eu,rfl⟩ PyProof.Rows.entry_list_sort (PyProof.Rows.list_sort_treeK PyProof.Rows.strKind_oneLt Eu hS.keysOf (λv₁ v₂ rest e=>PyProof.Rows.keyKind_strs (by rw[<-e];exact hS)) (by rw[D7];exact Hx) λst' a1 a2=>⟨_,rfl,?_⟩) (PyProof.Rows.args_list_sort _)))
 obtain⟨ss,b1,b2,b3⟩:=PyProof.Rows.sorted_out_str hS a1 a2
 obtain⟨e,he⟩:=PyProof.Rows.sortedHeap_at (out:=(PyProof.Rows.arrOf st').map (·.2)) Eu
 have E5:∀b ob,h'.get? b=some ob->(PyProof.Rows.sortedHeap (h'.push (PyProof.Rows.seqObj "list" Ab.toList.toArray 0)) h'.objs.size Ab.toList ((PyProof.Rows.arrOf st').map (·.2))).get? b=some ob:=λb ob hb=>by
  have Av:=aQ hb
  rw[PyProof.Rows.sortedHeap_old (cD Av) (by rw[PyProof.Rows.size_push'];exact Nat.lt_succ_of_lt Av),Heap.get?_push_ne _ _ _ (cD Av)]
  exact hb
 refine wpAny_pure ⟨_,rfl,.ref h'.objs.size,_,(I.kept (t':=tk) hk).laid (t':=tk) E5 (aK _) (show ObjOk X.prog X.w _ _ _ (.lst (ss.map V.str))from⟨by rw[aD,b2.length_eq,sizeLine_eq];lia,_,e,pG b1,by rw[Array.toArray_toList];exact he⟩),rfl,q ss b2 b3 _ ((I.kept (t':=tk) hk).hok.fresh (aK _))⟩
def oU(n:Int):Str:=Str.ofString (toString n)
theorem qI:CallR X (.type "str") (λxs H Q=>∃n:Int,xs=[.int n]/\0<=n/\n<18446744073709551616/\Q (.str (oU n)) H):=by
 intro Aa s σ H xs us Q I r h
 obtain⟨n,rfl,h0,h1,q⟩:=h
 obtain⟨u,rfl,rx⟩:=iG r
 obtain⟨t,rfl⟩:=rx
 exact P.str_of_int (PyProof.Rows.shown_abs (N:=18446744073709551616) (by rw[if_neg (by lia)];exact h1) (by decide +kernel)) ⟨.str (oU n),H,I.tok _,⟨_,rfl⟩,q⟩
end
def iB(l:List (Key×Dx))(k:Key):List (Key×Dx):=l.filter λp=>decide (p.1≠k)
theorem uZ{G:Hp}{k:Key}:∀{l:List (Key×Dx)} {ws:List (Key×V)},All2 (KvX G) l ws->All2 (KvX G) (iB l k) (nV ws k)
 | [],ws,h=>by rw[show ws=[]from h];rfl
 |p::l,_,⟨w,wr,e,h1,h2⟩=>by
  rw[e]
  have ih:=uZ (k:=k) h2
  unfold iB nV at ih ⊢
  by_cases hk:p.1=k
  ·have A3:w.1=k:=h1.1 ▸ hk
   rw[List.filter_cons_of_neg (by simp[hk]),List.filter_cons_of_neg (by simp[A3])]
   exact ih
  ·have A3:¬ w.1=k:=h1.1 ▸ hk
   rw[List.filter_cons_of_pos (by simp[hk]),List.filter_cons_of_pos (by simp[A3])]
   exact⟨w,_,rfl,h1,ih⟩
def u_(i:Nat)(t:XT):XT:=λρ Q=>(∃l,ρ[i]? = some (.v (.od l)))/\t ρ λk ρ'=>match ρ'[i]?,iZ k.d with
 |some (.v (.od l)),some kk=>kk.odd=false/\(l.any λp=>p.1.odd)=false/\(match eE l kk with | some d=>Q (.tr d) (ρ'.set i (.v (.od (iB l kk)))) | none=>False)
 |_,_=>False
section
variable{F:Fm}{i:Nat}{t tk tv:XT}{x:Str}{e:Expr}{p apos cpos:Pos}
theorem aEn:∀σ H Q,tX F (u_ i t) σ H Q->x6 (fQ i) (tX F t) σ H Q:=by
 rintro σ H Q ⟨ρ,fr,Qx,E,q,k⟩
 obtain⟨⟨l0,h0⟩,q⟩:=q
 obtain⟨p,ws,hv,hp,_⟩:=dt_ E h0
 refine⟨.ref p,hv,p,rfl,⟨ws,.inl hp⟩,ρ,fr,_,E,q,λy s H2 ρ2 E2 q2=>?_⟩
 split at q2
 ·rename_i l key hb hk
  obtain⟨R,hs⟩:=E2.one
  obtain⟨p',ws',Bf,Bt,Cq,B7⟩:=dt_ E2.drop hb
  rw[hv]at Bf
  cases Bf
  obtain⟨rfl,kt⟩:=gg_ hs hk
  obtain⟨o1,o2,q2⟩:=q2
  rcases fs_ (k:=key) Cq with⟨z,_⟩ | ⟨d',v,z1,z2,z3⟩
  ·rw[z]at q2;exact q2.elim
  ·rw [z1] at q2
   have E3:EOk F ρ2 σ ((vT d',some v)::fr) H2:=EOk.back E2.drop.len (E2.drop.rep.add z3)
   obtain⟨p3,ws3,Ik,Im,G6,Er⟩:=dt_ E3 hb
   rw[hv]at Ik
   cases Ik
   rw[Bt]at Im
   cases Im
   exact⟨ws',key,v,Bt,by rw[<-aBg Cq];exact o2,o1,rfl,z2,k _ _ _ _ (Er _ _ (uZ G6)) q2⟩
 ·exact q2.elim
theorem xZ(hv:PE X (.Name x p) (fQ i))(he:XE X Ex e t)(m:M1 X (.Name x p) "pop" apos e cpos):XE X Ex (.Call (.Attribute (.Name x p) "pop" apos) [e] [] cpos) (u_ i t):=λF=>(aAt hv (he F) m).weak aEn
def dpT(o:Option Sl)(e s:Dx)(R:List (Key×Dx)->Prop):Prop:=match o,e with
 |some (.v (.od l)),.tup [.str x]=>l.length<1000000/\∀b,mS (.ref b x) l=true/\R (gR l (.ref b x) s)
 |some (.v (.od l)),d=>(match iZ d with
  |some key=>l.length<1000000/\mS key l=true/\R (gR l key s)
  |none=>False)
 |_,_=>False
def vW(i:Nat)(tk tv:XT):XS:=λρ D=>tv ρ λs ρ1=>(∃l,ρ1[i]? = some (.v (.od l)))/\tk ρ1 λk ρ2=>dpT ρ2[i]? k.d s.d λl=>D.nx (ρ2.set i (.v (.od l)))
theorem tH:∀D σ H,tXS F (vW i tk tv) D σ H->y_ (fQ i) (tX F tk) (tX F tv) D σ H:=by
 rintro D σ H ⟨ρ,fr,d,E,q,k⟩
 refine⟨ρ,fr,_,E,q,λy s H' ρ' E' q'=>?_⟩
 obtain⟨⟨l0,h0⟩,q'⟩:=q'
 obtain⟨p,ws,hv,hp,_⟩:=dt_ E' h0
 refine⟨.ref p,hv,ρ',_,_,E',q',λz s2 H2 ρ2 E2 q2=>?_⟩
 obtain⟨R,C5,Bp⟩:=E2.two
 unfold dpT at q2
 split at q2
 ·rename_i l x hb hd
  rw[hd]at Bp
  obtain⟨b,vs,rfl,h1,h2⟩:=Bp.tup_eq
  obtain⟨v,vr,rfl,h3,h4⟩:=h2
  cases(show vr=[]from h4)
  cases h3.str_eq
  obtain⟨p',ws',Bf,Bt,hl,B7⟩:=dt_ (E2.drop.drop) hb
  rw[hv]at Bf
  cases Bf
  have kt:fL (hid (bM (ρ2.zip σ++fr)) (F.vis H2)) (.ref b x):=h1
  obtain⟨q3,q4⟩:=q2
  obtain⟨q5,q6⟩:=q4 b
  exact⟨p,_,rfl,DPut.k (k:=.ref b x) Bt (by rw[hl.len];have:=gV;lia) (hr_ R kt) hl q5,k.nx σ _ _ rfl (B7 _ _ (mR hl C5 kt)) q6⟩
 ·split at q2
  ·rename_i l d hb _ _ key hk
   obtain⟨p',ws',Bf,Bt,hl,B7⟩:=dt_ (E2.drop.drop) hb
   rw[hv]at Bf
   cases Bf
   obtain⟨rfl,kt⟩:=gg_ Bp hk
   exact⟨p,_,rfl,DPut.k Bt (by rw[hl.len];have:=gV;lia) (hr_ R kt) hl q2.2.1,k.nx σ _ _ rfl (B7 _ _ (mR hl C5 kt)) q2.2.2⟩
  ·exact q2.elim
 ·exact q2.elim
end
def top(i:Nat):Stmt:=PySem.Challenge.pw_laidfields_k17_what_is_a_value.main.body.getD i (.Pass ⟨0,0,0,0⟩)
abbrev ew_:Stmt:=top 1
abbrev ex_:Stmt:=top 4
abbrev cf_:Stmt:=top 5
abbrev bj_:Stmt:=top 6
abbrev bz_:Stmt:=top 7
abbrev ge_:Stmt:=top 9
abbrev ct_:Stmt:=top 10
abbrev co_:Stmt:=top 11
abbrev bu_:Stmt:=top 12
abbrev dm_:Stmt:=top 13
abbrev dh_:Stmt:=top 14
abbrev di_:Stmt:=top 15
abbrev cu_:Stmt:=top 16
abbrev ea_:Stmt:=top 17
abbrev dl_:Stmt:=top 18
abbrev ce_:Stmt:=top 19
abbrev cj_:Stmt:=top 20
abbrev dg_:Stmt:=top 21
abbrev cp_:Stmt:=top 22
abbrev cm_:Stmt:=top 23
abbrev fe_:Stmt:=top 24
abbrev hi_:Stmt:=top 25
theorem tP:FnScope AL AL (aR ew_):=oO (by decide +kernel)
theorem tQ:FnScope AB AB (aR ex_):=oO (by decide +kernel)
theorem hh_:FnScope AJ AJ (aR cf_):=oO (by decide +kernel)
theorem fl_:FnScope AI AI (aR bj_):=oO (by decide +kernel)
theorem fm_:FnScope AO AO (aR bz_):=oO (by decide +kernel)
theorem iJ:FnScope ["script","k","cell"] ["script","k"] (aR ge_):=oO (by decide +kernel)
theorem cU:FnScope ["pool","many","found","step","mark"] AC (aR ct_):=oO (by decide +kernel)
theorem iI:FnScope ["number","m","left"] AQ (aR co_):=oO (by decide +kernel)
theorem cV:FnScope AD ["kind"] (aR bu_):=oO (by decide +kernel)
theorem cM:FnScope AK AC (aR dm_):=oO (by decide +kernel)
theorem dL:FnScope AH AF (aR dh_):=oO (by decide +kernel)
theorem iK:FnScope ["thing","found","key"] AL (aR di_):=oO (by decide +kernel)
theorem tO:FnScope AG AG (aR cu_):=oO (by decide +kernel)
theorem gZ:FnScope ["width","found","k"] AR (aR ea_):=oO (by decide +kernel)
theorem eR:FnScope ["pool","kind","top","found","name","inner","k"] AM (aR dl_):=oO (by decide +kernel)
theorem fR:FnScope ["kind","thing","name","inner"] AB (aR ce_):=oO (by decide +kernel)
theorem cS:FnScope ["pool","kind","value","name","inner","found","key","way","some"] AA (aR cj_):=oO (by decide +kernel)
theorem fE:FnScope ["pool","kind","value","at","rows"] AA (aR dg_):=oO (by decide +kernel)
theorem cN:FnScope ["pool","kind","value","top","some","k","inner","rows"] AA (aR cp_):=oO (by decide +kernel)
theorem gP:FnScope ["value","found","name"] ["value"] (aR cm_):=oO (by decide +kernel)
theorem hR:FnScope ["kind","thing","handed","found"] AB (aR fe_):=oO (by decide +kernel)
theorem fZ:FnScope AE ["script"] (aR hi_):=oO (by decide +kernel)
def PoolAt(p:Addr)(md B:Int)(H:Hp):Prop:=∃c st:Int,H p=some (.lst [.int c,.int md,.int st])/\0<=st/\st<=B
theorem PoolAt.mono{p:Addr}{md B C:Int}{H:Hp}(h:PoolAt p md B H)(hb:B<=C):PoolAt p md C H:=by
 obtain⟨c,st,a,b,d⟩:=h
 exact⟨c,st,a,b,by omega⟩
theorem PoolAt.same{p:Addr}{md B:Int}{H H':Hp}(h:PoolAt p md B H)(e:Same H H'):PoolAt p md B H':=by
 obtain⟨c,st,a,b,d⟩:=h
 exact⟨c,st,e _ _ a,b,d⟩
theorem PoolAt.ne{p l:Addr}{md B:Int}{H:Hp}(h:PoolAt p md B H)(hl:H l=none):l≠p:=by
 obtain⟨c,st,a,b,d⟩:=h
 intro e
 rw[e,a]at hl
 cases hl
def x8:Sp:=λvs H Q _=>∃(p:Addr) (md B many:Int),vs=[.ref p,.int many]/\PoolAt p md B H/\B<2^60/\0<many/\many<2^250 /\
 ∀(r:Int) (H':Hp),0<=r->r<many->SameX p H H'->PoolAt p md (B+1) H'->Q (.int r) H'
section
variable{f g:Addr}{fd gd:FuncData}
theorem aFr(F:Fun K "_law_take" "_law_take" ct_ f fd):FnOk P w K mg base CX0 1 f fd AC x8:=by
 refine F.ok cU (λvs H Q E h=>?_) (λAf A outer s H vs Q E hr h=>?_)
 ·obtain ⟨p,md,B,many,rfl,_⟩:=h
  rfl
 obtain⟨p,md,B,many,rfl,⟨c,st,hp,h0,h1⟩,hB,h2,h3,q⟩:=h
 refine⟨_,pB (yQ (gf_ yV (uY s_ (pv 0) iC (λ_ _=>rfl)) iC (bQ _))
   (pB (sW (i:=2) cU.nd rfl (Or.inl rfl) (kX kJ (uY s_ (pv 0) iC (λ_ _=>rfl)) (pv 1)))
   (pB (hk_ (kX nB (uY s_ (pv 0) iC (λ_ _=>rfl)) (pv 1)) (rJ (pv 0) iC gr_))
   (em_ (rG (pv 2))))) lM)
  (pB (hk_ (kX hX (uY s_ (pv 0) iC (λ_ _=>rfl)) iC) (rJ (pv 0) iC gr_))
  (pB (sW (i:=3) cU.nd rfl (Or.inl rfl) (uY s_ (pv 0) iC (λ_ _=>rfl)))
  (pB (sW (i:=4) cU.nd rfl (Or.inl rfl) (kX hU (kX hX (kX kJ (uY s_ (pv 0) iC (λ_ _=>rfl)) iC) iC) (kX hX (kX hU iC (pv 3)) iC)))
  (pB (sW (i:=4) cU.nd rfl (Or.inl rfl) (kX hX (pv 4) (kX hU (kX hU iC (pv 3)) (pv 3))))
  (pB (sW (i:=4) cU.nd rfl (Or.inl rfl) (kX kJ (kX hU (pv 4) (pv 4)) iC))
  (em_ (rG (kX kJ (kX nB (kX kJ (kX hU (pv 4) (kX hX (pv 4) iC)) iC) iC) (pv 1))))))))),?_⟩
 refine⟨_,rfl,p,_,_,_,rfl,rfl,SqL.of hp,rfl,rfl,_,rfl,?_⟩
 refine lC (λe=>?_) (λe=>?_)
 ·refine ⟨_,rfl,p,_,_,_,rfl,rfl,SqL.of hp,rfl,_,rfl,_,_,rfl,rfl,h2,?_⟩
  refine⟨_,rfl,p,_,_,_,rfl,rfl,SqL.of hp,rfl,_,rfl,_,_,rfl,rfl,⟨h2,h3⟩,_,rfl,p,_,_,_,rfl,rfl,hp,rfl,?_⟩
  refine⟨_,rfl,?_⟩
  exact q (c%many) _ (dH _ (by omega)) (cQ _ h2) (SameX.upd _ _ _) ⟨c/many,st,bU,h0,by omega⟩
 ·refine ⟨_,rfl,p,_,_,_,rfl,rfl,SqL.of hp,rfl,_,_,rfl,rfl,_,rfl,p,_,_,_,rfl,rfl,hp,rfl,?_⟩
  have a0:(0:Int)<=c%9999999619:=dH _ (by decide)
  have a1:c%9999999619<9999999619:=cQ _ (by decide)
  have Gn:(upd H p (HO.lst [V.int c,V.int md,V.int (st+1)])) p=some (.lst [V.int c,V.int md,V.int (st+1)]):=bU
  refine⟨_,rfl,p,_,_,_,rfl,rfl,SqL.of Gn,rfl,?_⟩
  refine⟨_,rfl,p,_,_,_,rfl,rfl,SqL.of Gn,rfl,_,_,rfl,rfl,(by show(0:Int)<9999999619;decide),_,_,rfl,rfl,_,rfl,_,_,rfl,rfl,⟨by decide,by omega⟩,_,_,rfl,rfl,_,_,rfl,rfl,⟨by omega,by omega⟩,?_⟩
  have m1:0<=(c%9999999619+983)*(23*(st+1)+53):=gM (by omega) (by omega)
  have m2:(c%9999999619+983)*(23*(st+1)+53)<=10000000602*(23*(st+1)+53):=cR (by omega) (by omega)
  have m3:0<=3491*(st+1)*(st+1):=gM (by omega) (by omega)
  have m4:3491*(st+1)*(st+1)<=3491*(st+1)*2^61:=eY (by omega) (by omega)
  refine⟨_,rfl,_,rfl,_,_,rfl,rfl,⟨by decide,by omega⟩,_,rfl,_,_,rfl,rfl,⟨by omega,by omega⟩,_,_,rfl,rfl,?_⟩
  generalize (c%9999999619+983)*(23*(st+1)+53)=A1 at m1 m2 ⊢
  generalize 3491*(st+1)*(st+1)=A2 at m3 m4 ⊢
  refine⟨_,rfl,_,rfl,_,_,rfl,rfl,⟨by omega,by omega⟩,_,_,rfl,rfl,(by show(0:Int)<99999999659;decide),?_⟩
  have b0:(0:Int)<=(A1+A2)*(A1+A2)%99999999659:=dH _ (by decide)
  have b1:(A1+A2)*(A1+A2)%99999999659<99999999659:=cQ _ (by decide)
  generalize (A1+A2)*(A1+A2)%99999999659=B2 at b0 b1 ⊢
  refine⟨_,rfl,_,rfl,_,_,rfl,rfl,_,_,rfl,rfl,⟨by omega,by omega⟩,_,_,rfl,rfl,(by show(0:Int)<99999999929;decide),_,_,rfl,rfl,⟨by decide,by decide⟩,_,rfl,_,_,rfl,rfl,h2,?_⟩
  exact q _ _ (dH _ (by omega)) (cQ _ h2) (SameX.upd _ _ _) ⟨c,st+1,bU,by omega,by omega⟩
end
def dA(x:Str):List Nat:=x.cps.toList
theorem xQ(x:Str):x.length=(dA x).length:=by simp[dA,Str.length]
theorem fw_(x y:Str):dA (x++y)=dA x++dA y:=by
 show(x.cps++y.cps).toList=_
 rw[Array.toList_append]
 rfl
theorem hx_(c:Nat):dA ⟨#[c]⟩=[c]:=rfl
theorem vI{x:Str}{k:Int}(h0:0<=k)(h1:k<=(dA x).length):dA (Txt.slice x none (some k))=(dA x).take k.toNat:=by
 have e:=beq_iff_eq.mp (PyProof.Rows.slice_closes_toL (x:=x) h0 (by rw[xQ];exact h1))
 rw[e]
 show(((x.cps.toList.drop 0).take (k-0).toNat).toArray).toList=_
 simp[dA]
theorem xJ{x:Str}{k:Int}(h0:0<=k)(h1:k<=(dA x).length):dA (Txt.slice x (some k) none)=(dA x).drop k.toNat:=by
 rw[PyProof.Rows.slice_from_eq (x:=x) (b:=x.length) h0 (by rw[xQ];exact h1) rfl]
 show(((x.cps.toList.drop k.toNat).take ((x.length:Int)-k).toNat).toArray).toList=_
 rw[List.toList_toArray,List.take_of_length_le]
 ·rfl
 ·rw [List.length_drop,xQ]
  show x.cps.toList.length-k.toNat<=(((dA x).length:Int)-k).toNat
  show(dA x).length-k.toNat<=(((dA x).length:Int)-k).toNat
  omega
theorem pX(g:Array Nat)(hg:g = #[]):∀(r:List Str) (Ab:Array Nat),(r.foldl (λAb p=>Ab++g++p.cps) Ab).toList=Ab.toList++(r.map dA).flatten
 | [],Ab=>by simp
 |y::r,Ab=>by
  rw[List.foldl_cons,pX g hg r]
  subst hg
  simp[dA]
theorem xI(ys:List Str):dA (Txt.join (Str.ofString "") ys)=(ys.map dA).flatten:=by
 show((ys.drop 1).foldl (λAb p=>Ab++(Str.ofString "").cps++p.cps) (ys.headD Str.empty).cps).toList=_
 rw[pX _ (by decide)]
 cases ys with
 |nil=>rfl
 |cons y r=>rfl
def Low(l:List Nat):Prop:=∀c∈l,97<=c/\c<=122
def Nm(x:Str):Prop:=1<=(dA x).length/\(dA x).length<=8/\Low (dA x)
abbrev lets:Str:= "abcdefghijklmnopqrstuvwxyz"
theorem wQ:dA lets=(List.range 26).map (97 + ·):=by decide +kernel
theorem lU{r:Int}(h0:0<=r)(h1:r<26):atI lets.cps.toList r=some (97+r.toNat):=by
 have e:((r.toNat:Nat):Int)=r:=by omega
 have q:atI (dA lets) ((r.toNat:Nat):Int)=some (97+r.toNat):=et_ (by
  rw[wQ,bP,List.getElem?_range (by omega)]
  rfl)
 rw[e]at q
 exact q
def oE(t:Nat):Str:=Txt.mul ⟨#[97+t]⟩ 8
theorem gi_(t:Nat):dA (oE t)=List.replicate 8 (97+t):=PyProof.Rows.mul_one_list (97+t) 8
theorem aDe{s t:Nat}(h:oE s=oE t):s=t:=by
 have e:=congrArg dA h
 rw[gi_,gi_]at e
 have e1:(97+s)::List.replicate 7 (97+s)=(97+t)::List.replicate 7 (97+t):=e
 have:=(List.cons.inj e1).1
 omega
theorem aHc{t:Nat}(h:t<26):Nm (oE t):=by
 unfold Nm
 rw[gi_]
 refine⟨by simp,by simp,λc hc=>?_⟩
 have:=(List.mem_replicate.mp hc).2
 omega
theorem aAr{α:Type}[BEq α][LawfulBEq α]:∀(l xs:List α),l.Nodup->(∀a∈l,a∈xs)->l.length<=xs.length
 | [],_,_,_=>dU _
 |a::r,xs,hn,hs=>by
  have ha:=hs a aA
  obtain⟨h1,h2⟩:=cE.mp hn
  have ih:=aAr r (xs.erase a) h2 λb hb=>(List.mem_erase_of_ne (λe=>h1 (by rw[<-e];exact hb))).mpr (hs b (aB _ hb))
  rw[List.length_erase_of_mem ha]at ih
  have:=List.length_pos_of_mem ha
  rw[aI]
  omega
theorem aDd{xs:List Str}{t:Nat}(h:∀j<t,oE j∈xs):t<=xs.length:=by
 have q:=aAr ((List.range t).map oE) xs ?_ ?_
 ·rw [aD,dY] at q
  exact q
 ·refine List.nodup_iff_pairwise_ne.mpr (eM.mpr ?_)
  exact List.Pairwise.imp (λhab e=>hab (aDe e)) (List.nodup_iff_pairwise_ne.mp List.nodup_range)
 ·intro a ha
  obtain⟨j,hj,rfl⟩:=bH.mp ha
  exact h j (gK.mp hj)
theorem uO{x:Str}:∀{xs:List Str},inV (.str x) (xs.map V.str)=true↔x∈xs:=by
 intro xs
 unfold inV
 rw[List.any_map,eC]
 constructor
 ·rintro ⟨y,hy,e⟩
  have e':(y == x)=true:=e
  have:y=x:=by simpa using e'
  rw[<-this]
  exact hy
 ·intro h
  exact⟨x,h,(beq_self_eq_true x:(x == x)=true)⟩
theorem m5{xs:List Str}:(xs.map V.str).all jY=true:=by
 rw[List.all_map,cG]
 intro y _
 rfl
theorem Nm.sz{x:Str}(h:Nm x):x.length<=1000:=by
 have:=h.2.1
 rw[xQ]
 omega
theorem ho_(c:Nat):(⟨#[c]⟩:Str).length=1:=rfl
theorem aFv{st:Str}{r s:Int}(h7:(dA st).length=7)(hl:Low (dA st))(h0:0<=r)(h1:r<8)(h2:0<=s)(h3:s<26) :
  Nm (Txt.slice st none (some r)++⟨#[97+s.toNat]⟩)/\(Txt.slice st none (some r)).length<=7:=by
 have e:=vI (x:=st) h0 (by omega)
 constructor
 ·unfold Nm
  rw[fw_,e,hx_]
  refine⟨by simp,by simp;omega,λc hc=>?_⟩
  rcases bD.mp hc with hc | hc
  ·exact hl c (List.mem_of_mem_take hc)
  ·have:=aH.mp hc
   omega
 ·rw [xQ,e,fO]
  omega
theorem aFu{ys:List Str}(hl:∀y∈ys,∃j:Nat,j<26/\y=⟨#[97+j]⟩)(h1:1<=ys.length)(h8:ys.length<=8):Nm (Txt.join (Str.ofString "") ys):=by
 unfold Nm
 rw[xI]
 have key:∀zs:List Str,(∀y∈zs,∃j:Nat,j<26/\y=⟨#[97+j]⟩)->((zs.map dA).flatten).length=zs.length/\Low (zs.map dA).flatten:=by
  intro zs
  induction zs with
  |nil=>intro _;exact⟨rfl,λc hc=>by simp at hc⟩
  |cons z r ih =>
   intro h
   obtain⟨a,b⟩:=ih λy hy=>h y (aB _ hy)
   obtain⟨j,hj,rfl⟩:=h z aA
   rw[aL,eO,hx_]
   refine⟨by rw[aJ,a];simp;omega,λc hc=>?_⟩
   rcases bD.mp hc with hc | hc
   ·have:=aH.mp hc
    omega
   ·exact b c hc
 obtain⟨a,b⟩:=key ys hl
 exact⟨by omega,by omega,b⟩
theorem aFt{x:Str}{r s:Int}(hx:Nm x)(h0:0<=r)(h1:r<x.length)(h2:0<=s)(h3:s<26) :
  Nm (Txt.slice x none (some r)++⟨#[97+s.toNat]⟩++Txt.slice x (some (r+1)) none)/\(Txt.slice x none (some r)).length<=8/\(Txt.slice x (some (r+1)) none).length<=8:=by
 obtain⟨a,b,c⟩:=hx
 rw[xQ]at h1
 have e:=vI (x:=x) h0 (by omega)
 have e2:=xJ (x:=x) (k:=r+1) (by omega) (by omega)
 refine⟨?_,?_,?_⟩
 ·unfold Nm
  rw[fw_,fw_,e,e2,hx_]
  refine⟨by simp;omega,by simp;omega,λz hz=>?_⟩
  rcases bD.mp hz with hz | hz
  ·rcases bD.mp hz with hz | hz
   ·exact c z (List.mem_of_mem_take hz)
   ·have:=aH.mp hz
    omega
  ·exact c z (List.mem_of_mem_drop hz)
 ·rw [xQ,e,fO]
  omega
 ·rw [xQ,e2,List.length_drop]
  omega
def aQh(st:Str):Prop:=(dA st).length=7/\Low (dA st)
theorem aEp{v:V}(h:v∈[V.str "abcdefg",V.str "placeof",V.str "zyxwvut",V.str "kjqrshn"]):∃st:Str,v=.str st/\aQh st:=by
 have L:∀st:Str,((dA st).length == 7&&(dA st).all λc=>decide (97<=c)&&decide (c<=122))=true->aQh st:=by
  intro st h
  rw[cB,cG]at h
  refine⟨by simpa using h.1,λc hc=>?_⟩
  have:=h.2 c hc
  simpa using this
 simp only[aF,bJ,or_false]at h
 rcases h with rfl | rfl | rfl | rfl
 ·exact⟨_,rfl,L _ (by decide +kernel)⟩
 ·exact⟨_,rfl,L _ (by decide +kernel)⟩
 ·exact⟨_,rfl,L _ (by decide +kernel)⟩
 ·exact⟨_,rfl,L _ (by decide +kernel)⟩
def LnH(H0:Hp)(p l:Addr)(md:Int)(xs:List Str)(B:Int)(H:Hp):Prop:=H l=some (.lst (xs.map V.str))/\SameX p H0 H/\PoolAt p md B H
theorem LnH.take{H0:Hp}{p l:Addr}{md:Int}{xs:List Str}{B C:Int}{H H':Hp}(h:LnH H0 p l md xs B H)(n:l≠p)(e:SameX p H H')(q:PoolAt p md C H'):LnH H0 p l md xs C H':=
 ⟨e.get n h.1,h.2.1.trans e,q⟩
theorem LnH.same{H0:Hp}{p l:Addr}{md:Int}{xs:List Str}{B:Int}{H H':Hp}(h:LnH H0 p l md xs B H)(e:Same H H'):LnH H0 p l md xs B H':=
 ⟨e _ _ h.1,h.2.1.trans (SameX.of e),h.2.2.same e⟩
theorem LnH.mono{H0:Hp}{p l:Addr}{md:Int}{xs:List Str}{B C:Int}{H:Hp}(h:LnH H0 p l md xs B H)(hb:B<=C):LnH H0 p l md xs C H:=⟨h.1,h.2.1,h.2.2.mono hb⟩
theorem LnH.add{H0:Hp}{p l:Addr}{md:Int}{xs:List Str}{B:Int}{H:Hp}{x:Str}(h:LnH H0 p l md xs B H)(n:l≠p)(hl:H0 l=none):LnH H0 p l md (xs++[x]) B (upd H l (.lst (xs.map V.str++[.str x]))):=by
 obtain⟨a,b,c,st,d,d1,d2⟩:=h
 refine⟨?_,λq o hq=>?_,c,st,?_,d1,d2⟩
 ·rw [bU,cL]
  rfl
 ·obtain ⟨nq,eq⟩:=ht_ hq
  have:q≠l:=λe=>by rw[e,hl]at eq;cases eq
  rw[fg_ nq,eJ this]
  exact b.get nq eq
 ·rw [eJ (Ne.symm n)]
  exact d
abbrev lnS(p l:Addr)(many:Int)(stem:Str)(o5 o6 o7 o8 o9:Option V):St:=[some (.ref p),some (.int many),some (.str lets),some (.str stem),some (.ref l),o5,o6,o7,o8,o9]
theorem aGg(x y:Str):(x++y).length=x.length+y.length:=by rw[xQ,fw_,aJ,xQ x,xQ y]
theorem uC:∀{ys:List Str},(∀y∈ys,∃j:Nat,j<26/\y=⟨#[97+j]⟩)->(ys.map (·.length)).sum=ys.length
 | [],_=>rfl
 |y::r,h=>by
  obtain⟨j,_,rfl⟩:=h y aA
  rw[aL,List.sum_cons,uC λy hy=>h y (aB _ hy),aI,ho_]
  omega
theorem aBr{xs:List Str}(h:xs≠[]):∃y∈xs,atI (xs.map V.str) (-1)=some (.str y):=by
 refine⟨xs.getLast h,List.getLast_mem h,?_⟩
 have e:xs.map V.str=(xs.dropLast).map V.str++[V.str (xs.getLast h)]:=by
  conv=>lhs;rw[<-List.dropLast_concat_getLast h]
  rw[cL]
  rfl
 rw[e]
 exact aDn _ _
def aOb:Sp:=λvs H Q _=>∃(p:Addr) (md B many:Int),vs=[.ref p,.int many]/\PoolAt p md B H/\0<=many/\many<=12/\B+1000<2^60 /\
 ∀(l:Addr) (xs:List Str) (H':Hp),l≠p->H l=none->H' l=some (.lst (xs.map V.str))->xs.length=many.toNat->xs.Nodup->(∀x∈xs,Nm x)->SameX p H H'->PoolAt p md (B+200) H'->Q (.ref l) H'
section
variable{f fT:Addr}{fd dT:FuncData}{n j:Nat}
theorem aOn(F:Fun K "_law_names" "_law_names" dm_ f fd)(GT:FnOk P w K mg base CX0 1 fT dT AC x8)(bT:Binds K dT AC [])(kT:PySem.W.keepIn K (.ref fT)=true)(mT:mg "_law_take" = some (.ref fT))
  (Ac:mg "range" = none) (m_len:mg "len" = none):FnOk P w K mg base CX0 2 f fd AC aOb:=by
 refine F.ok cM (λvs H Q E h=>?_) (λAf A outer s H vs Q E hr h=>?_)
 ·obtain ⟨p,md,B,many,rfl,_⟩:=h
  rfl
 obtain⟨p,md,B,many,rfl,hp,hm0,hm1,hB,q⟩:=h
 have hu:=hr.units0
 refine⟨_,(pB (sW (i:=2) cM.nd rfl (Or.inr rfl) hm_)
  (pB (sW (i:=3) cM.nd rfl (Or.inl rfl) (uY s_ (rL (iE hm_ (iE hm_ (iE hm_ (iE hm_ oP))))) (ee_ GT hr rfl mT kT bT .nil jW (iE (pv 0) (iE iC oP))) (λ_ _=>rfl)))
  (pB (sW (i:=4) cM.nd rfl (Or.inl rfl) (rL oP))
  (pB (rH PassesOwn.never rfl (hl_ rfl Ac (iE (pv 1) oP)) (gC (i:=5) cM.nd rfl (Or.inl rfl)) (pB (sW (i:=6) cM.nd rfl (Or.inl rfl) (kX hW (gu_ rB (pv 3) lO (lN (ee_ GT hr rfl mT kT bT .nil jW (iE (pv 0) (iE iC oP))))) (uY nL (pv 2) (ee_ GT hr rfl mT kT bT .nil jW (iE (pv 0) (iE iC oP))) (λ_ _=>rfl))))
  (pB (sW (i:=7) cM.nd rfl (Or.inl rfl) (ee_ GT hr rfl mT kT bT .nil jW (iE (pv 0) (iE iC oP))))
  (pB (aAp (yQ (gf_ yV (pv 7) iC (bQ _)) (em_ (sW (i:=6) cM.nd rfl (Or.inl rfl) (aHx PySem.F.plainAttrs_str PySem.F.slot_str_join PySem.F.type_str_join aFz hm_ (iE (lQ (dsc:=aR dm_) (N:=AK) (tgs:=["turn"]) (outs:=[0,2]) (N':=["turn","pool","letters"]) ⟨rfl,by decide +kernel,by decide +kernel,by decide +kernel,rfl,by decide +kernel,by decide +kernel,by decide +kernel⟩ (hl_ rfl Ac (iE (kX hX iC (ee_ GT hr rfl mT kT bT .nil jW (iE (pv 0) (iE iC oP)))) oP)) (λ_ _ _ _ _=>(gC (i:=0) (show(["turn","pool","letters"]:List Str).Nodup by decide +kernel) rfl (Or.inl rfl) (.inr rfl))) (vN (by decide)) (λ_ _ _ _ _=>yU) (λ_ _ _ _ _=>(uY nL (pv 2) (ee_ GT hr rfl mT kT bT .nil jW (iE (pv 1) (iE iC oP))) (λ_ _=>rfl)))) oP)))) lM))
  (pB (aAp (yQ (PW.pt (aAk (gf_ yV (pv 7) iC (bQ _)) (yN (gf_ (uA hu) (pv 4) (rL oP) (bQ _))))) (pB (sW (i:=8) cM.nd rfl (Or.inl rfl) (ee_ GT hr rfl mT kT bT .nil jW (iE (pv 0) (iE (gv_ kA rfl m_len PySem.boot_len (iE (uY s_ (pv 4) (tW mM iC) (λ_ _=>rfl)) oP)) oP))))
  (em_ (sW (i:=6) cM.nd rfl (Or.inl rfl) (kX hW (kX hW (gu_ rB (uY s_ (pv 4) (tW mM iC) (λ_ _=>rfl)) lO (lN (pv 8))) (uY nL (pv 2) (ee_ GT hr rfl mT kT bT .nil jW (iE (pv 0) (iE iC oP))) (λ_ _=>rfl))) (gu_ rB (uY s_ (pv 4) (tW mM iC) (λ_ _=>rfl)) (lN (kX hX (pv 8) iC)) lO))))) lM))
  (pB (sW (i:=9) cM.nd rfl (Or.inl rfl) iC)
  (pB (aAo PassesOwn.never (gf_ i9 (pv 6) (pv 4) (by with_unfolding_all rfl)) (pB (sW (i:=6) cM.nd rfl (Or.inl rfl) (kX mZ (uY nL (pv 2) (pv 9) (λ_ _=>rfl)) iC))
  (em_ (sW (i:=9) cM.nd rfl (Or.inl rfl) (kX hX (pv 9) iC)))))
  (em_ (yR (aHx PySem.F.plainAttrs_list PySem.F.slot_list_append PySem.F.type_list_append j3 (pv 4) (iE (pv 6) oP)))))))))))
  (em_ (rG (pv 4))))))),?_⟩
 have ll:lets.length<=sizeLine:=by show 26<=sizeLine;exact hY 26 (by decide)
 refine⟨hY 4 (by decide),λs0 Gj=>⟨_,rfl,p,md,B,4,rfl,hp.same (ds_ Gj _),by omega,by decide,by decide,λr H1 r0 r1 e1 Ca=>?_⟩⟩
 have e1':SameX p H H1:=(SameX.of (ds_ Gj _)).trans e1
 obtain⟨v,hv,C6⟩:=aDo (xs:=[V.str "abcdefg",V.str "placeof",V.str "zyxwvut",V.str "kjqrshn"]) r0 r1
 obtain⟨st,rfl,Em,Gh⟩:=aEp C6
 have Gi:s0≠p:=hp.ne Gj
 refine⟨s0,_,_,_,rfl,rfl,SqL.of (e1.get Gi bU),hv,?_⟩
 refine⟨hY 0 (by decide),λl hl=>?_⟩
 have C7:l≠p:=Ca.ne hl
 have Ir:H l=none:=by
  cases z:H l with
  |none=>rfl
  |some o=>rw[e1'.get C7 z]at hl;cases hl
 have L0:LnH H p l md [] (B+1) (upd H1 l (.lst [])):=⟨bU,e1'.trans (SameX.of (ds_ hl _)),Ca.same (ds_ hl _)⟩
 refine⟨_,rfl,many,rfl,by omega,by omega,?_⟩
 refine k_ (n:=many.toNat) (λi σ' H'=>∃(xs:List Str) (o5 o6 o7 o8 o9:Option V),σ'=lnS p l many st o5 o6 o7 o8 o9/\xs.length=i/\xs.Nodup/\(∀x∈xs,Nm x)/\LnH H p l md xs (B+1+14*(i:Int)) H') ?_ ?_ ?_
 ·exact⟨[],_,_,_,_,_,rfl,rfl,List.nodup_nil,(λx hx=>nomatch hx),L0.mono (by omega)⟩
 ·rintro i σ' H2 hi ⟨xs,o5,o6,o7,o8,o9,rfl,Cj,Ce,Dc,L2⟩
  have sl7:st.length<=sizeLine:=by rw[xQ,Em];exact hY 7 (by decide)
  refine⟨_,rfl,_,rfl,p,md,_,8,rfl,L2.2.2,by omega,by decide,by decide,λr2 H3 r20 r21 e3 Bi=>⟨_,rfl,_,rfl,sl7,?_⟩⟩
  have L3:=L2.take C7 e3 Bi
  refine⟨_,rfl,_,rfl,p,md,_,26,rfl,Bi,by omega,by decide,by decide,λr3 H4 r30 r31 e4 Ct=>⟨_,_,_,rfl,rfl,ll,lU r30 r31,?_⟩⟩
  have L4:=L3.take C7 e4 Ct
  obtain⟨Ii,sz0⟩:=aFv Em Gh r20 r21 r30 r31
  refine⟨_,_,rfl,rfl,hY _ (by rw[ho_];omega),?_⟩
  refine⟨_,rfl,p,md,_,3,rfl,Ct,by omega,by decide,by decide,λway H5 r40 r41 e5 Ci=>?_⟩
  have L5:=L4.take C7 e5 Ci
  generalize hB5:B+1+14*(i:Int)+1+1+1=B5 at L5 Ci
  clear L4 L3 Ct Bi e3 e4 e5
  generalize Txt.slice st none (some r2)++(⟨#[97+r3.toNat]⟩:Str)=nmA at Ii ⊢
  refine⟨λσ' H'=>∃(nm:Str),σ'=lnS p l many st (some (.int (0+(i:Int)))) (some (.str nm)) (some (.int way)) o8 o9/\Nm nm/\LnH H p l md xs (B5+9) H',?_,?_⟩
  ·refine ⟨_,rfl,rfl,_,rfl,lC (fun c => ?_) (fun c=>⟨nmA,rfl,Ii,L5.mono (by omega)⟩)⟩
   refine⟨rfl,_,rfl,p,md,B5,8,rfl,Ci,by omega,by decide,by decide,λr6 H6 r60 r61 e6 Br=>⟨_,_,rfl,rfl,_,rfl,by omega,by omega,?_⟩⟩
   have L6:=L5.take C7 e6 Br
   refine xG (n:=(1+r6).toNat) (λi Ab H'=>∃ys:List Str,Ab=ys.map V.str/\ys.length=i/\(∀y∈ys,∃j:Nat,j<26/\y=⟨#[97+j]⟩)/\LnH H p l md xs (B5+1+(i:Int)) H') (by omega) ⟨[],rfl,rfl,(λy hy=>nomatch hy),L6.mono (by omega)⟩ (λi Ab H' hi ⟨ys,ea,el,_⟩=>by rw[ea,aD];omega) (λi Ab H' hi ⟨ys,ea,el,ey,eL⟩=>?_) (λAb H' ⟨ys,ea,el,ey,eL⟩ l2 hn=>?_)
   ·refine aFx ?_
    refine⟨_,rfl,_,rfl,p,md,_,26,rfl,eL.2.2,by omega,by decide,by decide,λr7 H7 r70 r71 e7 Ch=>⟨_,_,_,rfl,rfl,ll,lU r70 r71,ys++[⟨#[97+r7.toNat]⟩],?_,?_,?_,?_⟩⟩
    ·rw [ea,cL]
     rfl
    ·rw [aJ,el]
     rfl
    ·intro y hy
     rcases bD.mp hy with hy | hy
     ·exact ey y hy
     ·exact⟨r7.toNat,by omega,aH.mp hy⟩
    ·exact(eL.take C7 e7 Ch).mono (by push_cast;omega)
   ·subst ea
    have es:=uC ey
    refine⟨_,l2,ys,rfl,rfl,SqL.of bU,?_,?_⟩
    ·rw [es]
     show ys.length+ys.length*0<=16777216
     omega
    ·exact⟨_,rfl,aFu ey (by omega) (by omega),(eL.same (ds_ hn _)).mono (by omega)⟩
  rintro σ6 H6 ⟨nmB,rfl,nmBok,L6⟩
  refine⟨λσ' H'=>∃(nm:Str) (o:Option V),σ'=lnS p l many st (some (.int (0+(i:Int)))) (some (.str nm)) (some (.int way)) o o9/\Nm nm/\LnH H p l md xs (B5+11) H',?_,?_⟩
  ·refine ⟨_,rfl,rfl,_,rfl,lC (fun c => ?_) (fun c=>aSb ⟨nmB,_,rfl,nmBok,L6.mono (by omega)⟩)⟩
   refine⟨_,rfl,hY 0 (by decide),λl2 Gz=>?_⟩
   have L7:=L6.same (ds_ Gz (.lst []))
   refine⟨l,l2,_,rfl,rfl,SqL.of L7.1,SqL.of bU,_,rfl,lC (λc2=>?_) (λc2=>⟨nmB,_,rfl,nmBok,L7.mono (by omega)⟩)⟩
   have Bq:xs≠[]:=λz=>by subst z;cases c2
   obtain⟨y,hy,Cf⟩:=aBr Bq
   have Fw:=Dc y hy
   have Ga:y.length<=sizeLine:=hY _ Fw.sz
   have hy1:1<=y.length:=by rw[xQ];exact Fw.1
   have hy2:y.length<=8:=by rw[xQ];exact Fw.2.1
   refine⟨_,rfl,_,rfl,_,rfl,l,_,_,_,rfl,rfl,SqL.of L7.1,Cf,y,rfl,Ga,p,md,_,_,rfl,L7.2.2,by omega,by omega,by omega,λr8 H8 r80 r81 e8 Fi=>?_⟩
   have L8:=L7.take C7 e8 Fi
   refine⟨_,rfl,_,rfl,l,_,_,_,rfl,rfl,SqL.of L8.1,Cf,_,rfl,_,rfl,y,rfl,Ga,?_⟩
   refine⟨_,rfl,_,rfl,p,md,_,26,rfl,Fi,by omega,by decide,by decide,λr9 H9 r90 r91 e9 Hq=>?_⟩
   have L9:=L8.take C7 e9 Hq
   obtain⟨t1,t2,t3⟩:=aFt Fw r80 r81 r90 r91
   refine⟨_,_,_,rfl,rfl,ll,lU r90 r91,_,_,rfl,rfl,hY _ (by rw[ho_];omega),?_⟩
   refine⟨_,rfl,_,rfl,l,_,_,_,rfl,rfl,SqL.of L9.1,Cf,_,rfl,_,_,rfl,rfl,_,rfl,y,rfl,Ga,_,_,rfl,rfl,?_,?_⟩
   ·refine hY _ ?_
    rw[aGg,ho_]
    omega
   ·exact⟨_,_,rfl,t1,L9.mono (by omega)⟩
  rintro σ7 H7 ⟨nmC,o8',rfl,nmCok,L7⟩
  have hi12:xs.length<=12:=by omega
  refine⟨λm σ' H'=>∃(t:Nat) (nm:Str),m=30-t/\t<=20/\σ'=lnS p l many st (some (.int (0+(i:Int)))) (some (.str nm)) (some (.int way)) o8' (some (.int (t:Int)))/\Nm nm/\(∀j,j+1<t->oE j∈xs)/\(0<t->nm=oE (t-1))/\H'=H7,⟨30,0,nmC,rfl,by omega,rfl,nmCok,(λj hj=>by omega),(λh0=>by omega),rfl⟩,?_⟩
  rintro m σ8 H8 ⟨t,nm,rfl,ht,rfl,Gw,hc,hn,rfl⟩
  refine⟨_,rfl,_,rfl,l,_,rfl,.inl (SqL.of L7.1),rfl,m5,_,rfl,lC (λc=>?_) (λc=>?_)⟩
  ·have Fy:nm∈xs:=uO.mp c
   have Fc:∀j,j<t->oE j∈xs:=λj hj=>by
    by_cases z:j+1<t
    ·exact hc j z
    ·have:j=t - 1:=by omega
     rw[this,<-hn (by omega)]
     exact Fy
   have ht':=aDd Fc
   refine⟨λσ' H'=>σ'=lnS p l many st (some (.int (0+(i:Int)))) (some (.str (oE t))) (some (.int way)) o8' (some (.int ((t:Int)+1)))/\H'=H8,?_,?_⟩
   ·rintro σ' H' ⟨rfl,rfl⟩
    exact⟨30-(t+1),by omega,t+1,oE t,rfl,by omega,rfl,aHc (by omega),(λj hj=>Fc j (by omega)),(λ_=>rfl),rfl⟩
   ·refine ⟨_,rfl,_,rfl,_,_,_,rfl,rfl,ll,lU (r:=(t:Int)) (by omega) (by omega),_,_,rfl,rfl,by rw [ho_]; decide,by decide,by decide,?_⟩
    refine⟨_,rfl,_,_,rfl,rfl,?_,rfl⟩
    show lnS _ _ _ _ _ (some (.str (Txt.mul ⟨#[97+(t:Int).toNat]⟩ 8))) _ _ _=_
    rw[fH]
    rfl
  ·have Go:nm∉xs:=fun z=>c (uO.mpr z)
   refine⟨_,rfl,.inl ⟨rfl,_,SqL.of L7.1⟩,_,rfl,l,_,_,rfl,rfl,L7.1,by rw[aD];exact pO (by omega),?_⟩
   refine⟨xs++[nm],_,_,_,_,_,rfl,by rw[aJ,Cj];rfl,?_,λx hx=>?_,(L7.add C7 Ir).mono (by push_cast;omega)⟩
   ·exact dC.mpr ⟨Ce,by simp,λa ha b hb=>by rw[aH.mp hb];intro e;exact Go (by rw[<-e];exact ha)⟩
   ·rcases bD.mp hx with hx | hx
    ·exact Dc x hx
    ·rw [aH.mp hx]
     exact Gw
 ·rintro σ' H2 ⟨xs,o5,o6,o7,o8,o9,rfl,Cj,Ce,Dc,L2⟩
  refine⟨_,rfl,q l xs H2 C7 Ir L2.1 Cj Ce Dc L2.2.1 (L2.2.2.mono (by omega))⟩
end
section
variable{n:Nat}
theorem aDj{n:Nat}(h:n<=12):bnd n<2^150:=Int.lt_of_le_of_lt (fy_ h) (by decide)
theorem aIa:∀{ks:List Kd} {i:Nat} {k:Kd},okK ks->ks[i]? = some k->k.Ok/\k.deep<=dP ks
 | [],_,_,_,e=>by simp at e
 |k'::r,0,k,h,e=>by simp at e;subst e;exact⟨h.1,dG _ _⟩
 |k'::r,i+1,k,h,e=>by obtain⟨a,b⟩:=aIa (i:=i) h.2 (by simpa using e);exact⟨a,nzL b (cZ _ _)⟩
theorem aQd{ks:List Kd}(h:okK ks)(hd:dP ks<=n)(hn:n<=12):∀r∈rmK ks,Bd (2^150) r:=λr hr=>(bdK ks h r hr).mono (Int.le_of_lt (aDj (nzL hd hn)))
theorem aSx{k:Kd}(h:k.Ok)(hd:k.deep<=n)(hn:n<=12):Bd (2^150) k.rm:=(Kd.bd k h).mono (Int.le_of_lt (aDj (nzL hd hn)))
end
mutual
def Kd.Full:Kd->Prop
 | .num _ _=>True
 | .row k _=>k.Full
 | .rcd fs=>fs≠[]/\zR fs
 | .cho ks=>ks≠[]/\zQ ks
def zR:List (Str×Kd)->Prop
 | []=>True
 |f::r=>f.2.Full/\zR r
def zQ:List Kd->Prop
 | []=>True
 |k::r=>k.Full/\zQ r
end
theorem uT:∀{fs:List (Str×Kd)} {i:Nat} {f:Str×Kd},zR fs->fs[i]? = some f->f.2.Full
 | [],_,_,_,e=>by simp at e
 |k'::r,0,k,h,e=>by simp at e;subst e;exact h.1
 |k'::r,i+1,k,h,e=>uT (i:=i) h.2 (by simpa using e)
theorem uS:∀{ks:List Kd} {i:Nat} {k:Kd},zQ ks->ks[i]? = some k->k.Full
 | [],_,_,_,e=>by simp at e
 |k'::r,0,k,h,e=>by simp at e;subst e;exact h.1
 |k'::r,i+1,k,h,e=>uS (i:=i) h.2 (by simpa using e)
theorem aBf:∀{fs:List (Str×Kd)} {i:Nat} {f:Str×Kd},okF fs->fs[i]? = some f->f.2.Ok/\f.2.deep<=cX fs
 | [],_,_,_,e=>by simp at e
 |k'::r,0,k,h,e=>by simp at e;subst e;exact⟨h.1,dG _ _⟩
 |k'::r,i+1,k,h,e=>by obtain⟨a,b⟩:=aBf (i:=i) h.2 (by simpa using e);exact⟨a,nzL b (cZ _ _)⟩
theorem aQe{fs:List (Str×Kd)}{n:Nat}(h:okF fs)(hd:cX fs<=n)(hn:n<=12):∀r∈rmF fs,Bd (2^150) r:=λr hr=>(bdF fs h r hr).mono (Int.le_of_lt (aDj (nzL hd hn)))
mutual
def Kd.Fit:Kd->Prop
 | .num w m=>1<=w/\w<=8/\(m=1\/m=2\/m=4\/m=8)
 | .row k n=>k.Fit/\1<=n/\n<=20
 | .rcd fs=>nS fs/\1<=fs.length/\fs.length<=8/\(fs.map (·.1)).Nodup
 | .cho ks=>oY ks/\1<=ks.length/\ks.length<=6
def nS:List (Str×Kd)->Prop
 | []=>True
 |f::r=>(Nm f.1/\f.2.Fit)/\nS r
def oY:List Kd->Prop
 | []=>True
 |k::r=>k.Fit/\oY r
end
mutual
theorem Kd.Fit.ok:∀(k:Kd),k.Fit->k.Ok
 | .num w m,h=>by
  obtain⟨a,b,c⟩:=h
  exact⟨a,b,by lia,by lia⟩
 | .row k n,h=>⟨Kd.Fit.ok k h.1,by have:=h.2.1;lia,by have:=h.2.2;lia⟩
 | .rcd fs,h=>⟨zW fs h.1,by have:=h.2.2.1;lia⟩
 | .cho ks,h=>⟨zV ks h.1,by have:=h.2.2;lia⟩
theorem zW:∀(fs:List (Str×Kd)),nS fs->okF fs
 | [],_=>trivial
 |f::r,h=>⟨Kd.Fit.ok f.2 h.1.2,zW r h.2⟩
theorem zV:∀(ks:List Kd),oY ks->okK ks
 | [],_=>trivial
 |k::r,h=>⟨Kd.Fit.ok k h.1,zV r h.2⟩
end
mutual
theorem Kd.Fit.full:∀(k:Kd),k.Fit->k.Full
 | .num w m,h=>trivial
 | .row k n,h=>Kd.Fit.full k h.1
 | .rcd fs,h=>⟨(by intro z;rw[z]at h;exact absurd h.2.1 (by decide)),qE fs h.1⟩
 | .cho ks,h=>⟨(by intro z;rw[z]at h;exact absurd h.2.1 (by decide)),qB ks h.1⟩
theorem qE:∀(fs:List (Str×Kd)),nS fs->zR fs
 | [],_=>trivial
 |f::r,h=>⟨Kd.Fit.full f.2 h.1.2,qE r h.2⟩
theorem qB:∀(ks:List Kd),oY ks->zQ ks
 | [],_=>trivial
 |k::r,h=>⟨Kd.Fit.full k h.1,qB r h.2⟩
end
theorem qD:∀{fs:List (Str×Kd)} {f:Str×Kd},nS fs->Nm f.1->f.2.Fit->nS (fs++[f])
 | [],_,_,a,b=>⟨⟨a,b⟩,trivial⟩
 |g::r,f,h,a,b=>⟨h.1,qD h.2 a b⟩
theorem qA:∀{ks:List Kd} {k:Kd},oY ks->k.Fit->oY (ks++[k])
 | [],_,_,b=>⟨b,trivial⟩
 |g::r,f,h,b=>⟨h.1,qA h.2 b⟩
theorem nY:∀{fs:List (Str×Kd)} {f:Str×Kd} {n:Nat},cX fs<=n->f.2.deep<=n->cX (fs++[f])<=n
 | [],f,n,_,b=>by show max f.2.deep 0<=n;lia
 |g::r,f,n,h,b=>by
  have h':max g.2.deep (cX r)<=n:=h
  have:=nY (fs:=r) (f:=f) (n:=n) (by lia) b
  show max g.2.deep (cX (r++[f]))<=n
  lia
theorem nX:∀{ks:List Kd} {k:Kd} {n:Nat},dP ks<=n->k.deep<=n->dP (ks++[k])<=n
 | [],f,n,_,b=>by show max f.deep 0<=n;lia
 |g::r,f,n,h,b=>by
  have h':max g.deep (dP r)<=n:=h
  have:=nX (ks:=r) (k:=f) (n:=n) (by lia) b
  show max g.deep (dP (r++[f]))<=n
  lia
def tk:Nat->Int
 | 0=>0
 |n+1=>3000+12*tk n
theorem pK:∀n,0<=tk n
 | 0=>Int.le_refl _
 |n+1=>by have:=pK n;show 0<=3000+12*tk n;lia
mutual
def Kd.x:Kd->Dx
 | .num w m=>.tup [.str "number",.int w,.int m]
 | .row k n=>.tup [.str "row",k.x,.int n]
 | .rcd fs=>.tup [.str "record",.lst (xF fs)]
 | .cho ks=>.tup [.str "choice",.lst (xK ks)]
def xF:List (Str×Kd)->List Dx
 | []=>[]
 |f::r=>.tup [.str f.1,f.2.x]::xF r
def xK:List Kd->List Dx
 | []=>[]
 |k::r=>k.x::xK r
end
theorem m7:∀fs:List (Str×Kd),xF fs=fs.map λf=>.tup [.str f.1,f.2.x]
 | []=>rfl
 |f::r=>by rw[xF,m7 r];rfl
theorem b6:∀ks:List Kd,xK ks=ks.map Kd.x
 | []=>rfl
 |f::r=>by rw[xK,b6 r];rfl
mutual
def Dx.deep:Dx->Nat
 | .tup l=>gH l+1
 | .lst l=>gH l+1
 | .dic l=>jE l+1
 |_=>1
def gH:List Dx->Nat
 | []=>0
 |d::r=>max d.deep (gH r)
def jE:List (Key×Dx)->Nat
 | []=>0
 |k::r=>max k.2.deep (jE r)
end
def ApX(l:List (Key×Dx)):Prop:=l.Pairwise λp q=>p.1≠q.1/\eU p.1 q.1=false
theorem oC(a b:Key):eU a b=eU b a:=by
 cases a<;>cases b<;>first | rfl | skip
 rename_i a x b y
 show(!decide (a=b/\x=y)) = !decide (b=a/\y=x)
 rw[decide_eq_decide.mpr (show(a=b/\x=y)↔(b=a/\y=x)from⟨λh=>⟨h.1.symm,h.2.symm⟩,λh=>⟨h.1.symm,h.2.symm⟩⟩)]
theorem xL(a:Key):eU a a=false:=by
 cases a<;>first | rfl | simp[eU]
theorem ApX.nodup{l:List (Key×Dx)}(h:ApX l):(l.map (·.1)).Nodup:=eM.mpr (h.imp λz=>z.1)
theorem ApX.cl{l:List (Key×Dx)}(h:ApX l){p q:Key×Dx}(hp:p∈l)(hq:q∈l):eU p.1 q.1=false:=by
 induction l with
 |nil=>cases hp
 |cons a l ih =>
  obtain⟨h1,h2⟩:=List.pairwise_cons.mp h
  rcases aF.mp hp with e | Bt
  ·rcases aF.mp hq with e' | Gm
   ·rw[e,e'];exact xL _
   ·rw[e];exact(h1 q Gm).2
  ·rcases aF.mp hq with e' | Gm
   ·rw[e',oC];exact(h1 p Bt).2
   ·exact ih h2 Bt Gm
theorem ApX.seek{l:List (Key×Dx)}(h:ApX l){p:Key×Dx}(hp:p∈l):tN p.1 l=true:=by
 have key:((l.all λq=>! eU q.1 p.1)&&(!p.1.odd||l.any λq=>q.1.odd))=true:=by
  rw[cB]
  refine⟨cG.mpr λq hq=>by rw[h.cl hq hp];rfl,?_⟩
  cases ho:p.1.odd with
  |false=>rfl
  |true=>exact eC.mpr ⟨p,hp,ho⟩
 unfold tN
 split
 ·rfl
 ·exact key
theorem ApX.put{d r:List (Key×Dx)}{p:Key×Dx}(h:ApX (d++p::r)):mS p.1 d=true:=by
 have hc:(d.all λq=>! eU q.1 p.1)=true:=cG.mpr λq hq=>by rw[h.cl (bG _ hq) (aG _ aA)];rfl
 have hg:(eE d p.1).isNone=true:=by
  have:eE d p.1=none:=by
   unfold eE
   rw[List.find?_eq_none.mpr λq hq=>by
    have:=(List.pairwise_append.mp h).2.2 q hq p aA
    simpa using this.1]
   rfl
  rw[this];rfl
 unfold mS
 rw[hc,hg]
 cases p.1.odd<;>cases(d.any λq=>q.1.odd)<;>rfl
mutual
def Dx.Sz:Dx->Prop
 | .tup l=>l.length<=100000/\szX l
 | .lst l=>l.length<=100000/\szX l
 | .dic l=>l.length<=100000/\ApX l/\g8 l
 | .scr _ _=>False
 | .ins _ _=>False
 | .exc _=>False
 | .pin _ _=>False
 |_=>True
def szX:List Dx->Prop
 | []=>True
 |d::r=>d.Sz/\szX r
def g8:List (Key×Dx)->Prop
 | []=>True
 |k::r=>k.2.Sz/\g8 r
end
theorem by_:∀{l:List Dx} {d:Dx},d∈l->d.deep<=gH l
 |e::r,d,h=>by
  show _<=max _ _
  rcases aF.mp h with rfl | h
  ·exact dG _ _
  ·exact nzL (by_ h) (cZ _ _)
theorem dj_:∀{l:List (Key×Dx)} {p:Key×Dx},p∈l->p.2.deep<=jE l
 |e::r,d,h=>by
  show _<=max _ _
  rcases aF.mp h with rfl | h
  ·exact dG _ _
  ·exact nzL (dj_ h) (cZ _ _)
theorem t4:∀{l:List Dx} {d:Dx},szX l->d∈l->d.Sz
 |e::r,d,hs,h=>by
  rcases aF.mp h with rfl | h
  ·exact hs.1
  ·exact t4 hs.2 h
theorem dr_:∀{l:List (Key×Dx)} {p:Key×Dx},g8 l->p∈l->p.2.Sz
 |e::r,d,hs,h=>by
  rcases aF.mp h with rfl | h
  ·exact hs.1
  ·exact dr_ hs.2 h
def Dx.own:Dx->Sv
 | .lst l=>.ol l
 | .dic l=>.od l
 |d=>.tr d
theorem mY(d:Dx):d.own.d=d:=by cases d<;>rfl
def gCP(n:Nat):GC:=λds Q=>∃d,ds=[d]/\d.Sz/\d.deep<=n/\Q d.own
theorem zB{α β:Type}{f:α->β}:∀(l:List α),(l.map λd=>[f d]).flatten=l.map f
 | []=>rfl
 |d::l=>by simp[zB l]
theorem zU(l:List Dx):[]++(l.map λd=>[d]).flatten=l:=by simp[zB (f:=λd:Dx=>d)]
theorem gt_{l:List (Key×Dx)}{k:Key}{d:Dx}(h:k∉l.map (·.1)):gR l k d=l++[(k,d)]:=by
 unfold gR
 have:(l.any λkv=>decide (kv.1=k))=false:=by
  rw[fG]
  intro kv hkv z
  exact h (by rw[<-of_decide_eq_true z];exact bY (f:=λx:Key×Dx=>x.1) hkv)
 rw[this,if_neg aE]
theorem eq_:∀{l:List (Key×Dx)} {p:Key×Dx},(l.map (·.1)).Nodup->p∈l->eE l p.1=some p.2
 |q::l,p,hn,h=>by
  unfold eE
  rw[fA]
  have Bz:=cE.mp hn
  rcases aF.mp h with rfl | h
  ·rw[dzT rfl];rfl
  ·have Bq:¬ q.1=p.1:=fun z=>Bz.1 (by show q.1∈_; rw [z]; exact bY (f:=fun x:Key×Dx=>x.1) h)
   rw[dzF Bq]
   exact eq_ Bz.2 h
theorem fq_(k:Key):iZ (iY k)=some k:=by cases k<;>rfl
section
variable{f:Addr}{n j:Nat}
theorem aOo(F:Fun K "_law_copy" "_law_copy" di_ f fd)(Eg:Cal P w K mg base j "_law_copy" AL (spX (gCP n)))(m_isinstance:mg "isinstance" = none)(m_list:mg "list" = none)(m_tuple:mg "tuple" = none)(m_dict:mg "dict" = none) :
  FnOk P w K mg base CX0 (j+1) f fd AL (spX (gCP (n+1))):=by
 refine jD F iK (λds Q h=>by obtain⟨d,rfl,_⟩:=h;rfl) (by decide) λAf A outer s H E hr=>?_
 have Ag:=sI hr
 refine⟨_,(eB (fX (kY (kH .list m_isinstance (bL (pv 0)) (iU (v:=.ty "list") rfl m_list er_ rfl))) (eI (fB (vU (dsc:=aR di_) (N:=["thing","found","key"]) (tgs:=["one"]) (outs:=[]) (N':=["one"]) (by refine⟨rfl,?_,?_,?_,rfl,?_,?_,?_⟩<;>decide +kernel) (vM (bL (pv 0))) (λ_ _ _ _ _=>(gC (i:=0) (show(["one"]:List Str).Nodup by decide +kernel) rfl (Or.inl rfl) (.inr rfl))) (oQ (n:=1) (i:=0) (by decide)) (vN (by decide)) (λ_ _ _ _ _=>vL) (λ_ _ _ _ _=>(gY Eg (hr.mono (by omega)) (bK (bL (pv 0)) cI)))))) gT)
  (eB (fX (kY (kH .tuple m_isinstance (bL (pv 0)) (iU (v:=.ty "tuple") rfl m_tuple cr_ rfl))) (eI (fB (cy_ (fh_ K) nZ (by rfl) m_tuple cr_ (bK (vU (dsc:=aR di_) (N:=["thing","found","key"]) (tgs:=["one"]) (outs:=[]) (N':=["one"]) (by refine⟨rfl,?_,?_,?_,rfl,?_,?_,?_⟩<;>decide +kernel) (u3 (bL (pv 0))) (λ_ _ _ _ _=>(gC (i:=0) (show(["one"]:List Str).Nodup by decide +kernel) rfl (Or.inl rfl) (.inr rfl))) (oQ (n:=1) (i:=0) (by decide)) (vN (by decide)) (λ_ _ _ _ _=>vL) (λ_ _ _ _ _=>(gY Eg (hr.mono (by omega)) (bK (bL (pv 0)) cI)))) cI)))) gT)
  (eB (fX (kY (kH .dict m_isinstance (bL (pv 0)) (iU (v:=.ty "dict") rfl m_dict gj_ rfl))) (eB (gE (i:=1) iK.nd rfl (Or.inl rfl) gd_)
  (eB (xW PassesOwn.never rfl (pv 0) (gC (i:=2) iK.nd rfl (Or.inl rfl)) (oQ (n:=99) (i:=2) (by decide)) (eI (hb_ λF=>PS.weak (ff_ Ag (pv 1) (XE.at (Ex:=dZ) F (bL (pv 2))) (XE.at (Ex:=dZ) F (gY Eg (hr.mono (by omega)) (bK (du_ Ag (bL (pv 0)) (bL (pv 2)) (λ_ _=>rfl)) cI))) rfl) hg_)))
  (eI (fB (dk_ (pv 1)))))) gT)
  (eI (fB (dk_ (pv 0))))))),λds Q h=>?_⟩
 clear Ag
 obtain⟨d,rfl,hs,hd,q⟩:=h
 cases d with
 |scr _ _=>simp only[Dx.Sz]at hs
 |ins _ _=>simp only[Dx.Sz]at hs
 |exc _=>simp only[Dx.Sz]at hs
 |pin _ _=>simp only[Dx.Sz]at hs
 |lst l =>
  show l.length<=1000000/\dB 1 (gxN 0) iO (cW (gCP n) (bS (cP 0) dF)) _ l [] []
  simp only[Dx.Sz]at hs
  refine⟨by omega,hw_ (λd=>[d]) (λd hm Ab P p=>?_) (by rw[zU];exact q)⟩
  exact⟨d,rfl,t4 hs.2 hm,by have:=by_ hm;simp only[Dx.deep]at hd;omega,by show P (Ab++[d.own.d]) [];rw[mY];exact p⟩
 |tup l =>
  show l.length<=1000000/\dB 1 (gxN 0) iO (cW (gCP n) (bS (cP 0) dF)) _ l [] []
  simp only[Dx.Sz]at hs
  refine⟨by omega,hw_ (λd=>[d]) (λd hm Ab P p=>?_) (by rw[zU];exact q)⟩
  exact⟨d,rfl,t4 hs.2 hm,by have:=by_ hm;simp only[Dx.deep]at hd;omega,by show P (Ab++[d.own.d]) [];rw[mY];exact p⟩
 |dic l =>
  simp only[Dx.Sz]at hs
  simp only[Dx.deep]at hd
  show hZ _ _ _ (eG l) _
  refine gz_ (λks ρ=>∃done rest x,l=done++rest/\ks=eG rest/\ρ=[vT (.dic l),.v (.od done),x]) (λρ h=>?_) (λk ks ρ K h hk=>?_) ⟨[],l,.un,rfl,rfl,rfl⟩
  ·obtain ⟨done,rest,x,e1,e2,rfl⟩:=h
   have:rest=[]:=by cases rest with | nil=>rfl | cons a b=>simp[eG]at e2
   subst this
   rw[cF]at e1
   subst e1
   exact q
  ·obtain ⟨done,rest,x,e1,e2,rfl⟩:=h
   cases rest with
   |nil=>simp[eG]at e2
   |cons p rest =>
    simp only[eG,aL,List.cons.injEq]at e2
    obtain⟨rfl,rfl⟩:=e2
    have hm:p∈l:=by rw[e1];exact aG _ aA
    have Au:=eq_ hs.2.1.nodup hm
    have Bv:p.1∉done.map (·.1):=by
     have:=hs.2.1.nodup
     rw[e1,cL,dC]at this
     exact λz=>this.2.2 _ z _ (bY (f:=λx:Key×Dx=>x.1) aA) rfl
    have Ad:done.length<=l.length:=by rw[e1,aJ];omega
    have A3:=hk [vT (.dic l),.v (.od (gR done p.1 p.2)),vT (iY p.1)] ⟨done++[p],rest,vT (iY p.1),by rw[e1,bC];rfl,rfl,by rw[gt_ Bv]⟩
    have Hb:K [vT (.dic l),.v (.od (gR done p.1 p.2.own.d)),vT (iY p.1)]:=by rw[mY];exact A3
    simp only[gxN,tD,cW,bS,dF,xOp,cP,aM,aN,aZ,aW,Sv.d,aL,bI,dgX,fq_,Au]
    refine⟨hs.2.1.seek hm,p.2,rfl,dr_ hs.2.2 hm,by have:=dj_ hm;omega,⟨done,rfl⟩,by omega,(e1 ▸ hs.2.1).put,Hb⟩
 |non=>exact q
 |bl b=>exact q
 |int i=>exact q
 |str x=>exact q
end
def PoolX(B:Int)(l:List Dx):Prop:=∃c md st:Int,l=[.int c,.int md,.int st]/\0<=st/\st<=B
theorem PoolX.mono{B C:Int}{l:List Dx}(h:PoolX B l)(hb:B<=C):PoolX C l:=by
 obtain⟨c,md,st,e,h0,h1⟩:=h
 exact⟨c,md,st,e,h0,by omega⟩
def gTK:GB:=λl ds Q=>∃B many:Int,ds=[.int many]/\PoolX B l/\B<2^60/\0<many/\many<2^250/\∀(r:Int) (l':List Dx),0<=r->r<many->PoolX (B+1) l'->Q (.int r) l'
def gLR:GC:=λds Q=>∃n m:Int,ds=[.int n,.int m]/\0<=n/\0<m/\Q (.tr (.int (up n m)))
section
variable{f:Addr}{n j:Nat}
theorem gw_(F:Fun K "_law_take" "_law_take" ct_ f fd):FnOk P w K mg base CX0 1 f fd AC (spB gTK):=by
 refine l_ F cU (λl ds Q h=>by obtain⟨B,m,rfl,_⟩:=h;rfl) (by decide) λAf A outer s H E hr=>?_
 have Ae:=bO (sI hr)
 refine⟨_,(eB (fX (iA (kF K Ae) kE (gc_ K (pv 0) cY (λ_ _=>rfl)) cY (bQ _)) (eB (gE (i:=2) cU.nd rfl (Or.inl rfl) (kI (gc_ K (pv 0) cY (λ_ _=>rfl)) (bL (pv 1))))
  (eB (hb_ λF=>PS.weak (hk_ (XE.at (Ex:=dZ) F (xY (gc_ K (pv 0) cY (λ_ _=>rfl)) (bL (pv 1)))) (rJ (pv 0) (XE.at (Ex:=dZ) F cY) gr_)) yF)
  (eI (fB (dk_ (pv 2)))))) gT)
  (eB (hb_ λF=>PS.weak (hk_ (XE.at (Ex:=dZ) F (iS (gc_ K (pv 0) cY (λ_ _=>rfl)) cY)) (rJ (pv 0) (XE.at (Ex:=dZ) F cY) gr_)) yF)
  (eB (gE (i:=3) cU.nd rfl (Or.inl rfl) (gc_ K (pv 0) cY (λ_ _=>rfl)))
  (eB (gE (i:=4) cU.nd rfl (Or.inl rfl) (s9 (iS (kI (gc_ K (pv 0) cY (λ_ _=>rfl)) cY) cY) (iS (s9 cY (bL (pv 3))) cY)))
  (eB (gE (i:=4) cU.nd rfl (Or.inl rfl) (iS (bL (pv 4)) (s9 (s9 cY (bL (pv 3))) (bL (pv 3)))))
  (eB (gE (i:=4) cU.nd rfl (Or.inl rfl) (kI (s9 (bL (pv 4)) (bL (pv 4))) cY))
  (eI (fB (kI (xY (kI (s9 (bL (pv 4)) (iS (bL (pv 4)) cY)) cY) cY) (bL (pv 1))))))))))),λl ds Q h=>?_⟩
 obtain⟨B,many,rfl,⟨c,md,st,rfl,h0,h1⟩,hB,h2,h3,q⟩:=h
 simp only[dM,eF,xIf,xB,xOp,cP,pF,xC,gF,gG,aHl,aIv,ixP,oN,aFy,gIC,eqX,eqS,iD,dI,dO,dD,xM,xN,iX,jP,jO,jN,jL,jK,jJ,jI,jH,jG,jF,jC,jB,jA,aM,aN,aZ,aW,Sv.d,aL,bI,cA,bN,aX,aT,aI,aP,aO,bB,Nat.reduceAdd,Nat.reduceSub,Nat.reduceLeDiff,true_and,decide_eq_true_eq,cut,fF,back,bZ,if_true,↓reduceIte,bR,cH]
 by_cases e:md=1
 ·rw [if_pos e]
  exact⟨h2,⟨h2,h3⟩,q _ _ (dH _ (by omega)) (cQ _ h2) ⟨_,_,_,rfl,h0,by omega⟩⟩
 ·rw [if_neg e]
  have a0:(0:Int)<=c%9999999619:=dH _ (by decide)
  have a1:c%9999999619<9999999619:=cQ _ (by decide)
  refine⟨by decide,⟨by decide,by omega⟩,⟨by omega,by omega⟩,⟨by decide,by omega⟩,⟨by omega,by omega⟩,?_⟩
  have m1:0<=(c%9999999619+983)*(23*(st+1)+53):=gM (by omega) (by omega)
  have m2:(c%9999999619+983)*(23*(st+1)+53)<=10000000602*(23*(st+1)+53):=cR (by omega) (by omega)
  have m3:0<=3491*(st+1)*(st+1):=gM (by omega) (by omega)
  have m4:3491*(st+1)*(st+1)<=3491*(st+1)*2^61:=eY (by omega) (by omega)
  generalize (c%9999999619+983)*(23*(st+1)+53)=A1 at m1 m2 ⊢
  generalize 3491*(st+1)*(st+1)=A2 at m3 m4 ⊢
  refine⟨⟨by omega,by omega⟩,by decide,?_⟩
  have b0:(0:Int)<=(A1+A2)*(A1+A2)%99999999659:=dH _ (by decide)
  have b1:(A1+A2)*(A1+A2)%99999999659<99999999659:=cQ _ (by decide)
  generalize (A1+A2)*(A1+A2)%99999999659=B2 at b0 b1 ⊢
  exact⟨⟨by omega,by omega⟩,by decide,⟨by decide,by decide⟩,h2,q _ _ (dH _ (by omega)) (cQ _ h2) ⟨_,_,_,rfl,by omega,by omega⟩⟩
theorem aKm(F:Fun K "_law_rounded" "_law_rounded" co_ f fd):FnOk P w K mg base CX0 1 f fd AQ (spX gLR):=by
 refine jD F iI (λds Q h=>by obtain⟨B,m,rfl,_⟩:=h;rfl) (by decide) λAf A outer s H E hr=>?_
 have Ae:=bO (sI hr)
 refine⟨_,(eB (gE (i:=2) iI.nd rfl (Or.inl rfl) (kI (bL (pv 0)) (bL (pv 1))))
  (eB (fX (iA (kF K Ae) kE (bL (pv 2)) cY (bQ _)) (eI (fB (dk_ (pv 0)))) gT)
  (eI (fB (hd_ (iS (bL (pv 0)) (bL (pv 1))) (bL (pv 2))))))),λds Q h=>?_⟩
 obtain⟨n,m,rfl,h0,h1,q⟩:=h
 simp only[dM,eF,xIf,xB,xOp,cP,pF,xC,gF,gG,oN,gI,gIC,eqX,eqS,iD,dI,dO,dD,xM,xN,iX,jP,jO,jN,jL,jK,jJ,jI,jH,jG,jF,jC,jB,jA,aM,aN,aZ,aW,Sv.d,aL,bI,cA,bN,aX,aT,aI,aP,aO,bB,Nat.reduceAdd,Nat.reduceSub,Nat.reduceLeDiff,true_and,decide_eq_true_eq,cut,fF,back,bZ,if_true,↓reduceIte,bR,cH]
 refine⟨h1,?_⟩
 rw[<-aIz h1]at q
 unfold upL at q
 by_cases e:n%m=0
 ·rw [if_pos e] at q ⊢
  exact q
 ·rw [if_neg e] at q ⊢
  exact q
end
def prD(r:Int×Int):Dx:=.lst [.int r.1,.int r.2]
def gLM(n:Nat):GC:=λds Q=>∃kd:Kd,ds=[kd.x]/\kd.Ok/\kd.Full/\kd.deep<=n/\n<=12/\Q (.ol [.int kd.rm.1,.int kd.rm.2])
theorem aGb{rs:List (Int×Int)}{sel:Int×Int->Int}{d:Int}{Q:Sv->Prop}(Bq:rs≠[])(Cr:∀r∈rs,d<=sel r)(q:Q (.tr (.int (fS d (rs.map sel))))):zA [.lst (rs.map λr=>.int (sel r))] Q:=by
 refine⟨rs.map sel,by rw[gL];rfl,λz=>Bq (List.map_eq_nil_iff.mp z),λM hM Ec=>?_⟩
 obtain⟨r,Ap,rfl⟩:=bH.mp hM
 rw[aGc (d:=d) hM (Cr r Ap) Ec]at *
 exact q
theorem aAa:∀fs:List (Str×Kd),(fs.map λf=>prD f.2.rm)=(rmF fs).map prD
 | []=>rfl
 |f::r=>by rw[aL,aAa r];rfl
theorem z_:∀ks:List Kd,(ks.map λk=>prD k.rm)=(rmK ks).map prD
 | []=>rfl
 |f::r=>by rw[aL,z_ r];rfl
theorem gs_{rs:List (Int×Int)}{sel:Int×Int->Int}{d:Int}{i:Nat}{ρ:En}{Q:Sv->En->Prop}(hl:rs.length<=10)(Bq:rs≠[])(Cr:∀r∈rs,d<=sel r)(hj:∀r,([Dx.int r.1,Dx.int r.2]:List Dx)[i]? = some (.int (sel r)))
  {s:Sv} (h3:ρ[3]? = some (.v s)) (hs:s.d=.lst (rs.map prD)) (q:Q (.tr (.int (fS d (rs.map sel)))) (ρ.set 3 (vT (.lst (rs.map prD))))):cW zA (bS (fP 2 [] (xiL (cP 3)) (gxL [0,1]) iO (cP i)) dF) ρ Q:=by
 simp only[cW,bS,dF,fP,xiL,cP,h3,hs]
 show _/\_
 refine⟨by rw[aD];omega,?_⟩
 refine ch_ prD (λr=>.int (sel r)) (λr hr Ab P p=>?_) ?_
 ·have hi:=hj r
  show(match (([.v (.tr (.int r.1)),.v (.tr (.int r.2))]:En)[i]?)with | some (.v s)=>_ | _=>_)
  match i,hi with
  | 0,hi=>simp only[aM,Option.some.injEq]at hi;rw[<-hi]at p;exact p
  | 1,hi=>simp only[aM,aN,Option.some.injEq]at hi;rw[<-hi]at p;exact p
  |i+2,hi=>simp at hi
 ·exact aGb Bq Cr q
theorem pZ{j:Nat}{f:Addr}{fd:FuncData}{ps:List Str}{g:GC}(no:∀ds Q,¬g ds Q):FnOk P w K mg base CX0 j f fd ps (spX g):=
 ⟨λvs H Q E h=>by obtain⟨_,ds,Qx,_,_,h,_⟩:=h;exact absurd h (no _ _),λA outer s H args us vs Q E _ _ _ _ h=>by obtain⟨_,ds,Qx,_,_,h,_⟩:=h;exact absurd h (no _ _)⟩
theorem aEi{g:GC}{d:Dx}{t:XT}{ρ:En}{Q:Sv->En->Prop}(h:t ρ λs ρ'=>g [d,s.d] λr=>Q r ρ'):cW g (bS (xC d) (bS t dF)) ρ Q:=h
theorem kM{α:Type}{a b:α}:[a,b].length<=1000000:=by show 2<=1000000;decide
section
variable{f:Addr}{n j:Nat}
theorem aKn(F:Fun K "_law_room" "_law_room" bu_ f fd)(Fq:Cal P w K mg base j "_law_room" ["kind"] (spX (gLM n)))(F8:Cal P w K mg base 1 "_law_rounded" AQ (spX gLR))(Ak:mg "max" = none)(hj:1<=j) :
  FnOk P w K mg base CX0 (j+1) f fd ["kind"] (spX (gLM (n+1))):=by
 refine jD F cV (λds Q h=>by obtain⟨d,rfl,_⟩:=h;rfl) (by decide) λAf A outer s H E hr=>?_
 have Ae:=bO (sI hr)
 refine⟨_,(eB (fX (iA (kF K Ae) kE (fI K (pv 0)) lD (bQ _)) (eI (fB (kG (bK (fI K (pv 0)) (bK (fI K (pv 0)) cI))))) gT)
  (eB (fX (iA (kF K Ae) kE (fI K (pv 0)) lD (bQ _)) (eB (qT (nN (n:=99) (is:=[1,2]) rfl (by decide)) λF=>hk_ (XE.at (Ex:=dZ) F (gY Fq (hr.mono (by omega)) (bK (fI K (pv 0)) cI))) (wI rfl (oR (gC (i:=1) cV.nd rfl (Or.inl rfl)) (oR (gC (i:=2) cV.nd rfl (Or.inl rfl)) dn_))))
  (eI (fB (kG (bK (s9 (fI K (pv 0)) (gY F8 (hr.mono (by omega)) (bK (bL (pv 1)) (bK (bL (pv 2)) cI)))) (bK (bL (pv 2)) cI)))))) gT)
  (eB (fX (iA (kF K Ae) kE (fI K (pv 0)) lD (bQ _)) (eB (hb_ λF=>PS.weak (yP (i:=3) cV.nd rfl rfl (dsc:=aR bu_) (N:=AD) (tgs:=["name","inner"]) (outs:=[]) (N':=["name","inner"]) (by refine⟨rfl,?_,?_,?_,rfl,?_,?_,?_⟩<;>decide +kernel) (XIt.at (Ex:=dZ) F (vM (fI K (pv 0)))) (λ_ _ _ _ _=>(yT K (n:=2) rfl rfl (oR (gC (i:=0) (show(["name","inner"]:List Str).Nodup by decide +kernel) rfl (Or.inl rfl) (.inr rfl)) (oR (gC (i:=1) (show(["name","inner"]:List Str).Nodup by decide +kernel) rfl (Or.inl rfl) (.inr rfl)) dn_)))) (yE (cd_ (by decide) (cd_ (by decide) fk_ cc_) (dz_ cc_))) (λa b c d e=>XCs.at (Ex:=dZ) F vL) (λa b c d e=>XE.at (Ex:=dZ) F (gY Fq (hr.mono (by omega)) (bK (bL (pv 1)) cI)))) (y9 (kO (n:=2) (is:=[0,1]) rfl (by decide)) (by decide)))
  (eB (gE (i:=4) cV.nd rfl (Or.inl rfl) cY)
  (eI (hc_ PassesOwn.never rfl (vM (bL (pv 3))) (wI rfl (oR (gC (i:=1) cV.nd rfl (Or.inl rfl)) (oR (gC (i:=5) cV.nd rfl (Or.inl rfl)) dn_))) (nN (n:=99) (is:=[1,5]) rfl (by decide)) (eI (gE (i:=4) cV.nd rfl (Or.inl rfl) (iS (gY F8 (hr.mono (by omega)) (bK (bL (pv 4)) (bK (bL (pv 5)) cI))) (bL (pv 1))))))))) (eB (hb_ λF=>PS.weak (yP (i:=3) cV.nd rfl rfl (dsc:=aR bu_) (N:=AD) (tgs:=["inner"]) (outs:=[]) (N':=["inner"]) (by refine⟨rfl,?_,?_,?_,rfl,?_,?_,?_⟩<;>decide +kernel) (XIt.at (Ex:=dZ) F (vM (fI K (pv 0)))) (λ_ _ _ _ _=>(gC (i:=0) (show(["inner"]:List Str).Nodup by decide +kernel) rfl (Or.inl rfl) (.inr rfl))) (vN (by decide)) (λa b c d e=>XCs.at (Ex:=dZ) F vL) (λa b c d e=>XE.at (Ex:=dZ) F (gY Fq (hr.mono (by omega)) (bK (bL (pv 0)) cI)))) (y9 (oQ (n:=1) (i:=0) (by decide)) (by decide)))
  (eB (gE (i:=6) cV.nd rfl (Or.inl rfl) (gY F8 (hr.mono (by omega)) (bK cY (bK (kB (hy_ K (by rfl)) sK (by rfl) Ak sQ (bK (vU (dsc:=aR bu_) (N:=AD) (tgs:=AN) (outs:=[]) (N':=AN) (by refine⟨rfl,?_,?_,?_,rfl,?_,?_,?_⟩<;>decide +kernel) (vM (bL (pv 3))) (λ_ _ _ _ _=>(rK K (n:=2) rfl rfl (oR (gC (i:=0) (show(["room","multiple"]:List Str).Nodup by decide +kernel) rfl (Or.inl rfl) (.inr rfl)) (oR (gC (i:=1) (show(["room","multiple"]:List Str).Nodup by decide +kernel) rfl (Or.inl rfl) (.inr rfl)) dn_)))) (nN (n:=2) (is:=[0,1]) rfl (by decide)) (qZ (cd_ (by decide) (cd_ (by decide) fk_ cc_) (dz_ cc_))) (λ_ _ _ _ _=>vL) (λ_ _ _ _ _=>(bL (pv 1)))) cI)) cI))))
  (eI (gE (i:=4) cV.nd rfl (Or.inl rfl) (iS (bL (pv 6)) (kB (hy_ K (by rfl)) sK (by rfl) Ak sQ (bK (vU (dsc:=aR bu_) (N:=AD) (tgs:=AN) (outs:=[]) (N':=AN) (by refine⟨rfl,?_,?_,?_,rfl,?_,?_,?_⟩<;>decide +kernel) (vM (bL (pv 3))) (λ_ _ _ _ _=>(rK K (n:=2) rfl rfl (oR (gC (i:=0) (show(["room","multiple"]:List Str).Nodup by decide +kernel) rfl (Or.inl rfl) (.inr rfl)) (oR (gC (i:=1) (show(["room","multiple"]:List Str).Nodup by decide +kernel) rfl (Or.inl rfl) (.inr rfl)) dn_)))) (nN (n:=2) (is:=[0,1]) rfl (by decide)) (qZ (cd_ (by decide) (cd_ (by decide) fk_ cc_) (dz_ cc_))) (λ_ _ _ _ _=>vL) (λ_ _ _ _ _=>(bL (pv 0)))) cI))))))))
  (eB (gE (i:=2) cV.nd rfl (Or.inl rfl) (kB (hy_ K (by rfl)) sK (by rfl) Ak sQ (bK (vU (dsc:=aR bu_) (N:=AD) (tgs:=AN) (outs:=[]) (N':=AN) (by refine⟨rfl,?_,?_,?_,rfl,?_,?_,?_⟩<;>decide +kernel) (vM (bL (pv 3))) (λ_ _ _ _ _=>(rK K (n:=2) rfl rfl (oR (gC (i:=0) (show(["room","multiple"]:List Str).Nodup by decide +kernel) rfl (Or.inl rfl) (.inr rfl)) (oR (gC (i:=1) (show(["room","multiple"]:List Str).Nodup by decide +kernel) rfl (Or.inl rfl) (.inr rfl)) dn_)))) (nN (n:=2) (is:=[0,1]) rfl (by decide)) (qZ (cd_ (by decide) (cd_ (by decide) fk_ cc_) (dz_ cc_))) (λ_ _ _ _ _=>vL) (λ_ _ _ _ _=>(bL (pv 1)))) cI)))
  (eI (fB (kG (bK (gY F8 (hr.mono (by omega)) (bK (bL (pv 4)) (bK (bL (pv 2)) cI))) (bK (bL (pv 2)) cI))))))))),λds Q h=>?_⟩
 obtain⟨kd,rfl,hk,hf,B8,hn,q⟩:=h
 cases kd with
 |num wd m=>exact⟨kM,q⟩
 |row k m =>
  have C0:k.deep+1<=n+1:=B8
  obtain⟨b0,b1,b2,b3⟩:=aSx (n:=n) hk.1 (by omega) (by omega)
  obtain⟨u1,u2⟩:=cz_ (n:=k.rm.1) (m:=k.rm.2) (by omega)
  have hm:=hk.2
  refine⟨k,rfl,hk.1,hf,by omega,by omega,?_⟩
  exact⟨_,_,rfl,b0,by omega,⟨by omega,by omega⟩,kM,q⟩
 |rcd fs =>
  have C0:cX fs+1<=n+1:=B8
  have hlf:=hk.2
  have hb:=aQe (n:=n) hk.1 (by omega) (by omega)
  have G3:(rmF fs).length=fs.length:=aKw fs
  have Bq:rmF fs≠[]:=λz=>hf.1 (List.eq_nil_of_length_eq_zero (by rw[<-G3,z];rfl))
  obtain⟨x0,x1⟩:=yY hb
  obtain⟨c0,c1⟩:=ez_ (e:=0) (by omega) hb
  refine⟨show(xF fs).length<=1000000 by rw[m7,aD];omega,show dB _ _ _ _ _ (xF fs) _ _ from ?_⟩
  rw[m7]
  refine ch_ _ (λf=>prD f.2.rm) (λf De Ab P p=>?_) ?_
  ·obtain ⟨i,hi⟩:=List.mem_iff_getElem?.mp De
   obtain⟨ok,dk⟩:=aBf hk.1 hi
   exact⟨f.2,rfl,ok,uT hf.2 hi,by omega,by omega,p⟩
  ·rw [aT,aAa]
   refine eg_ prD (λrest ρ=>∃done y1 y2 y5,rmF fs=done++rest/\ρ=[vT (Kd.rcd fs).x,y1,y2,vT (.lst ((rmF fs).map prD)),vT (.int (fM 0 done)),y5,.un]) (λρ h=>?_) (λr rest ρ Kn h A3=>?_) ⟨[],.un,.un,.un,rfl,rfl⟩
   ·obtain ⟨done,y1,y2,y5,e1,rfl⟩:=h
    rw[cF]at e1
    rw[<-e1]
    simp only[dM,eF,gF,xOp,cP,back,fF,dO,dD,bI,aL,aX,aT,aI,aP,aO,bB,Nat.reduceAdd,Nat.reduceSub,aM,aN,aZ,aW,Sv.d]
    refine gs_ (i:=1) (sel:=λr=>r.2) (d:=1) (by omega) Bq (λr hr=>(hb r hr).2.2.1) (λ_=>rfl) (by rfl) (by rfl) ?_
    exact⟨_,_,rfl,c0,by omega,kM,q⟩
   ·obtain ⟨done,y1,y2,y5,e1,rfl⟩:=h
    have Ap:r∈rmF fs:=by rw[e1];exact aG _ aA
    obtain⟨b0,b1,b2,b3⟩:=hb r Ap
    obtain⟨d0,d1⟩:=ez_ (e:=0) (rs:=done) (by omega) (λz hz=>hb z (by rw[e1];exact bG _ hz))
    refine⟨_,_,rfl,d0,by omega,A3 _ ⟨done++[r],vT (.int r.1),y2,vT (.int r.2),by rw[e1,bC];rfl,by rw[gn_];rfl⟩⟩
 |cho ks =>
  have C0:dP ks+1<=n+1:=B8
  have hlf:=hk.2
  have hb:=aQd (n:=n) hk.1 (by omega) (by omega)
  have G3:(rmK ks).length=ks.length:=aOr ks
  have Bq:rmK ks≠[]:=λz=>hf.1 (List.eq_nil_of_length_eq_zero (by rw[<-G3,z];rfl))
  obtain⟨x0,x1⟩:=yY hb
  obtain⟨u1,u2⟩:=cz_ (n:=1) (m:=fS 1 ((rmK ks).map (·.2))) (by omega)
  have y0:0<=fS 0 ((rmK ks).map (·.1)):=rV _
  refine⟨show(xK ks).length<=1000000 by rw[b6,aD];omega,show dB _ _ _ _ _ (xK ks) _ _ from ?_⟩
  rw[b6]
  refine ch_ _ (λk=>prD k.rm) (λk De Ab P p=>?_) ?_
  ·obtain ⟨i,hi⟩:=List.mem_iff_getElem?.mp De
   obtain⟨ok,dk⟩:=aIa hk.1 hi
   exact⟨k,rfl,ok,uS hf.2 hi,by omega,by omega,p⟩
  ·rw [aT,z_]
   simp only[dM,eF,gF,xOp,cP,back,fF,dO,dD,bI,aL,aX,aT,aI,aP,aO,bB,Nat.reduceAdd,Nat.reduceSub,aM,aN,aZ,aW,Sv.d]
   refine aEi ?_
   refine gs_ (i:=1) (sel:=λr=>r.2) (d:=1) (by omega) Bq (λr hr=>(hb r hr).2.2.1) (λ_=>rfl) (by rfl) (by rfl) ?_
   refine⟨_,_,rfl,by decide,by omega,?_⟩
   simp only[dM,eF,gF,xOp,cP,back,fF,dO,dD,bI,aL,aX,aT,aI,aP,aO,bB,Nat.reduceAdd,Nat.reduceSub,aM,aN,aZ,aW,Sv.d]
   refine gs_ (i:=0) (sel:=λr=>r.1) (d:=0) (by omega) Bq (λr hr=>(hb r hr).1) (λ_=>rfl) (by rfl) (by rfl) ?_
   simp only[dM,eF,gF,xOp,cP,back,fF,dO,dD,bI,aL,aX,aT,aI,aP,aO,bB,Nat.reduceAdd,Nat.reduceSub,aM,aN,aZ,aW,Sv.d]
   refine gs_ (i:=1) (sel:=λr=>r.2) (d:=1) (by omega) Bq (λr hr=>(hb r hr).2.2.1) (λ_=>rfl) (by rfl) (by rfl) ?_
   exact⟨_,_,rfl,by omega,by omega,kM,q⟩
theorem aBm:FnOk P w K mg base CX0 j f fd ["kind"] (spX (gLM 0)):=pZ λds Q h=>by
 obtain⟨kd,_,_,_,hd,_⟩:=h
 have:=Kd.deep_pos kd
 omega
end
def gLN:GB:=λl ds Q=>∃B many:Int,ds=[.int many]/\PoolX B l/\0<=many/\many<=12/\B+1000<2^60/\∀(xs:List Str) (l':List Dx),xs.length=many.toNat->xs.Nodup->(∀x∈xs,Nm x)->PoolX (B+200) l'->Q (.lst (xs.map Dx.str)) l'
theorem vQ{G:Hp}:∀xs:List Str,All2 (IsX G) (xs.map Dx.str) (xs.map V.str)
 | []=>rfl
 |x::xs=>⟨_,_,rfl,IsX.of_str x,vQ xs⟩
theorem vR{G:Hp}:∀xs:List Int,All2 (IsX G) (xs.map Dx.int) (xs.map V.int)
 | []=>rfl
 |x::xs=>⟨_,_,rfl,IsX.of_int x,vR xs⟩
theorem aFc{G H:Hp}{p:Addr}{ws:List V}{l:List Dx}{B:Int}(hp:H p=some (.lst ws))(hl:All2 (IsX G) l ws)(h:PoolX B l):∃md,PoolAt p md B H:=by
 obtain⟨c,md,st,rfl,h0,h1⟩:=h
 obtain⟨_,_,rfl,e1,_,_,rfl,e2,_,_,rfl,e3,rfl⟩:=hl
 cases e1.int_eq;cases e2.int_eq;cases e3.int_eq
 exact⟨md,c,st,hp,h0,h1⟩
theorem aFb{G H:Hp}{p:Addr}{md B:Int}(h:PoolAt p md B H):∃l ws,H p=some (.lst ws)/\All2 (IsX G) l ws/\PoolX B l:=by
 obtain⟨c,st,hp,h0,h1⟩:=h
 exact⟨_,_,hp,vR [c,md,st],c,md,st,rfl,h0,h1⟩
theorem aFw{f:Addr}{fd:FuncData}{j:Nat}(h:FnOk P w K mg base CX0 j f fd AC aOb):FnOk P w K mg base CX0 j f fd AC (spB gLN):=h.imp λvs H Q E=>by
 rintro⟨p,ws,l,vr,Hs,ds,Qx,rfl,hp,h1,Ck,hl,h2,⟨B,many,rfl,hP,m0,m1,hB,q⟩,k⟩
 obtain⟨v,rfl,hv⟩:=vE h2
 cases hv.int_eq
 obtain⟨md,hA⟩:=aFc hp hl hP
 refine⟨p,md,B,many,rfl,hA,m0,m1,hB,λa xs H' na ha ha' Cj Ce Dc e hP'=>?_⟩
 obtain⟨l',ws',Bt,Cq,Hr⟩:=aFb (G:=hid [p] (ext Hs H H')) hP'
 exact k (.lst (xs.map Dx.str)) (.ref a) l' ws' H' e Bt Cq (IsX.of_lst (vs:=xs.map V.str) (by rw[oI ha,ha'];rfl) (vQ xs)) (q xs l' Cj Ce Dc Hr)
theorem sY{G K:XS}{ρ:En}{D:XD}(M:En->Prop)(h1:∀ρ',M ρ'->K ρ' D)(h2:∀D':XD,(∀ρ',M ρ'->D'.nx ρ')->G ρ D'):dM G K ρ D:=h2 { D with nx:=λρ'=>K ρ' D } h1
theorem wU{i:Nat}{t:XT}{K:XS}{ρ:En}{D:XD}(h:t ρ λs ρ'=>K (ρ'.set i (.v s)) D):dM (gF i t) K ρ D:=h
theorem kP{i:Nat}{s:Sv}{ρ:En}{Q:Sv->En->Prop}(hi:ρ[i]? = some (.v s))(h:Q (.tr s.d) (ρ.set i (vT s.d))):cP i ρ Q:=by
 unfold cP
 rw[hi]
 exact h
theorem aEk(fs:List (Str×Kd))(f:Str×Kd):xF (fs++[f])=xF fs++[.tup [.str f.1,f.2.x]]:=by rw[m7,m7,cL];rfl
theorem aEj(ks:List Kd)(k:Kd):xK (ks++[k])=xK ks++[k.x]:=by rw[b6,b6,cL];rfl
theorem qX{v:Dx}{a b B:Int}(h:v∈[Dx.int a,Dx.int b])(a0:0<=a)(a1:a<B)(b0:0<=b)(b1:b<B):∃z,v=.int z/\0<=z/\z<B:=by
 simp only[aF,bJ,or_false]at h
 rcases h with rfl | rfl
 ·exact⟨_,rfl,a0,a1⟩
 ·exact⟨_,rfl,b0,b1⟩
theorem aCl{v:Dx}(h:v∈[Dx.int 1,Dx.int 2,Dx.int 4,Dx.int 8]):∃z,v=.int z/\(z=1\/z=2\/z=4\/z=8):=by
 simp only[aF,bJ,or_false]at h
 rcases h with rfl | rfl | rfl | rfl
 ·exact⟨_,rfl,by omega⟩
 ·exact⟨_,rfl,by omega⟩
 ·exact⟨_,rfl,by omega⟩
 ·exact⟨_,rfl,by omega⟩
theorem vS{l:List Dx}{r:Int}{Q:Sv->Prop}(h0:0<=r)(h1:r<l.length)(q:∀d∈l,Q (.tr d)):ixX (.lst l) (.int r) Q:=by
 obtain⟨v,hv,hm⟩:=aDo h0 h1
 show(match atI l r with | some d=>Q (.tr d) | none=>False)
 rw[hv]
 exact q v hm
theorem wR{n:Nat}(h:n<=1000000):n<=1000000:=h
def gLK(n:Nat):GB:=λl ds Q=>∃B d mo:Int,ds=[.int d,.int mo]/\PoolX B l/\8<=mo/\1<=d/\d<=n/\n<=5/\B+tk n<2^60 /\
 ∀(kd:Kd) (l':List Dx),kd.Fit->(kd.deep:Int)<=d->kd.rm.1<=mo->PoolX (B+tk n) l'->Q kd.x l'
section
variable{f:Addr}{n j jM:Nat}
theorem aKo(F:Fun K "_law_kind" "_law_kind" dh_ f fd)(Ar:Cal P w K mg base 1 "_law_take" AC (spB gTK))(CLN:Cal P w K mg base 2 "_law_names" AC (spB gLN))(Fq:Cal P w K mg base jM "_law_room" ["kind"] (spX (gLM 5)))(hjM:jM<=j)(hj2:2<=j)
  (Ds:Cal P w K mg base j "_law_kind" AF (spB (gLK n))) (Ac:mg "range" = none) (m_int:mg "int" = none):FnOk P w K mg base CX0 (j+1) f fd AF (spB (gLK (n+1))):=by
 refine l_ F dL (λl ds Q h=>by obtain⟨B,d,mo,rfl,_⟩:=h;rfl) (by decide) λAf A outer s H E hr=>?_
 have Ae:=bO (sI hr)
 refine⟨_,(eB (gE (i:=3) dL.nd rfl (Or.inl rfl) (gW (i:=0) Ar (hr.mono (by omega)) (pv 0) (bK cY cI)))
  (eB (gE (i:=4) dL.nd rfl (Or.inl rfl) (fi_ (bK lD (bK (iS cY (gW (i:=0) Ar (hr.mono (by omega)) (pv 0) (bK cY cI))) (bK (sU K (kG (bK cY (bK cY (bK cY (bK cY cI))))) (gW (i:=0) Ar (hr.mono (by omega)) (pv 0) (bK cY cI)) (λ_ _=>rfl)) cI)))))
  (eB (fX (XW.pt (k8 (iA (kF K Ae) kE (bL (pv 1)) cY (bQ _)) (m8 (iA nA mX (bL (pv 3)) cY (bQ _))))) (eI (fB (dk_ (pv 4)))) gT)
  (eB (gE (i:=5) dL.nd rfl (Or.inl rfl) (bL (pv 4)))
  (eB (fX (iA nA mX (bL (pv 3)) cY (bQ _)) (eB (gE (i:=6) dL.nd rfl (Or.inl rfl) (iS cY (sU K (kG (bK (gW (i:=0) Ar (hr.mono (by omega)) (pv 0) (bK cY cI)) (bK (gW (i:=0) Ar (hr.mono (by omega)) (pv 0) (bK cY cI)) cI))) (gW (i:=0) Ar (hr.mono (by omega)) (pv 0) (bK cY cI)) (λ_ _=>rfl))))
  (eI (gE (i:=5) dL.nd rfl (Or.inl rfl) (fi_ (bK lD (bK (gW (i:=0) Ds (hr.mono (by omega)) (pv 0) (bK (hd_ (bL (pv 1)) cY) (bK (bL (pv 2)) cI))) (bK (bL (pv 6)) cI))))))) (eI (fX (iA nA mX (bL (pv 3)) cY (bQ _)) (eB (gE (i:=6) dL.nd rfl (Or.inl rfl) (iS cY (sU K (kG (bK (gW (i:=0) Ar (hr.mono (by omega)) (pv 0) (bK cY cI)) (bK (gW (i:=0) Ar (hr.mono (by omega)) (pv 0) (bK cY cI)) cI))) (cy_ qJ aCx (by rfl) m_int oH (bK (fc_ (kF K Ae) kE (gW (i:=0) Ar (hr.mono (by omega)) (pv 0) (bK cY cI)) cY (bQ _)) cI)) (λ_ _=>rfl))))
  (eI (gE (i:=5) dL.nd rfl (Or.inl rfl) (fi_ (bK lD (bK (vU (dsc:=aR dh_) (N:=AH) (tgs:=["name"]) (outs:=[0,1,2]) (N':=["name","pool","deep","most"]) (by refine⟨rfl,?_,?_,?_,rfl,?_,?_,?_⟩<;>decide +kernel) (vM (gW (i:=0) CLN (hr.mono (by omega)) (pv 0) (bK (bL (pv 6)) cI))) (λ_ _ _ _ _=>(gC (i:=0) (show(["name","pool","deep","most"]:List Str).Nodup by decide +kernel) rfl (Or.inl rfl) (.inr rfl))) (oQ (n:=1) (i:=0) (by decide)) (vN (by decide)) (λ_ _ _ _ _=>vL) (λ_ _ _ _ _=>(fi_ (bK (bL (pv 0)) (bK (gW (i:=1) Ds (hr.mono (by omega)) (pv 1) (bK (hd_ (bL (pv 2)) cY) (bK (bL (pv 3)) cI))) cI))))) cI)))))) (eB (gE (i:=6) dL.nd rfl (Or.inl rfl) (iS cY (sU K (kG (bK (gW (i:=0) Ar (hr.mono (by omega)) (pv 0) (bK cY cI)) (bK (gW (i:=0) Ar (hr.mono (by omega)) (pv 0) (bK cY cI)) cI))) (gW (i:=0) Ar (hr.mono (by omega)) (pv 0) (bK cY cI)) (λ_ _=>rfl))))
  (eI (gE (i:=5) dL.nd rfl (Or.inl rfl) (fi_ (bK lD (bK (vU (dsc:=aR dh_) (N:=AH) (tgs:=["k"]) (outs:=[0,1,2]) (N':=["k","pool","deep","most"]) (by refine⟨rfl,?_,?_,?_,rfl,?_,?_,?_⟩<;>decide +kernel) (ek_ Ac (bK (bL (pv 6)) cI)) (λ_ _ _ _ _=>(gC (i:=0) (show(["k","pool","deep","most"]:List Str).Nodup by decide +kernel) rfl (Or.inl rfl) (.inr rfl))) (oQ (n:=1) (i:=0) (by decide)) (vN (by decide)) (λ_ _ _ _ _=>vL) (λ_ _ _ _ _=>(gW (i:=1) Ds (hr.mono (by omega)) (pv 1) (bK (hd_ (bL (pv 2)) cY) (bK (bL (pv 3)) cI))))) cI)))))))))
  (eB (fX (iA aBc aAx (sU K (gY Fq (hr.mono (by omega)) (bK (bL (pv 5)) cI)) cY (λ_ _=>rfl)) (bL (pv 2)) (bQ _)) (eI (fB (dk_ (pv 4)))) gT)
  (eI (fB (dk_ (pv 5)))))))))),λl ds Q h=>?_⟩
 obtain⟨B,d,mo,rfl,hp,G0,hd1,hdn,hn5,hB,q⟩:=h
 have Iy:=pK n
 have eT:tk (n+1)=3000+12*tk n:=rfl
 rw[eT]at hB q
 refine⟨rfl,B,7,rfl,hp,by omega,by decide,by decide,λway l1 w0 w1 Ca=>?_⟩
 refine⟨rfl,_,8,rfl,Ca,by omega,by decide,by decide,λr2 l2 r20 r21 By=>?_⟩
 refine⟨wR (by decide),rfl,_,4,rfl,By,by omega,by decide,by decide,λr3 l3 r30 r31 Bi=>?_⟩
 refine vS r30 r31 λv hv=>?_
 obtain⟨m,rfl,hm⟩:=aCl hv
 refine⟨wR (by show 3<=1000000;decide),?_⟩
 dsimp only
 change dM _ _ [.bw l3,vT (.int d),vT (.int mo),vT (.int way),vT (Kd.num (1+r2) m).x,.un,.un] _
 have fN:(Kd.num (1+r2) m).Fit:=⟨by omega,by omega,hm⟩
 have rN:(Kd.num (1+r2) m).rm.1<=mo:=by show 1+r2<=mo;omega
 have dN:((Kd.num (1+r2) m).deep:Int)<=d:=by show((1:Nat):Int)<=d;omega
 have done:∀{l':List Dx},PoolX (B+(3000+12*tk n)) l'->Q (Kd.num (1+r2) m).x l':=λ{l'} hP=>q _ _ fN dN rN hP
 have Ct:PoolX (B+3) l3:=Bi.mono (by omega)
 clear Bi By Ca hv
 generalize Kd.num (1+r2) m=kN at *
 refine lC (λc=>done (Ct.mono (by omega))) (λc=>?_)
 have c':¬d=1:=λz=>c (by rw[z];exact dzT rfl)
 refine lC (λc=>done (Ct.mono (by omega))) (λc2=>?_)
 unfold eF
 dsimp only
 refine wU (kP rfl ?_)
 change dM _ _ [.bw l3,vT (.int d),vT (.int mo),vT (.int way),vT kN.x,vT kN.x,.un] _
 refine sY (λρ=>∃(kd:Kd) (o:Sl) (l':List Dx),ρ=[.bw l',vT (.int d),vT (.int mo),vT (.int way),vT kN.x,vT kd.x,o]/\kd.Fit/\(kd.deep:Int)<=d/\PoolX (B+(3000+12*tk n)) l') ?_ (λD' hD=>?_)
 ·rintro ρ' ⟨kd,o,l',rfl,hF,B8,Ci⟩
  refine⟨kd,rfl,hF.ok,hF.full,by omega,by decide,?_⟩
  refine lC (λc3=>done Ci) (λc3=>?_)
  have:¬kd.rm.1>mo:=λz=>c3 (dzT z)
  exact q kd l' hF B8 (by omega) Ci
 ·have Cr:d - 1=((d - 1).toNat:Int):=by omega
  have T8:∀i:Nat,i<=8->(i:Int)*tk n<=8*tk n:=λi hi=>cR (by omega) Iy
  have Tn:∀i:Nat,0<=(i:Int)*tk n:=λi=>gM (by omega) Iy
  have Ts:∀i:Nat,((i+1:Nat):Int)*tk n=(i:Int)*tk n+tk n:=λi=>by push_cast;rw[Int.add_mul,Int.one_mul]
  refine lC (λc3=>?_) (λc3=>lC (λc4=>?_) (λc4=>?_))
  ·-- a row
   refine⟨rfl,_,3,rfl,Ct,by omega,by decide,by decide,λa la a0 a1 Fh=>?_⟩
   refine⟨rfl,_,20,rfl,Fh,by omega,by decide,by decide,λb lb b0 b1 Fg=>?_⟩
   refine⟨kM,rfl,_,2,rfl,Fg,by omega,by decide,by decide,λr lr r0 r1 Ff=>vS r0 r1 λv C6=>?_⟩
   obtain⟨z,rfl,z0,z1⟩:=qX (B:=20) C6 a0 (by omega) b0 b1
   refine⟨rfl,_,d-1,mo,rfl,Ff,G0,by omega,by omega,by omega,by omega,λkd l5 hF B8 Gk Ci=>?_⟩
   refine⟨wR (by show 3<=1000000;decide),hD _ ⟨.row kd (1+z),vT (.int (1+z)),l5,rfl,⟨hF,by omega,by omega⟩,?_,Ci.mono (by omega)⟩⟩
   show((kd.deep+1:Nat):Int)<=d
   omega
  ·-- a record
   refine⟨rfl,_,4,rfl,Ct,by omega,by decide,by decide,λa la a0 a1 Fh=>?_⟩
   refine⟨rfl,_,8,rfl,Fh,by omega,by decide,by decide,λb lb b0 b1 Fg=>?_⟩
   refine⟨kM,rfl,_,4,rfl,Fg,by omega,by decide,by decide,λr lr r0 r1 Ff=>?_⟩
   simp only[xC,eqX,eqS,dF,Sv.d,aL,bI,aBz]
   refine vS (by split<;>decide) (by show _<(2:Int);split<;>decide) λv C6=>?_
   obtain⟨z,rfl,z0,z1⟩:=qX (B:=8) C6 a0 (by omega) b0 b1
   refine⟨rfl,_,1+z,rfl,Ff,by omega,by omega,by omega,λxs l5 Cj Ce Dc Ci=>?_⟩
   have hx8:xs.length<=8:=by omega
   refine⟨by rw[aD];omega,?_⟩
   refine cg_ Dx.str (λrest Ab cs=>∃(fs:List (Str×Kd)) (l':List Dx),xs=fs.map (·.1)++rest/\Ab=xF fs/\cs=[.bw l',vT (.int d),vT (.int mo)]/\nS fs/\cX fs<=(d-1).toNat/\PoolX (B+300+(fs.length:Int)*tk n) l') (λAb cs h=>?_) (λnm rest Ab cs Pn h hk=>?_) ⟨[],l5,rfl,rfl,rfl,trivial,dU _,Ci.mono (by simp;omega)⟩
   ·obtain ⟨fs,l',e1,rfl,rfl,hF,B8,Br⟩:=h
    rw[cF]at e1
    have hfl:fs.length=xs.length:=by rw[e1,aD]
    have t8:=T8 fs.length (by omega)
    refine⟨kM,hD _ ⟨.rcd fs,vT (.int (1+z)),l',rfl,⟨hF,by omega,by omega,by rw[<-e1];exact Ce⟩,?_,Br.mono (by omega)⟩⟩
    show((cX fs+1:Nat):Int)<=d
    omega
   ·obtain ⟨fs,l',e1,rfl,rfl,hF,B8,Br⟩:=h
    have hfl:fs.length+(rest.length+1)=xs.length:=by rw[e1,aJ,aD,aI]
    have t8:=T8 fs.length (by omega)
    have ts:=Ts fs.length
    have Gx:nm∈xs:=by rw[e1];exact aG _ aA
    refine⟨rfl,_,d-1,mo,rfl,Br,G0,by omega,by omega,by omega,by omega,λkd l6 Hv Hj Gk Ch=>⟨kM,hk _ _ ⟨fs++[(nm,kd)],l6,?_,?_,rfl,qD hF (Dc nm Gx) Hv,nY B8 (by show kd.deep<=_;omega),Ch.mono (by rw[aJ];show _<=B+300+((fs.length+1:Nat):Int)*tk n;omega)⟩⟩⟩
    ·rw[e1,cL,bC];rfl
    ·rw[aEk];rfl
  ·-- a choice
   refine⟨rfl,_,3,rfl,Ct,by omega,by decide,by decide,λa la a0 a1 Fh=>?_⟩
   refine⟨rfl,_,6,rfl,Fh,by omega,by decide,by decide,λb lb b0 b1 Fg=>?_⟩
   refine⟨kM,rfl,_,2,rfl,Fg,by omega,by decide,by decide,λr lr r0 r1 Ff=>vS r0 r1 λv C6=>?_⟩
   obtain⟨z,rfl,z0,z1⟩:=qX (B:=6) C6 a0 (by omega) b0 b1
   refine⟨⟨by omega,by omega⟩,by show((List.range _).map _).length<=_;rw[aD,dY];omega,?_⟩
   refine cg_ (λk:Nat=>Dx.int (0+(k:Int))) (λrest Ab cs=>∃(ks:List Kd) (l':List Dx),ks.length+rest.length=(1+z).toNat/\Ab=xK ks/\cs=[.bw l',vT (.int d),vT (.int mo)]/\oY ks/\dP ks<=(d-1).toNat/\PoolX (B+300+(ks.length:Int)*tk n) l') (λAb cs h=>?_) (λnm rest Ab cs Pn h hk=>?_) ⟨[],lr,by rw[dY];simp,rfl,rfl,trivial,dU _,Ff.mono (by simp;omega)⟩
   ·obtain ⟨ks,l',e1,rfl,rfl,hF,B8,Br⟩:=h
    rw[aP]at e1
    have t8:=T8 ks.length (by omega)
    refine⟨kM,hD _ ⟨.cho ks,vT (.int (1+z)),l',rfl,⟨hF,by omega,by omega⟩,?_,Br.mono (by omega)⟩⟩
    show((dP ks+1:Nat):Int)<=d
    omega
   ·obtain ⟨ks,l',e1,rfl,rfl,hF,B8,Br⟩:=h
    rw[aI]at e1
    have t8:=T8 ks.length (by omega)
    have ts:=Ts ks.length
    refine⟨rfl,_,d-1,mo,rfl,Br,G0,by omega,by omega,by omega,by omega,λkd l6 Hv Hj Gk Ch=>hk _ _ ⟨ks++[kd],l6,by rw[aJ,fD];omega,?_,rfl,qA hF Hv,nX B8 (by show kd.deep<=_;omega),Ch.mono (by rw[aJ];show _<=B+300+((ks.length+1:Nat):Int)*tk n;omega)⟩⟩
    rw[aEj];rfl
end
mutual
def Kd.vx:Kd->Vd->Dx
 | .num _ _,.num n=>.int n
 | .row k _,.row vs=>.lst (vs.map k.vx)
 | .rcd fs,.rcd vs=>.dic (vxF fs vs)
 | .cho ks,.cho j v=>.tup [.int (j:Int),vxK ks j v]
 |_,_=>.non
def vxF:List (Str×Kd)->List Vd->List (Key×Dx)
 |f::r,v::vs=>(Key.inr f.1,f.2.vx v)::vxF r vs
 |_,_=>[]
def vxK:List Kd->Nat->Vd->Dx
 | [],_,_=>.non
 |k::_,0,v=>k.vx v
 |_::r,j+1,v=>vxK r j v
end
theorem tE:∀{fs:List (Str×Kd)} {vs:List Vd} {f:Str×Kd} {v:Vd},vs.length=fs.length->vxF (fs++[f]) (vs++[v])=vxF fs vs++[(Key.inr f.1,f.2.vx v)]
 | [],[],f,v,_=>by simp[vxF]
 | [],_::_,_,_,h=>by simp at h
 |_::_,[],_,_,h=>by simp at h
 |g::r,u::vs,f,v,h=>by simp only[aX,vxF];rw[tE (by simpa using h)]
theorem ed_:∀{fs:List (Str×Kd)} {vs:List Vd},vs.length=fs.length->(vxF fs vs).map (·.1)=fs.map λf=>(Key.inr f.1:Key)
 | [],[],_=>by simp[vxF]
 | [],_::_,h=>by simp at h
 |_::_,[],h=>by simp at h
 |g::r,u::vs,h=>by simp only[vxF,aL];rw[ed_ (by simpa using h)]
theorem aEx{k:Key}{l:List (Key×Dx)}(h:k.odd=false)(h':∀p∈l,p.1.odd=false):mS k l=true:=by
 unfold mS
 rw[h,show(l.any λp=>p.1.odd)=false from fG.mpr λp hp=>by rw[h' p hp];exact aE]
 rfl
theorem v4{fs:List (Str×Kd)}{vs:List Vd}(h:vs.length=fs.length):∀p∈vxF fs vs,p.1.odd=false:=λp hp=>by
 have:=bY (f:=λx:Key×Dx=>x.1) hp
 rw[ed_ h]at this
 obtain⟨f,_,e⟩:=bH.mp this
 rw[<-e]
 rfl
theorem mI{v:Vd}:∀{ks:List Kd} {j:Nat} {k:Kd},ks[j]? = some k->vxK ks j v=k.vx v
 | [],_,_,e=>by simp at e
 |k'::r,0,k,e=>by simp at e;subst e;simp only[vxK]
 |k'::r,j+1,k,e=>by simp only[vxK];exact mI (j:=j) (by simpa using e)
theorem el_:∀{fs:List (Str×Kd)} {vs:List Vd},gU fs vs->vs.length=fs.length
 | [],[],_=>rfl
 | [],_::_,h=>by simp[gU]at h
 |_::_,[],h=>by simp[gU]at h
 |f::r,v::vs,h=>by simp only[gU]at h;simp[el_ h.2]
theorem pI:∀{fs:List (Str×Kd)} {vs:List Vd} {f:Str×Kd} {v:Vd},gU fs vs->f.2.Val v->gU (fs++[f]) (vs++[v])
 | [],[],f,v,_,h=>by simp only[aT,gU];exact⟨h,trivial⟩
 | [],_::_,_,_,h,_=>by simp[gU]at h
 |_::_,[],_,_,h,_=>by simp[gU]at h
 |g::r,u::vs,f,v,h,h'=>by simp only[aX,gU]at h ⊢;exact⟨h.1,pI h.2 h'⟩
theorem yC:∀{ks:List Kd} {j:Nat} {k:Kd} {v:Vd},ks[j]? = some k->k.Val v->qW ks j v
 | [],_,_,_,e,_=>by simp at e
 |k'::r,0,k,v,e,h=>by simp at e;subst e;simp only[qW];exact h
 |k'::r,j+1,k,v,e,h=>by simp only[qW];exact yC (j:=j) (by simpa using e) h
theorem qC:∀{fs:List (Str×Kd)} {f:Str×Kd},nS fs->f∈fs->f.2.Fit/\f.2.deep<=cX fs
 |g::r,f,h,hm=>by
  rcases aF.mp hm with rfl | hm
  ·exact⟨h.1.2,dG _ _⟩
  ·exact⟨(qC h.2 hm).1,nzL (qC h.2 hm).2 (cZ _ _)⟩
theorem nR:∀{ks:List Kd} {k:Kd},oY ks->k∈ks->k.Fit/\k.deep<=dP ks
 |g::r,f,h,hm=>by
  rcases aF.mp hm with rfl | hm
  ·exact⟨h.1,dG _ _⟩
  ·exact⟨(nR h.2 hm).1,nzL (nR h.2 hm).2 (cZ _ _)⟩
theorem wH{i:Nat}(h:i<=8):(256:Int)^i<=256^8:=by
 have:=Nat.pow_le_pow_right (n:=256) (by decide) h
 exact_mod_cast this
theorem yS{i:Nat}(h:1<=i):(256:Int)<=256^i:=by
 obtain⟨k,rfl⟩:∃k,i=k+1:=⟨i-1,by omega⟩
 rw[Int.pow_succ]
 have:(1:Int)<=256^k:=Int.pow_pos (by decide)
 omega
theorem k9{v:Dx}{t a b:Int}(h:v∈[Dx.int 0,Dx.int t,Dx.int a,Dx.int b])(ht:0<=t)(a0:0<=a)(a1:a<=t)(b0:0<=b)(b1:b<=t):∃z,v=.int z/\0<=z/\z<=t:=by
 simp only[aF,bJ,or_false]at h
 rcases h with rfl | rfl | rfl | rfl
 ·exact⟨_,rfl,by omega,ht⟩
 ·exact⟨_,rfl,ht,by omega⟩
 ·exact⟨_,rfl,a0,a1⟩
 ·exact⟨_,rfl,b0,b1⟩
theorem aGi{l:List Dx}{r:Int}{d:Dx}{Q:Sv->Prop}(h0:0<=r)(h1:l[r.toNat]? = some d)(q:Q (.tr d)):ixX (.lst l) (.int r) Q:=by
 have:=et_ h1
 rw[Int.toNat_of_nonneg h0]at this
 show(match atI l r with | some d=>Q (.tr d) | none=>False)
 rw[this]
 exact q
def tv:Nat->Int
 | 0=>0
 |n+1=>10+21*tv n
theorem pJ:∀n,0<=tv n
 | 0=>Int.le_refl _
 |n+1=>by have:=pJ n;show 0<=10+21*tv n;omega
def gTP:GC:=λds Q=>∃w:Int,ds=[.int w]/\0<=w/\w<=8/\Q (.tr (.int (256^w.toNat-1)))
def gVA(n:Nat):GB:=λl ds Q=>∃(B:Int) (kd:Kd),ds=[kd.x]/\PoolX B l/\kd.Fit/\kd.deep<=n/\n<=5/\B+tv n<2^60/\∀(vd:Vd) (l':List Dx),kd.Val vd->PoolX (B+tv n) l'->Q (kd.vx vd) l'
section
variable{f:Addr}{n j:Nat}
theorem wL(F:Fun K "_law_top" "_law_top" ea_ f fd)(Ac:mg "range" = none):FnOk P w K mg base CX0 1 f fd AR (spX gTP):=by
 refine jD F gZ (λds Q h=>by obtain⟨w,rfl,_⟩:=h;rfl) (by decide) λAf A outer s H E hr=>?_
 refine⟨_,(eB (gE (i:=1) gZ.nd rfl (Or.inl rfl) cY)
  (eB (hc_ PassesOwn.never rfl (ek_ Ac (bK (bL (pv 0)) cI)) (gC (i:=2) gZ.nd rfl (Or.inl rfl)) (oQ (n:=99) (i:=2) (by decide)) (eI (gE (i:=1) gZ.nd rfl (Or.inl rfl) (s9 cY (bL (pv 1))))))
  (eI (fB (hd_ (bL (pv 1)) cY))))),λds Q h=>?_⟩
 obtain⟨w,rfl,h0,h8,q⟩:=h
 refine⟨⟨by omega,by omega⟩,?_⟩
 refine eg_ (λk:Nat=>Dx.int (0+(k:Int))) (λrest ρ=>∃(i:Nat) (y:Sl),i+rest.length=w.toNat/\ρ=[vT (.int w),vT (.int (256^i)),y]) (λρ h=>?_) (λk rest ρ Kn h hk=>?_) ⟨0,.un,by rw[dY];simp,rfl⟩
 ·obtain ⟨i,y,e,rfl⟩:=h
  rw[aP,Nat.add_zero]at e
  subst e
  exact q
 ·obtain ⟨i,y,e,rfl⟩:=h
  rw[aI]at e
  have Gn:=wH (show i<=8 by omega)
  have hp0:(0:Int)<=256^i:=Int.pow_nonneg (by decide)
  exact⟨⟨by decide,by omega⟩,hk _ ⟨i+1,vT (.int (0+(k:Int))),by omega,by rw[Int.pow_succ,Int.mul_comm];rfl⟩⟩
theorem aKg(F:Fun K "_law_value" "_law_value" dl_ f fd)(Ar:Cal P w K mg base 1 "_law_take" AC (spB gTK))(Fl:Cal P w K mg base 1 "_law_top" AR (spX gTP))(Dr:Cal P w K mg base j "_law_value" AM (spB (gVA n)))(Ac:mg "range" = none)(m_len:mg "len" = none)(h1:1<=j) :
  FnOk P w K mg base CX0 (j+1) f fd AM (spB (gVA (n+1))):=by
 refine l_ F eR (λl ds Q h=>by obtain⟨B,kd,rfl,_⟩:=h;rfl) (by decide) λAf A outer s H E hr=>?_
 have Ag:=sI hr
 have Ae:=bO Ag
 refine⟨_,(eB (fX (iA (kF K Ae) kE (fI K (pv 1)) lD (bQ _)) (eB (gE (i:=2) eR.nd rfl (Or.inl rfl) (gY Fl (hr.mono (by omega)) (bK (fI K (pv 1)) cI)))
  (eI (fB (sU K (kG (bK cY (bK (bL (pv 2)) (bK (gW (i:=0) Ar (hr.mono (by omega)) (pv 0) (bK cY cI)) (bK (gW (i:=0) Ar (hr.mono (by omega)) (pv 0) (bK (iS (bL (pv 2)) cY) cI)) cI))))) (gW (i:=0) Ar (hr.mono (by omega)) (pv 0) (bK cY cI)) (λ_ _=>rfl))))) gT)
  (eB (fX (iA (kF K Ae) kE (fI K (pv 1)) lD (bQ _)) (eI (fB (vU (dsc:=aR dl_) (N:=["pool","kind","top","found","name","inner","k"]) (tgs:=["k"]) (outs:=[0,1]) (N':=["k","pool","kind"]) (by refine⟨rfl,?_,?_,?_,rfl,?_,?_,?_⟩<;>decide +kernel) (ek_ Ac (bK (fI K (pv 1)) cI)) (λ_ _ _ _ _=>(gC (i:=0) (show(["k","pool","kind"]:List Str).Nodup by decide +kernel) rfl (Or.inl rfl) (.inr rfl))) (oQ (n:=1) (i:=0) (by decide)) (vN (by decide)) (λ_ _ _ _ _=>vL) (λ_ _ _ _ _=>(gW (i:=1) Dr (hr.mono (by omega)) (pv 1) (bK (fI K (pv 2)) cI)))))) gT)
  (eB (fX (iA (kF K Ae) kE (fI K (pv 1)) lD (bQ _)) (eB (gE (i:=3) eR.nd rfl (Or.inl rfl) gd_)
  (eB (hc_ PassesOwn.never rfl (vM (fI K (pv 1))) (mW rfl (oR (gC (i:=4) eR.nd rfl (Or.inl rfl)) (oR (gC (i:=5) eR.nd rfl (Or.inl rfl)) dn_))) (kO (n:=99) (is:=[4,5]) rfl (by decide)) (eI (hb_ λF=>PS.weak (ff_ Ag (pv 3) (XE.at (Ex:=dZ) F (bL (pv 4))) (XE.at (Ex:=dZ) F (gW (i:=0) Dr (hr.mono (by omega)) (pv 0) (bK (bL (pv 5)) cI))) rfl) hg_)))
  (eI (fB (dk_ (pv 3)))))) gT)
  (eB (gE (i:=6) eR.nd rfl (Or.inl rfl) (gW (i:=0) Ar (hr.mono (by omega)) (pv 0) (bK (kB (pC K) sL (by rfl) m_len PySem.boot_len (bK (fI K (pv 1)) cI)) cI)))
  (eI (fB (fi_ (bK (bL (pv 6)) (bK (gW (i:=0) Dr (hr.mono (by omega)) (pv 0) (bK (sU K (fI K (pv 1)) (bL (pv 6)) (λ_ _=>rfl)) cI)) cI))))))))),λl ds Q h=>?_⟩
 clear Ae Ag h1
 obtain⟨B,kd,rfl,hP,Cm,B8,hn,hB,q⟩:=h
 have ht0:=pJ n
 have eT:tv (n+1)=10+21*tv n:=rfl
 rw[eT]at hB q
 have Tm:∀i:Nat,i<=20->(i:Int)*tv n<=20*tv n:=λi hi=>cR (by omega) ht0
 have Ts:∀i:Nat,((i+1:Nat):Int)*tv n=(i:Int)*tv n+tv n:=λi=>by push_cast;rw[Int.add_mul,Int.one_mul]
 cases kd with
 |num wd m =>
  obtain⟨a1,a2,_⟩:=Cm
  have g1:=wH (show wd.toNat<=8 by omega)
  have g2:=yS (show 1<=wd.toNat by omega)
  refine⟨wd,rfl,by omega,by omega,?_⟩
  refine⟨rfl,B,256,rfl,hP,by omega,by decide,by decide,λx1 l1 x10 x11 Ca=>?_⟩
  refine⟨rfl,_,256^wd.toNat-1+1,rfl,Ca,by omega,by omega,by omega,λx2 l2 x20 x21 By=>?_⟩
  refine⟨wR (by show 4<=1000000;decide),rfl,_,4,rfl,By,by omega,by decide,by decide,λx3 l3 x30 x31 Bi=>vS x30 x31 λv hv=>?_⟩
  obtain⟨z,rfl,z0,z1⟩:=k9 hv (by omega) x10 (by omega) x20 (by omega)
  exact q (.num z) l3 (by simp only[Kd.Val];exact⟨z0,by omega⟩) (Bi.mono (by omega))
 |row k m =>
  obtain⟨f1,m1,m2⟩:=Cm
  have C0:k.deep+1<=n+1:=B8
  refine⟨⟨by omega,by omega⟩,by show((List.range _).map _).length<=_;rw[aD,dY];omega,?_⟩
  refine cg_ (λk:Nat=>Dx.int (0+(k:Int))) (λrest Ab cs=>∃(vs:List Vd) (l':List Dx),vs.length+rest.length=m.toNat/\Ab=vs.map k.vx/\cs=[.bw l',.v (.tr (Kd.row k m).x)]/\(∀v∈vs,k.Val v)/\PoolX (B+(vs.length:Int)*tv n) l') (λAb cs h=>?_) (λnm rest Ab cs Pn h hk=>?_) ⟨[],l,by rw[dY];simp,rfl,rfl,(λv hv=>nomatch hv),hP.mono (by simp)⟩
  ·obtain ⟨vs,l',e1,rfl,rfl,hv,Br⟩:=h
   rw[aP]at e1
   have t8:=Tm vs.length (by omega)
   have:=q (.row vs) l' (by simp only[Kd.Val];exact⟨by omega,hv⟩) (Br.mono (by omega))
   simp only[Kd.vx]at this
   exact this
  ·obtain ⟨vs,l',e1,rfl,rfl,hv,Br⟩:=h
   rw[aI]at e1
   have t8:=Tm vs.length (by omega)
   have ts:=Ts vs.length
   refine⟨rfl,_,k,rfl,Br,f1,by omega,by omega,by omega,λvd l6 Ek Ch=>hk _ _ ⟨vs++[vd],l6,by rw[aJ,fD];omega,by rw[cL];rfl,rfl,λv hm=>?_,Ch.mono (by rw[aJ];show _<=B+((vs.length+1:Nat):Int)*tv n;omega)⟩⟩
   rcases bD.mp hm with hm | hm
   ·exact hv v hm
   ·rw[aH.mp hm];exact Ek
 |rcd fs =>
  obtain⟨f1,m1,m2,Ce⟩:=Cm
  have C0:cX fs+1<=n+1:=B8
  show hZ _ _ _ (xF fs) _
  rw[m7]
  refine eg_ _ (λrest ρ=>∃(done:List (Str×Kd)) (vs:List Vd) (l':List Dx) (y4 y5:Sl),fs=done++rest/\ρ=[.bw l',vT (Kd.rcd fs).x,.un,.v (.od (vxF done vs)),y4,y5,.un]/\gU done vs/\PoolX (B+(done.length:Int)*tv n) l') (λρ h=>?_) (λf rest ρ Kn h hk=>?_) ⟨[],[],l,.un,.un,rfl,by simp only[vxF];rfl,by simp only[gU],hP.mono (by simp)⟩
  ·obtain ⟨done,vs,l',y4,y5,e1,rfl,hv,Br⟩:=h
   rw[cF]at e1
   subst e1
   have t8:=Tm fs.length (by omega)
   have:=q (.rcd vs) l' (by simp only[Kd.Val];exact hv) (Br.mono (by omega))
   simp only[Kd.vx]at this
   exact this
  ·obtain ⟨done,vs,l',y4,y5,e1,rfl,hv,Br⟩:=h
   have hm:f∈fs:=by rw[e1];exact aG _ aA
   have Ad:done.length+(rest.length+1)=fs.length:=by rw[e1,aJ,aI]
   obtain⟨ff,fd'⟩:=qC f1 hm
   have t8:=Tm done.length (by omega)
   have ts:=Ts done.length
   have Cw:=el_ hv
   have Bv:(Key.inr f.1:Key)∉(vxF done vs).map (·.1):=by
    rw[ed_ Cw]
    intro z
    obtain⟨g,hg,e⟩:=bH.mp z
    rw[e1,cL,dC]at Ce
    exact Ce.2.2 g.1 (bY (f:=λx:Str×Kd=>x.1) hg) f.1 (bY (f:=λx:Str×Kd=>x.1) aA) (Key.inr.inj e)
   have hvx:(vxF done vs).length=done.length:=by have:=congrArg List.length (ed_ Cw);simpa using this
   refine⟨rfl,_,f.2,rfl,Br,ff,by omega,by omega,by omega,λvd l6 Ek Ch=>⟨⟨_,rfl⟩,?_⟩⟩
   refine⟨show(vxF done vs).length<1000000 by omega,aEx rfl (v4 Cw),hk _ ⟨done++[f],vs++[vd],l6,vT (.str f.1),vT f.2.x,by rw[e1,bC];rfl,?_,pI hv Ek,Ch.mono (by rw[aJ];show _<=B+((done.length+1:Nat):Int)*tv n;omega)⟩⟩
   rw[tE Cw,<-gt_ Bv]
   rfl
 |cho ks =>
  obtain⟨f1,m1,m2⟩:=Cm
  have C0:dP ks+1<=n+1:=B8
  have hlk:(xK ks).length=ks.length:=by rw[b6,aD]
  refine⟨rfl,B,((xK ks).length:Int),rfl,hP,by omega,by omega,by omega,λr l1 r0 r1 Ca=>?_⟩
  have Ap:r.toNat<ks.length:=by omega
  have A3:=aS Ap
  generalize ks[r.toNat]=kc at A3
  obtain⟨kf,kdp⟩:=nR f1 (bE A3)
  have Dl:(xK ks)[r.toNat]? = some kc.x:=by rw[b6,bP,A3];rfl
  refine⟨rfl,?_⟩
  have Cf:=et_ Dl
  rw[Int.toNat_of_nonneg r0]at Cf
  simp only[dM,eF,xIf,xB,xOp,cP,pF,xC,gF,gG,cW,fY,bS,dF,u8,iP,mH,fP,xiL,aEf,tD,ixX,oN,eqX,eqS,jX,gxN,gxT,gxs,iD,dI,dO,dD,xM,xN,iX,jP,jO,jN,jL,jK,jJ,jI,jH,jG,jF,jC,jB,jA,aM,aN,aZ,aW,Sv.d,aL,bI,cA,bN,aX,aT,aI,aP,aO,bB,Nat.reduceAdd,Nat.reduceSub,Nat.reduceLeDiff,true_and,decide_eq_true_eq,cut,fF,back,iO,bZ,if_true,↓reduceIte,bR,cH,Kd.x,Cf]
  refine⟨_,kc,rfl,Ca,kf,by omega,by omega,by omega,λvd l6 Ek Ch=>?_⟩
  have:=q (.cho r.toNat vd) l6 (by simp only[Kd.Val];exact yC A3 Ek) (Ch.mono (by omega))
  simp only[Kd.vx]at this
  rw[mI A3,Int.toNat_of_nonneg r0]at this
  exact this
end
def gSA(n:Nat):GC:=λds Q=>∃d:Dx,ds=[d,d]/\d.Sz/\d.deep<=n/\Q (.tr (.bl true))
theorem ha_:∀l:List Dx,jS l l=l.map λa=>.tup [a,a]
 | []=>rfl
 |a::l=>by show _::jS l l=_;rw[ha_ l];rfl
section
variable{f:Addr}{n j:Nat}
theorem aKi(F:Fun K "_law_same" "_law_same" cu_ f fd)(Fo:Cal P w K mg base j "_law_same" AG (spX (gSA n)))(m_isinstance:mg "isinstance" = none)(m_list:mg "list" = none)(m_tuple:mg "tuple" = none)(m_dict:mg "dict" = none)(m_bool:mg "bool" = none)(m_str:mg "str" = none)(m_len:mg "len" = none)(Bs:mg "zip" = none) :
  FnOk P w K mg base CX0 (j+1) f fd AG (spX (gSA (n+1))):=by
 refine jD F tO (λds Q h=>by obtain⟨d,rfl,_⟩:=h;rfl) (by decide) λAf A outer s H E hr=>?_
 have Ag:=sI hr
 have Ae:=bO Ag
 refine⟨_,(eB (fX (XW.pt (k8 (iA (eo_ K Ae) hn_ (kH .bool m_isinstance (bL (pv 0)) (iU (v:=.ty "bool") rfl m_bool gk_ rfl)) (kH .bool m_isinstance (bL (pv 1)) (iU (v:=.ty "bool") rfl m_bool gk_ rfl)) (bQ _)) (m8 (iA (eo_ K Ae) hn_ (kH .tuple m_isinstance (bL (pv 0)) (iU (v:=.ty "tuple") rfl m_tuple cr_ rfl)) (kH .tuple m_isinstance (bL (pv 1)) (iU (v:=.ty "tuple") rfl m_tuple cr_ rfl)) (bQ _))))) (eI (fB qF)) gT)
  (eB (fX (XW.pt (t_ (kY (mF .list .tuple m_isinstance (bL (pv 0)) (wJ (iE (iU (v:=.ty "list") rfl m_list er_ rfl) (iE (iU (v:=.ty "tuple") rfl m_tuple cr_ rfl) oP))))) (xV (kY (mF .list .tuple m_isinstance (bL (pv 1)) (wJ (iE (iU (v:=.ty "list") rfl m_list er_ rfl) (iE (iU (v:=.ty "tuple") rfl m_tuple cr_ rfl) oP)))))))) (eI (fB (fd_ (fc_ (kF K Ae) kE (kB (pC K) sL (by rfl) m_len PySem.boot_len (bK (bL (pv 0)) cI)) (kB (pC K) sL (by rfl) m_len PySem.boot_len (bK (bL (pv 1)) cI)) (bQ _)) (gl_ (fc_ (kF K Ae) kE (vU (dsc:=aR cu_) (N:=AG) (tgs:=["a","b"]) (outs:=[]) (N':=["a","b"]) (by refine⟨rfl,?_,?_,?_,rfl,?_,?_,?_⟩<;>decide +kernel) (aEe (i:=0) (j:=1) Bs (pv 0) (pv 1)) (λ_ _ _ _ _=>(yT K (n:=2) rfl rfl (oR (gC (i:=0) (show(["a","b"]:List Str).Nodup by decide +kernel) rfl (Or.inl rfl) (.inr rfl)) (oR (gC (i:=1) (show(["a","b"]:List Str).Nodup by decide +kernel) rfl (Or.inl rfl) (.inr rfl)) dn_)))) (kO (n:=2) (is:=[0,1]) rfl (by decide)) (yE (cd_ (by decide) (cd_ (by decide) fk_ cc_) (dz_ cc_))) (λ_ _ _ _ _=>(lI (vG (kY (gY Fo (hr.mono (by omega)) (bK (bL (pv 0)) (bK (bL (pv 1)) cI))))))) (λ_ _ _ _ _=>cY)) (kG cI) (bQ _)))))) gT)
  (eB (fX (XW.pt (t_ (kY (kH .dict m_isinstance (bL (pv 0)) (iU (v:=.ty "dict") rfl m_dict gj_ rfl))) (xV (kY (kH .dict m_isinstance (bL (pv 1)) (iU (v:=.ty "dict") rfl m_dict gj_ rfl)))))) (eB (fX (XW.pt (k8 (iA (eo_ K Ae) hn_ (kB (pC K) sL (by rfl) m_len PySem.boot_len (bK (bL (pv 0)) cI)) (kB (pC K) sL (by rfl) m_len PySem.boot_len (bK (bL (pv 1)) cI)) (bQ _)) (m8 (iA (eo_ K Ae) hn_ (mG (dsc:=aR cu_) (N:=AG) (tgs:=["key"]) (outs:=[1]) (N':=["key","other"]) (by refine⟨rfl,?_,?_,?_,rfl,?_,?_,?_⟩<;>decide +kernel) (pv 0) (λ_ _ _ _ _=>(gC (i:=0) (show(["key","other"]:List Str).Nodup by decide +kernel) rfl (Or.inl rfl) (.inr rfl))) (oQ (n:=1) (i:=0) (by decide)) (vN (by decide)) (λ_ _ _ _ _=>(lI (pD Ag (bL (pv 0)) (bL (pv 1)) (by with_unfolding_all rfl)))) (λ_ _ _ _ _=>(bL (pv 0)))) (kG cI) (bQ _))))) (eI (fB qF)) gT)
  (eI (fB (fc_ (kF K Ae) kE (mG (dsc:=aR cu_) (N:=AG) (tgs:=["key"]) (outs:=[0,1]) (N':=["key","one","other"]) (by refine⟨rfl,?_,?_,?_,rfl,?_,?_,?_⟩<;>decide +kernel) (pv 0) (λ_ _ _ _ _=>(gC (i:=0) (show(["key","one","other"]:List Str).Nodup by decide +kernel) rfl (Or.inl rfl) (.inr rfl))) (oQ (n:=1) (i:=0) (by decide)) (vN (by decide)) (λ_ _ _ _ _=>(lI (vG (kY (gY Fo (hr.mono (by omega)) (bK (du_ Ag (bL (pv 1)) (bL (pv 0)) (λ_ _=>rfl)) (bK (du_ Ag (bL (pv 2)) (bL (pv 0)) (λ_ _=>rfl)) cI))))))) (λ_ _ _ _ _=>(bL (pv 0)))) (kG cI) (bQ _))))) gT)
  (eI (fB (fd_ (fc_ (kF K Ae) kE (kH .str m_isinstance (bL (pv 0)) (iU (v:=.ty "str") rfl m_str oG rfl)) (kH .str m_isinstance (bL (pv 1)) (iU (v:=.ty "str") rfl m_str oG rfl)) (bQ _)) (gl_ (fc_ (kF K Ae) kE (bL (pv 0)) (bL (pv 1)) (bQ _))))))))),λds Q h=>?_⟩
 clear Ae Ag
 obtain⟨d,rfl,hs,hd,q⟩:=h
 cases d with
 |scr _ _=>simp only[Dx.Sz]at hs
 |ins _ _=>simp only[Dx.Sz]at hs
 |exc _=>simp only[Dx.Sz]at hs
 |pin _ _=>simp only[Dx.Sz]at hs
 |non=>exact q
 |bl b=>show Q (.tr (.bl (decide (b=b))));rw[dzT rfl];exact q
 |int i=>show Q (.tr (.bl (decide (i=i))));rw[dzT rfl];exact q
 |str x=>show Q (.tr (.bl (decide (x=x))));rw[dzT rfl];exact q
 |lst l =>
  simp only[Dx.Sz]at hs
  simp only[Dx.deep]at hd
  show if decide ((l.length:Int)=(l.length:Int))=true then _ else _
  rw[if_pos (dzT rfl)]
  show(jS l l).length<=1000000/\dB _ _ _ _ _ (jS l l) _ _
  rw[ha_]
  refine⟨by rw[aD];omega,cg_ _ (λrest Ab cs=>Ab=[]/\cs=[]/\∀a∈rest,a∈l) (λAb cs h=>?_) (λa rest Ab cs Pn h hk=>?_) ⟨rfl,rfl,λa h=>h⟩⟩
  ·obtain ⟨rfl,rfl,_⟩:=h
   exact⟨by decide,q⟩
  ·obtain ⟨rfl,rfl,h⟩:=h
   have hm:=h a aA
   exact⟨a,rfl,t4 hs.2 hm,by have:=by_ hm;omega,hk _ _ ⟨rfl,rfl,λb hb=>h b (aB _ hb)⟩⟩
 |tup l =>
  simp only[Dx.Sz]at hs
  simp only[Dx.deep]at hd
  show if decide ((l.length:Int)=(l.length:Int))=true then _ else _
  rw[if_pos (dzT rfl)]
  show(jS l l).length<=1000000/\dB _ _ _ _ _ (jS l l) _ _
  rw[ha_]
  refine⟨by rw[aD];omega,cg_ _ (λrest Ab cs=>Ab=[]/\cs=[]/\∀a∈rest,a∈l) (λAb cs h=>?_) (λa rest Ab cs Pn h hk=>?_) ⟨rfl,rfl,λa h=>h⟩⟩
  ·obtain ⟨rfl,rfl,_⟩:=h
   exact⟨by decide,q⟩
  ·obtain ⟨rfl,rfl,h⟩:=h
   have hm:=h a aA
   exact⟨a,rfl,t4 hs.2 hm,by have:=by_ hm;omega,hk _ _ ⟨rfl,rfl,λb hb=>h b (aB _ hb)⟩⟩
 |dic l =>
  simp only[Dx.Sz]at hs
  simp only[Dx.deep]at hd
  show if(!decide ((l.length:Int)=(l.length:Int)))=true then _ else _
  rw[dzT rfl]
  show l.length<=1000000/\dB _ _ _ _ _ (eG l) _ _
  refine⟨by omega,cg_ (λp:Key×Dx=>iY p.1) (λrest Ab cs=>Ab=[]/\cs=[vT (.dic l)]/\∀a∈rest,a∈l) (λAb cs h=>?_) (λa rest Ab cs Pn h hk=>?_) ⟨rfl,rfl,λa h=>h⟩⟩
  ·obtain ⟨rfl,rfl,_⟩:=h
   refine⟨by decide,?_⟩
   show l.length<=1000000/\dB _ _ _ _ _ (eG l) _ _
   refine⟨by omega,cg_ (λp:Key×Dx=>iY p.1) (λrest Ab cs=>Ab=[]/\cs=[vT (.dic l),vT (.dic l)]/\∀a∈rest,a∈l) (λAb cs h=>?_) (λa rest Ab cs Pn h hk=>?_) ⟨rfl,rfl,λa h=>h⟩⟩
   ·obtain ⟨rfl,rfl,_⟩:=h
    exact⟨by decide,q⟩
   ·obtain ⟨rfl,rfl,h⟩:=h
    have hm:=h a aA
    have Au:=eq_ hs.2.1.nodup hm
    have:=hk [] [vT (.dic l),vT (.dic l)] ⟨rfl,rfl,λb hb=>h b (aB _ hb)⟩
    simp only[mP,dM,eF,xIf,xB,xOp,cP,xC,gG,cW,bS,dF,iP,fP,aIx,xOr,jT,jU,xIs,dgX,eqX,neX,eqS,jX,gxN,gxT,gxs,iD,dI,dO,dD,xM,xN,iX,jP,jO,jN,jL,jK,jJ,jI,jH,jG,jF,jC,jB,jA,aM,aN,aZ,aW,Sv.d,aL,bI,cA,bN,aX,aT,aI,aP,aO,bB,Nat.reduceAdd,Nat.reduceSub,Nat.reduceLeDiff,true_and,decide_eq_true_eq,cut,fF,back,iO,bZ,if_true,↓reduceIte,bR,cH,fq_,Au]
    have Fu:=hs.2.1.seek hm
    exact⟨Fu,Fu,a.2,rfl,dr_ hs.2.2 hm,by have:=dj_ hm;omega,this⟩
  ·obtain ⟨rfl,rfl,h⟩:=h
   have hm:=h a aA
   have Au:=eq_ hs.2.1.nodup hm
   have:=hk [] [vT (.dic l)] ⟨rfl,rfl,λb hb=>h b (aB _ hb)⟩
   simp only[mP,dM,eF,xIf,xB,xOp,cP,xC,gG,cW,bS,dF,iP,fP,aIx,xOr,jT,jU,xIs,dgX,eqX,neX,eqS,jX,gxN,gxT,gxs,iD,dI,dO,dD,xM,xN,iX,jP,jO,jN,jL,jK,jJ,jI,jH,jG,jF,jC,jB,jA,aM,aN,aZ,aW,Sv.d,aL,bI,cA,bN,aX,aT,aI,aP,aO,bB,Nat.reduceAdd,Nat.reduceSub,Nat.reduceLeDiff,true_and,decide_eq_true_eq,cut,fF,back,iO,bZ,if_true,↓reduceIte,bR,cH,sJ,fq_,Au]
   exact⟨hs.2.1.seek hm,this⟩
end
def whD:Dx->Bool
 | .int _=>true
 |_=>false
def uK:Key->Bool
 | .inr _=>true
 |_=>false
def isN:Nat->Kd->Dx->Bool
 |_+1,.num w _,.int i=>decide (0<=i)&&decide (((Builtin.Int.intBits i:Nat):Int)<=8*w)
 |n+1,.row k m,.lst l=>decide ((l.length:Int)=m)&&l.all (isN n k)
 |n+1,.rcd fs,.dic l=>decide ((l.length:Int)=(fs.length:Int))&&(l.all λp=>uK p.1)&&fs.all λf=>match eE l (Key.inr f.1)with
  |some x=>isN n f.2 x
  |none=>false
 |n+1,.cho ks,.tup [.int j,x]=>decide (0<=j)&&decide (j<(ks.length:Int))&&(match ks[j.toNat]? with
  |some k=>isN n k x
  |none=>false)
 |_,_,_=>false
def gWB:GC:=λds Q=>∃d:Dx,ds=[d]/\pS d/\Q (.tr (.bl (whD d)))
def gIG(n:Nat):GC:=λds Q=>∃(kd:Kd) (d:Dx),ds=[kd.x,d]/\d.Sz/\kd.Ok/\kd.deep<=n/\n<=12/\Q (.tr (.bl (isN n kd d)))
def aPc(n:Nat):GC:=λds Q=>∃(k:Kd) (m:Int) (d:Dx),ds=[k.x,.int m,d]/\d.Sz/\(Kd.row k m).Ok/\k.deep<=n/\n<=12/\Q (.tr (.bl (isN (n+1) (.row k m) d)))
def aPd(n:Nat):GC:=λds Q=>∃(fs:List (Str×Kd)) (d:Dx),ds=[.lst (xF fs),d]/\d.Sz/\(Kd.rcd fs).Ok/\cX fs<=n/\n<=12/\Q (.tr (.bl (isN (n+1) (.rcd fs) d)))
def aPe(n:Nat):GC:=λds Q=>∃(ks:List Kd) (d:Dx),ds=[.lst (xK ks),d]/\d.Sz/\(Kd.cho ks).Ok/\dP ks<=n/\n<=12/\Q (.tr (.bl (isN (n+1) (.cho ks) d)))
theorem lS:∀{fs:List (Str×Kd)} {f:Str×Kd},okF fs->f∈fs->f.2.Ok/\f.2.deep<=cX fs
 |g::r,f,h,hm=>by
  rcases aF.mp hm with rfl | hm
  ·exact⟨h.1,dG _ _⟩
  ·exact⟨(lS h.2 hm).1,nzL (lS h.2 hm).2 (cZ _ _)⟩
theorem lR:∀{ks:List Kd} {k:Kd},okK ks->k∈ks->k.Ok/\k.deep<=dP ks
 |g::r,k,h,hm=>by
  rcases aF.mp hm with rfl | hm
  ·exact⟨h.1,dG _ _⟩
  ·exact⟨(lR h.2 hm).1,nzL (lR h.2 hm).2 (cZ _ _)⟩
theorem lX{l:List (Key×Dx)}{k:Key}{d:Dx}(h:eE l k=some d):(k,d)∈l:=by
 unfold eE at h
 obtain⟨p,h1,h2⟩:=cJ.mp h
 have h3:=List.mem_of_find?_eq_some h1
 have h4:=List.find?_some h1
 have h5:p.1=k:=by simpa using h4
 rw[<-h5,<-h2]
 exact h3
theorem aHs{d:Dx}(h:d.Sz):pS d:=by cases d<;>simp only[Dx.Sz]at h<;>first | exact h.elim | trivial
section
variable{f:Addr}{n j:Nat}
theorem aKf(F:Fun K "is_whole" "is_whole" ew_ f fd)(m_isinstance:mg "isinstance" = none)(m_int:mg "int" = none)(m_bool:mg "bool" = none):FnOk P w K mg base CX0 1 f fd AL (spX gWB):=by
 refine jD F tP (λds Q h=>by obtain⟨_,rfl,_⟩:=h;rfl) (by decide) λAf A outer s H E hr=>?_
 refine⟨_,(eI (fB (fd_ (kH .int m_isinstance (bL (pv 0)) (iU (v:=.ty "int") rfl m_int oH rfl)) (gl_ (u5 (kH .bool m_isinstance (bL (pv 0)) (iU (v:=.ty "bool") rfl m_bool gk_ rfl))))))),λds Q h=>?_⟩
 obtain⟨d,rfl,hd,q⟩:=h
 cases d<;>first | exact q | exact hd.elim
theorem aFo(F:Fun K "is_row_value" "is_row_value" cf_ f fd)(C4:Cal P w K mg base j "is_value" AB (spX (gIG n)))(m_isinstance:mg "isinstance" = none)(m_list:mg "list" = none)(m_len:mg "len" = none)(m_all:mg "all" = none):FnOk P w K mg base CX0 (j+1) f fd AJ (spX (aPc n)):=by
 refine jD F hh_ (λds Q h=>by obtain⟨_,_,_,rfl,_⟩:=h;rfl) (by decide) λAf A outer s H E hr=>?_
 have Ag:=sI hr
 have Ae:=bO Ag
 refine⟨_,(eB (fX (XW.pt (k8 (vG (kY (kH .list m_isinstance (bL (pv 2)) (iU (v:=.ty "list") rfl m_list er_ rfl)))) (m8 (iA (eo_ K Ae) hn_ (kB (pC K) sL (by rfl) m_len PySem.boot_len (bK (bL (pv 2)) cI)) (bL (pv 1)) (bQ _))))) (eI (fB qF)) gT)
  (eI (fB (kB (hz_ K (by rfl)) xD (by rfl) m_all xP (bK (vU (dsc:=aR cf_) (N:=AJ) (tgs:=["each"]) (outs:=[0]) (N':=["each","kind"]) (by refine⟨rfl,?_,?_,?_,rfl,?_,?_,?_⟩<;>decide +kernel) (vM (bL (pv 2))) (λ_ _ _ _ _=>(gC (i:=0) (show(["each","kind"]:List Str).Nodup by decide +kernel) rfl (Or.inl rfl) (.inr rfl))) (oQ (n:=1) (i:=0) (by decide)) (vN (by decide)) (λ_ _ _ _ _=>vL) (λ_ _ _ _ _=>(gY C4 (hr.mono (by omega)) (bK (bL (pv 1)) (bK (bL (pv 0)) cI))))) cI))))),λds Q h=>?_⟩
 clear Ae Ag
 obtain⟨k,m,d,rfl,hs,hok,hd,hn,q⟩:=h
 cases d with
 |lst l =>
  simp only[Dx.Sz]at hs
  show if(!decide ((l.length:Int)=m))=true then _ else _
  by_cases hm:(l.length:Int)=m
  ·rw [dzT hm]
   simp only[isN,dzT hm,cO]at q
   refine⟨show l.length<=_ by omega,show dB _ _ _ _ _ l _ _ from ?_⟩
   have el:l=l.map id:=by rw[List.map_id]
   rw[el]
   refine ch_ id (λa:Dx=>.bl (isN n k a)) (λa ha Ab P pp=>?_) ?_
   ·exact⟨k,a,rfl,t4 hs.2 ha,hok.1,hd,hn,pp⟩
   ·rw [aT]
    refine⟨l.map (isN n k),?_,?_⟩
    ·rw[gL];rfl
    ·rw[List.all_map];exact q
  ·rw [dzF hm]
   simp only[isN,dzF hm,cC]at q
   exact q
 |scr _ _=>simp only[Dx.Sz]at hs
 |ins _ _=>simp only[Dx.Sz]at hs
 |exc _=>simp only[Dx.Sz]at hs
 |_=>exact q
theorem aFp(F:Fun K "is_record_value" "is_record_value" bj_ f fd)(C4:Cal P w K mg base j "is_value" AB (spX (gIG n)))(m_isinstance:mg "isinstance" = none)(m_dict:mg "dict" = none)(m_str:mg "str" = none)(m_len:mg "len" = none)(m_all:mg "all" = none):FnOk P w K mg base CX0 (j+1) f fd AI (spX (aPd n)):=by
 refine jD F fl_ (λds Q h=>by obtain⟨_,_,rfl,_⟩:=h;rfl) (by decide) λAf A outer s H E hr=>?_
 have Ag:=sI hr
 have Ae:=bO Ag
 refine⟨_,(eB (fX (XW.pt (k8 (vG (kY (kH .dict m_isinstance (bL (pv 1)) (iU (v:=.ty "dict") rfl m_dict gj_ rfl)))) (m8 (iA (eo_ K Ae) hn_ (kB (pC K) sL (by rfl) m_len PySem.boot_len (bK (bL (pv 1)) cI)) (kB (pC K) sL (by rfl) m_len PySem.boot_len (bK (bL (pv 0)) cI)) (bQ _))))) (eI (fB qF)) gT)
  (eB (fX (vG (kY (kB (hz_ K (by rfl)) xD (by rfl) m_all xP (bK (mG (dsc:=aR bj_) (N:=AI) (tgs:=["key"]) (outs:=[]) (N':=["key"]) (by refine⟨rfl,?_,?_,?_,rfl,?_,?_,?_⟩<;>decide +kernel) (pv 1) (λ_ _ _ _ _=>(gC (i:=0) (show(["key"]:List Str).Nodup by decide +kernel) rfl (Or.inl rfl) (.inr rfl))) (oQ (n:=1) (i:=0) (by decide)) (vN (by decide)) (λ_ _ _ _ _=>vL) (λ_ _ _ _ _=>(kH .str m_isinstance (bL (pv 0)) (iU (v:=.ty "str") rfl m_str oG rfl)))) cI)))) (eI (fB qF)) gT)
  (eI (fB (kB (hz_ K (by rfl)) xD (by rfl) m_all xP (bK (vU (dsc:=aR bj_) (N:=AI) (tgs:=["field"]) (outs:=[1]) (N':=["field","thing"]) (by refine⟨rfl,?_,?_,?_,rfl,?_,?_,?_⟩<;>decide +kernel) (vM (bL (pv 0))) (λ_ _ _ _ _=>(gC (i:=0) (show(["field","thing"]:List Str).Nodup by decide +kernel) rfl (Or.inl rfl) (.inr rfl))) (oQ (n:=1) (i:=0) (by decide)) (vN (by decide)) (λ_ _ _ _ _=>vL) (λ_ _ _ _ _=>(fd_ (aIu Ag (fI K (pv 0)) (bL (pv 1)) (by with_unfolding_all rfl)) (gl_ (gY C4 (hr.mono (by omega)) (bK (fI K (pv 0)) (bK (du_ Ag (bL (pv 1)) (fI K (pv 0)) (λ_ _=>rfl)) cI))))))) cI)))))),λds Q h=>?_⟩
 clear Ae Ag
 obtain⟨fs,d,rfl,hs,hok,hd,hn,q⟩:=h
 cases d with
 |dic kvs =>
  simp only[Dx.Sz]at hs
  have hm:=hok.2
  have Cj:(xF fs).length=fs.length:=by rw[m7,aD]
  show if(!decide ((kvs.length:Int)=((xF fs).length:Int)))=true then _ else _
  rw[Cj]
  by_cases he:(kvs.length:Int)=(fs.length:Int)
  ·rw [dzT he]
   simp only[isN,dzT he,cO]at q
   refine⟨show kvs.length<=_ by omega,show dB _ _ _ _ _ (eG kvs) _ _ from ?_⟩
   refine ch_ (λp:Key×Dx=>iY p.1) (λp=>.bl (uK p.1)) (λp hp Ab P pp=>?_) ?_
   ·obtain ⟨k,x⟩:=p
    cases k<;>exact pp
   rw[aT]
   simp only[dF,aL,bI,Sv.d]
   refine⟨kvs.map λp=>uK p.1,by rw[gL];rfl,?_⟩
   rw[List.all_map]
   show if(!(kvs.all (id ∘ λp=>uK p.1)))=true then _ else _
   rw[show(id ∘ λp:Key×Dx=>uK p.1)=λp=>uK p.1 from rfl]
   cases Aq:kvs.all λp=>uK p.1 with
   |false =>
    rw[Aq,cC]at q
    exact q
   |true =>
    rw[Aq,cO]at q
    refine⟨show(xF fs).length<=_ by omega,show dB _ _ _ _ _ (xF fs) _ _ from ?_⟩
    rw[m7]
    refine ch_ _ (λf:Str×Kd=>.bl (match eE kvs (Key.inr f.1)with | some x=>isN n f.2 x | none=>false)) (λp hp Ab P pp=>?_) ?_
    ·obtain ⟨o1,o3⟩:=lS hok.1 hp
     cases hg:eE kvs (Key.inr p.1)with
     |none =>
      rw[hg]at pp
      simp only[mP,dM,eF,xIf,xB,xOp,cP,xC,gG,cW,bS,dF,fP,xiL,xOr,jT,jU,xIs,ixX,dgX,neX,eqS,jX,gxN,iD,dI,dO,dD,xM,xN,iX,jP,jO,jN,jL,jK,jJ,jI,jH,jG,jF,jC,jB,jA,aM,aN,aZ,aW,Sv.d,aL,bI,cA,bN,aX,aT,aI,aP,aO,bB,Nat.reduceAdd,Nat.reduceSub,Nat.reduceLeDiff,true_and,decide_eq_true_eq,cut,fF,back,iO,bZ,if_true,↓reduceIte,bR,cH,sJ,iZ,hg]
      exact⟨rfl,pp⟩
     |some x =>
      rw[hg]at pp
      simp only[mP,dM,eF,xIf,xB,xOp,cP,xC,gG,cW,bS,dF,fP,xiL,xOr,jT,jU,xIs,ixX,dgX,neX,eqS,jX,gxN,iD,dI,dO,dD,xM,xN,iX,jP,jO,jN,jL,jK,jJ,jI,jH,jG,jF,jC,jB,jA,aM,aN,aZ,aW,Sv.d,aL,bI,cA,bN,aX,aT,aI,aP,aO,bB,Nat.reduceAdd,Nat.reduceSub,Nat.reduceLeDiff,true_and,decide_eq_true_eq,cut,fF,back,iO,bZ,if_true,↓reduceIte,bR,cH,sJ,iZ,hg]
      exact⟨rfl,rfl,p.2,x,rfl,dr_ hs.2.2 (lX hg),o1,by omega,hn,pp⟩
    ·rw [aT]
     refine⟨fs.map λf=>(match eE kvs (Key.inr f.1)with | some x=>isN n f.2 x | none=>false),by rw[gL];rfl,?_⟩
     rw[List.all_map]
     exact q
  ·rw [dzF he]
   simp only[isN,dzF he,cC]at q
   exact q
 |scr _ _=>simp only[Dx.Sz]at hs
 |ins _ _=>simp only[Dx.Sz]at hs
 |exc _=>simp only[Dx.Sz]at hs
 |_=>exact q
theorem aFq(F:Fun K "is_choice_value" "is_choice_value" bz_ f fd)(C4:Cal P w K mg base j "is_value" AB (spX (gIG n)))(Ib:Cal P w K mg base 1 "is_whole" AL (spX gWB))(m_isinstance:mg "isinstance" = none)(m_tuple:mg "tuple" = none)(m_len:mg "len" = none)(hj:1<=j):FnOk P w K mg base CX0 (j+1) f fd AO (spX (aPe n)):=by
 refine jD F fm_ (λds Q h=>by obtain⟨_,_,rfl,_⟩:=h;rfl) (by decide) λAf A outer s H E hr=>?_
 have Ag:=sI hr
 have Ae:=bO Ag
 refine⟨_,(eB (fX (XW.pt (k8 (vG (kY (kH .tuple m_isinstance (bL (pv 1)) (iU (v:=.ty "tuple") rfl m_tuple cr_ rfl)))) (m8 (iA (eo_ K Ae) hn_ (kB (pC K) sL (by rfl) m_len PySem.boot_len (bK (bL (pv 1)) cI)) cY (bQ _))))) (eI (fB qF)) gT)
  (eB (fX (XW.pt (k8 (vG (kY (gY Ib (hr.mono (by omega)) (bK (fI K (pv 1)) cI)))) (m8 (vG (u0 uB tY nA mX cY (fI K (pv 1)) (kB (pC K) sL (by rfl) m_len PySem.boot_len (bK (bL (pv 0)) cI))))))) (eI (fB qF)) gT)
  (eI (fB (gY C4 (hr.mono (by omega)) (bK (sU K (bL (pv 0)) (fI K (pv 1)) (λ_ _=>rfl)) (bK (fI K (pv 1)) cI))))))),λds Q h=>?_⟩
 clear Ae Ag hj
 obtain⟨ks,d,rfl,hs,hok,hd,hn,q⟩:=h
 have Cj:(xK ks).length=ks.length:=by rw[b6,aD]
 cases d with
 |tup l =>
  simp only[Dx.Sz]at hs
  cases l with
  |nil=>exact q
  |cons a r =>
   cases r with
   |nil=>cases a<;>exact q
   |cons b r =>
    cases r with
    |cons c r=>cases a<;>exact q
    |nil =>
     obtain⟨ha,hb,_⟩:=hs.2
     refine⟨a,rfl,aHs ha,?_⟩
     cases a with
     |int jj =>
      show if(!true)=true then _ else _
      by_cases h0:0<=jj
      ·by_cases h1:jj < (ks.length:Int)
       ·have D2:=aS (l:=ks) (i:=jj.toNat) (by omega)
        obtain⟨o1,o2⟩:=lR hok.1 (bE D2)
        have Dl:(xK ks)[jj.toNat]? = some (ks[jj.toNat]'(by omega)).x:=by rw[b6,bP,D2];rfl
        have Cf:=et_ Dl
        rw[show((jj.toNat:Nat):Int)=jj from by omega]at Cf
        have e1:((0:Int)<=jj)=True:=eq_true h0
        have e2:(jj<((xK ks).length:Int))=True:=eq_true (by omega)
        simp only[isN,D2,dzT h0,dzT h1,cO]at q
        simp only[dM,eF,xIf,xB,xOp,cP,xC,gG,cW,bS,dF,xOr,jT,xIs,ixX,gI,neX,eqS,jX,iD,dI,dO,dD,xM,xN,iX,jP,jO,jN,jL,jK,jJ,jI,jH,jG,jF,jC,jB,jA,aM,aN,aZ,aW,Sv.d,aL,bI,cA,bN,aX,aT,aI,aP,aO,bB,Nat.reduceAdd,Nat.reduceSub,Nat.reduceLeDiff,true_and,decide_eq_true_eq,cut,fF,back,bZ,if_true,↓reduceIte,bR,cH,isT,iF,e1,e2,Cf,fC,Bool.not_false,decide_true,cK]
        exact⟨_,b,rfl,hb,o1,by omega,hn,q⟩
       ·have e1:((0:Int)≤jj)=True:=eq_true h0
        have e2:(jj<((xK ks).length:Int))=False:=eq_false (by omega)
        simp only[isN,dzT h0,dzF h1,cO,cC]at q
        simp only[dM,eF,xIf,xB,xOp,cP,xC,gG,cW,bS,dF,xOr,jT,xIs,ixX,gI,neX,eqS,jX,iD,dI,dO,dD,xM,xN,iX,jP,jO,jN,jL,jK,jJ,jI,jH,jG,jF,jC,jB,jA,aM,aN,aZ,aW,Sv.d,aL,bI,cA,bN,aX,aT,aI,aP,aO,bB,Nat.reduceAdd,Nat.reduceSub,Nat.reduceLeDiff,true_and,decide_eq_true_eq,cut,fF,back,bZ,if_true,↓reduceIte,bR,cH,isT,iF,e1,e2,fC,Bool.not_false,decide_true,decide_false,cK]
        exact q
      ·have e1:((0:Int)≤jj)=False:=eq_false h0
       simp only[isN,dzF h0,cC]at q
       simp only[dM,eF,xIf,xB,xOp,cP,xC,gG,cW,bS,dF,xOr,jT,xIs,ixX,gI,neX,eqS,jX,iD,dI,dO,dD,xM,xN,iX,jP,jO,jN,jL,jK,jJ,jI,jH,jG,jF,jC,jB,jA,aM,aN,aZ,aW,Sv.d,aL,bI,cA,bN,aX,aT,aI,aP,aO,bB,Nat.reduceAdd,Nat.reduceSub,Nat.reduceLeDiff,true_and,decide_eq_true_eq,cut,fF,back,bZ,if_true,↓reduceIte,bR,cH,isT,iF,e1,fC,Bool.not_false,decide_true,decide_false,cK]
       exact q
     |scr _ _=>simp only[Dx.Sz]at ha
     |ins _ _=>simp only[Dx.Sz]at ha
     |exc _=>simp only[Dx.Sz]at ha
     |_=>exact q
 |scr _ _=>simp only[Dx.Sz]at hs
 |ins _ _=>simp only[Dx.Sz]at hs
 |exc _=>simp only[Dx.Sz]at hs
 |pin _ _=>simp only[Dx.Sz]at hs
 |_=>exact q
theorem aKp(F:Fun K "is_value" "is_value" ex_ f fd)(Ib:Cal P w K mg base 1 "is_whole" AL (spX gWB))(Ic:Cal P w K mg base j "is_row_value" AJ (spX (aPc n)))(Id:Cal P w K mg base j "is_record_value" AI (spX (aPd n)))(Ie:Cal P w K mg base j "is_choice_value" AO (spX (aPe n)))(Ah:∃t,mg "BITS_OF_A_BYTE" = some (.int 8 t))(hj:1<=j) :
  FnOk P w K mg base CX0 (j+1) f fd AB (spX (gIG (n+1))):=by
 refine jD F tQ (λds Q h=>by obtain⟨_,_,rfl,_⟩:=h;rfl) (by decide) λAf A outer s H E hr=>?_
 have Ag:=sI hr
 have Ae:=bO Ag
 refine⟨_,(eB (fX (iA (kF K Ae) kE (fI K (pv 0)) lD (bQ _)) (eI (fB (fd_ (gY Ib (hr.mono (by omega)) (bK (bL (pv 1)) cI)) (fd_ (fc_ aHz aHy (bL (pv 1)) cY (bQ _)) (gl_ (fc_ uB tY (λF=>PE.weak (aJx PySem.F.plainAttrs_int PySem.F.slot_int_bit_length PySem.F.type_int_bit_length oX (XE.at (Ex:=dZ) F (bL (pv 1)))) aMh) (s9 (aEh (by rfl) Ah) (fI K (pv 0))) (bQ _))))))) gT)
  (eB (fX (iA (kF K Ae) kE (fI K (pv 0)) lD (bQ _)) (eI (fB (gY Ic (hr.mono (by omega)) (bK (fI K (pv 0)) (bK (fI K (pv 0)) (bK (bL (pv 1)) cI)))))) gT)
  (eB (fX (iA (kF K Ae) kE (fI K (pv 0)) lD (bQ _)) (eI (fB (gY Id (hr.mono (by omega)) (bK (fI K (pv 0)) (bK (bL (pv 1)) cI))))) gT)
  (eI (fB (gY Ie (hr.mono (by omega)) (bK (fI K (pv 0)) (bK (bL (pv 1)) cI)))))))),λds Q h=>?_⟩
 clear Ae Ag hj
 obtain⟨kd,d,rfl,hs,hok,hd,hn,q⟩:=h
 cases kd with
 |num wd m =>
  obtain⟨a1,a2,a3,a4⟩:=hok
  refine⟨d,rfl,aHs hs,?_⟩
  cases d with
  |int i =>
   show if decide ((0:Int)<=i)=true then _ else _
   by_cases h0:0<=i
   ·rw [if_pos (dzT h0)]
    simp only[isN,dzT h0,cO]at q
    exact⟨⟨by decide,by omega⟩,q⟩
   ·rw [if_neg (by simpa using h0)]
    simp only[isN,dzF h0,cC]at q
    exact q
  |scr _ _=>simp only[Dx.Sz]at hs
  |ins _ _=>simp only[Dx.Sz]at hs
  |exc _=>simp only[Dx.Sz]at hs
  |_=>exact q
 |row k m =>
  have Cn:k.deep+1<=n+1:=hd
  exact⟨k,m,d,rfl,hs,hok,by omega,by omega,q⟩
 |rcd fs =>
  have Cn:cX fs+1<=n+1:=hd
  exact⟨fs,d,rfl,hs,hok,by omega,by omega,q⟩
 |cho ks =>
  have Cn:dP ks+1<=n+1:=hd
  exact⟨ks,d,rfl,hs,hok,by omega,by omega,q⟩
theorem aCa:FnOk P w K mg base CX0 j f fd AB (spX (gIG 0)):=pZ λds Q h=>by
 obtain⟨kd,_,_,_,_,hd,_⟩:=h
 have:=Kd.deep_pos kd
 omega
end
mutual
def Dx.trn:Dx->Dx
 | .lst l=>.lst (w6 l)
 | .tup l=>.tup (w6 l)
 | .dic l=>.dic (mN l).reverse
 |d=>d
def w6:List Dx->List Dx
 | []=>[]
 |d::r=>d.trn::w6 r
def mN:List (Key×Dx)->List (Key×Dx)
 | []=>[]
 |k::r=>(k.1,k.2.trn)::mN r
end
theorem fj_:∀l:List Dx,w6 l=l.map Dx.trn
 | []=>rfl
 |d::r=>by simp only[w6,aL];rw[fj_ r]
theorem t6:∀l:List (Key×Dx),mN l=l.map λp=>(p.1,p.2.trn)
 | []=>rfl
 |d::r=>by simp only[mN,aL];rw[t6 r]
theorem gm_:∀{l:List Dx},(∀d∈l,d.Sz)->szX l
 | [],_=>trivial
 |d::r,h=>⟨h d aA,gm_ λe he=>h e (aB _ he)⟩
theorem lK:∀{l:List (Key×Dx)},(∀p∈l,p.2.Sz)->g8 l
 | [],_=>trivial
 |d::r,h=>⟨h d aA,lK λe he=>h e (aB _ he)⟩
theorem nW{m:Nat}:∀{l:List Dx},(∀d∈l,d.deep<=m)->gH l<=m
 | [],_=>dU _
 |d::r,h=>Nat.max_le.mpr ⟨h d aA,nW λe he=>h e (aB _ he)⟩
theorem qG{m:Nat}:∀{l:List (Key×Dx)},(∀p∈l,p.2.deep<=m)->jE l<=m
 | [],_=>dU _
 |d::r,h=>Nat.max_le.mpr ⟨h d aA,qG λe he=>h e (aB _ he)⟩
theorem ApX.rev{l:List (Key×Dx)}(h:ApX l):ApX l.reverse:=List.pairwise_reverse.mpr (h.imp λz=>⟨λe=>z.1 e.symm,by rw[oC];exact z.2⟩)
theorem ApX.trn{l:List (Key×Dx)}(h:ApX l):ApX (mN l):=by
 rw[t6]
 exact eM.mpr h
theorem qY:∀(n:Nat) (d:Dx),d.deep<=n->d.Sz->d.trn.Sz/\d.trn.deep<=d.deep
 | 0,d,hd,_=>by cases d<;>simp only[Dx.deep]at hd<;>omega
 |n+1,d,hd,hs=>by
  cases d with
  |lst l =>
   simp only[Dx.Sz,Dx.deep,Dx.trn]at hs hd ⊢
   rw[fj_]
   have ih:=λd (hm:d∈l)=>qY n d (by have:=by_ hm;omega) (t4 hs.2 hm)
   refine⟨⟨by rw[aD];exact hs.1,gm_ λe he=>?_⟩,eW (nW λe he=>?_)⟩<;>obtain⟨d,hm,rfl⟩:=bH.mp he
   ·exact(ih d hm).1
   ·exact nzL (ih d hm).2 (by_ hm)
  |tup l =>
   simp only[Dx.Sz,Dx.deep,Dx.trn]at hs hd ⊢
   rw[fj_]
   have ih:=λd (hm:d∈l)=>qY n d (by have:=by_ hm;omega) (t4 hs.2 hm)
   refine⟨⟨by rw[aD];exact hs.1,gm_ λe he=>?_⟩,eW (nW λe he=>?_)⟩<;>obtain⟨d,hm,rfl⟩:=bH.mp he
   ·exact(ih d hm).1
   ·exact nzL (ih d hm).2 (by_ hm)
  |dic l =>
   simp only[Dx.Sz,Dx.deep,Dx.trn]at hs hd ⊢
   have ih:=λd (hm:d∈l)=>qY n d.2 (by have:=dj_ hm;omega) (dr_ hs.2.2 hm)
   refine⟨⟨by rw[List.length_reverse,t6,aD];exact hs.1,hs.2.1.trn.rev,lK λe he=>?_⟩,eW (qG λe he=>?_)⟩<;>rw[List.mem_reverse,t6]at he<;>obtain⟨d,hm,rfl⟩:=bH.mp he
   ·exact(ih d hm).1
   ·exact nzL (ih d hm).2 (dj_ hm)
  |_=>exact⟨hs,aK _⟩
def gTU(n:Nat):GC:=λds Q=>∃d:Dx,ds=[d]/\d.Sz/\d.deep<=n/\∀s:Sv,s.d=d.trn->Q s
section
variable{f:Addr}{n j:Nat}
theorem aKh(F:Fun K "_law_turned" "_law_turned" cm_ f fd)(D9:Cal P w K mg base j "_law_turned" ["value"] (spX (gTU n)))(m_isinstance:mg "isinstance" = none)(m_list:mg "list" = none)(m_tuple:mg "tuple" = none)(m_dict:mg "dict" = none) :
  FnOk P w K mg base CX0 (j+1) f fd ["value"] (spX (gTU (n+1))):=by
 refine jD F gP (λds Q h=>by obtain⟨_,rfl,_⟩:=h;rfl) (by decide) λAf A outer s H E hr=>?_
 have Ag:=sI hr
 refine⟨_,(eB (fX (kY (kH .list m_isinstance (bL (pv 0)) (iU (v:=.ty "list") rfl m_list er_ rfl))) (eI (fB (vU (dsc:=aR cm_) (N:=["value","found","name"]) (tgs:=["one"]) (outs:=[]) (N':=["one"]) (by refine⟨rfl,?_,?_,?_,rfl,?_,?_,?_⟩<;>decide +kernel) (vM (bL (pv 0))) (λ_ _ _ _ _=>(gC (i:=0) (show(["one"]:List Str).Nodup by decide +kernel) rfl (Or.inl rfl) (.inr rfl))) (oQ (n:=1) (i:=0) (by decide)) (vN (by decide)) (λ_ _ _ _ _=>vL) (λ_ _ _ _ _=>(gY D9 (hr.mono (by omega)) (bK (bL (pv 0)) cI)))))) gT)
  (eB (fX (kY (kH .tuple m_isinstance (bL (pv 0)) (iU (v:=.ty "tuple") rfl m_tuple cr_ rfl))) (eI (fB (cy_ (fh_ K) nZ (by rfl) m_tuple cr_ (bK (vU (dsc:=aR cm_) (N:=["value","found","name"]) (tgs:=["one"]) (outs:=[]) (N':=["one"]) (by refine⟨rfl,?_,?_,?_,rfl,?_,?_,?_⟩<;>decide +kernel) (u3 (bL (pv 0))) (λ_ _ _ _ _=>(gC (i:=0) (show(["one"]:List Str).Nodup by decide +kernel) rfl (Or.inl rfl) (.inr rfl))) (oQ (n:=1) (i:=0) (by decide)) (vN (by decide)) (λ_ _ _ _ _=>vL) (λ_ _ _ _ _=>(gY D9 (hr.mono (by omega)) (bK (bL (pv 0)) cI)))) cI)))) gT)
  (eB (fX (vG (kY (kH .dict m_isinstance (bL (pv 0)) (iU (v:=.ty "dict") rfl m_dict gj_ rfl)))) (eI (fB (dk_ (pv 0)))) gT)
  (eB (gE (i:=1) gP.nd rfl (Or.inl rfl) gd_)
  (eB (hc_ PassesOwn.never rfl (vM (aEg (cy_ (oF (by rfl)) vF (by rfl) m_list er_ (bK (bL (pv 0)) cI)))) (gC (i:=2) gP.nd rfl (Or.inl rfl)) (oQ (n:=99) (i:=2) (by decide)) (eI (hb_ λF=>PS.weak (ff_ Ag (pv 1) (XE.at (Ex:=dZ) F (bL (pv 2))) (XE.at (Ex:=dZ) F (gY D9 (hr.mono (by omega)) (bK (du_ Ag (bL (pv 0)) (bL (pv 2)) (λ_ _=>rfl)) cI))) rfl) hg_)))
  (eI (fB (dk_ (pv 1))))))))),λds Q h=>?_⟩
 clear Ag
 obtain⟨d,rfl,hs,hd,q⟩:=h
 cases d with
 |scr _ _=>simp only[Dx.Sz]at hs
 |ins _ _=>simp only[Dx.Sz]at hs
 |exc _=>simp only[Dx.Sz]at hs
 |pin _ _=>simp only[Dx.Sz]at hs
 |lst l =>
  simp only[Dx.Sz]at hs
  simp only[Dx.deep]at hd
  refine⟨show l.length<=_ by omega,show dB _ _ _ _ _ l _ _ from ?_⟩
  have el:l=l.map id:=by rw[List.map_id]
  rw[el]
  refine ch_ id Dx.trn (λd hm Ab P p=>?_) ?_
  ·refine ⟨d,rfl,t4 hs.2 hm,by have:=by_ hm; omega,fun s hs => ?_⟩
   rw[show Dx.trn d=s.d from hs.symm]at p
   exact p
  ·exact q (.ol (l.map Dx.trn)) (by simp only[Dx.trn,Sv.d,fj_])
 |tup l =>
  simp only[Dx.Sz]at hs
  simp only[Dx.deep]at hd
  refine⟨show l.length<=_ by omega,show dB _ _ _ _ _ l _ _ from ?_⟩
  have el:l=l.map id:=by rw[List.map_id]
  rw[el]
  refine ch_ id Dx.trn (λd hm Ab P p=>?_) ?_
  ·refine ⟨d,rfl,t4 hs.2 hm,by have:=by_ hm; omega,fun s hs => ?_⟩
   rw[show Dx.trn d=s.d from hs.symm]at p
   exact p
  ·exact q (.tr (.tup (l.map Dx.trn))) (by simp only[Dx.trn,Sv.d,fj_])
 |dic l =>
  simp only[Dx.Sz]at hs
  simp only[Dx.deep]at hd
  show hZ _ _ _ (eG l).reverse _
  have ek:(eG l).reverse=l.reverse.map λp=>iY p.1:=by unfold eG;rw[List.map_reverse]
  rw[ek]
  have har:=hs.2.1.rev
  refine eg_ _ (λrest ρ=>∃done y,l.reverse=done++rest/\ρ=[vT (.dic l),.v (.od (mN done)),y]) (λρ h=>?_) (λp rest ρ Kn h hk=>?_) ⟨[],.un,rfl,rfl⟩
  ·obtain ⟨done,y,e1,rfl⟩:=h
   rw[cF]at e1
   refine q (.od (mN done)) ?_
   simp only[Dx.trn,Sv.d]
   rw[t6,t6,<-List.map_reverse,e1]
  ·obtain ⟨done,y,e1,rfl⟩:=h
   have Fv:p∈l:=by
    have:p∈l.reverse:=by rw[e1];exact aG _ aA
    exact List.mem_reverse.mp this
   have Au:=eq_ hs.2.1.nodup Fv
   have Fu:=hs.2.1.seek Fv
   have Ad:done.length<=l.length:=by
    have:=congrArg List.length e1
    rw[List.length_reverse,aJ,aI]at this
    omega
   have Cs:ApX (mN done++(p.1,p.2.trn)::mN rest):=by
    have:=har.trn
    rw[e1,t6,cL,aL,<-t6,<-t6]at this
    exact this
   have Bv:p.1∉(mN done).map (·.1):=λz=>by
    obtain⟨q,hq,e⟩:=bH.mp z
    exact((List.pairwise_append.mp Cs).2.2 q hq _ aA).1 e
   have A3:=hk [vT (.dic l),.v (.od (gR (mN done) p.1 p.2.trn)),vT (iY p.1)] ⟨done++[p],_,by rw[e1,bC];rfl,by rw[gt_ Bv,t6 (done++[p]),cL,<-t6];rfl⟩
   simp only[dM,eF,xIf,xB,xOp,cP,pF,gF,gG,cW,bS,dF,mH,fP,xiL,xiT,jT,tD,xIs,dgX,gxN,iD,dI,dO,dD,xM,xN,iX,jP,jO,jN,jL,jK,jJ,jI,jH,jG,jF,jC,jB,jA,aM,aN,aZ,aW,Sv.d,aL,bI,cA,bN,aX,aT,aI,aP,aO,bB,Nat.reduceAdd,Nat.reduceSub,Nat.reduceLeDiff,true_and,decide_eq_true_eq,cut,fF,back,iO,bZ,if_true,↓reduceIte,bR,cH,fq_,Au]
   refine⟨Fu,p.2,rfl,dr_ hs.2.2 Fv,by have:=dj_ Fv;omega,λs Ep=>⟨⟨_,rfl⟩,by rw[t6,aD];omega,Cs.put,?_⟩⟩
   rw[<-Ep]at A3
   exact A3
 |non=>exact q (.tr .non) rfl
 |bl b=>exact q (.tr (.bl b)) rfl
 |int i=>exact q (.tr (.int i)) rfl
 |str x=>exact q (.tr (.str x)) rfl
end
def liN:Nat->Kd->Dx->Bool
 |_+1,.num w _,.int i=>decide (0<=i)&&decide (i<=256^w.toNat-1)
 |n+1,.row k m,.lst l=>decide ((l.length:Int)=m)&&l.all (liN n k)
 |n+1,.rcd fs,.dic l=>decide ((l.length:Int)=(fs.length:Int))&&fs.all λf=>match eE l (Key.inr f.1)with
  |some x=>liN n f.2 x
  |none=>false
 |n+1,.cho ks,.tup [.int j,x]=>decide (0<=j)&&decide (j<(ks.length:Int))&&(match ks[j.toNat]? with
  |some k=>liN n k x
  |none=>false)
 |_,_,_=>false
def gLV(n:Nat):GC:=λds Q=>∃(kd:Kd) (d:Dx),ds=[kd.x,d]/\d.Sz/\kd.Ok/\kd.deep<=n/\n<=12/\Q (.tr (.bl (liN n kd d)))
theorem xH{α:Type}{n:Nat}{gx:XG}{tc:XC}{te:XT}{Q:List Dx->List Sl->Prop}(φ:α->Dx)(b:α->Bool)(v:Dx){cs:List Sl}{as:List α}
  (hs:∀a∈as,∀Ab (P:List Dx->List Sl->Prop),P (if b a then Ab else Ab++[v]) cs->mP n gx tc te P (φ a) cs Ab)
  (hq:∀Ab:List Dx,(Ab=[]↔as.all b=true)->(∀d∈Ab,d=v)->Ab.length<=as.length->Q Ab cs):dB n gx tc te Q (as.map φ) cs []:=by
 refine cg_ φ (λrest Ab cs'=>cs'=cs/\∃done,as=done++rest/\(Ab=[]↔done.all b=true)/\(∀d∈Ab,d=v)/\Ab.length<=done.length) (λAb cs' h=>?_) (λa rest Ab cs' P h hk=>?_) ⟨rfl,[],rfl,by simp,(λ_ h=>nomatch h),aK _⟩
 ·obtain ⟨rfl,done,e,h1,h2,h3⟩:=h
  rw[cF]at e
  subst e
  exact hq Ab h1 h2 h3
 ·obtain ⟨rfl,done,e,h1,h2,h3⟩:=h
  refine hs a (by rw[e];exact aG _ aA) Ab P (hk _ _ ⟨rfl,done++[a],by rw[e,bC];rfl,?_,?_,?_⟩)
  ·rw [List.all_append,cB,List.all_cons,List.all_nil,Bool.and_true,← h1]
   cases b a<;>simp
  ·intro d hd
   split at hd
   ·exact h2 d hd
   ·rcases bD.mp hd with hd | hd
    ·exact h2 d hd
    ·exact aH.mp hd
  ·split<;>simp<;>omega
section
variable{f:Addr}{n j:Nat}
theorem aKl(F:Fun K "_law_is_value" "_law_is_value" ce_ f fd)(Fl:Cal P w K mg base 1 "_law_top" AR (spX gTP))(Fp:Cal P w K mg base j "_law_is_value" AB (spX (gLV n)))(hj:1<=j)(m_isinstance:mg "isinstance" = none)(m_int:mg "int" = none)(m_bool:mg "bool" = none)(m_list:mg "list" = none)(m_tuple:mg "tuple" = none)(m_dict:mg "dict" = none)(m_len:mg "len" = none) :
  FnOk P w K mg base CX0 (j+1) f fd AB (spX (gLV (n+1))):=by
 refine jD F fR (λds Q h=>by obtain⟨_,_,rfl,_⟩:=h;rfl) (by decide) λAf A outer s H E hr=>?_
 have Ag:=sI hr
 have Ae:=bO Ag
 refine⟨_,(eB (fX (iA (kF K Ae) kE (fI K (pv 0)) lD (bQ _)) (eI (fB (fd_ (kH .int m_isinstance (bL (pv 1)) (iU (v:=.ty "int") rfl m_int oH rfl)) (fd_ (u5 (kH .bool m_isinstance (bL (pv 1)) (iU (v:=.ty "bool") rfl m_bool gk_ rfl))) (gl_ (sX uB tY uB tY cY (bL (pv 1)) (gY Fl (hr.mono (by omega)) (bK (fI K (pv 0)) cI)))))))) gT)
  (eB (fX (iA (kF K Ae) kE (fI K (pv 0)) lD (bQ _)) (eB (fX (XW.pt (k8 (vG (kY (kH .list m_isinstance (bL (pv 1)) (iU (v:=.ty "list") rfl m_list er_ rfl)))) (m8 (iA (eo_ K Ae) hn_ (kB (pC K) sL (by rfl) m_len PySem.boot_len (bK (bL (pv 1)) cI)) (fI K (pv 0)) (bQ _))))) (eI (fB qF)) gT)
  (eI (fB (fc_ (kF K Ae) kE (vU (dsc:=aR ce_) (N:=["kind","thing","name","inner"]) (tgs:=["one"]) (outs:=[0]) (N':=["one","kind"]) (by refine⟨rfl,?_,?_,?_,rfl,?_,?_,?_⟩<;>decide +kernel) (vM (bL (pv 1))) (λ_ _ _ _ _=>(gC (i:=0) (show(["one","kind"]:List Str).Nodup by decide +kernel) rfl (Or.inl rfl) (.inr rfl))) (oQ (n:=1) (i:=0) (by decide)) (vN (by decide)) (λ_ _ _ _ _=>(lI (vG (kY (gY Fp (hr.mono (by omega)) (bK (fI K (pv 1)) (bK (bL (pv 0)) cI))))))) (λ_ _ _ _ _=>cY)) (kG cI) (bQ _))))) gT)
  (eB (fX (iA (kF K Ae) kE (fI K (pv 0)) lD (bQ _)) (eB (fX (XW.pt (k8 (vG (kY (kH .dict m_isinstance (bL (pv 1)) (iU (v:=.ty "dict") rfl m_dict gj_ rfl)))) (m8 (iA (eo_ K Ae) hn_ (kB (pC K) sL (by rfl) m_len PySem.boot_len (bK (bL (pv 1)) cI)) (kB (pC K) sL (by rfl) m_len PySem.boot_len (bK (fI K (pv 0)) cI)) (bQ _))))) (eI (fB qF)) gT)
  (eB (hc_ PassesOwn.never rfl (vM (fI K (pv 0))) (mW rfl (oR (gC (i:=2) fR.nd rfl (Or.inl rfl)) (oR (gC (i:=3) fR.nd rfl (Or.inl rfl)) dn_))) (kO (n:=99) (is:=[2,3]) rfl (by decide)) (eI (fX (XW.pt (k8 (pD Ag (bL (pv 2)) (bL (pv 1)) (by with_unfolding_all rfl)) (m8 (vG (kY (gY Fp (hr.mono (by omega)) (bK (bL (pv 3)) (bK (du_ Ag (bL (pv 1)) (bL (pv 2)) (λ_ _=>rfl)) cI)))))))) (eI (fB qF)) gT)))
  (eI (fB qF)))) gT)
  (eB (fX (XW.pt (k8 (vG (kY (kH .tuple m_isinstance (bL (pv 1)) (iU (v:=.ty "tuple") rfl m_tuple cr_ rfl)))) (m8 (iA (eo_ K Ae) hn_ (kB (pC K) sL (by rfl) m_len PySem.boot_len (bK (bL (pv 1)) cI)) cY (bQ _))))) (eI (fB qF)) gT)
  (eB (fX (XW.pt (k8 (vG (kY (kH .int m_isinstance (fI K (pv 1)) (iU (v:=.ty "int") rfl m_int oH rfl)))) (m8 (kY (kH .bool m_isinstance (fI K (pv 1)) (iU (v:=.ty "bool") rfl m_bool gk_ rfl)))))) (eI (fB qF)) gT)
  (eI (fB (fd_ (sX uB tY nA mX cY (fI K (pv 1)) (kB (pC K) sL (by rfl) m_len PySem.boot_len (bK (fI K (pv 0)) cI))) (gl_ (gY Fp (hr.mono (by omega)) (bK (sU K (fI K (pv 0)) (fI K (pv 1)) (λ_ _=>rfl)) (bK (fI K (pv 1)) cI)))))))))))),λds Q h=>?_⟩
 clear Ae Ag hj
 obtain⟨kd,d,rfl,hs,hok,hd,hn,q⟩:=h
 cases kd with
 |num wd m =>
  obtain⟨a1,a2,a3,a4⟩:=hok
  cases d with
  |int i =>
   have ht:(0:Int)<=256^wd.toNat:=Int.pow_nonneg (by decide)
   by_cases h0:0<=i
   ·have e1:((0:Int)≤i)=True:=eq_true h0
    simp only[dM,eF,xIf,xB,xOp,cP,xC,gG,cW,bS,dF,iP,mH,fP,xiL,xOr,jT,jU,sZ,xIs,ixX,dgX,gI,eqX,neX,eqS,jX,gxN,gxT,gxs,iD,dI,dO,dD,xM,xN,iX,jP,jO,jN,jL,jK,jJ,jI,jH,jG,jF,jC,jB,jA,aM,aN,aZ,aW,Sv.d,aL,bI,cA,bN,aX,aT,aI,aP,aO,bB,Nat.reduceAdd,Nat.reduceSub,Nat.reduceLeDiff,true_and,decide_eq_true_eq,cut,fF,back,iO,bZ,if_true,↓reduceIte,bR,cH,isT,iF,e1,fC,Bool.not_false,decide_true,cK]
    refine⟨wd,rfl,by omega,a2,?_⟩
    simp only[liN,dzT h0,cO]at q
    exact q
   ·have e1:((0:Int)≤i)=False:=eq_false h0
    simp only[liN,dzF h0,cC]at q
    simp only[dM,eF,xIf,xB,xOp,cP,xC,gG,cW,bS,dF,iP,mH,fP,xiL,xOr,jT,jU,sZ,xIs,ixX,dgX,gI,eqX,neX,eqS,jX,gxN,gxT,gxs,iD,dI,dO,dD,xM,xN,iX,jP,jO,jN,jL,jK,jJ,jI,jH,jG,jF,jC,jB,jA,aM,aN,aZ,aW,Sv.d,aL,bI,cA,bN,aX,aT,aI,aP,aO,bB,Nat.reduceAdd,Nat.reduceSub,Nat.reduceLeDiff,true_and,decide_eq_true_eq,cut,fF,back,iO,bZ,if_true,↓reduceIte,bR,cH,isT,iF,e1,fC,Bool.not_false,decide_true,decide_false,cK]
    exact q
  |scr _ _=>simp only[Dx.Sz]at hs
  |ins _ _=>simp only[Dx.Sz]at hs
  |exc _=>simp only[Dx.Sz]at hs
  |pin _ _=>simp only[Dx.Sz]at hs
  |_=>exact q
 |row k m =>
  have Cn:k.deep+1<=n+1:=hd
  cases d with
  |lst l =>
   simp only[Dx.Sz]at hs
   show if(!decide ((l.length:Int)=m))=true then _ else _
   by_cases hm:(l.length:Int)=m
   ·rw [dzT hm]
    simp only[liN,dzT hm,cO]at q
    refine⟨show l.length<=_ by omega,show dB _ _ _ _ _ l _ _ from ?_⟩
    have el:l=l.map id:=by rw[List.map_id]
    rw[el]
    refine xH id (liN n k) (.int 1) (λa ha Ab P pp=>?_) (λAb h1 h2 h3=>?_)
    ·refine ⟨k,a,rfl,t4 hs.2 ha,hok.1,by omega,by omega,?_⟩
     show if(!(liN n k a))=true then _ else _
     cases hb:liN n k a with
     |true=>rw[hb]at pp;exact pp
     |false=>rw[hb]at pp;exact pp
    ·refine ⟨by decide,?_⟩
     show Q (.tr (.bl Ab.isEmpty))
     have:Ab.isEmpty=l.all (liN n k):=by
      cases Ab with
      |nil=>exact(h1.mp rfl).symm
      |cons d r =>
       cases hb:l.all (liN n k)with
       |true=>exact absurd (h1.mpr hb) (by simp)
       |false=>rfl
     rw[this]
     exact q
   ·rw [dzF hm]
    simp only[liN,dzF hm,cC]at q
    exact q
  |scr _ _=>simp only[Dx.Sz]at hs
  |ins _ _=>simp only[Dx.Sz]at hs
  |exc _=>simp only[Dx.Sz]at hs
  |pin _ _=>simp only[Dx.Sz]at hs
  |_=>exact q
 |rcd fs =>
  have Cn:cX fs+1<=n+1:=hd
  have Cj:(xF fs).length=fs.length:=by rw[m7,aD]
  cases d with
  |dic l =>
   simp only[Dx.Sz]at hs
   show if(!decide ((l.length:Int)=((xF fs).length:Int)))=true then _ else _
   rw[Cj]
   by_cases he:(l.length:Int)=(fs.length:Int)
   ·rw [dzT he]
    simp only[liN,dzT he,cO]at q
    show hZ _ _ _ (xF fs) _
    rw[m7]
    refine eg_ _ (λrest ρ=>∃done x y,fs=done++rest/\(done.all λf=>match eE l (Key.inr f.1)with | some x=>liN n f.2 x | none=>false)=true/\ρ=[.v (.tr (Kd.rcd fs).x),.v (.tr (.dic l)),x,y]) (λρ h=>?_) (λf rest ρ Kn h hk=>?_) ⟨[],.un,.un,rfl,rfl,rfl⟩
    ·obtain ⟨done,x,y,e,ha,rfl⟩:=h
     rw[cF]at e
     subst e
     rw[ha]at q
     exact q
    ·obtain ⟨done,x,y,e,ha,rfl⟩:=h
     have hm:f∈fs:=by rw[e];exact aG _ aA
     obtain⟨o1,o3⟩:=lS hok.1 hm
     cases hg:eE l (Key.inr f.1)with
     |none =>
      have hf:(fs.all λf=>match eE l (Key.inr f.1)with | some x=>liN n f.2 x | none=>false)=false:=List.all_eq_false.mpr ⟨f,hm,by rw[hg];exact aE⟩
      rw[hf]at q
      simp only[dM,eF,xIf,xB,xOp,cP,xC,gG,cW,bS,dF,iP,mH,fP,xiL,xOr,jT,jU,sZ,xIs,ixX,dgX,gI,eqX,neX,eqS,jX,gxN,gxT,gxs,iD,dI,dO,dD,xM,xN,iX,jP,jO,jN,jL,jK,jJ,jI,jH,jG,jF,jC,jB,jA,aM,aN,aZ,aW,Sv.d,aL,bI,cA,bN,aX,aT,aI,aP,aO,bB,Nat.reduceAdd,Nat.reduceSub,Nat.reduceLeDiff,true_and,decide_eq_true_eq,cut,fF,back,iO,bZ,if_true,↓reduceIte,bR,cH,sJ,iZ,hg]
      exact⟨rfl,q⟩
     |some z =>
      simp only[dM,eF,xIf,xB,xOp,cP,xC,gG,cW,bS,dF,iP,mH,fP,xiL,xOr,jT,jU,sZ,xIs,ixX,dgX,gI,eqX,neX,eqS,jX,gxN,gxT,gxs,iD,dI,dO,dD,xM,xN,iX,jP,jO,jN,jL,jK,jJ,jI,jH,jG,jF,jC,jB,jA,aM,aN,aZ,aW,Sv.d,aL,bI,cA,bN,aX,aT,aI,aP,aO,bB,Nat.reduceAdd,Nat.reduceSub,Nat.reduceLeDiff,true_and,decide_eq_true_eq,cut,fF,back,iO,bZ,if_true,↓reduceIte,bR,cH,sJ,iZ,hg]
      refine⟨rfl,rfl,f.2,z,rfl,dr_ hs.2.2 (lX hg),o1,by omega,by omega,?_⟩
      cases hb:liN n f.2 z with
      |true=>exact hk _ ⟨done++[f],_,_,by rw[e,bC];rfl,by rw[List.all_append,ha,List.all_cons,hg];show(true&&(liN n f.2 z&&true))=true;rw[hb];rfl,rfl⟩
      |false =>
       have hf:(fs.all λf=>match eE l (Key.inr f.1)with | some x=>liN n f.2 x | none=>false)=false:=List.all_eq_false.mpr ⟨f,hm,by rw[hg];show ¬liN n f.2 z=true;rw[hb];exact aE⟩
       rw[hf]at q
       exact q
   ·rw [dzF he]
    simp only[liN,dzF he,cC]at q
    exact q
  |scr _ _=>simp only[Dx.Sz]at hs
  |ins _ _=>simp only[Dx.Sz]at hs
  |exc _=>simp only[Dx.Sz]at hs
  |pin _ _=>simp only[Dx.Sz]at hs
  |_=>exact q
 |cho ks =>
  have Cn:dP ks+1<=n+1:=hd
  have Cj:(xK ks).length=ks.length:=by rw[b6,aD]
  cases d with
  |tup l =>
   simp only[Dx.Sz]at hs
   cases l with
   |nil=>exact q
   |cons a r =>
    cases r with
    |nil=>cases a<;>exact q
    |cons b r =>
     cases r with
     |cons c r=>cases a<;>exact q
     |nil =>
      obtain⟨ha,hb,_⟩:=hs.2
      cases a with
      |int jj =>
       by_cases h0:0<=jj
       ·by_cases h1:jj < (ks.length:Int)
        ·have D2:=aS (l:=ks) (i:=jj.toNat) (by omega)
         obtain⟨o1,o2⟩:=lR hok.1 (bE D2)
         have Dl:(xK ks)[jj.toNat]? = some (ks[jj.toNat]'(by omega)).x:=by rw[b6,bP,D2];rfl
         have Cf:=et_ Dl
         rw[show((jj.toNat:Nat):Int)=jj from by omega]at Cf
         simp only[liN,D2,dzT h0,dzT h1,cO]at q
         show if decide ((0:Int)<=jj)=true then _ else _
         rw[if_pos (dzT h0)]
         show if decide (jj<((xK ks).length:Int))=true then _ else _
         rw[if_pos (dzT (by omega))]
         show(match atI (xK ks) jj with | some d=>_ | none=>False)
         rw[Cf]
         exact⟨_,b,rfl,hb,o1,by omega,by omega,q⟩
        ·simp only [liN,dzT h0,dzF h1,cO,cC] at q
         show if decide ((0:Int)<=jj)=true then _ else _
         rw[if_pos (dzT h0)]
         show if decide (jj<((xK ks).length:Int))=true then _ else _
         rw[if_neg (by simp;omega)]
         exact q
       ·simp only [liN,dzF h0,cC] at q
        show if decide ((0:Int)<=jj)=true then _ else _
        rw[if_neg (by simpa using h0)]
        exact q
      |scr _ _=>simp only[Dx.Sz]at ha
      |ins _ _=>simp only[Dx.Sz]at ha
      |exc _=>simp only[Dx.Sz]at ha
      |pin _ _=>simp only[Dx.Sz]at ha
      |_=>exact q
  |scr _ _=>simp only[Dx.Sz]at hs
  |ins _ _=>simp only[Dx.Sz]at hs
  |exc _=>simp only[Dx.Sz]at hs
  |pin _ _=>simp only[Dx.Sz]at hs
  |_=>exact q
end
theorem yI{α:Type}[DecidableEq α]:∀(A B:List α),A.Nodup->(∀a∈A,a∈B)->B.length<=A.length->∀b∈B,b∈A
 | [],B,_,_,hl,b,hb=>by
  have:=List.length_pos_of_mem hb
  rw[aP]at hl
  omega
 |a::r,B,hn,hs,hl,b,hb=>by
  obtain⟨h1,h2⟩:=cE.mp hn
  have ha:=hs a aA
  have Ad:=List.length_erase_of_mem ha
  have hp:=List.length_pos_of_mem ha
  by_cases e:b=a
  ·rw[e];exact aA
  ·refine aB _ (yI r (B.erase a) h2 (fun x hx => ?_) (by rw [Ad]; rw [aI] at hl; omega) b ((List.mem_erase_of_ne e).mpr hb))
   exact(List.mem_erase_of_ne (λz=>h1 (by rw[<-z];exact hx))).mpr (hs x (aB _ hx))
theorem aCj{l:List (Key×Dx)}{k:Key}{d:Dx}(h:eE l k=some d):k∈l.map (·.1):=by
 have:=bY (f:=λx:Key×Dx=>x.1) (lX h)
 exact this
theorem aDl{i w:Int}(h0:0<=i)(hw:0<=w):decide (((Builtin.Int.intBits i:Nat):Int)<=8*w)=decide (i<=256^w.toNat-1):=by
 have e:(2:Nat)^(8*w.toNat)=256^w.toNat:=by rw[Nat.pow_mul]
 have c:((256^w.toNat:Nat):Int)=256^w.toNat:=by push_cast;rfl
 have key:Builtin.Int.intBits i<=8*w.toNat↔i.natAbs<2^(8*w.toNat):=intBits_le_iff
 rw[e]at key
 by_cases h:i<=256^w.toNat-1
 ·rw [dzT h]
  have:Builtin.Int.intBits i<=8*w.toNat:=key.mpr (by omega)
  exact dzT (by omega)
 ·rw [dzF h]
  refine dzF λz=>h ?_
  have:=key.mp (by omega)
  omega
theorem ia_{α:Type}{f g:α->Bool}:∀{l:List α},(∀a∈l,f a=g a)->l.all f=l.all g
 | [],_=>rfl
 |a::r,h=>by rw[List.all_cons,List.all_cons,h a aA,ia_ λb hb=>h b (aB _ hb)]
theorem uI:∀(n:Nat) (kd:Kd) (d:Dx),kd.Fit->d.Sz->liN n kd d=isN n kd d
 | 0,kd,d,_,_=>by cases kd<;>rfl
 |n+1,.num w m,d,hf,hs=>by
  cases d with
  |int i =>
   simp only[liN,isN]
   by_cases h0:0<=i
   ·rw[aDl h0 (by have:=hf.1;omega)]
   ·rw[dzF h0,cC,cC]
  |_=>rfl
 |n+1,.row k m,d,hf,hs=>by
  cases d with
  |lst l =>
   simp only[Dx.Sz]at hs
   simp only[liN,isN]
   rw[ia_ λa ha=>uI n k a hf.1 (t4 hs.2 ha)]
  |_=>rfl
 |n+1,.rcd fs,d,hf,hs=>by
  cases d with
  |dic l =>
   simp only[Dx.Sz]at hs
   obtain⟨f1,f2,f3,Ce⟩:=hf
   simp only[liN,isN]
   have e1:(fs.all λf=>match eE l (Key.inr f.1)with | some x=>liN n f.2 x | none=>false)=(fs.all λf=>match eE l (Key.inr f.1)with | some x=>isN n f.2 x | none=>false):=ia_ λf hf=>by
    cases hg:eE l (Key.inr f.1)with
    |none=>rfl
    |some z=>exact uI n f.2 z (qC f1 hf).1 (dr_ hs.2.2 (lX hg))
   show(decide ((l.length:Int)=(fs.length:Int))&&fs.all λf=>match eE l (Key.inr f.1)with | some x=>liN n f.2 x | none=>false)=((decide ((l.length:Int)=(fs.length:Int))&&l.all λp=>uK p.1)&&fs.all λf=>match eE l (Key.inr f.1)with | some x=>isN n f.2 x | none=>false)
   rw[e1]
   by_cases he:(l.length:Int)=(fs.length:Int)
   ·rw [dzT he,cO,cO]
    cases hb:(fs.all λf=>match eE l (Key.inr f.1)with | some x=>isN n f.2 x | none=>false)with
    |false=>rw[Bool.and_false]
    |true =>
     rw[Bool.and_true]
     refine(cG.mpr λp hp=>?_).symm
     have El:=yI (fs.map λf=>Key.inr f.1) (l.map (·.1)) (by
      have:(fs.map λf=>Key.inr f.1)=(fs.map (·.1)).map Key.inr:=by rw[gL];rfl
      rw[this]
      exact eM.mpr (Ce.imp λh z=>h (Key.inr.inj z))) (λa ha=>by
      obtain⟨f,hf,rfl⟩:=bH.mp ha
      have:=cG.mp hb f hf
      cases hg:eE l (Key.inr f.1)with
      |none=>rw[hg]at this;cases this
      |some z=>exact aCj hg) (by rw[aD,aD];omega) p.1 (bY (f:=λx:Key×Dx=>x.1) hp)
     obtain⟨f,_,e⟩:=bH.mp El
     rw[<-e]
     rfl
   ·rw[dzF he,cC,cC,cC]
  |_=>rfl
 |n+1,.cho ks,d,hf,hs=>by
  cases d with
  |tup l =>
   simp only[Dx.Sz]at hs
   match l,hs with
   | [],_=>rfl
   | [a],_=>cases a<;>rfl
   |a::b::c::r,_=>cases a<;>rfl
   | [a,b],hs =>
    cases a with
    |int j =>
     simp only[liN,isN]
     cases hg:ks[j.toNat]? with
     |none=>rfl
     |some k =>
      have:=uI n k b (nR hf.1 (bE hg)).1 hs.2.2.1
      show(_&&liN n k b)=(_&&isN n k b)
      rw[this]
    |_=>rfl
  |_=>rfl
theorem gp_:∀{ks:List Kd} {j:Nat} {v:Vd},qW ks j v->∃k,ks[j]? = some k/\k.Val v
 | [],_,_,h=>by simp[qW]at h
 |k::_,0,v,h=>by simp only[qW]at h;exact⟨k,rfl,h⟩
 |_::r,j+1,v,h=>by simp only[qW]at h;obtain⟨k,e,hk⟩:=gp_ h;exact⟨k,by simpa using e,hk⟩
theorem aMl{l:List (Key×Dx)}(h:(l.map (·.1)).Nodup)(o:∀p∈l,p.1.odd=false):ApX l:=List.Pairwise.imp_of_mem (λhp hq z=>⟨z,vJ (o _ hp) (o _ hq)⟩) (eM.mp h)
theorem fa_{n:Nat}:∀{l:List Dx},(∀d∈l,d.deep<=n)->gH l<=n
 | [],_=>dU _
 |d::r,h=>Nat.max_le.mpr ⟨h d aA,fa_ λe he=>h e (aB _ he)⟩
theorem hu_{n:Nat}:∀{l:List (Key×Dx)},(∀p∈l,p.2.deep<=n)->jE l<=n
 | [],_=>dU _
 |d::r,h=>Nat.max_le.mpr ⟨h d aA,hu_ λe he=>h e (aB _ he)⟩
mutual
theorem Kd.x_sz:∀(k:Kd),k.Fit->k.x.Sz/\k.x.deep<=3*k.deep+2
 | .num w m,h=>by
  simp only[Kd.x,Dx.Sz,szX,Dx.deep,gH,Kd.deep,aI,aP]
  exact⟨⟨by omega,trivial,trivial,trivial,trivial⟩,by decide⟩
 | .row k m,h=>by
  obtain⟨a,b⟩:=Kd.x_sz k h.1
  simp only[Kd.x,Dx.Sz,szX,Dx.deep,gH,Kd.deep,aI,aP]
  exact⟨⟨by omega,trivial,a,trivial,trivial⟩,by omega⟩
 | .rcd fs,h=>by
  have z:=aHn fs h.1
  have hl:=h.2.2.1
  have e:gH (xF fs)<=3*cX fs+3:=fa_ λd hd=>(z d hd).2
  simp only[Kd.x,Dx.Sz,szX,Dx.deep,gH,Kd.deep,aI,aP]
  exact⟨⟨by omega,trivial,⟨by rw[m7,aD];omega,gm_ λd hd=>(z d hd).1⟩,trivial⟩,by omega⟩
 | .cho ks,h=>by
  have z:=aHm ks h.1
  have hl:=h.2.2
  have e:gH (xK ks)<=3*dP ks+2:=fa_ λd hd=>(z d hd).2
  simp only[Kd.x,Dx.Sz,szX,Dx.deep,gH,Kd.deep,aI,aP]
  exact⟨⟨by omega,trivial,⟨by rw[b6,aD];omega,gm_ λd hd=>(z d hd).1⟩,trivial⟩,by omega⟩
theorem aHn:∀(fs:List (Str×Kd)),nS fs->∀d∈xF fs,d.Sz/\d.deep<=3*cX fs+3
 | [],_,d,hd=>by simp[xF]at hd
 |f::r,h,d,hd=>by
  obtain⟨a,b⟩:=Kd.x_sz f.2 h.1.2
  simp only[xF]at hd
  have e:cX (f::r)=max f.2.deep (cX r):=rfl
  rcases aF.mp hd with rfl | hd
  ·simp only [Dx.Sz,szX,Dx.deep,gH,aI,aP]
   exact⟨⟨by omega,trivial,a,trivial⟩,by omega⟩
  ·obtain ⟨a',b'⟩:=aHn r h.2 d hd
   exact⟨a',by omega⟩
theorem aHm:∀(ks:List Kd),oY ks->∀d∈xK ks,d.Sz/\d.deep<=3*dP ks+2
 | [],_,d,hd=>by simp[xK]at hd
 |k::r,h,d,hd=>by
  obtain⟨a,b⟩:=Kd.x_sz k h.1
  simp only[xK]at hd
  have e:dP (k::r)=max k.deep (dP r):=rfl
  rcases aF.mp hd with rfl | hd
  ·exact⟨a,by omega⟩
  ·obtain ⟨a',b'⟩:=aHm r h.2 d hd
   exact⟨a',by omega⟩
end
mutual
theorem Kd.vx_sz:∀(kd:Kd) (vd:Vd),kd.Fit->kd.Val vd->(kd.vx vd).Sz/\(kd.vx vd).deep<=kd.deep
 | .num w m,vd,hf,hv=>by
  cases vd with
  |num i=>simp only[Kd.vx,Dx.Sz,Dx.deep,Kd.deep];exact⟨trivial,by omega⟩
  |_=>simp[Kd.Val]at hv
 | .row k m,vd,hf,hv=>by
  cases vd with
  |row vs =>
   simp only[Kd.Val]at hv
   have f3:=hf.2.2
   have z:∀d∈vs.map k.vx,d.Sz/\d.deep<=k.deep:=λd hd=>by
    obtain⟨v,hm,rfl⟩:=bH.mp hd
    exact Kd.vx_sz k v hf.1 (hv.2 v hm)
   simp only[Kd.vx,Dx.Sz,Dx.deep,Kd.deep]
   have:=fa_ λd hd=>(z d hd).2
   exact⟨⟨by rw[aD];omega,gm_ λd hd=>(z d hd).1⟩,by omega⟩
  |_=>simp[Kd.Val]at hv
 | .rcd fs,vd,hf,hv=>by
  cases vd with
  |rcd vs =>
   simp only[Kd.Val]at hv
   obtain⟨f1,f2,f3,Ce⟩:=hf
   have Cw:=el_ hv
   have z:=vY fs vs f1 hv
   simp only[Kd.vx,Dx.Sz,Dx.deep,Kd.deep]
   have hk:=ed_ Cw
   have Ad:(vxF fs vs).length=fs.length:=by have:=congrArg List.length hk;simpa using this
   have:=hu_ λd hd=>(z d hd).2
   refine⟨⟨by omega,?_,lK λd hd=>(z d hd).1⟩,by omega⟩
   refine aMl ?_ (v4 Cw)
   rw[hk]
   have e:(fs.map λf=>(Key.inr f.1:Key))=(fs.map (·.1)).map (λx:Str=>(Key.inr x:Key)):=by rw[gL];rfl
   rw[e]
   exact List.Pairwise.map _ (λa b h e=>h (Key.inr.inj e)) Ce
  |_=>simp[Kd.Val]at hv
 | .cho ks,vd,hf,hv=>by
  cases vd with
  |cho jj v =>
   simp only[Kd.Val]at hv
   obtain⟨k,hk,Ea⟩:=gp_ hv
   obtain⟨a,b⟩:=v3 ks hf.1 k (bE hk) v Ea
   simp only[Kd.vx,Dx.Sz,Dx.deep,Kd.deep,szX,gH,aI,aP]
   rw[mI hk]
   have:=Kd.deep_pos k
   have Ec:=(nR hf.1 (bE hk)).2
   exact⟨⟨by omega,trivial,a,trivial⟩,by omega⟩
  |_=>simp[Kd.Val]at hv
theorem vY:∀(fs:List (Str×Kd)) (vs:List Vd),nS fs->gU fs vs->∀p∈vxF fs vs,p.2.Sz/\p.2.deep<=cX fs
 | [],_,_,_,p,h=>by simp[vxF]at h
 |_::_,[],_,h,_,_=>by simp[gU]at h
 |f::r,v::vs,hf,hv,p,h=>by
  simp only[gU]at hv
  simp only[vxF]at h
  have e:cX (f::r)=max f.2.deep (cX r):=rfl
  rcases aF.mp h with rfl | h
  ·obtain ⟨a,b⟩:=Kd.vx_sz f.2 v hf.1.2 hv.1
   exact⟨a,nzL b (by omega)⟩
  ·obtain ⟨a,b⟩:=vY r vs hf.2 hv.2 p h
   exact⟨a,by omega⟩
theorem v3:∀(ks:List Kd),oY ks->∀k∈ks,∀v,k.Val v->(k.vx v).Sz/\(k.vx v).deep<=k.deep
 | [],_,k,h,_,_=>by simp at h
 |k'::r,hf,k,h,v,hv=>by
  by_cases e:k=k'
  ·rw[e]at hv ⊢;exact Kd.vx_sz k' v hf.1 hv
  ·exact v3 r hf.2 k ((aF.mp h).resolve_left e) v hv
end
def gRI:GC:=λds Q=>∃(kd:Kd) (d:Dx),ds=[kd.x,d]/\kd.Fit/\kd.deep<=5/\d.Sz/\d.deep<=20/\Q (.tr (.bl true))
section
variable{f:Addr}{n j:Nat}
theorem aKj(F:Fun K "_law_right" "_law_right" fe_ f fd)(Eg:Cal P w K mg base j "_law_copy" AL (spX (gCP 20)))(C4:Cal P w K mg base j "is_value" AB (spX (gIG 5)))(Fp:Cal P w K mg base j "_law_is_value" AB (spX (gLV 5)))(Fo:Cal P w K mg base j "_law_same" AG (spX (gSA 20)))(m_isinstance:mg "isinstance" = none)(m_bool:mg "bool" = none) :
  FnOk P w K mg base CX0 (j+1) f fd AB (spX gRI):=by
 refine jD F hR (λds Q h=>by obtain⟨_,_,rfl,_⟩:=h;rfl) (by decide) λAf A outer s H E hr=>?_
 have Ag:=sI hr
 have Ae:=bO Ag
 refine⟨_,(eB (gE (i:=2) hR.nd rfl (Or.inl rfl) (kG (bK (gY Eg (hr.mono (by lia)) (bK (bL (pv 0)) cI)) (bK (gY Eg (hr.mono (by lia)) (bK (bL (pv 1)) cI)) cI))))
  (eB (gE (i:=3) hR.nd rfl (Or.inl rfl) (gY C4 (hr.mono (by lia)) (bK (fI K (pv 2)) (bK (fI K (pv 2)) cI))))
  (eB (fX (XW.pt (k8 (vG (kY (kH .bool m_isinstance (bL (pv 3)) (iU (v:=.ty "bool") rfl m_bool gk_ rfl)))) (m8 (iA (eo_ K Ae) hn_ (bL (pv 3)) (gY Fp (hr.mono (by lia)) (bK (bL (pv 0)) (bK (bL (pv 1)) cI))) (bQ _))))) (eI (fB qF)) gT)
  (eI (fB (fd_ (gY Fo (hr.mono (by lia)) (bK (fI K (pv 2)) (bK (bL (pv 0)) cI))) (gl_ (gY Fo (hr.mono (by lia)) (bK (fI K (pv 2)) (bK (bL (pv 1)) cI)))))))))),λds Q h=>?_⟩
 clear Ae Ag
 obtain⟨kd,d,rfl,hf,hd,hs,Cr,q⟩:=h
 obtain⟨kz,kdp⟩:=Kd.x_sz kd hf
 refine⟨kd.x,rfl,kz,by lia,d,rfl,hs,Cr,by show 2<=1000000;decide,?_⟩
 refine⟨kd,d,?_,hs,hf.ok,hd,by lia,?_⟩
 ·show [kd.x.own.d,d.own.d]=_
  rw[mY,mY]
 refine⟨kd,d,rfl,hs,hf.ok,hd,by lia,?_⟩
 rw[uI 5 kd d hf hs]
 show if(!decide (isN 5 kd d=isN 5 kd d))=true then _ else _
 rw[dzT rfl]
 refine⟨kd.x,?_,kz,by lia,?_⟩
 ·show [kd.x.own.d,kd.x]=_
  rw[mY]
 refine⟨d,?_,hs,Cr,q⟩
 show [d.own.d,d]=_
 rw[mY]
end
def Gd(n:Nat)(d:Dx):Prop:=d.Sz/\d.deep<=n
def GG(n m:Nat)(l:List Dx):Prop:=l.length<=m/\∀d∈l,Gd n d
theorem Gd.mono{n m:Nat}{d:Dx}(h:Gd n d)(e:n<=m):Gd m d:=⟨h.1,nzL h.2 e⟩
theorem GG.nil{n m:Nat}:GG n m []:=⟨dU _,λ_ h=>nomatch h⟩
theorem GG.cons{n m:Nat}{d:Dx}{l:List Dx}(h:Gd n d)(t:GG n m l):GG n (m+1) (d::l):=⟨eW t.1,λe he=>(aF.mp he).elim (λz=>z ▸ h) (t.2 e)⟩
theorem GG.one{n:Nat}{d:Dx}(h:Gd n d):GG n 1 [d]:=.cons h .nil
theorem GG.cut{n m:Nat}{l:List Dx}(h:GG n m l)(a b:Option Int):GG n m (jZ l a b):=⟨nzL ((List.take_sublist _ _).trans (List.drop_sublist _ _)).length_le h.1,λd hd=>h.2 d (List.mem_of_mem_drop (List.mem_of_mem_take hd))⟩
theorem GG.app{n m k:Nat}{l t:List Dx}(h:GG n m l)(g:GG n k t):GG n (m+k) (l++t):=⟨by rw[aJ];exact Nat.add_le_add h.1 g.1,λd hd=>(bD.mp hd).elim (h.2 d) (g.2 d)⟩
theorem GG.mono{n n' m:Nat}{l:List Dx}(h:GG n m l)(e:n<=n'):GG n' m l:=⟨h.1,λd hd=>(h.2 d hd).mono e⟩
theorem GG.lst{n m N:Nat}{l:List Dx}(h:GG n m l)(hm:m<=100000)(e:n+1<=N):Gd N (.lst l):=⟨by simp only[Dx.Sz];exact⟨nzL h.1 hm,gm_ λd hd=>(h.2 d hd).1⟩,by simp only[Dx.deep];exact nzL (eW (fa_ λd hd=>(h.2 d hd).2)) e⟩
theorem GG.tup{n m N:Nat}{l:List Dx}(h:GG n m l)(hm:m<=100000)(e:n+1<=N):Gd N (.tup l):=⟨by simp only[Dx.Sz];exact⟨nzL h.1 hm,gm_ λd hd=>(h.2 d hd).1⟩,by simp only[Dx.deep];exact nzL (eW (fa_ λd hd=>(h.2 d hd).2)) e⟩
theorem r_{n:Nat}(i:Int):Gd (n+1) (.int i):=⟨by simp only[Dx.Sz],by simp only[Dx.deep];lia⟩
theorem uR{n:Nat}(b:Bool):Gd (n+1) (.bl b):=⟨by simp only[Dx.Sz],by simp only[Dx.deep];lia⟩
theorem kQ{n:Nat}(x:Str):Gd (n+1) (.str x):=⟨by simp only[Dx.Sz],by simp only[Dx.deep];lia⟩
theorem nP{n:Nat}:Gd (n+1) .non:=⟨by simp only[Dx.Sz],by simp only[Dx.deep];lia⟩
theorem sF{n:Nat}:Gd (n+1) (.dic []):=⟨by simp only[Dx.Sz,g8,aP];exact⟨by decide,.nil,trivial⟩,by simp only[Dx.deep,jE];lia⟩
theorem sD{l:List Dx}{i j:Nat}{d:Dx}{ρ:En}{Q:Sv->En->Prop}(hi:ρ[i]? = some (vT (.tup l)))(h:l[j]? = some d)(q:Q (.tr d) ρ):xOp ixX (cP i) (xC (.int (j:Int))) ρ Q:=by
 have Dd:=aV.mp hi
 unfold xOp cP
 simp only[hi]
 have e:ρ.set i (vT (Sv.tr (.tup l)).d)=ρ:=by
  obtain⟨a,b⟩:=Dd
  show ρ.set i (vT (.tup l))=ρ
  rw[<-b]
  exact List.set_getElem_self a
 rw[e]
 show(match atI l (j:Int)with | some d=>Q (.tr d) ρ | none=>False)
 rw[et_ h]
 exact q
theorem ev_{ρ:En}{i:Nat}{s:Sl}(h:ρ[i]? = some s):ρ.set i s=ρ:=by
 obtain⟨a,b⟩:=aV.mp h
 rw[<-b]
 exact List.set_getElem_self a
theorem ep_{t:XT}{u:XA}{ρ:En}{Q:List Sv->En->Prop}(h:t ρ λs ρ1=>u ρ1 λss ρ2=>Q (s::ss) ρ2):bS t u ρ Q:=h
theorem aLm{l:List Dx}{i j:Nat}{r:Int}{ρ:En}{Q:Sv->En->Prop}(hi:ρ[i]? = some (vT (.lst l)))(hj:ρ[j]? = some (vT (.int r)))(h0:0<=r)(h1:r<(l.length:Int))(q:∀d∈l,Q (.tr d) ρ):xOp ixX (cP i) (cP j) ρ Q:=by
 unfold xOp cP
 simp only[hi]
 rw[show ρ.set i (vT (Sv.tr (.lst l)).d)=ρ from ev_ hi]
 simp only[hj]
 rw[show ρ.set j (vT (Sv.tr (.int r)).d)=ρ from ev_ hj]
 exact vS h0 h1 q
theorem nO{g:G2}{ta tb:XT}{ρ:En}{Q:Sv->En->Prop}(h:ta ρ λa ρ1=>tb ρ1 λb ρ2=>g a.d b.d λs=>Q s ρ2):xOp g ta tb ρ Q:=h
theorem aLl{u:XA}{ρ:En}{Q:Sv->En->Prop}(h:u ρ λss ρ'=>ss.length<=1000000/\Q (.ol (ss.map Sv.d)) ρ'):iP u ρ Q:=h
theorem aLp{l:List Dx}{i:Nat}{c r:Int}{ρ:En}{Q:Sv->En->Prop}(hi:ρ[i]? = some (vT (.lst l)))(h0:0<=r)(h1:r<(l.length:Int))(q:∀d∈l,Q (.tr (.dic [(.inl c,d)])) ρ):xD1 (xC (.int c)) (xOp ixX (cP i) (xC (.int r))) ρ Q:=by
 unfold xD1 xOp cP xC
 simp only[hi]
 rw[show ρ.set i (vT (Sv.tr (.lst l)).d)=ρ from ev_ hi]
 exact vS h0 h1 λd hd=>⟨rfl,q d hd⟩
def gBV(n:Nat):GB:=λl ds Q=>∃(B:Int) (kd:Kd) (vd:Vd),ds=[kd.x,kd.vx vd]/\PoolX B l/\kd.Fit/\kd.Val vd/\kd.deep<=n/\n<=5/\B+tb n<2^60/\∀(d:Dx) (l':List Dx),Gd (kd.deep+1) d->PoolX (B+tb n) l'->Q d l'
def gBW(n:Nat):GB:=λl ds Q=>∃(B:Int) (k:Kd) (m:Int) (vs:List Vd),ds=[(Kd.row k m).x,(Kd.row k m).vx (.row vs)]/\PoolX B l/\(Kd.row k m).Fit/\(Kd.row k m).Val (.row vs)/\k.deep<=n/\n<=5/\B+tb n+2<2^60/\∀(d:Dx) (l':List Dx),Gd (k.deep+2) d->PoolX (B+tb n+2) l'->Q d l'
section
variable{f:Addr}{n j:Nat}
theorem aKq(F:Fun K "_law_bad_row" "_law_bad_row" dg_ f fd)(Ar:Cal P w K mg base 1 "_law_take" AC (spB gTK))(Di:Cal P w K mg base j "_law_bad_value" AA (spB (gBV n)))(hj:1<=j)(m_len:mg "len" = none)(m_tuple:mg "tuple" = none) :
  FnOk P w K mg base CX0 (j+1) f fd AA (spB (gBW n)):=by
 refine l_ F fE (λl ds Q h=>by obtain⟨_,_,_,_,rfl,_⟩:=h;rfl) (by decide) λAf A outer s H E hr=>?_
 have Ag:=sI hr
 have Ae:=bO Ag
 refine⟨_,(eB (gE (i:=3) fE.nd rfl (Or.inl rfl) (gW (i:=0) Ar (hr.mono (by lia)) (pv 0) (bK (kB (pC K) sL (by rfl) m_len PySem.boot_len (bK (bL (pv 2)) cI)) cI)))
  (eB (gE (i:=4) fE.nd rfl (Or.inl rfl) (s9 (kG (bK (iS (iS (ec_ K (bL (pv 2)) gb_ (ej_ (bL (pv 3)))) (kG (bK (gW (i:=0) Di (hr.mono (by lia)) (pv 0) (bK (fI K (pv 1)) (bK (sU K (bL (pv 2)) (bL (pv 3)) (λ_ _=>rfl)) cI))) cI))) (ec_ K (bL (pv 2)) (ej_ (iS (bL (pv 3)) cY)) gb_)) cI)) cY))
  (eB (gE (i:=4) fE.nd rfl (Or.inl rfl) (iS (bL (pv 4)) (kG (bK (iS (bL (pv 2)) (ec_ K (bL (pv 2)) (ej_ (bL (pv 3))) (ej_ (iS (bL (pv 3)) cY)))) (bK (iS (ec_ K (bL (pv 2)) gb_ (ej_ (bL (pv 3)))) (ec_ K (bL (pv 2)) (ej_ (iS (bL (pv 3)) cY)) gb_)) (bK (cy_ (fh_ K) nZ (by rfl) m_tuple cr_ (bK (bL (pv 2)) cI)) (bK qU cI)))))))
  (eI (fB (sU K (iS (bL (pv 4)) (kG (bK (aNi cY (fI K (pv 2))) (bK (kG cI) cI)))) (gW (i:=0) Ar (hr.mono (by lia)) (pv 0) (bK cY cI)) (λ_ _=>rfl))))))),λl ds Q h=>?_⟩
 clear Ae Ag hj
 obtain⟨B,k,m,vs,rfl,hP,hf,hv,hd,hn,hB,q⟩:=h
 obtain⟨f1,f2,f3⟩:=hf
 simp only[Kd.Val]at hv
 have Cw:=hv.1
 have Gg:tb n=4*n:=rfl
 simp only[Kd.vx]
 have vz:GG k.deep 20 (vs.map k.vx):=⟨by rw[aD];lia,λd hd=>by obtain⟨v,hm,rfl⟩:=bH.mp hd;exact Kd.vx_sz k v f1 (hv.2 v hm)⟩
 have vx:∀d∈vs.map k.vx,∃v,k.Val v/\d=k.vx v:=λd hd=>by obtain⟨v,hm,rfl⟩:=bH.mp hd;exact⟨v,hv.2 v hm,rfl⟩
 have vl:((vs.map k.vx).length:Int)=m:=by rw[aD];exact Cw
 generalize vs.map k.vx=ws at *
 have hl:=vz.1
 refine⟨rfl,B,(ws.length:Int),rfl,hP,by lia,by lia,by lia,λr l1 r0 r1 Ca=>?_⟩
 refine⟨rfl,ep_ (sD (j:=1) (d:=k.x) rfl rfl (ep_ (aLm rfl rfl r0 r1 λd0 Ee=>?_)))⟩
 obtain⟨v,hv0,rfl⟩:=vx d0 Ee
 refine⟨B+1,k,v,rfl,Ca,f1,hv0,hd,hn,by lia,λd l2 Dg By=>?_⟩
 have c1:=(vz.cut none (some r)).mono (n':=k.deep+1) (by lia)
 have c2:=(vz.cut (some (r+1)) none).mono (n':=k.deep+1) (by lia)
 have g1:=(c1.app (.one Dg)).app c2
 refine⟨by show 1<=1000000;decide,by have:=c1.1;show _+1<=_;lia,by have:=g1.1;have:=c1.1;have:=c2.1;rw[aJ];show _+1+_<=_;lia,by show 1<=1000000;decide,⟨by decide,by decide,by show 3<=1000000;decide⟩,?_⟩
 dsimp only
 generalize he:jZ ws none (some r)++List.map Sv.d [Sv.tr d]++jZ ws (some (r+1)) none=e at *
 have g1':GG (k.deep+1) 41 e:=by rw[<-he];exact g1
 change dM _ _ [.bw l2,vT (Kd.row k m).x,vT (.lst ws),vT (.int r),.v (.ol [.lst e,.lst e,.lst e])] _
 have c3:=vz.cut (some r) (some (r+1))
 have c4:=vz.cut none (some r)
 have c5:=vz.cut (some (r+1)) none
 refine⟨by have:=c3.1;show _+_<=_;lia,by have:=c4.1;have:=c5.1;show _+_<=_;lia,by show 4<=1000000;decide,by show 3+4<=1000000;decide,?_⟩
 dsimp only
 change gG _ [.bw l2,vT (Kd.row k m).x,vT (.lst ws),vT (.int r),.v (.ol ([.lst e,.lst e,.lst e]++[.lst (ws++jZ ws (some r) (some (r+1))),.lst (jZ ws none (some r)++jZ ws (some (r+1)) none),.tup ws,.non]))] _
 refine nO (nO (kP rfl (aLl (ep_ (aLp rfl (by decide) (by lia) λd0 Ee=>?_)))))
 refine⟨by show 0<=1000000;decide,by show 2<=1000000;decide,by show 7+2<=1000000;decide,rfl,B+1+tb n,9,rfl,By,by lia,by decide,by decide,λr9 l3 r90 r91 Bi=>?_⟩
 have hw:=vz.mono (n':=k.deep+1) (by lia)
 have ge:Gd (k.deep+2) (.lst e):=g1'.lst (by decide) (aK _)
 refine vS (l:=[.lst e,.lst e,.lst e]++[.lst (ws++jZ ws (some r) (some (r+1))),.lst (jZ ws none (some r)++jZ ws (some (r+1)) none),.tup ws,.non]++[.dic [(.inl 0,d0)],.lst []]) r90 (by show r9<9;exact r91) ?_
 intro dd Cr
 refine q dd l3 ?_ (Bi.mono (by lia))
 refine((GG.cons ge (.cons ge (.one ge))).app (.cons ((hw.app (c3.mono (by lia))).lst (by decide) (aK _)) (.cons ((c1.app c2).lst (by decide) (aK _)) (.cons (hw.tup (by decide) (aK _)) (.one nP))))).app (.cons ?_ (.one (GG.nil.lst (m:=0) (n:=0) (by decide) (by lia)))) |>.2 dd Cr
 have z:=vz.2 d0 Ee
 exact⟨by simp only[Dx.Sz,g8];exact⟨by show 1<=100000;decide,List.pairwise_singleton _ _,z.1,trivial⟩,by have:=z.2;simp only[Dx.deep,jE];lia⟩
end
theorem q_{G:Hp}{l:List (Key×Dx)}{ws:List (Key×V)}(h:All2 (KvX G) l ws):ws.map (·.1)=l.map (·.1):=(lV h).symm
def aJf:GC:=λds Q=>∃(l:List (Key×Dx)) (ks:List Str),ds=[.dic l]/\l.map (·.1)=ks.map Key.inr/\ks.length<64/\∀ss:List Str,ss.Perm ks->Q (.ol (ss.map Dx.str))
theorem aCw:fU aAf aJf:=by
 intro F P H ds xs Q Qx R hs g k
 obtain⟨l,ks,rfl,hk,Hx,q⟩:=g
 obtain⟨y,rfl,hx⟩:=vE hs
 obtain⟨a,ws,rfl,h1,h2⟩:=hx.dic_eq
 refine⟨a,ws,ks,rfl,tR R h1,(q_ h2).trans hk,Hx,λss hp _ p hn=>k _ _ _ (R.newL (l:=ss.map Dx.str) hn (tK ss)) (q ss hp)⟩
def Pln(l:List (Key×Dx)):Prop:=∀p∈l,∃x,p.1=Key.inr x
theorem Pln.put{l:List (Key×Dx)}(h:Pln l)(k:Key):mS k l=true:=by
 have ho:(l.any λp=>p.1.odd)=false:=fG.mpr λp hp=>by
  obtain⟨x,e⟩:=h p hp
  rw[e]
  exact aE
 have hc:(l.all λp=>! eU p.1 k)=true:=cG.mpr λp hp=>by
  obtain⟨x,e⟩:=h p hp
  rw[e]
  cases k<;>rfl
 have hg:k.odd=true->eE l k=none:=λhk=>by
  unfold eE
  rw[List.find?_eq_none.mpr λp hp z=>by
   obtain⟨x,e⟩:=h p hp
   rw[<-of_decide_eq_true z,e]at hk
   cases hk]
  rfl
 unfold mS
 rw[ho,hc]
 cases hk:k.odd with
 |false=>rfl
 |true=>rw[hg hk];rfl
theorem aAl{l:List (Key×Dx)}{k:Key}{d:Dx}{p:Key×Dx}(h:p∈gR l k d):p.2=d\/p∈l:=by
 unfold gR at h
 split at h
 ·obtain ⟨q,hq,rfl⟩:=bH.mp h
  split
  ·exact .inl rfl
  ·exact .inr hq
 ·rcases bD.mp h with h | h
  ·exact .inr h
  ·rw[aH.mp h];exact .inl rfl
theorem aEv{l:List (Key×Dx)}{k:Key}{d:Dx}:(gR l k d).length<=l.length+1:=by
 unfold gR
 split
 ·rw[aD];lia
 ·rw[aJ];exact aK _
theorem aEw{l:List (Key×Dx)}{k:Key}{d:Dx}(h:ApX l)(hp:Pln l):ApX (gR l k d):=by
 unfold gR
 split
 ·exact eM.mpr (h.imp λ{a b} z=>by
   have e:∀c:Key×Dx,(if c.1=k then(c.1,d)else c).1=c.1:=λc=>by split<;>rfl
   rw[e,e]
   exact z)
 ·rename_i hn
  refine List.pairwise_append.mpr ⟨h,List.pairwise_singleton _ _,λp Bt q hq=>?_⟩
  rw[aH.mp hq]
  obtain⟨x,e⟩:=hp p Bt
  refine⟨λz=>hn (eC.mpr ⟨p,Bt,dzT z⟩),?_⟩
  rw[e]
  cases k<;>rfl
theorem wW{n N m:Nat}{l:List (Key×Dx)}(hl:l.length<=m)(hm:m<=100000)(ha:ApX l)(h:∀p∈l,Gd n p.2)(e:n+1<=N):Gd N (.dic l):=⟨by simp only[Dx.Sz];exact⟨by lia,ha,lK λp hp=>(h p hp).1⟩,by have:=hu_ λp hp=>(h p hp).2;simp only[Dx.deep];lia⟩
theorem aCk{n N m:Nat}{l:List (Key×Dx)}{d:Dx}(k:Key)(hl:l.length<=m)(hm:m+1<=100000)(ha:ApX l)(hp:Pln l)(h:∀p∈l,Gd n p.2)(hd:Gd n d)(e:n+1<=N):Gd N (.dic (gR l k d)):=wW (m:=m+1) (by have:=aEv (l:=l) (k:=k) (d:=d);lia) hm (aEw ha hp) (λp hp=>(aAl hp).elim (λz=>z ▸ hd) (h p)) e
theorem nU{l:List (Key×Dx)}{k:Key}{p:Key×Dx}(h:p∈iB l k):p∈l:=(List.mem_filter.mp h).1
theorem zZ{l:List (Key×Dx)}{k:Key}:(iB l k).length<=l.length:=List.length_filter_le _ _
theorem a_{l:List (Key×Dx)}{k:Key}(h:ApX l):ApX (iB l k):=List.Pairwise.filter _ h
theorem Pln.odd{l:List (Key×Dx)}(h:Pln l):(l.any λp=>p.1.odd)=false:=fG.mpr λp hp=>by
  obtain⟨x,e⟩:=h p hp
  rw[e]
  exact aE
theorem aCg{o:Option Sl}{l:List (Key×Dx)}{e s:Dx}{R:List (Key×Dx)->Prop}(ho:o=some (.v (.od l)))(hl:l.length<1000000)(hp:Pln l)(he:(∃x,e=.tup [.str x])\/∃k,iZ e=some k)(h:∀k,R (gR l k s)):dpT o e s R:=by
 subst ho
 unfold dpT
 split
 ·rename_i z;cases z;exact⟨hl,λb=>⟨hp.put _,h _⟩⟩
 ·rename_i z hx
  cases z
  rcases he with⟨x,rfl⟩ | ⟨k,hk⟩
  ·exact(hx x rfl).elim
  ·rw[hk];exact⟨hl,hp.put _,h _⟩
 ·rename_i C5 Bp;first | exact(C5 _ rfl).elim | exact(Bp _ rfl).elim
theorem aLo{t:XT}{K:XS}{ρ:En}{D:XD}(h:t ρ λ_ ρ'=>K ρ' D):dM (aNl t) K ρ D:=h
theorem zX:∀{fs:List (Str×Kd)} {f:Str×Kd},nS fs->f∈fs->Nm f.1
 | [],_,_,h=>by simp at h
 |g::r,f,hf,h=>by
  rcases aF.mp h with rfl | h
  ·exact hf.1.1
  ·exact zX hf.2 h
def gBR(n:Nat):GB:=λl ds Q=>∃(B:Int) (fs:List (Str×Kd)) (vs:List Vd),ds=[(Kd.rcd fs).x,(Kd.rcd fs).vx (.rcd vs)]/\PoolX B l/\(Kd.rcd fs).Fit/\(Kd.rcd fs).Val (.rcd vs)/\cX fs<=n/\n<=5/\B+tb n+3<2^60/\∀(d:Dx) (l':List Dx),Gd (cX fs+2) d->PoolX (B+tb n+3) l'->Q d l'
theorem vZ:∀{fs:List (Str×Kd)} {vs:List Vd} {f:Str×Kd},gU fs vs->f∈fs->∃v,f.2.Val v/\(Key.inr f.1,f.2.vx v)∈vxF fs vs
 |g::r,v::vs,f,h,hm=>by
  simp only[gU]at h
  simp only[vxF]
  rcases aF.mp hm with rfl | hm
  ·exact⟨v,h.1,aA⟩
  ·obtain ⟨v',h1,h2⟩:=vZ h.2 hm
   exact⟨v',h1,aB _ h2⟩
 |g::r,[],f,h,hm=>by simp[gU]at h
theorem aGm{g:GC}{u:XA}{ρ:En}{Q:Sv->En->Prop}(h:u ρ λss ρ'=>g (ss.map Sv.d) λs=>Q s ρ'):cW g u ρ Q:=h
theorem aLn{i j:Nat}{a b:Dx}{ρ:En}{K:En->Prop}(h:K ((ρ.set i (vT a)).set j (vT b))):gxT [i,j] (.tup [a,b]) ρ K:=h
theorem aCi{l:List (Key×Dx)}{i j:Nat}{x:Str}{d:Dx}{ρ:En}{Q:Sv->En->Prop}(hi:ρ[i]? = some (vT (.dic l)))(hj:ρ[j]? = some (vT (.str x)))(hg:eE l (.inr x)=some d)(q:Q (.tr d) ρ):xOp dgX (cP i) (cP j) ρ Q:=by
 unfold xOp cP
 simp only[hi]
 rw[show ρ.set i (vT (Sv.tr (.dic l)).d)=ρ from ev_ hi]
 simp only[hj]
 rw[show ρ.set j (vT (Sv.tr (.str x)).d)=ρ from ev_ hj]
 simp only[Sv.d,dgX,iZ,hg]
 exact⟨rfl,q⟩
theorem aCh{l:List (Key×Dx)}{i j:Nat}{x:Str}{d:Dx}{ρ:En}{Q:Sv->En->Prop}(hi:ρ[i]? = some (.v (.od l)))(hj:ρ[j]? = some (vT (.str x)))(hp:Pln l)(hg:eE l (.inr x)=some d)(q:Q (.tr d) (ρ.set i (.v (.od (iB l (.inr x)))))):u_ i (cP j) ρ Q:=by
 refine⟨⟨l,hi⟩,?_⟩
 unfold cP
 simp only[hj]
 rw[show ρ.set j (vT (Sv.tr (.str x)).d)=ρ from ev_ hj]
 simp only[Sv.d,hi,iZ,hg]
 exact⟨rfl,hp.odd,q⟩
theorem aOz{c:XC}{G H K:XS}{ρ ρ':En}{D:XD}(b:Bool)(hc:∀Q:Bool->En->Prop,Q b ρ'->c ρ Q)(ht:b=true->G ρ' { D with nx:=λρ=>K ρ D })(hf:b=false->H ρ' { D with nx:=λρ=>K ρ D }):dM (xIf c G H) K ρ D:=hc _ (by
 cases b with
 |true=>exact ht rfl
 |false=>exact hf rfl)
theorem wV{c:XC}{G H:XS}{ρ ρ':En}{D:XD}(b:Bool)(hc:∀Q:Bool->En->Prop,Q b ρ'->c ρ Q)(ht:b=true->G ρ' D)(hf:b=false->H ρ' D):xIf c G H ρ D:=hc _ (by
 cases b with
 |true=>exact ht rfl
 |false=>exact hf rfl)
theorem aLq{t:XT}{gx:XG}{K:XS}{ρ:En}{D:XD}(h:t ρ λs ρ'=>gx s.d ρ' λρ2=>K ρ2 D):dM (aIw t gx) K ρ D:=h
section
variable{f:Addr}{n j:Nat}
theorem aKs(F:Fun K "_law_bad_record" "_law_bad_record" cj_ f fd)(Ar:Cal P w K mg base 1 "_law_take" AC (spB gTK))(Di:Cal P w K mg base j "_law_bad_value" AA (spB (gBV n)))(hj:1<=j)(m_len:mg "len" = none)(m_list:mg "list" = none)(Am:mg "sorted" = none) :
  FnOk P w K mg base CX0 (j+1) f fd AA (spB (gBR n)):=by
 refine l_ F cS (λl ds Q h=>by obtain⟨_,_,_,rfl,_⟩:=h;rfl) (by decide) λAf A outer s H E hr=>?_
 have Ag:=sI hr
 have Ae:=bO Ag
 refine⟨_,(eB (qT (kO (n:=99) (is:=[3,4]) rfl (by decide)) λF=>hk_ (XE.at (Ex:=dZ) F (sU K (fI K (pv 1)) (gW (i:=0) Ar (hr.mono (by lia)) (pv 0) (bK (kB (pC K) sL (by rfl) m_len PySem.boot_len (bK (fI K (pv 1)) cI)) cI)) (λ_ _=>rfl))) (mW rfl (oR (gC (i:=3) cS.nd rfl (Or.inl rfl)) (oR (gC (i:=4) cS.nd rfl (Or.inl rfl)) dn_))))
  (eB (gE (i:=5) cS.nd rfl (Or.inl rfl) gd_)
  (eB (xW PassesOwn.never rfl (pv 2) (gC (i:=6) cS.nd rfl (Or.inl rfl)) (oQ (n:=99) (i:=6) (by decide)) (eI (hb_ λF=>PS.weak (ff_ Ag (pv 5) (XE.at (Ex:=dZ) F (bL (pv 6))) (XE.at (Ex:=dZ) F (du_ Ag (bL (pv 2)) (bL (pv 6)) (λ_ _=>rfl))) rfl) hg_)))
  (eB (gE (i:=7) cS.nd rfl (Or.inl rfl) (gW (i:=0) Ar (hr.mono (by lia)) (pv 0) (bK cY cI)))
  (eB (fX (iA nA mX (bL (pv 7)) cY (bQ _)) (eI (hb_ λF=>PS.weak (ff_ Ag (pv 5) (XE.at (Ex:=dZ) F (bL (pv 3))) (XE.at (Ex:=dZ) F (gW (i:=0) Di (hr.mono (by lia)) (pv 0) (bK (bL (pv 4)) (bK (du_ Ag (bL (pv 2)) (bL (pv 3)) (λ_ _=>rfl)) cI)))) rfl) hg_)) (eI (fX (iA (kF K Ae) kE (bL (pv 7)) cY (bQ _)) (eI (xX (xZ (pv 5) (bL (pv 3)) ⟨rfl,rfl,rfl,rfl⟩))) (eI (fX (iA (kF K Ae) kE (bL (pv 7)) cY (bQ _)) (eB (gE (i:=8) cS.nd rfl (Or.inl rfl) (kG (bK lD (bK lD (bK cY (bK (iS (bL (pv 3)) lD) (bK qU (bK (iS (bL (pv 3)) lD) (bK (iS lD (bL (pv 3))) (bK (iS lD (bL (pv 3))) (bK (fi_ (bK (bL (pv 3)) cI)) cI)))))))))))
  (eI (hb_ λF=>PS.weak (ff_ Ag (pv 5) (XE.at (Ex:=dZ) F (sU K (bL (pv 8)) (gW (i:=0) Ar (hr.mono (by lia)) (pv 0) (bK cY cI)) (λ_ _=>rfl))) (XE.at (Ex:=dZ) F (du_ Ag (bL (pv 2)) (bL (pv 3)) (λ_ _=>rfl))) rfl) tH))) (eI (fX (iA (kF K Ae) kE (bL (pv 7)) cY (bQ _)) (eB (xX (xZ (pv 5) (bL (pv 3)) ⟨rfl,rfl,rfl,rfl⟩))
  (eI (hb_ λF=>PS.weak (ff_ Ag (pv 5) (XE.at (Ex:=dZ) F (sU K (kG (bK (iS (bL (pv 3)) lD) (bK cY (bK lD (bK qF cI))))) (gW (i:=0) Ar (hr.mono (by lia)) (pv 0) (bK cY cI)) (λ_ _=>rfl))) (XE.at (Ex:=dZ) F (du_ Ag (bL (pv 2)) (bL (pv 3)) (λ_ _=>rfl))) rfl) tH))) (eI (fB (sU K (kG (bK (cy_ (oF (by rfl)) vF (by rfl) m_list er_ (bK (bL (pv 2)) cI)) (bK (kB (sN rfl) aCw (by rfl) Am p8 (bK (bL (pv 2)) cI)) (bK qU (bK gd_ (bK (kG (bK (bL (pv 2)) cI)) (bK (fi_ (bK (bL (pv 2)) cI)) (bK cY cI)))))))) (gW (i:=0) Ar (hr.mono (by lia)) (pv 0) (bK cY cI)) (λ_ _=>rfl)))))))))))
  (eI (fB (dk_ (pv 5))))))))),λl ds Q h=>?_⟩
 clear Ae Ag hj
 obtain⟨B,fs,vs,rfl,hP,hf,hv,hd,hn,hB,q⟩:=h
 have hsz:=Kd.vx_sz _ _ hf hv
 obtain⟨f1,f2,f3,Ce⟩:=hf
 simp only[Kd.Val]at hv
 have Gg:tb n=4*n:=rfl
 have Cw:=el_ hv
 have hz:=vY fs vs f1 hv
 have D0:=ed_ Cw
 have Cf:=λf=>vZ (f:=f) hv
 simp only[Kd.vx]at hsz ⊢
 simp only[Dx.Sz]at hsz
 have Ad:(vxF fs vs).length=fs.length:=by have:=congrArg List.length D0;simpa using this
 have A8:Pln (vxF fs vs):=λp hp=>by
  have:=bY (f:=λx:Key×Dx=>x.1) hp
  rw[D0]at this
  obtain⟨f,_,e⟩:=bH.mp this
  exact⟨f.1,e.symm⟩
 have Cs:=hsz.1.2.1
 have G8:(vxF fs vs).map (·.1)=(fs.map (·.1)).map Key.inr:=by rw[D0,gL];rfl
 generalize vxF fs vs=D at *
 have hx:(Kd.rcd fs).x=.tup [.str "record",.lst (xF fs)]:=by simp only[Kd.x]
 have Cj:(xF fs).length=fs.length:=by rw[m7,aD]
 rw[hx]
 refine aLq (nO (sD (j:=1) (d:=.lst (xF fs)) rfl rfl ⟨rfl,ep_ (aGm (ep_ (sD (j:=1) (d:=.lst (xF fs)) rfl rfl ?_)))⟩))
 refine⟨B,((xF fs).length:Int),rfl,hP,by lia,by lia,by lia,λr l1 r0 r1 Ca=>vS r0 r1 λd0 Ee=>?_⟩
 rw[m7]at Ee
 obtain⟨⟨nm,ik⟩,hm,rfl⟩:=bH.mp Ee
 obtain⟨v,Ea,C6⟩:=Cf _ hm
 have Au:eE D (.inr nm)=some (ik.vx v):=eq_ Cs.nodup C6
 obtain⟨hif,hid⟩:=qC f1 hm
 have Dc:nm.length<=8:=by have:=zX f1 hm;rw[xQ];exact this.2.1
 refine aLn ?_
 change dM _ _ [.bw l1,vT (.tup [.str "record",.lst (xF fs)]),vT (.dic D),vT (.str nm),vT ik.x,.un,.un,.un,.un] _
 refine wU ?_
 show hZ _ _ _ (eG D) _
 refine gz_ (λks ρ=>∃done rest x,D=done++rest/\ks=eG rest/\ρ=[.bw l1,vT (.tup [.str "record",.lst (xF fs)]),vT (.dic D),vT (.str nm),vT ik.x,.v (.od done),x,.un,.un]) (λρ h=>?_) (λk ks ρ K h hk=>?_) ⟨[],D,.un,rfl,rfl,rfl⟩
 rotate_left 1
 ·obtain ⟨done,rest,x,e1,e2,rfl⟩:=h
  cases rest with
  |nil=>simp[eG]at e2
  |cons p rest =>
   simp only[eG,aL,List.cons.injEq]at e2
   obtain⟨rfl,rfl⟩:=e2
   have hm:p∈D:=by rw[e1];exact aG _ aA
   have Au:=eq_ Cs.nodup hm
   have Bv:p.1∉done.map (·.1):=by
    have:=Cs.nodup
    rw[e1,cL,dC]at this
    exact λz=>this.2.2 _ z _ (bY (f:=λx:Key×Dx=>x.1) aA) rfl
   have Ad:done.length<=D.length:=by rw[e1,aJ];lia
   have A3:=hk [.bw l1,vT (.tup [.str "record",.lst (xF fs)]),vT (.dic D),vT (.str nm),vT ik.x,.v (.od (gR done p.1 p.2)),vT (iY p.1),.un,.un] ⟨done++[p],rest,vT (iY p.1),by rw[e1,bC];rfl,rfl,by rw[gt_ Bv]⟩
   simp only[gxN,tD,xOp,cP,aM,aN,aZ,aW,Sv.d,dgX,fq_,Au]
   exact⟨Cs.seek hm,⟨done,rfl⟩,by lia,(e1 ▸ Cs).put,A3⟩
 obtain⟨done,rest,x,e1,e2,rfl⟩:=h
 have:rest=[]:=by cases rest with | nil=>rfl | cons a b=>simp[eG]at e2
 subst this
 rw[cF]at e1
 subst e1
 refine⟨rfl,B+1,7,rfl,Ca,by lia,by decide,by decide,λwy l2 w0 w1 By=>?_⟩
 dsimp only
 have gD:∀p∈D,Gd (cX fs+1) p.2:=λp hp=>⟨(hz p hp).1,nzL (hz p hp).2 (Nat.le_succ _)⟩
 have gv:Gd (cX fs+1) (ik.vx v):=gD _ C6
 have gQ:∀(k:Key) (d:Dx) (l':List Dx),Gd (cX fs+1) d->PoolX (B+tb n+3) l'->Q (.dic (gR D k d)) l':=λk d l' hd hp=>q _ _ (aCk (m:=8) k (by lia) (by decide) Cs A8 gD hd (aK _)) hp
 change dM _ _ [.bw l2,vT (.tup [.str "record",.lst (xF fs)]),vT (.dic D),vT (.str nm),vT ik.x,.v (.od D),x,vT (.int wy),.un] _
 refine aOz (decide (wy<3)) (ρ':=[.bw l2,vT (.tup [.str "record",.lst (xF fs)]),vT (.dic D),vT (.str nm),vT ik.x,.v (.od D),x,vT (.int wy),.un]) (λQ q=>q) (λ_=>?_) (λ_=>?_)
 ·refine ⟨rfl,ep_ (kP rfl (ep_ (aCi rfl rfl Au ?_)))⟩
  refine⟨B+2,ik,v,rfl,By.mono (by lia),hif,Ea,nzL hid hd,hn,by lia,λd l3 Dg Bi=>?_⟩
  refine⟨⟨D,rfl⟩,by lia,A8.put _,?_⟩
  exact gQ _ d l3 (Dg.mono (eW hid)) (Bi.mono (by lia))
 refine wV (decide (wy=3)) (ρ':=[.bw l2,vT (.tup [.str "record",.lst (xF fs)]),vT (.dic D),vT (.str nm),vT ik.x,.v (.od D),x,vT (.int wy),.un]) (λQ q=>q) (λ_=>?_) (λ_=>?_)
 ·refine aCh (i:=5) rfl rfl A8 Au ?_
  exact q (.dic (iB D (.inr nm))) l2 (wW (m:=8) (nzL zZ (by lia)) (by decide) (a_ Cs) (λp hp=>gD p (nU hp)) (aK _)) (By.mono (by lia))
 refine wV (decide (wy=4)) (ρ':=[.bw l2,vT (.tup [.str "record",.lst (xF fs)]),vT (.dic D),vT (.str nm),vT ik.x,.v (.od D),x,vT (.int wy),.un]) (λQ q=>q) (λ_=>?_) (λ_=>?_)
 ·refine ⟨by show nm.length + 1≤1000000; lia,by show nm.length + 1≤1000000; lia,by show 1 + nm.length≤1000000; lia,by show 1 + nm.length≤1000000; lia,by show 1≤1000000; decide,by show 9≤1000000; decide,?_⟩
  dsimp only
  change vW _ _ _ [.bw l2,vT (.tup [.str "record",.lst (xF fs)]),vT (.dic D),vT (.str nm),vT ik.x,.v (.od D),x,vT (.int wy),.v (.ol [.str "x",.str "",.int 1,.str (nm ++ "a"),.non,.str (nm ++ " "),.str (" " ++ nm),.str ("A" ++ nm),.tup [.str nm]])] _
  refine aCi (i:=2) (j:=3) rfl rfl Au ⟨⟨D,rfl⟩,nO (kP rfl ⟨rfl,B+2,9,rfl,By.mono (by lia),by lia,by decide,by decide,λr9 l3 r90 r91 Bi=>?_⟩)⟩
  refine vS (l:=[.str "x",.str "",.int 1,.str (nm ++ "a"),.non,.str (nm ++ " "),.str (" " ++ nm),.str ("A" ++ nm),.tup [.str nm]]) r90 (by show r9<9;exact r91) ?_
  intro e he
  refine aCg (l:=D) rfl (by lia) A8 ?_ ?_
  rotate_left 1
  ·intro k
   exact gQ k _ l3 gv (Bi.mono (by lia))
  simp only[aF,bJ,or_false]at he
  rcases he with rfl | rfl | rfl | rfl | rfl | rfl | rfl | rfl | rfl<;>first | exact .inr ⟨_,rfl⟩ | exact .inl ⟨_,rfl⟩
 refine wV (decide (wy=5)) (ρ':=[.bw l2,vT (.tup [.str "record",.lst (xF fs)]),vT (.dic D),vT (.str nm),vT ik.x,.v (.od D),x,vT (.int wy),.un]) (λQ q=>q) (λ_=>?_) (λ_=>?_)
 ·refine aLo (aCh (i:=5) (j:=3) (x:=nm) rfl rfl A8 Au ?_)
  dsimp only
  have Es:Pln (iB D (.inr nm)):=λp hp=>A8 p (nU hp)
  have E7:(iB D (.inr nm)).length<=8:=nzL zZ (by lia)
  have hda:=a_ (k:=.inr nm) Cs
  have Dg:∀p∈iB D (.inr nm),Gd (cX fs+1) p.2:=λp hp=>gD p (nU hp)
  generalize iB D (.inr nm)=D' at *
  change vW _ _ _ [.bw l2,vT (.tup [.str "record",.lst (xF fs)]),vT (.dic D),vT (.str nm),vT ik.x,.v (.od D'),x,vT (.int wy),.un] _
  refine aCi (i:=2) (j:=3) rfl rfl Au ⟨⟨D',rfl⟩,?_⟩
  refine⟨by show nm.length+1<=1000000;lia,by show 4<=1000000;decide,rfl,B+2,4,rfl,By.mono (by lia),by lia,by decide,by decide,λr9 l3 r90 r91 Bi=>?_⟩
  refine vS (l:=[.str (nm ++ "z"),.int 0,.str "q",.bl true]) r90 (by show r9<4;exact r91) ?_
  intro e he
  refine aCg (l:=D') rfl (by lia) Es ?_ ?_
  rotate_left 1
  ·intro k
   exact q (.dic (gR D' k (ik.vx v))) l3 (aCk (m:=8) k E7 (by decide) hda Es Dg gv (aK _)) (Bi.mono (by lia))
  simp only[aF,bJ,or_false]at he
  rcases he with rfl | rfl | rfl | rfl<;>exact .inr ⟨_,rfl⟩
 refine⟨D,fs.map (·.1),rfl,G8,by rw[aD];lia,λss hss=>?_⟩
 refine⟨by show 1<=1000000;decide,by show 1<=1000000;decide,by show 7<=1000000;decide,rfl,B+2,7,rfl,By.mono (by lia),by lia,by decide,by decide,λr9 l3 r90 r91 Bi=>?_⟩
 refine vS (l:=[.lst (eG D),.lst (ss.map Dx.str),.non,.dic [],.lst [.dic D],.tup [.dic D],.int 0]) r90 (by show r9<7;exact r91) ?_
 intro e he
 refine q e l3 ?_ (Bi.mono (by lia))
 have I9:Gd (cX fs+1) (.dic D):=wW (m:=8) (by lia) (by decide) Cs (λp hp=>hz p hp) (aK _)
 have hK:GG (cX fs+1) 8 (eG D):=⟨by rw[fp_];lia,λd hd=>by
  obtain⟨p,hp,rfl⟩:=bH.mp hd
  obtain⟨x,e⟩:=A8 p hp
  rw[e]
  exact kQ x⟩
 have hS:GG (cX fs+1) 8 (ss.map Dx.str):=⟨by rw[aD,hss.length_eq,aD];lia,λd hd=>by
  obtain⟨x,_,rfl⟩:=bH.mp hd
  exact kQ x⟩
 exact(GG.cons (hK.lst (by decide) (aK _)) (.cons (hS.lst (by decide) (aK _)) (.cons nP (.cons sF (.cons ((GG.one I9).lst (by decide) (aK _)) (.cons ((GG.one I9).tup (by decide) (aK _)) (.one (r_ 0)))))))).2 e he
end
def aOa:GC:=λds Q=>∃n:Int,ds=[.int n]/\0<=n/\n<18446744073709551616/\Q (.tr (.str (oU n)))
theorem b_:fU (λxs H Q=>∃n:Int,xs=[.int n]/\0<=n/\n<18446744073709551616/\Q (.str (oU n)) H) aOa:=by
 intro F P H ds xs Q Qx R hs g k
 obtain⟨n,rfl,h0,h1,q⟩:=g
 obtain⟨y,rfl,hx⟩:=vE hs
 cases hx.int_eq
 exact⟨n,rfl,h0,h1,k _ _ H (R.add (IsX.of_str _)) q⟩
section
variable{a b e:Expr}{es:List Expr}{ta tb:XT}{u:XA}{pos p:Pos}{x:Str}{j:Nat}
theorem aDm(ha:Bx (XE X Ex a ta))(hb:Bx (XE X Ex b tb)):Bx (XE X Ex (.BinOp a .Sub b pos) (xOp aNz ta tb)):=⟨hd_ ha.out hb.out⟩
theorem aHe{ps:List Str}{g:GC}(C:Cal X.prog X.w X.K X.mg X.base j x ps (spX g))(hr:Room j X.A)(ha:Bx (XAs X Ex (e::es) u))(hg:Gl X x:=by rfl)(Bn:(x == ("__debug__" : Str))=false:=by decide)(he:nst e=true:=by rfl)(D4:wM es=true:=by rfl):Bx (XE X Ex (.Call (.Name x p) (e::es) [] pos) (cW g u)):=⟨gY C hr ha.out hg Bn (pN he) (tM D4)⟩
end
section
variable{f:Addr}{n j:Nat}
theorem aKr(F:Fun K "_law_bad_value" "_law_bad_value" cp_ f fd)(Ar:Cal P w K mg base 1 "_law_take" AC (spB gTK))(Fl:Cal P w K mg base 1 "_law_top" AR (spX gTP))(Di:Cal P w K mg base j "_law_bad_value" AA (spB (gBV n)))(CBW:Cal P w K mg base (j+1) "_law_bad_row" AA (spB (gBW n)))(CBR:Cal P w K mg base (j+1) "_law_bad_record" AA (spB (gBR n)))(m_len:mg "len" = none)(m_str:mg "str" = none) :
  FnOk P w K mg base CX0 (j+2) f fd AA (spB (gBV (n+1))):=by
 refine aPl F cN (λl ds Q h=>by obtain⟨_,_,_,rfl,_⟩:=h;rfl) (by decide) λAf A outer s H E hr=>?_
 have Ag:=sI hr
 have Ae:=bO Ag
 refine⟨_,(qP (aDi (xO (kF K Ae) kE (iT K (gJ (pv 1)) qH (λ_ _=>rfl)) oK (bQ _)) (qP (kR (i:=3) cN.nd rfl (Or.inl rfl) (aHe Fl (hr.mono (by lia)) (eK (iT K (gJ (pv 1)) qH (λ_ _=>rfl)) iN)))
  (qP (kR (i:=4) cN.nd rfl (Or.inl rfl) (es_ (eK (xS qH) (eK (go_ (gJ (pv 3)) qH) (eK vP (eK vP (eK xR (eK (qO qI b_ (by rfl) m_str oG (eK (gJ (pv 2)) iN)) (eK (es_ (eK (gJ (pv 2)) iN)) (eK (m6 (eK (gJ (pv 2)) iN)) (eK (aDm (xS qH) (gJ (pv 2))) (eK d8 (eK oK iN)))))))))))))
  (dv_ (sS (iT K (go_ (gJ (pv 4)) (es_ (eK (go_ (go_ (gJ (pv 3)) qH) (gJ (pv 2))) iN))) (fz_ (i:=0) Ar (hr.mono (by lia)) (pv 0) (eK qH iN)) (λ_ _=>rfl)))))) sR)
  (qP (aDi (xO (kF K Ae) kE (iT K (gJ (pv 1)) qH (λ_ _=>rfl)) oK (bQ _)) (dv_ (sS (fz_ (i:=0) CBW (hr.mono (by lia)) (pv 0) (eK (gJ (pv 1)) (eK (gJ (pv 2)) iN))))) sR)
  (qP (aDi (xO (kF K Ae) kE (iT K (gJ (pv 1)) qH (λ_ _=>rfl)) oK (bQ _)) (dv_ (sS (fz_ (i:=0) CBR (hr.mono (by lia)) (pv 0) (eK (gJ (pv 1)) (eK (gJ (pv 2)) iN))))) sR)
  (qP (aMg (kO (n:=99) (is:=[5,6]) rfl (by decide)) (gJ (pv 2)) (mW rfl (oR (gC (i:=5) cN.nd rfl (Or.inl rfl)) (oR (gC (i:=6) cN.nd rfl (Or.inl rfl)) dn_))))
  (qP (kR (i:=7) cN.nd rfl (Or.inl rfl) (aMj (es_ (eK (m6 (eK (gJ (pv 5)) (eK (fz_ (i:=0) Di (hr.mono (by lia)) (pv 0) (eK (iT K (iT K (gJ (pv 1)) qH (λ_ _=>rfl)) (gJ (pv 5)) (λ_ _=>rfl)) (eK (gJ (pv 6)) iN))) iN))) iN)) qH))
  (qP (kR (i:=7) cN.nd rfl (Or.inl rfl) (go_ (gJ (pv 7)) (es_ (eK (m6 (eK (vO (pC K) sL (by rfl) m_len PySem.boot_len (eK (iT K (gJ (pv 1)) qH (λ_ _=>rfl)) iN)) (eK (gJ (pv 6)) iN))) (eK (m6 (eK (xS qH) (eK (gJ (pv 6)) iN))) (eK (m6 (eK (aDm (gJ (pv 5)) (vO (pC K) sL (by rfl) m_len PySem.boot_len (eK (iT K (gJ (pv 1)) qH (λ_ _=>rfl)) iN))) (eK (gJ (pv 6)) iN))) iN))))))
  (qP (kR (i:=7) cN.nd rfl (Or.inl rfl) (go_ (gJ (pv 7)) (es_ (eK (m6 (eK vP (eK (gJ (pv 6)) iN))) (eK (m6 (eK vP (eK (gJ (pv 6)) iN))) iN)))))
  (qP (kR (i:=7) cN.nd rfl (Or.inl rfl) (go_ (gJ (pv 7)) (es_ (eK (es_ (eK (gJ (pv 5)) (eK (gJ (pv 6)) iN))) (eK (m6 (eK (gJ (pv 5)) iN)) (eK (m6 (eK (gJ (pv 5)) (eK (gJ (pv 6)) (eK qH iN)))) (eK (m6 (eK (gJ (pv 6)) (eK (gJ (pv 5)) iN))) (eK (gJ (pv 6)) (eK xR (eK (m6 (eK (qO qI b_ (by rfl) m_str oG (eK (gJ (pv 5)) iN)) (eK (gJ (pv 6)) iN))) iN))))))))))
  (dv_ (sS (iT K (gJ (pv 7)) (fz_ (i:=0) Ar (hr.mono (by lia)) (pv 0) (eK qH iN)) (λ_ _=>rfl)))))))))))),λl ds Q h=>?_⟩
 clear Ae Ag
 obtain⟨B,kd,vd,rfl,hP,hf,hv,hd,hn,hB,q⟩:=h
 have e1:tb (n+1)=4*n+4:=by unfold tb;lia
 have e0:tb n=4*n:=rfl
 rw[e1]at hB q
 cases kd with
 |num wd m =>
  cases vd with
  |num z =>
   simp only[Kd.Val]at hv
   obtain⟨a1,a2,_⟩:=hf
   have g1:=wH (show wd.toNat<=8 by lia)
   have g2:=yS (show 1<=wd.toNat by lia)
   simp only[Kd.vx]
   refine⟨wd,rfl,by lia,by lia,?_⟩
   refine⟨z,rfl,hv.1,by lia,by show 1<=1000000;decide,by show 1<=1000000;decide,by show 11<=1000000;decide,by show 1<=1000000;decide,by show 11+1<=1000000;decide,rfl,B,12,rfl,hP,by lia,by decide,by decide,λr l2 r0 r1 By=>?_⟩
   refine vS (l:=[.int (-1),.int (256^wd.toNat-1+1),.bl true,.bl false,.non,.str (oU z),.lst [.int z],.tup [.int z],.int (-1-z),.dic [],.str ""]++[.int (256^wd.toNat-1+1+z)]) r0 (by show r<12;exact r1) ?_
   intro d hd
   refine q d l2 ?_ (By.mono (by lia))
   have G:GG 2 11 [.int (-1),.int (256^wd.toNat-1+1),.bl true,.bl false,.non,.str (oU z),.lst [.int z],.tup [.int z],.int (-1-z),.dic [],.str ""]:=.cons (r_ _) (.cons (r_ _) (.cons (uR _) (.cons (uR _) (.cons nP (.cons (kQ _) (.cons ((GG.one (r_ _)).lst (by decide) (aK _)) (.cons ((GG.one (r_ _)).tup (by decide) (aK _)) (.cons (r_ _) (.cons sF (.one (kQ _)))))))))))
   exact(G.app (.one (r_ _))).2 d hd
  |_=>simp[Kd.Val]at hv
 |row k m =>
  cases vd with
  |row vs =>
   have Cn:k.deep+1<=n+1:=hd
   exact⟨rfl,B,k,m,vs,rfl,hP,hf,hv,by lia,by lia,by lia,λd l' hg hp=>q d l' hg (hp.mono (by lia))⟩
  |_=>simp[Kd.Val]at hv
 |rcd fs =>
  cases vd with
  |rcd vs =>
   have Cn:cX fs+1<=n+1:=hd
   exact⟨rfl,B,fs,vs,rfl,hP,hf,hv,by lia,by lia,by lia,λd l' hg hp=>q d l' hg (hp.mono (by lia))⟩
  |_=>simp[Kd.Val]at hv
 |cho ks =>
  cases vd with
  |cho jj v =>
   simp only[Kd.Val]at hv
   obtain⟨f1,m1,m2⟩:=hf
   have Cn:dP ks+1<=n+1:=hd
   obtain⟨kc,A3,Ea⟩:=gp_ hv
   obtain⟨kf,kdp⟩:=nR f1 (bE A3)
   have hlk:(xK ks).length=ks.length:=by rw[b6,aD]
   have Dl:(xK ks)[jj]? = some kc.x:=by rw[b6,bP,A3];rfl
   have Cf:=et_ Dl
   have hjl:jj<ks.length:=(aV.mp A3).1
   have Ge:=Kd.vx_sz kc v kf Ea
   simp only[Kd.vx,mI A3]
   obtain⟨iv,Iv⟩:∃iv,kc.vx v=iv:=⟨_,rfl⟩
   have hx:(Kd.cho ks).x=.tup [.str "choice",.lst (xK ks)]:=by simp only[Kd.x]
   rw[hx]
   rw[Iv]at Ge ⊢
   have hjl':((xK ks).length:Int)<=6:=by lia
   refine⟨rfl,ep_ (nO (sD (j:=1) (d:=.lst (xK ks)) rfl rfl (kP rfl (aGi (d:=kc.x) (by lia) (by show(xK ks)[Int.toNat (jj:Int)]? = _;rw[fH];exact Dl) ?_))))⟩
   refine⟨B,kc,v,by rw[Iv];rfl,hP,kf,Ea,by lia,by lia,by lia,λd l2 Dg By=>?_⟩
   have n2:2<=1000000:=by decide
   have n1:1<=1000000:=by decide
   refine⟨n2,n1,⟨by decide,by decide,by show 4<=1000000;decide⟩,?_⟩
   dsimp only
   change dM _ _ [.bw l2,vT (.tup [.str "choice",.lst (xK ks)]),vT (.tup [.int (jj:Int),iv]),.un,.un,vT (.int (jj:Int)),vT iv,.v (.ol [.tup [.int (jj:Int),d],.tup [.int (jj:Int),d],.tup [.int (jj:Int),d],.tup [.int (jj:Int),d]])] _
   generalize hA:[Dx.tup [.int (jj:Int),d],.tup [.int (jj:Int),d],.tup [.int (jj:Int),d],.tup [.int (jj:Int),d]]=A4
   have lA:A4.length=4:=by rw[<-hA];rfl
   refine⟨n2,n2,n2,by show 3<=1000000;decide,by show A4.length+3<=1000000;lia,?_⟩
   dsimp only
   generalize ((xK ks).length:Int)=c at *
   have gi:Gd (dP ks+1) iv:=⟨Ge.1,by have:=Ge.2;lia⟩
   have gj:∀i:Int,Gd (dP ks+1) (.int i):=r_
   have t2:∀{a b:Dx},Gd (dP ks+1) a->Gd (dP ks+1) b->Gd (dP ks+2) (.tup [a,b]):=λha hb=>(GG.cons ha (.one hb)).tup (by decide) (aK _)
   have td:=t2 (gj jj) (Dg.mono (by lia))
   have G4:GG (dP ks+2) 4 A4:=by rw[<-hA];exact .cons td (.cons td (.cons td (.one td)))
   change dM _ _ [.bw l2,vT (.tup [.str "choice",.lst (xK ks)]),vT (.tup [.int (jj:Int),iv]),.un,.un,vT (.int (jj:Int)),vT iv,.v (.ol (A4++[.tup [.int c,iv],.tup [.int (-1),iv],.tup [.int (jj-c),iv]]))] _
   have G7:=G4.app (.cons (t2 (gj c) gi) (.cons (t2 (gj (-1)) gi) (.one (t2 (gj (jj-c)) gi))))
   have l7:(A4++[Dx.tup [.int c,iv],.tup [.int (-1),iv],.tup [.int (jj-c),iv]]).length=7:=by rw[aJ,lA];rfl
   generalize A4++[Dx.tup [.int c,iv],.tup [.int (-1),iv],.tup [.int (jj-c),iv]]=A7 at *
   refine⟨n2,n2,n2,by show A7.length+2<=1000000;lia,?_⟩
   dsimp only
   change dM _ _ [.bw l2,vT (.tup [.str "choice",.lst (xK ks)]),vT (.tup [.int (jj:Int),iv]),.un,.un,vT (.int (jj:Int)),vT iv,.v (.ol (A7++[.tup [.bl true,iv],.tup [.bl false,iv]]))] _
   have G9:=G7.app (.cons (t2 (uR true) gi) (.one (t2 (uR false) gi)))
   have l9:(A7++[Dx.tup [.bl true,iv],.tup [.bl false,iv]]).length=9:=by rw[aJ,l7];rfl
   generalize A7++[Dx.tup [.bl true,iv],.tup [.bl false,iv]]=A9 at *
   refine⟨n2,n1,by show 3<=1000000;decide,n2,jj,rfl,by lia,by lia,n2,by show 7<=1000000;decide,by show A9.length+7<=1000000;lia,?_⟩
   dsimp only
   change gG _ [.bw l2,vT (.tup [.str "choice",.lst (xK ks)]),vT (.tup [.int (jj:Int),iv]),.un,.un,vT (.int (jj:Int)),vT iv,.v (.ol (A9++[.lst [.int jj,iv],.tup [.int jj],.tup [.int jj,iv,.int 0],.tup [iv,.int jj],iv,.non,.tup [.str (oU jj),iv]]))] _
   have G16:=G9.app (.cons ((GG.cons (gj jj) (.one gi)).lst (by decide) (aK _)) (.cons ((GG.one (gj jj)).tup (by decide) (aK _)) (.cons ((GG.cons (gj jj) (.cons gi (.one (gj 0)))).tup (by decide) (aK _)) (.cons (t2 gi (gj jj)) (.cons (gi.mono (Nat.le_succ _)) (.cons nP (.one (t2 (kQ (oU jj)) gi))))))))
   have l16:(A9++[Dx.lst [.int jj,iv],.tup [.int jj],.tup [.int jj,iv,.int 0],.tup [iv,.int jj],iv,.non,.tup [.str (oU jj),iv]]).length=16:=by rw[aJ,l9];rfl
   generalize A9++[Dx.lst [.int jj,iv],.tup [.int jj],.tup [.int jj,iv,.int 0],.tup [iv,.int jj],iv,.non,.tup [.str (oU jj),iv]]=A16 at *
   refine⟨rfl,B+tb n,16,rfl,By,by lia,by decide,by decide,λr l3 r0 r1 Bi=>?_⟩
   refine vS (l:=A16) r0 (by lia) ?_
   intro e he
   exact q e l3 (G16.2 e he) (Bi.mono (by lia))
  |_=>simp[Kd.Val]at hv
end
def gPL(K:dQ):GC:=λds Q=>∃(ns:List Int) (k:Int),ds=[.scr K ns,.int k]/\0<=k/\k<2^20/\∀l,PoolX (31*k) l->Q (.ol l)
section
variable{f:Addr}
theorem aKk(F:Fun K "_law_pool" "_law_pool" ge_ f fd)(m_len:mg "len" = none):FnOk P w K mg base CX0 1 f fd ["script","k"] (spX (gPL K)):=by
 refine jD F iJ (λds Q h=>by obtain⟨ns,k,rfl,_⟩:=h;rfl) (by decide) λAf A outer s H E hr=>?_
 have Ag:=sI hr
 have Ae:=bO Ag
 refine⟨_,(eB (gE (i:=2) iJ.nd rfl (Or.inl rfl) cY)
  (eB (fX (iA nA mX (bL (pv 1)) (kB (pC K) c6 (by rfl) m_len PySem.boot_len (bK (bL (pv 0)) cI)) (bQ _)) (eI (gE (i:=2) iJ.nd rfl (Or.inl rfl) (aIt K (bL (pv 0)) (bL (pv 1)) (λ_ _=>rfl)))) gT)
  (eB (fX (iA aHz aHy (bL (pv 2)) (u4 cY cY) (bQ _)) (eI (fB (kG (bK (hd_ (bL (pv 2)) (u4 cY cY)) (bK cY (bK cY cI)))))) gT)
  (eI (fB (kG (bK (bL (pv 2)) (bK cY (bK (s9 cY (bL (pv 1))) cI))))))))),λds Q h=>?_⟩
 clear Ae Ag
 obtain⟨ns,k,rfl,h0,h1,q⟩:=h
 have cp:aMq 10 18:=⟨by decide,by decide,by decide⟩
 refine wU ?_
 change dM _ _ [vT (.scr K ns),vT (.int k),vT (.int 0)] _
 refine sY (λρ=>∃c:Int,ρ=[vT (.scr K ns),vT (.int k),vT (.int c)]) ?_ (λD' hD=>?_)
 ·rintro ρ' ⟨c,rfl⟩
  refine⟨cp,?_⟩
  refine lC (λc2=>?_) (λc2=>?_)
  ·exact⟨cp,wR (by show 3<=1000000;decide),q _ ⟨_,_,_,rfl,by lia,by lia⟩⟩
  ·exact⟨⟨by decide,by lia⟩,wR (by show 3<=1000000;decide),q _ ⟨_,_,_,rfl,by lia,by lia⟩⟩
 ·refine ⟨rfl,?_⟩
  refine lC (λc=>?_) (λc=>hD _ ⟨0,rfl⟩)
  have c':=of_decide_eq_true c
  obtain⟨v,hv,_⟩:=aMk (l:=ns) h0 c'
  refine⟨rfl,?_⟩
  rw[hv]
  exact hD _ ⟨v,rfl⟩
end
theorem aEd{i:Nat}{x c:Int}{ρ:En}{Q:Sv->En->Prop}(h:ρ[i]? = some (vT (.int x)))(q:Q (.tr (.int (if decide (c<x)=true then 1 else 0))) (ρ.set i (vT (.int x)))):cW aBz (bS (xOp gtX (cP i) (xC (.int c))) dF) ρ Q:=by
 unfold cW bS xOp cP
 dsimp only
 rw[h]
 exact q
def aAc (K : dQ) : XS := (dM (mH (aEf (bS (cW aBk (bS (xC (.int 1)) (bS (cW aBj (bS (xC (.int 4)) (bS (cW (aKv K) (bS (cP 0) dF)) dF))) dF))) dF)) (gxN 1) (dM (gF 2 (cW (gPL K) (bS (cP 0) (bS (cP 1) dF))))
    (dM (gF 3 (xOp ixX (iP (bS (xC (.int 60)) (bS (xC (.int 200)) (bS (xC (.int 200)) (bS (xOp ixX (iP (bS (xC (.int 2000)) (bS (xC (.int 200)) dF))) (cW aBz (bS (xOp gtX (cP 1) (xC (.int 0))) dF))) dF))))) (fY gTK 2 (bS (xC (.int 4)) dF))))
    (dM (gF 4 (fY (gLK 5) 2 (bS (xOp oN (xC (.int 1)) (fY gTK 2 (bS (xC (.int 5)) dF))) (bS (cP 3) dF))))
    (dM (gF 5 (fY (gLK 5) 2 (bS (xOp oN (xC (.int 1)) (fY gTK 2 (bS (xC (.int 3)) dF))) (bS (xC (.int 60)) dF))))
    (dM (gF 6 (fY (gVA 5) 2 (bS (cP 4) dF)))
    (dM (gF 7 (xOp oN (iP (bS (cP 6) (bS (fY (gVA 5) 2 (bS (cP 5) dF)) dF))) (fP 1 [2,4,6] (aEf (bS (xC (.int 8)) dF)) (gxN 0) iO (fY (gBV 5) 1 (bS (cP 2) (bS (cP 3) dF))))))
    (dM (xIf (xB (xOp gtX (cP 3) (xC (.int 200)))) (gF 7 (xSl (cP 7) xoN (xoS (xC (.int 5))))) eF)
    (dM (gF 7 (xOp oN (cP 7) (fP 1 [] (xiL (xSl (cP 7) xoN (xoS (xC (.int 4))))) (gxN 0) iO (cW (gTU 7) (bS (cP 0) dF)))))
    (dM (mH (xiL (xOp oN (cP 7) (iP (bS (xC .non) (bS (xC (.int 0)) (bS (xC (.bl true)) (bS (xC (.str "")) (bS (iP dF) (bS v0 (bS (u8 dF) (bS (u8 (bS (xC (.int 0)) (bS (xC (.int 0)) dF))) (bS (iP (bS (xC (.int 0)) dF)) dF)))))))))))) (gxN 8) (xIf (jT (xB (cW gRI (bS (cP 4) (bS (cP 8) dF))))) (gG (xC (.bl false))) eF))
    (xIf (xB (xOp (aLe true) (cW (gIG 5) (bS (cP 4) (bS (cP 6) dF))) (xC (.bl true)))) (gG (xC (.bl false))) eF)))))))))))
    (gG (xC (.bl true))))
theorem aHd{tg e:Expr}{t:XT}(h:Bx (XE X Ex e t)):Bx (XIt X Ex tg e (xiL t)):=⟨vM h.out⟩
theorem aMf{tg iter:Expr}{pos:Pos}{body:List Stmt}{ti:XI}{n:Nat}{g:TG}{gx:XG}{G:XS}(hp:PassesOwn (model X.prog X.w) X.A X.env X.xe)(hc:X.calm=true)(hi:Bx (XIt X Ex tg iter ti))(hg:PG X tg g)(A5:GX n g gx)(hb:Bx (XSs X Ex body G))(hs:∀x,foldedSetIterable iter X.env x=pure x:=by intro _;rfl):Bx (XSt X Ex (.For tg iter body [] pos) (mH ti gx G)):=⟨hc_ hp hc hi.out hg A5 hb.out hs⟩
theorem p7{l:List Stmt}{G:XS}(h:Bx (XSs X Ex l G)):XSs X Ex l G:=h.out
section
variable{f:Addr}{L:Nat}
theorem aGx(Ia:Cal P w K mg base 1 "_law_pool" ["script","k"] (spX (gPL K)))
  (Ar:Cal P w K mg base 1 "_law_take" AC (spB gTK)) (Ds:Cal P w K mg base L "_law_kind" AF (spB (gLK 5))) (Dr:Cal P w K mg base L "_law_value" AM (spB (gVA 5))) (Di:Cal P w K mg base L "_law_bad_value" AA (spB (gBV 5))) (D9:Cal P w K mg base L "_law_turned" ["value"] (spX (gTU 7))) (Hz:Cal P w K mg base L "_law_right" AB (spX gRI)) (C4:Cal P w K mg base L "is_value" AB (spX (gIG 5)))
  (Ak:mg "max" = none) (B3:mg "min" = none) (Ac:mg "range" = none) (m_len:mg "len" = none) (m_int:mg "int" = none) (hL:1<=L)
  {Af:Value} {A:Around} {outer:List Env} {s:Shared} {H:Hp} {E:XK} (hr:Room L (A.deeper (PyProof.Rows.envOfC "law" (aR hi_) s.heap.objs.size f Af))) :
  XSs (oZ CX0 P w K mg base (["script","k","pool","most","kind","other","value","rows","thing"]:List Str) "law" (aR hi_) f Af A outer s H E).nox dZ (fW hi_) (aAc K):=by
 have Ag:=sI hr
 have Ae:=bO Ag
 exact(p7 (qP (Bx.mk (hc_ PassesOwn.never rfl (ek_ Ac (bK (kB (o4 (by rfl)) aHa (by rfl) Ak sQ (bK cY (bK (kB (n9 (by rfl)) aGz (by rfl) B3 aMe (bK cY (bK (kB (pC K) c6 (by rfl) m_len PySem.boot_len (bK (bL (pv 0)) cI)) cI))) cI))) cI)) (gC (i:=1) fZ.nd rfl (Or.inl rfl)) (oQ (n:=99) (i:=1) (by decide)) (p7 (qP (Bx.mk (gE (i:=2) fZ.nd rfl (Or.inr rfl) (gY Ia (hr.mono (by lia)) (bK (bL (pv 0)) (bK (bL (pv 1)) cI)))))
  (qP (Bx.mk (gE (i:=3) fZ.nd rfl (Or.inl rfl) (sU K (kG (bK cY (bK cY (bK cY (bK (sU K (kG (bK cY (bK cY cI))) (cy_ qJ aCx (by rfl) m_int oH (bK (fc_ aBc aAx (bL (pv 1)) cY (bQ _)) cI)) (λ_ _=>rfl)) cI))))) (gW (i:=2) Ar (hr.mono (by lia)) (pv 2) (bK cY cI)) (λ_ _=>rfl))))
  (qP (Bx.mk (gE (i:=4) fZ.nd rfl (Or.inr rfl) (gW (i:=2) Ds (hr.mono (by lia)) (pv 2) (bK (iS cY (gW (i:=2) Ar (hr.mono (by lia)) (pv 2) (bK cY cI))) (bK (bL (pv 3)) cI)))))
  (qP (Bx.mk (gE (i:=5) fZ.nd rfl (Or.inl rfl) (gW (i:=2) Ds (hr.mono (by lia)) (pv 2) (bK (iS cY (gW (i:=2) Ar (hr.mono (by lia)) (pv 2) (bK cY cI))) (bK cY cI)))))
  (qP (Bx.mk (gE (i:=6) fZ.nd rfl (Or.inr rfl) (gW (i:=2) Dr (hr.mono (by lia)) (pv 2) (bK (bL (pv 4)) cI))))
  (qP (Bx.mk (gE (i:=7) fZ.nd rfl (Or.inl rfl) (iS (kG (bK (bL (pv 6)) (bK (gW (i:=2) Dr (hr.mono (by lia)) (pv 2) (bK (bL (pv 5)) cI)) cI))) (vU (dsc:=aR hi_) (N:=AE) (tgs:=["turn"]) (outs:=[2,4,6]) (N':=["turn","pool","kind","value"]) (by refine⟨rfl,?_,?_,?_,rfl,?_,?_,?_⟩<;>decide +kernel) (ek_ Ac (bK cY cI)) (λ_ _ _ _ _=>(gC (i:=0) (show(["turn","pool","kind","value"]:List Str).Nodup by decide +kernel) rfl (Or.inl rfl) (.inr rfl))) (oQ (n:=1) (i:=0) (by decide)) (vN (by decide)) (λ_ _ _ _ _=>vL) (λ_ _ _ _ _=>(gW (i:=1) Di (hr.mono (by lia)) (pv 1) (bK (bL (pv 2)) (bK (bL (pv 3)) cI))))))))
  (qP (Bx.mk (fX (iA aBc aAx (bL (pv 3)) cY (bQ _)) (p7 (dv_ (Bx.mk (gE (i:=7) fZ.nd rfl (Or.inl rfl) (ec_ K (bL (pv 7)) gb_ (ej_ cY)))))) gT))
  (qP (Bx.mk (gE (i:=7) fZ.nd rfl (Or.inl rfl) (iS (bL (pv 7)) (vU (dsc:=aR hi_) (N:=AE) (tgs:=["one"]) (outs:=[]) (N':=["one"]) (by refine⟨rfl,?_,?_,?_,rfl,?_,?_,?_⟩<;>decide +kernel) (vM (ec_ K (bL (pv 7)) gb_ (ej_ cY))) (λ_ _ _ _ _=>(gC (i:=0) (show(["one"]:List Str).Nodup by decide +kernel) rfl (Or.inl rfl) (.inr rfl))) (oQ (n:=1) (i:=0) (by decide)) (vN (by decide)) (λ_ _ _ _ _=>vL) (λ_ _ _ _ _=>(gY D9 (hr.mono (by lia)) (bK (bL (pv 0)) cI)))))))
  (qP (aMf PassesOwn.never rfl (aHd (go_ (gJ (pv 7)) (es_ (eK xR (eK qH (eK vP (eK oK (eK (es_ iN) (eK d8 (eK (m6 iN) (eK (m6 (eK qH (eK qH iN))) (eK (es_ (eK qH iN)) iN)))))))))))) (gC (i:=8) fZ.nd rfl (Or.inl rfl)) (oQ (n:=99) (i:=8) (by decide)) (Bx.mk (p7 (dv_ (Bx.mk (fX (vG (kY (gY Hz (hr.mono (by lia)) (bK (bL (pv 4)) (bK (bL (pv 8)) cI))))) (p7 (dv_ (Bx.mk (fB qF)))) gT))))))
  (dv_ (Bx.mk (fX (iA i8 i5 (gY C4 (hr.mono (by lia)) (bK (bL (pv 4)) (bK (bL (pv 6)) cI))) qF (bQ _)) (p7 (dv_ (Bx.mk (fB qF)))) gT)))))))))))))))
  (dv_ (Bx.mk (fB qF)))))
end
theorem aGa{v:Dx}{z:Int}(h:v∈[Dx.int 60,Dx.int 200,Dx.int 200,Dx.int z])(hz:z=2000\/z=200):∃mo,v=.int mo/\8<=mo/\mo<=2000:=by
 simp only[aF,bJ,or_false]at h
 rcases h with rfl | rfl | rfl | rfl
 ·exact⟨_,rfl,by lia,by lia⟩
 ·exact⟨_,rfl,by lia,by lia⟩
 ·exact⟨_,rfl,by lia,by lia⟩
 ·exact⟨_,rfl,by lia,by lia⟩
theorem aJa{v:Dx}{a b:Int}(h:v∈[Dx.int a,Dx.int b]):∃z,v=.int z/\(z=a\/z=b):=by
 simp only[aF,bJ,or_false]at h
 rcases h with rfl | rfl
 ·exact⟨_,rfl,.inl rfl⟩
 ·exact⟨_,rfl,.inr rfl⟩
theorem zO{c:XC}{G:XS}{ρ ρ':En}{D:XD}(hc:∀Q:Bool->En->Prop,Q false ρ'->c ρ Q)(h:D.nx ρ'):xIf c G eF ρ D:=hc _ h
theorem zM{i:Nat}{t:XT}{ρ:En}{D:XD}(h:t ρ λs ρ'=>D.nx (ρ'.set i (.v s))):gF i t ρ D:=h
theorem rW:∀(n:Nat) (kd:Kd) (v:Vd),kd.deep<=n->kd.Fit->kd.Val v->liN n kd (kd.vx v)=true
 | 0,kd,_,hd,_,_=>by have:=Kd.deep_pos kd;lia
 |n+1,.num w m,v,hd,hf,hv=>by
  cases v with
  |num i =>
   simp only[Kd.Val]at hv
   simp only[Kd.vx,liN]
   rw[dzT hv.1,dzT (by lia)]
   rfl
  |_=>simp[Kd.Val]at hv
 |n+1,.row k m,v,hd,hf,hv=>by
  cases v with
  |row vs =>
   simp only[Kd.Val]at hv
   have Cn:k.deep+1<=n+1:=hd
   simp only[Kd.vx,liN]
   rw[dzT (by rw[aD];exact hv.1),cO,cG]
   intro d hm
   obtain⟨u,hu,rfl⟩:=bH.mp hm
   exact rW n k u (by lia) hf.1 (hv.2 u hu)
  |_=>simp[Kd.Val]at hv
 |n+1,.rcd fs,v,hd,hf,hv=>by
  cases v with
  |rcd vs =>
   have hz:=(Kd.vx_sz _ _ hf hv).1
   simp only[Kd.Val]at hv
   simp only[Kd.vx,Dx.Sz]at hz
   have Cn:cX fs+1<=n+1:=hd
   have hl:(vxF fs vs).length=fs.length:=by have:=congrArg List.length (ed_ (el_ hv));simpa using this
   simp only[Kd.vx,liN]
   rw[dzT (by rw[hl]),cO,cG]
   intro f hm
   obtain⟨u,hu,hg⟩:=vZ hv hm
   obtain⟨ff,fd⟩:=qC hf.1 hm
   rw[eq_ hz.2.1.nodup hg]
   exact rW n f.2 u (by lia) ff hu
  |_=>simp[Kd.Val]at hv
 |n+1,.cho ks,v,hd,hf,hv=>by
  cases v with
  |cho j u =>
   simp only[Kd.Val]at hv
   obtain⟨k,hk,hu⟩:=gp_ hv
   have Cn:dP ks+1<=n+1:=hd
   obtain⟨kf,kdp⟩:=nR hf.1 (bE hk)
   have hjl:=(aV.mp hk).1
   simp only[Kd.vx,liN,mI hk]
   rw[dzT (by lia),dzT (by lia),fH,hk]
   exact rW n k u (by lia) kf hu
  |_=>simp[Kd.Val]at hv
section
variable{f:Addr}{L:Nat}
theorem aFn(F:Fun K "law" "law" hi_ f fd)(Ia:Cal P w K mg base 1 "_law_pool" ["script","k"] (spX (gPL K)))
  (Ar:Cal P w K mg base 1 "_law_take" AC (spB gTK)) (Ds:Cal P w K mg base L "_law_kind" AF (spB (gLK 5))) (Dr:Cal P w K mg base L "_law_value" AM (spB (gVA 5))) (Di:Cal P w K mg base L "_law_bad_value" AA (spB (gBV 5))) (D9:Cal P w K mg base L "_law_turned" ["value"] (spX (gTU 7))) (Hz:Cal P w K mg base L "_law_right" AB (spX gRI)) (C4:Cal P w K mg base L "is_value" AB (spX (gIG 5)))
  (Ak:mg "max" = none) (B3:mg "min" = none) (Ac:mg "range" = none) (m_len:mg "len" = none) (m_int:mg "int" = none) (hL:1<=L) :
  FnOk P w K mg base CX0 (L+1) f fd ["script"] (spX (aPb K)):=by
 refine jD F fZ (λds Q h=>by obtain⟨ns,rfl,_⟩:=h;rfl) (by decide) λAf A outer s H E hr=>?_
 refine⟨_,aGx Ia Ar Ds Dr Di D9 Hz C4 Ak B3 Ac m_len m_int hL hr,λds Q h=>?_⟩
 obtain⟨ns,rfl,h63,q⟩:=h
 have t5:tk 5=67863000:=by decide
 have v5:tv 5=2042050:=by decide
 have b5:tb 5=20:=by decide
 unfold aAc
 refine he_ (λρ=>True) (λρ _=>q) (λnx hnx=>?_)
 refine⟨rfl,?_⟩
 refine⟨⟨by split<;>(try split)<;>lia,by split<;>(try split)<;>lia⟩,?_⟩
 refine eg_ (λk:Nat=>Dx.int (0+(k:Int))) (λrest ρ=>(∀k∈rest,k<63)/\∃y1 y2 y3 y4 y5 y6 y7 y8,ρ=[vT (.scr K ns),y1,y2,y3,y4,y5,y6,y7,y8]) (λρ h=>hnx ρ trivial) (λk rest ρ Kn h hk=>?_) ⟨λk hk=>by
   have:=gK.mp hk
   revert this
   split<;>(try split)<;>lia,.un,.un,.un,.un,.un,.un,.un,.un,rfl⟩
 obtain⟨Av,y1,y2,y3,y4,y5,y6,y7,y8,rfl⟩:=h
 have hk4:=Av k aA
 have D1:∀a1 a2 a3 a4 a5 a6 a7 a8,Kn [vT (.scr K ns),a1,a2,a3,a4,a5,a6,a7,a8]:=λa1 a2 a3 a4 a5 a6 a7 a8=>hk _ ⟨λk' A3=>Av k' (aB _ A3),_,_,_,_,_,_,_,_,rfl⟩
 refine⟨ns,0+(k:Int),rfl,by lia,by lia,λl hP=>?_⟩
 dsimp only
 refine⟨kM,?_⟩
 refine aEd rfl ?_
 refine vS ?_ ?_ λv hv=>?_
 ·split<;>decide
 ·show _<(2:Int);split<;>decide
 obtain⟨z,rfl,hz⟩:=aJa hv
 refine⟨wR (by show 4<=1000000;decide),rfl,_,4,rfl,hP,by lia,by decide,by decide,λr1 l1 r10 r11 Ca=>?_⟩
 refine vS r10 r11 λv hv=>?_
 obtain⟨mo,rfl,mo1,mo2⟩:=aGa hv hz
 refine⟨rfl,rfl,_,5,rfl,Ca,by lia,by decide,by decide,λr2 l2 r20 r21 By=>?_⟩
 refine⟨_,1+r2,mo,rfl,By,by lia,by lia,by lia,by decide,by rw[t5];lia,λkd l3 hF B8 Gk Bi=>?_⟩
 rw[t5]at Bi
 have Fa:kd.deep<=5:=by lia
 refine⟨rfl,rfl,_,3,rfl,Bi,by lia,by decide,by decide,λr3 l4 r30 r31 Ct=>?_⟩
 refine⟨_,1+r3,60,rfl,Ct,by lia,by lia,by lia,by decide,by rw[t5];lia,λko l5 Hu hdpo hrmo Ci=>?_⟩
 rw[t5]at Ci
 have hdo:ko.deep<=5:=by lia
 refine⟨rfl,_,kd,rfl,Ci,hF,Fa,by decide,by rw[v5];lia,λvd l6 hV Br=>?_⟩
 rw[v5]at Br
 have gv:Gd 6 (kd.vx vd):=⟨(kd.vx_sz vd hF hV).1,by have:=(kd.vx_sz vd hF hV).2;lia⟩
 obtain⟨PB,hPB,hPBb⟩:∃PB:Int,PoolX PB l6/\PB+10000000<2^60:=⟨_,Br,by lia⟩
 clear hP Ca By Bi Ct Ci Br
 dsimp only
 change dM _ _ [vT (.scr K ns),vT (.int (0+(k:Int))),.v (.ol l6),vT (.int mo),vT kd.x,vT ko.x,vT (kd.vx vd),y7,y8] _
 refine he_ (λρ=>∃(l' ds:List Dx),ρ=[vT (.scr K ns),vT (.int (0+(k:Int))),.v (.ol l'),vT (.int mo),vT kd.x,vT ko.x,vT (kd.vx vd),.v (.ol ds),y8]/\GG 6 10 ds) ?_ (λnx2 Gv=>?_)
 rotate_left 1
 ·refine zM (nO ?_)
  refine⟨rfl,PB,ko,rfl,hPB,Hu,hdo,by decide,by rw[v5];lia,λvo l7 Ix Ch=>⟨kM,?_⟩⟩
  rw[v5]at Ch
  refine⟨⟨by decide,by decide⟩,by decide,?_⟩
  obtain⟨rg,Il⟩:∃rg,rg=List.range 8:=⟨_,rfl⟩
  show dB _ _ _ _ _ ((List.range 8).map λk:Nat=>Dx.int (0+(k:Int))) _ _
  rw[<-Il]
  have hrl:rg.length=8:=by rw[Il];rfl
  refine cg_ (λk:Nat=>Dx.int (0+(k:Int))) (λrest Ab cs=>∃l':List Dx,Ab.length+rest.length=8/\cs=[.v (.ol l'),vT kd.x,vT (kd.vx vd)]/\(∀d∈Ab,Gd 6 d)/\PoolX (PB+2042050+(Ab.length:Int)*20) l') (λAb cs h=>?_) (λt rest Ab cs Pn h hk=>?_) ⟨l7,by rw[hrl];rfl,rfl,(by intro d hd;cases hd),Ch.mono (by simp)⟩
  ·obtain ⟨l',e1,rfl,Bg,Fi⟩:=h
   rw[aP]at e1
   refine⟨show 2+Ab.length<=1000000 by lia,?_⟩
   refine Gv _ ⟨l',kd.vx vd::ko.vx vo::Ab,rfl,(GG.cons (m:=9) gv (.cons (m:=8) ⟨(ko.vx_sz vo Hu Ix).1,by have:=(ko.vx_sz vo Hu Ix).2;lia⟩ ⟨by lia,Bg⟩))⟩
  ·obtain ⟨l',e1,rfl,Bg,Fi⟩:=h
   rw[aI]at e1
   refine⟨rfl,_,kd,vd,rfl,Fi,hF,hV,Fa,by decide,by rw[b5];lia,λd l8 Dg Hq=>hk _ _ ⟨l8,by rw[aJ,fD];lia,rfl,λe he=>?_,Hq.mono (by rw[b5,aJ,fD];push_cast;lia)⟩⟩
   rcases bD.mp he with he | he
   ·exact Bg e he
   ·rw[aH.mp he];exact Dg.mono (by lia)
 rintro ρ ⟨l',ds,rfl,Df⟩
 refine he_ (λρ=>∃(ds:List Dx),ρ=[vT (.scr K ns),vT (.int (0+(k:Int))),.v (.ol l'),vT (.int mo),vT kd.x,vT ko.x,vT (kd.vx vd),.v (.ol ds),y8]/\GG 6 10 ds) ?_ (λnx3 Ev=>?_)
 rotate_left 1
 ·by_cases h:200 < mo
  ·show if decide (200 < mo)=true then _ else _
   rw[dzT h]
   exact Ev _ ⟨_,rfl,Df.cut none (some 5)⟩
  ·show if decide (200 < mo)=true then _ else _
   rw[dzF h]
   exact Ev _ ⟨ds,rfl,Df⟩
 rintro ρ ⟨ds,rfl,Df⟩
 refine he_ (λρ=>∃(ds:List Dx),ρ=[vT (.scr K ns),vT (.int (0+(k:Int))),.v (.ol l'),vT (.int mo),vT kd.x,vT ko.x,vT (kd.vx vd),.v (.ol ds),y8]/\GG 6 20 ds) ?_ (λnx4 Gu=>?_)
 rotate_left 1
 ·refine zM (nO (kP rfl ?_))
  have hc:=Df.cut none (some 4)
  refine⟨show(jZ ds none (some 4)).length<=_ from nzL hc.1 (by decide),?_⟩
  show dB _ _ _ _ _ (jZ ds none (some 4)) _ _
  generalize jZ ds none (some 4)=cs at hc ⊢
  have el:cs=cs.map id:=by rw[List.map_id]
  rw[el]
  refine ch_ id Dx.trn (λd hm Ab P p=>?_) ?_
  ·obtain ⟨h1,h2⟩:=hc.2 d hm
   refine⟨d,rfl,h1,by lia,λs hs=>?_⟩
   rw[show Dx.trn d=s.d from hs.symm]at p
   exact p
  ·have hl:=Df.1
   have Bo:=hc.1
   refine⟨by show ds.length+_<=_;rw[aT,aD];lia,Gu _ ⟨_,rfl,Df.app (k:=10) ⟨by rw[aT,aD];exact hc.1,λd hd=>?_⟩⟩⟩
   rw[aT]at hd
   obtain⟨e,he,rfl⟩:=bH.mp hd
   obtain⟨h1,h2⟩:=hc.2 e he
   obtain⟨h3,h4⟩:=qY 6 e h2 h1
   exact⟨h3,by lia⟩
 rintro ρ ⟨ds,rfl,Df⟩
 refine he_ (λρ=>∃y7 y8,ρ=[vT (.scr K ns),vT (.int (0+(k:Int))),.v (.ol l'),vT (.int mo),vT kd.x,vT ko.x,vT (kd.vx vd),y7,y8]) ?_ (λnx5 Gs=>?_)
 rotate_left 1
 ·have hl:=Df.1
  refine⟨by decide,by decide,kM,by show 1<=1000000;decide,by show 9<=1000000;decide,by show ds.length+9<=1000000;lia,?_⟩
  have hd9:GG 6 9 [.non,.int 0,.bl true,.str "",.lst [],.dic [],.tup [],.tup [.int 0,.int 0],.lst [.int 0]]:=.cons nP (.cons (r_ 0) (.cons (uR true) (.cons (kQ "") (.cons ((GG.nil (n:=0) (m:=0)).lst (by decide) (by decide)) (.cons sF (.cons ((GG.nil (n:=0) (m:=0)).tup (by decide) (by decide)) (.cons ((GG.cons (n:=1) (r_ 0) (.one (r_ 0))).tup (by decide) (by decide)) (.one ((GG.one (n:=1) (r_ 0)).lst (by decide) (by decide))))))))))
  have Aq:=(Df.app hd9).2
  show hZ _ _ _ (ds++[.non,.int 0,.bl true,.str "",.lst [],.dic [],.tup [],.tup [.int 0,.int 0],.lst [.int 0]]) _
  generalize ds++[.non,.int 0,.bl true,.str "",.lst [],.dic [],.tup [],.tup [.int 0,.int 0],.lst [.int 0]]=es at Aq ⊢
  refine gz_ (λrest ρ=>(∀d∈rest,Gd 6 d)/\∃y7 y8,ρ=[vT (.scr K ns),vT (.int (0+(k:Int))),.v (.ol l'),vT (.int mo),vT kd.x,vT ko.x,vT (kd.vx vd),y7,y8]) (λρ h=>Gs ρ h.2) (λd rest ρ K2 h hk2=>?_) ⟨Aq,_,_,rfl⟩
  obtain⟨Fy,y7,y8,rfl⟩:=h
  obtain⟨h1,h2⟩:=Fy d aA
  dsimp only
  exact zO (ρ':=[vT (.scr K ns),vT (.int (0+(k:Int))),.v (.ol l'),vT (.int mo),vT kd.x,vT ko.x,vT (kd.vx vd),y7,vT d]) (λQ q=>⟨kd,d,rfl,hF,Fa,h1,by lia,q⟩) (hk2 _ ⟨λd' h'=>Fy d' (aB _ h'),_,_,rfl⟩)
 rintro ρ ⟨y7,y8,rfl⟩
 refine zO (ρ':=[vT (.scr K ns),vT (.int (0+(k:Int))),.v (.ol l'),vT (.int mo),vT kd.x,vT ko.x,vT (kd.vx vd),y7,y8]) (λQ q=>?_) (D1 _ _ _ _ _ _ _ _)
 refine⟨kd,kd.vx vd,rfl,gv.1,hF.ok,Fa,by decide,?_⟩
 rw[<-uI 5 kd _ hF gv.1,rW 5 kd vd Fa hF hV]
 exact q
end
structure Fx(K:dQ)(mg:lG)(nm:Str)(st:Stmt)(ps:List Str)(f:Addr)(fd:FuncData):Prop where
 F:Fun K nm nm st f fd
 b:Binds K fd ps []
 k:PySem.W.keepIn K (.ref f)=true
 m:mg nm=some (.ref f)
theorem Fx.cal{nm:Str}{st:Stmt}{ps:List Str}{f:Addr}{fd:FuncData}{j:Nat}{sp:Sp}(x:Fx K mg nm st ps f fd)(h:FnOk P w K mg base CX0 j f fd ps sp):Cal P w K mg base j nm ps sp:=⟨f,fd,h,x.b,x.k,x.m⟩
theorem wX{j:Nat}{f:Addr}{fd:FuncData}{ps:List Str}{g:GB}(no:∀l ds Q,¬g l ds Q):FnOk P w K mg base CX0 j f fd ps (spB g):=
 ⟨λvs H Q E h=>by obtain⟨_,_,_,_,_,_,_,_,_,_,_,_,_,h3,_⟩:=h;exact(no _ _ _ h3).elim,λA outer s H args us vs Q E hr he hb hv h=>by obtain⟨_,_,_,_,_,_,_,_,_,_,_,_,_,h3,_⟩:=h;exact(no _ _ _ h3).elim⟩
theorem gh_(d:Dx):1<=d.deep:=by cases d<;>simp only[Dx.deep]<;>omega
section
variable{fT fLR fLM fLN fLK fVA fTP fCP fSA fTU fLV fIV fIW fIRV fIDV fICV fBV fBW fBR:Addr}{dT dLR dLM dLN dLK dVA dTP dCP dSA dTU dLV dIV dIW dIRV dIDV dICV dBV dBW dBR:FuncData}
theorem zD(LM:Fx K mg "_law_room" bu_ ["kind"] fLM dLM)(LR:Fx K mg "_law_rounded" co_ AQ fLR dLR)(Ak:mg "max" = none):∀n,FnOk P w K mg base CX0 (1+n) fLM dLM ["kind"] (spX (gLM n))
 | 0=>aBm
 |n+1=>(aKn LM.F (LM.cal (zD LM LR Ak n)) (LR.cal (aKm LR.F)) Ak (by omega)).mono (by omega)
theorem zE(LK:Fx K mg "_law_kind" dh_ AF fLK dLK)(T:Fx K mg "_law_take" ct_ AC fT dT)(LN:Fx K mg "_law_names" dm_ AC fLN dLN)(LM:Fx K mg "_law_room" bu_ ["kind"] fLM dLM)(LR:Fx K mg "_law_rounded" co_ AQ fLR dLR)
  (Ak:mg "max" = none) (Ac:mg "range" = none) (m_len:mg "len" = none) (m_int:mg "int" = none):∀n,FnOk P w K mg base CX0 (6+n) fLK dLK AF (spB (gLK n))
 | 0=>wX λl ds Q h=>by obtain⟨_,_,_,_,_,_,_,_,_⟩:=h;omega
 |n+1=>(aKo LK.F (T.cal (gw_ T.F)) (LN.cal (aFw (aOn LN.F (aFr T.F) T.b T.k T.m Ac m_len))) (LM.cal (zD LM LR Ak 5)) (by omega) (by omega) (LK.cal (zE LK T LN LM LR Ak Ac m_len m_int n)) Ac m_int).mono (by omega)
theorem yA(VA:Fx K mg "_law_value" dl_ AM fVA dVA)(T:Fx K mg "_law_take" ct_ AC fT dT)(TP:Fx K mg "_law_top" ea_ AR fTP dTP)(Ac:mg "range" = none)(m_len:mg "len" = none):∀n,FnOk P w K mg base CX0 (1+n) fVA dVA AM (spB (gVA n))
 | 0=>wX λl ds Q h=>by obtain⟨_,kd,_,_,_,hd,_⟩:=h;have:=Kd.deep_pos kd;omega
 |n+1=>(aKg VA.F (T.cal (gw_ T.F)) (TP.cal (wL TP.F Ac)) (VA.cal (yA VA T TP Ac m_len n)) Ac m_len (by omega)).mono (by omega)
theorem c8(CP:Fx K mg "_law_copy" di_ AL fCP dCP)(m_isinstance:mg "isinstance" = none)(m_list:mg "list" = none)(m_tuple:mg "tuple" = none)(m_dict:mg "dict" = none):∀n,FnOk P w K mg base CX0 n fCP dCP AL (spX (gCP n))
 | 0=>pZ λds Q h=>by obtain⟨d,_,_,hd,_⟩:=h;have:=gh_ d;omega
 |n+1=>aOo CP.F (CP.cal (c8 CP m_isinstance m_list m_tuple m_dict n)) m_isinstance m_list m_tuple m_dict
structure IvX(K:dQ)(mg:lG)(fIV fIW fIRV fIDV fICV:Addr)(dIV dIW dIRV dIDV dICV:FuncData):Prop where
 IV:Fx K mg "is_value" ex_ AB fIV dIV
 IW:Fx K mg "is_whole" ew_ AL fIW dIW
 IRV:Fx K mg "is_row_value" cf_ AJ fIRV dIRV
 IDV:Fx K mg "is_record_value" bj_ AI fIDV dIDV
 ICV:Fx K mg "is_choice_value" bz_ AO fICV dICV
 m_isinstance:mg "isinstance" = none
 m_int:mg "int" = none
 m_bool:mg "bool" = none
 m_list:mg "list" = none
 m_tuple:mg "tuple" = none
 m_dict:mg "dict" = none
 m_str:mg "str" = none
 m_len:mg "len" = none
 m_all:mg "all" = none
 c_BITS:∃t,mg "BITS_OF_A_BYTE" = some (.int 8 t)
theorem yK(SB:Fx K mg "_law_same" cu_ AG fSA dSA)(m_isinstance:mg "isinstance" = none)(m_list:mg "list" = none)(m_tuple:mg "tuple" = none)(m_dict:mg "dict" = none)(m_bool:mg "bool" = none)(m_str:mg "str" = none)(m_len:mg "len" = none)(Bs:mg "zip" = none):∀n,FnOk P w K mg base CX0 n fSA dSA AG (spX (gSA n))
 | 0=>pZ λds Q h=>by obtain⟨d,_,_,hd,_⟩:=h;have:=gh_ d;omega
 |n+1=>aKi SB.F (SB.cal (yK SB m_isinstance m_list m_tuple m_dict m_bool m_str m_len Bs n)) m_isinstance m_list m_tuple m_dict m_bool m_str m_len Bs
theorem zK(X:IvX K mg fIV fIW fIRV fIDV fICV dIV dIW dIRV dIDV dICV):∀n,FnOk P w K mg base CX0 (1+2*n) fIV dIV AB (spX (gIG n))
 | 0=>aCa
 |n+1=>by
  have ih:=X.IV.cal (zK X n)
  have Je:=X.IW.cal (P:=P) (w:=w) (base:=base) (aKf X.IW.F X.m_isinstance X.m_int X.m_bool)
  exact(aKp X.IV.F Je (X.IRV.cal (aFo X.IRV.F ih X.m_isinstance X.m_list X.m_len X.m_all)) (X.IDV.cal (aFp X.IDV.F ih X.m_isinstance X.m_dict X.m_str X.m_len X.m_all)) (X.ICV.cal (aFq X.ICV.F ih Je X.m_isinstance X.m_tuple X.m_len (by omega))) X.c_BITS (by omega)).mono (by omega)
theorem zC(LV:Fx K mg "_law_is_value" ce_ AB fLV dLV)(TP:Fx K mg "_law_top" ea_ AR fTP dTP)(Ac:mg "range" = none)(m_isinstance:mg "isinstance" = none)(m_int:mg "int" = none)(m_bool:mg "bool" = none)(m_list:mg "list" = none)(m_tuple:mg "tuple" = none)(m_dict:mg "dict" = none)(m_len:mg "len" = none):∀n,FnOk P w K mg base CX0 (1+n) fLV dLV AB (spX (gLV n))
 | 0=>pZ λds Q h=>by obtain⟨kd,_,_,_,_,hd,_⟩:=h;have:=Kd.deep_pos kd;omega
 |n+1=>(aKl LV.F (TP.cal (wL TP.F Ac)) (LV.cal (zC LV TP Ac m_isinstance m_int m_bool m_list m_tuple m_dict m_len n)) (by omega) m_isinstance m_int m_bool m_list m_tuple m_dict m_len).mono (by omega)
theorem yD(TU:Fx K mg "_law_turned" cm_ ["value"] fTU dTU)(m_isinstance:mg "isinstance" = none)(m_list:mg "list" = none)(m_tuple:mg "tuple" = none)(m_dict:mg "dict" = none):∀n,FnOk P w K mg base CX0 n fTU dTU ["value"] (spX (gTU n))
 | 0=>pZ λds Q h=>by obtain⟨d,_,_,hd,_⟩:=h;have:=gh_ d;omega
 |n+1=>aKh TU.F (TU.cal (yD TU m_isinstance m_list m_tuple m_dict n)) m_isinstance m_list m_tuple m_dict
theorem c_(BV:Fx K mg "_law_bad_value" cp_ AA fBV dBV)(BW:Fx K mg "_law_bad_row" dg_ AA fBW dBW)(BR:Fx K mg "_law_bad_record" cj_ AA fBR dBR)(T:Fx K mg "_law_take" ct_ AC fT dT)(TP:Fx K mg "_law_top" ea_ AR fTP dTP)(Ac:mg "range" = none)(m_len:mg "len" = none)(m_tuple:mg "tuple" = none)(m_list:mg "list" = none)(Am:mg "sorted" = none)(m_str:mg "str" = none):∀n,FnOk P w K mg base CX0 (1+2*n) fBV dBV AA (spB (gBV n))
 | 0=>wX λl ds Q h=>by obtain⟨_,kd,_,_,_,_,_,hd,_⟩:=h;have:=Kd.deep_pos kd;omega
 |n+1=>by
  have ih:=BV.cal (c_ BV BW BR T TP Ac m_len m_tuple m_list Am m_str n)
  have GT:=T.cal (P:=P) (w:=w) (base:=base) (gw_ T.F)
  exact(aKr BV.F GT (TP.cal (wL TP.F Ac)) ih (BW.cal (aKq BW.F GT ih (by omega) m_len m_tuple)) (BR.cal (aKs BR.F GT ih (by omega) m_len m_list Am)) m_len m_str).mono (by omega)
end
abbrev zF:Option Bool×Bool:=(some false,false)
theorem left_top:PySem.W.LeftO PySem.Challenge.pw_laidfields_k17_what_is_a_value (PySem.W.view PySem.Challenge.pw_laidfields_k17_what_is_a_value [1,3,4,5,6,7,9,10,11,12,13,14,15,16,17,18,19,20,21,22,23,24,25]) [] (λs=>PySem.W.xlAt (PySem.W.view PySem.Challenge.pw_laidfields_k17_what_is_a_value [1,3,4,5,6,7,9,10,11,12,13,14,15,16,17,18,19,20,21,22,23,24,25]) [] s&&PySem.W.recOk [] s) (exHook (seenF PySem.Challenge.pw_laidfields_k17_what_is_a_value) (seenV PySem.Challenge.pw_laidfields_k17_what_is_a_value)).obs (exHook (seenF PySem.Challenge.pw_laidfields_k17_what_is_a_value) (seenV PySem.Challenge.pw_laidfields_k17_what_is_a_value)).val 1476 true:=j5 (by decide) (by kernel_rfl) (λs=>by kernel_rfl) aBe
theorem nG{α:Type}{f g:Nat->α}:∀{l:List Nat},l.map f=l.map g->∀i,i∈l->f i=g i:=λh i hi=>List.map_inj_left.mp h i hi
theorem p_{K:dQ}{f:Addr}{fd:FuncData}(F:Fun K "law" "law" hi_ f fd)(s:Shared)(v:Value):BindsTo s fd ⟨[v],[]⟩ [("script",v)]:=by
 obtain⟨oc,od,kV,doc,pm,an,Af,ct,osl,rfl,_⟩:=F.ex
 exact .of_eq rfl
theorem all_mk{l:PySem.W.OpenLaw}{w:World}{K:dQ}{mg:lG}{fa:Addr}{h:Heap}(hK:seenF PySem.Challenge.pw_laidfields_k17_what_is_a_value K=seenV PySem.Challenge.pw_laidfields_k17_what_is_a_value)(X:K.In h)(G:h.Ns mainGlobals mg)(Hh:mg "law" = some (.ref fa)) :
  ∃fd:FuncData,(∀(s:Shared) (v:Value),BindsTo s fd ⟨[v],[]⟩ [("script",v)])/\∀base:Heap,K.In base->base.Ns mainGlobals mg->FnOk l.prog w K mg base CX0 30 fa fd ["script"] (spLaw K):=by
 have hd:=nG (f:=λi=>rQ K (eZ (iR PySem.Challenge.pw_laidfields_k17_what_is_a_value i))) (g:=λi=>sH (iR PySem.Challenge.pw_laidfields_k17_what_is_a_value i)) (l:=[1,4,5,6,7,9,10,11,12,13,14,15,16,17,18,19,20,21,22,23,24,25]) (congrArg (λx=>x.1) hK)
 have hn:bltNs.map (uD K)=List.replicate 17 true:=congrArg (λx=>x.2.1) hK
 have hc:=nG (f:=λi=>rP K (eZ (iR PySem.Challenge.pw_laidfields_k17_what_is_a_value i))) (g:=λi=>aQf (iR PySem.Challenge.pw_laidfields_k17_what_is_a_value i)) (l:=[3]) (congrArg (λx=>x.2.2.1) hK)
 obtain⟨f1,d1,a1,F1⟩:=oS (hd 1 (by decide))
 have Cb:Fx K mg "is_whole" ew_ AL f1 d1:=⟨F1,kS F1 (λ_ _ _ _ _ _ _=>rfl),F1.kp,PySem.W.mg_of X G a1⟩
 obtain⟨f4,d4,a4,F4⟩:=oS (hd 4 (by decide))
 have Bj:Fx K mg "is_value" ex_ AB f4 d4:=⟨F4,gA F4 (λ_ _ _ _ _ _ _ _=>rfl),F4.kp,PySem.W.mg_of X G a4⟩
 obtain⟨f5,d5,a5,F5⟩:=oS (hd 5 (by decide))
 have Bk:Fx K mg "is_row_value" cf_ AJ f5 d5:=⟨F5,oJ F5 (λ_ _ _ _ _ _ _ _ _=>rfl),F5.kp,PySem.W.mg_of X G a5⟩
 obtain⟨f6,d6,a6,F6⟩:=oS (hd 6 (by decide))
 have Aw:Fx K mg "is_record_value" bj_ AI f6 d6:=⟨F6,gA F6 (λ_ _ _ _ _ _ _ _=>rfl),F6.kp,PySem.W.mg_of X G a6⟩
 obtain⟨f7,d7,a7,F7⟩:=oS (hd 7 (by decide))
 have Ax:Fx K mg "is_choice_value" bz_ AO f7 d7:=⟨F7,gA F7 (λ_ _ _ _ _ _ _ _=>rfl),F7.kp,PySem.W.mg_of X G a7⟩
 obtain⟨f9,d9,a9,F9⟩:=oS (hd 9 (by decide))
 have Bb:Fx K mg "_law_pool" ge_ ["script","k"] f9 d9:=⟨F9,gA F9 (λ_ _ _ _ _ _ _ _=>rfl),F9.kp,PySem.W.mg_of X G a9⟩
 obtain⟨f10,d10,a10,F10⟩:=oS (hd 10 (by decide))
 have Ai:Fx K mg "_law_take" ct_ AC f10 d10:=⟨F10,gA F10 (λ_ _ _ _ _ _ _ _=>rfl),F10.kp,PySem.W.mg_of X G a10⟩
 obtain⟨f11,d11,a11,F11⟩:=oS (hd 11 (by decide))
 have Bl:Fx K mg "_law_rounded" co_ AQ f11 d11:=⟨F11,gA F11 (λ_ _ _ _ _ _ _ _=>rfl),F11.kp,PySem.W.mg_of X G a11⟩
 obtain⟨f12,d12,a12,F12⟩:=oS (hd 12 (by decide))
 have B1:Fx K mg "_law_room" bu_ ["kind"] f12 d12:=⟨F12,kS F12 (λ_ _ _ _ _ _ _=>rfl),F12.kp,PySem.W.mg_of X G a12⟩
 obtain⟨f13,d13,a13,F13⟩:=oS (hd 13 (by decide))
 have Bu:Fx K mg "_law_names" dm_ AC f13 d13:=⟨F13,gA F13 (λ_ _ _ _ _ _ _ _=>rfl),F13.kp,PySem.W.mg_of X G a13⟩
 obtain⟨f14,d14,a14,F14⟩:=oS (hd 14 (by decide))
 have Bc:Fx K mg "_law_kind" dh_ AF f14 d14:=⟨F14,oJ F14 (λ_ _ _ _ _ _ _ _ _=>rfl),F14.kp,PySem.W.mg_of X G a14⟩
 obtain⟨f15,d15,a15,F15⟩:=oS (hd 15 (by decide))
 have Be:Fx K mg "_law_copy" di_ AL f15 d15:=⟨F15,kS F15 (λ_ _ _ _ _ _ _=>rfl),F15.kp,PySem.W.mg_of X G a15⟩
 obtain⟨f16,d16,a16,F16⟩:=oS (hd 16 (by decide))
 have Ba:Fx K mg "_law_same" cu_ AG f16 d16:=⟨F16,gA F16 (λ_ _ _ _ _ _ _ _=>rfl),F16.kp,PySem.W.mg_of X G a16⟩
 obtain⟨f17,d17,a17,F17⟩:=oS (hd 17 (by decide))
 have At:Fx K mg "_law_top" ea_ AR f17 d17:=⟨F17,kS F17 (λ_ _ _ _ _ _ _=>rfl),F17.kp,PySem.W.mg_of X G a17⟩
 obtain⟨f18,d18,a18,F18⟩:=oS (hd 18 (by decide))
 have Ay:Fx K mg "_law_value" dl_ AM f18 d18:=⟨F18,gA F18 (λ_ _ _ _ _ _ _ _=>rfl),F18.kp,PySem.W.mg_of X G a18⟩
 obtain⟨f19,d19,a19,F19⟩:=oS (hd 19 (by decide))
 have Ao:Fx K mg "_law_is_value" ce_ AB f19 d19:=⟨F19,gA F19 (λ_ _ _ _ _ _ _ _=>rfl),F19.kp,PySem.W.mg_of X G a19⟩
 obtain⟨f20,d20,a20,F20⟩:=oS (hd 20 (by decide))
 have A0:Fx K mg "_law_bad_record" cj_ AA f20 d20:=⟨F20,oJ F20 (λ_ _ _ _ _ _ _ _ _=>rfl),F20.kp,PySem.W.mg_of X G a20⟩
 obtain⟨f21,d21,a21,F21⟩:=oS (hd 21 (by decide))
 have Bm:Fx K mg "_law_bad_row" dg_ AA f21 d21:=⟨F21,oJ F21 (λ_ _ _ _ _ _ _ _ _=>rfl),F21.kp,PySem.W.mg_of X G a21⟩
 obtain⟨f22,d22,a22,F22⟩:=oS (hd 22 (by decide))
 have Al:Fx K mg "_law_bad_value" cp_ AA f22 d22:=⟨F22,oJ F22 (λ_ _ _ _ _ _ _ _ _=>rfl),F22.kp,PySem.W.mg_of X G a22⟩
 obtain⟨f23,d23,a23,F23⟩:=oS (hd 23 (by decide))
 have As:Fx K mg "_law_turned" cm_ ["value"] f23 d23:=⟨F23,kS F23 (λ_ _ _ _ _ _ _=>rfl),F23.kp,PySem.W.mg_of X G a23⟩
 obtain⟨f24,d24,a24,F24⟩:=oS (hd 24 (by decide))
 have Az:Fx K mg "_law_right" fe_ AB f24 d24:=⟨F24,gA F24 (λ_ _ _ _ _ _ _ _=>rfl),F24.kp,PySem.W.mg_of X G a24⟩
 obtain⟨f25,Jd,a25,F25⟩:=oS (hd 25 (by decide))
 have Cu:Fx K mg "law" hi_ ["script"] f25 Jd:=⟨F25,kS F25 (λ_ _ _ _ _ _ _=>rfl),F25.kp,PySem.W.mg_of X G a25⟩
 have m_isinstance:mg "isinstance" = none:=PySem.W.mg_none_of X G (zT hn 0 (by decide) (by rfl))
 have m_int:mg "int" = none:=PySem.W.mg_none_of X G (zT hn 1 (by decide) (by rfl))
 have m_bool:mg "bool" = none:=PySem.W.mg_none_of X G (zT hn 2 (by decide) (by rfl))
 have m_list:mg "list" = none:=PySem.W.mg_none_of X G (zT hn 3 (by decide) (by rfl))
 have m_len:mg "len" = none:=PySem.W.mg_none_of X G (zT hn 4 (by decide) (by rfl))
 have m_str:mg "str" = none:=PySem.W.mg_none_of X G (zT hn 5 (by decide) (by rfl))
 have m_tuple:mg "tuple" = none:=PySem.W.mg_none_of X G (zT hn 6 (by decide) (by rfl))
 have m_all:mg "all" = none:=PySem.W.mg_none_of X G (zT hn 7 (by decide) (by rfl))
 have m_dict:mg "dict" = none:=PySem.W.mg_none_of X G (zT hn 8 (by decide) (by rfl))
 have Ak:mg "max" = none:=PySem.W.mg_none_of X G (zT hn 9 (by decide) (by rfl))
 have B3:mg "min" = none:=PySem.W.mg_none_of X G (zT hn 10 (by decide) (by rfl))
 have Ac:mg "range" = none:=PySem.W.mg_none_of X G (zT hn 11 (by decide) (by rfl))
 have Bs:mg "zip" = none:=PySem.W.mg_none_of X G (zT hn 12 (by decide) (by rfl))
 have Am:mg "sorted" = none:=PySem.W.mg_none_of X G (zT hn 14 (by decide) (by rfl))
 obtain⟨_,Ah,r_BITS_OF_A_BYTE⟩:=j0 (x:=.int 8) (hc 3 (by decide))
 obtain⟨_,rfl⟩:=r_BITS_OF_A_BYTE
 have k_BITS_OF_A_BYTE:∃t,mg "BITS_OF_A_BYTE" = some (.int 8 t):=⟨_,PySem.W.mg_of X G Ah⟩
 have e:=Hh.symm.trans Cu.m
 cases e
 refine⟨Jd,λs v=>p_ Cu.F s v,λbase hbK _=>?_⟩
 exact have IX:=(⟨Bj,Cb,Bk,Aw,Ax,m_isinstance,m_int,m_bool,m_list,m_tuple,m_dict,m_str,m_len,m_all,k_BITS_OF_A_BYTE⟩:IvX K mg _ _ _ _ _ _ _ _ _ _)
  have Jf:=Bj.cal (P:=l.prog) (w:=w) (base:=base) (zK IX 5)
  have GTK:=Ai.cal (P:=l.prog) (w:=w) (base:=base) (gw_ Ai.F)
  have GCP:=Be.cal (P:=l.prog) (w:=w) (base:=base) (c8 Be m_isinstance m_list m_tuple m_dict 20)
  have GSA:=Ba.cal (P:=l.prog) (w:=w) (base:=base) (yK Ba m_isinstance m_list m_tuple m_dict m_bool m_str m_len Bs 20)
  have GLV:=Ao.cal (P:=l.prog) (w:=w) (base:=base) (zC Ao At Ac m_isinstance m_int m_bool m_list m_tuple m_dict m_len 5)
  have GRI:=Az.cal (aKj (j:=20) Az.F GCP (Jf.mono (by decide)) (GLV.mono (by decide)) GSA m_isinstance m_bool)
  aBp ((aFn (L:=29) Cu.F (Bb.cal (aKk Bb.F m_len)) GTK ((Bc.cal (zE Bc Ai Bu B1 Bl Ak Ac m_len m_int 5)).mono (by decide)) ((Ay.cal (yA Ay Ai At Ac m_len 5)).mono (by decide)) ((Al.cal (c_ Al Bm A0 Ai At Ac m_len m_tuple m_list Am m_str 5)).mono (by decide)) ((As.cal (yD As m_isinstance m_list m_tuple m_dict 7)).mono (by decide)) (GRI.mono (by decide)) (Jf.mono (by decide)) Ak B3 Ac m_len m_int (by decide)))
def lawRec:DefRec:=match hi_ with
 | .FunctionDef n a b _ _ _ sc _ _ pos=>⟨n,a,b,sc,pos⟩
 |_=>⟨⟨#[]⟩,⟨[],[],none,[],[],none,[]⟩,[],aR hi_,⟨0,0,0,0⟩⟩
end Lf
open PySem PySem.W PyProof.Rows
set_option maxHeartbeats 0 in
theorem PySem.Challenge.cw_laidfields_k17_what_is_a_value_holds : PySem.Challenge.rw_laidfields_k17_what_is_a_value.Holds := by
 w_on;o_law
 refine holds_open (d := Lf.lawRec) (kwd := []) (XP := XL (PySem.W.view PySem.Challenge.pw_laidfields_k17_what_is_a_value [1, 3, 4, 5, 6, 7, 9, 10, 11, 12, 13, 14, 15, 16, 17, 18, 19, 20, 21, 22, 23, 24, 25]) []) Lf.left_top (Hook.of (L2.exHook (Lf.seenF PySem.Challenge.pw_laidfields_k17_what_is_a_value) (Lf.seenV PySem.Challenge.pw_laidfields_k17_what_is_a_value))) (Hook.keeps (L2.exHook (Lf.seenF PySem.Challenge.pw_laidfields_k17_what_is_a_value) (Lf.seenV PySem.Challenge.pw_laidfields_k17_what_is_a_value))) (fun s e => xl_of s (fK.mp e).1) XL.keeps (by kernel_rfl) (by kernel_rfl) (by kernel_rfl) (fun s e => recFacts_of (fK.mp e).2) (by rfl) (by assumption) (by decide +kernel) ⟨rfl, rfl, rfl, rfl, rfl, by decide +kernel⟩ ?hw ?hc
 case hw=>w_witness2
 case hc=>exact L2.walk_ex (l:=PySem.Challenge.rw_laidfields_k17_what_is_a_value) (n:=63) (k:=30) (x:= "script") (CX:=L2.CX0) (sp:=Lf.spLaw) rfl (by decide) (by rfl) (by first | exact⟨rfl,by decide,by decide⟩ | exact⟨rfl,by decide,by decide,rfl⟩) (λw K mg fa h hK X G Hh=>Lf.all_mk hK X G Hh) (λK H a ns hl _ hS=>⟨a,ns,rfl,hS,hl,λ_=>rfl⟩) (λ_ _ _ _ z=>z)
#print axioms PySem.Challenge.cw_laidfields_k17_what_is_a_value_holds
