import PyProof.Rows.All
import PyProof.ReprRoads
import PyProof.Rows.CatFin
import PyProof.Rows.StrClip
import PyProof.Rows.StrPartPair
import PyProof.StrLawsTight
import PyProof.AutoRange
import PyProof.RangeFor
import PyProof.StrLawsChain
import PyProof.Rows.StrSplitCount
import PyProof.Rows.StrMul
import Wide.All
import OpenK.AllK
import Wide.FinOn
import PyProof.EqAt
import PyProof.EqKinds
import PyProof.NeKinds
import PyProof.TupleCall
import PyProof.StrWalks
import PyProof.ConsumeWalk
import PyProof.EnumMake
import PyProof.EnumFor
import PyProof.ListNew
import PyProof.ListRange
import PyProof.Rows.SortWalk
import PyProof.Rows.Range3
import PyProof.Rows.ChunkEnd
import PyProof.Rows.ChunkLeaf
import PyProof.Rows.StrInSeq
import Wide.Txt
import PyProof.DictIter
import PyProof.DictWalks
import PyProof.AttrMissHeap
import KE.KDictOf
import KE.KSortTup
import KE.KDictList
import KE.KRevIter
import PyProof.Rows.Own
import PyProof.ExcBaseAll.ValueError
import PyProof.RulesAs
import PyProof.NsDelKeeps
import PyProof.ExcClass3
import PyProof.ExcArgsOwn
import KE.KIsAll
import KE.IntBitsLaws
import PyProof.Rows.StrRev
import PyProof.PureStr
import PyProof.ToksMono
import PyProof.MeetsStr3
import PyProof.StrCalls6
import KE.KDictSum
import KE.KIntText
import KE.KEqDict
import PyProof.Rows.SortStr
import PyProof.Rows.SortShellK
import PyProof.Rows.StrKeys3
import PyProof.ExcStrCall
import PyProof.ExcStrAll.ValueError
import Lean
import PySem.Challenge.RW_laidfields_k20_no_value
abbrev AA:List PySem.Str:=["pool","kind","value"]
abbrev AB:List PySem.Str:=["kind","thing"]
abbrev AC:List PySem.Str:=["pool","many"]
abbrev AD:List PySem.Str:=["kind","room","most","parts","end","multiple","begin"]
abbrev AE:List PySem.Str:=["number","m"]
abbrev AF:List PySem.Str:=["kind"]
abbrev AG:List PySem.Str:=["pool","deep","most"]
abbrev AH:List PySem.Str:=["kinds"]
abbrev AI:List PySem.Str:=["one","other"]
abbrev AJ:List PySem.Str:=["pool","deep","most","way","kind","found","many"]
abbrev AK:List PySem.Str:=["fields","thing"]
abbrev AL:List PySem.Str:=["kind","n","thing"]
abbrev AM:List PySem.Str:=["pool","many","letters","stem","found","k","name","way","at","turn"]
abbrev AN:List PySem.Str:=["FieldError","NoValue","NoBytes","NoMake","NoText","NoName","NoRow"]
abbrev AO:List PySem.Str:=["thing"]
abbrev AQ:List PySem.Str:=["rooms"]
abbrev AR:List PySem.Str:=["pool","kind"]
abbrev AS:List PySem.Str:=["script","k","pool","most","kind","value","rows","thing"]
abbrev AT:List PySem.Str:=["laid","place","some"]
abbrev AU:List PySem.Str:=["room","multiple"]
abbrev AV:List PySem.Str:=["kind","value"]
abbrev AW:List PySem.Str:=["kinds","thing"]
abbrev AX:List PySem.Str:=["room"]
abbrev AY:List PySem.Str:=["multiple"]
abbrev AZ:List PySem.Str:=["width"]
set_option Elab.async false
set_option linter.all false
set_option maxRecDepth 100000
set_option maxHeartbeats 16000000
abbrev eC:=PySem.W.Frag
abbrev kW:=PySem.Str->Option PySem.Value
variable{P:PySem.Program}{w:PySem.World}{K:eC}{mg:kW}{base:PySem.Heap}{fd:PySem.FuncData}
abbrev dzT:=@decide_eq_true
abbrev dzF:=@decide_eq_false
abbrev ozI:=@Option.some.inj
abbrev nzL:=@Nat.le_trans
abbrev fG:=List (PySem.Addr×PySem.Obj)
abbrev fF:=PySem.Value->PySem.Shared->Prop
section
open PySem PySem.Spec PyProof.Rows
abbrev aA:=@List.mem_cons_self
abbrev aB:=@List.mem_cons_of_mem
abbrev aC:=@List.length_map
abbrev aD:=@Heap.get?_push_of_some
abbrev aE:=@List.mem_cons
abbrev aF:=@List.mem_singleton
abbrev aG:=@Bool.false_ne_true
abbrev aI:=@List.mem_append_right
abbrev aJ:=@List.length_cons
abbrev aK:=@List.length_append
abbrev aL:=@List.map_cons
abbrev aM:=@List.getElem?_eq_getElem
abbrev aP:=@Nat.le_refl
abbrev aQ:=@List.getElem?_cons_zero
abbrev aR:=@Heap.lt_size
abbrev aS:=@List.getElem?_cons_succ
abbrev aU:=@List.replicate_succ
abbrev aV:=@List.length_nil
abbrev aW:=@List.getElem?_eq_some_iff
abbrev aX:=@List.nil_append
abbrev aY:=@Heap.get?_push_size
abbrev aZ:=@List.set_cons_succ
abbrev bA:=@List.cons_append
abbrev bB:=@List.mem_of_getElem?
abbrev bC:=@List.set_cons_zero
abbrev bD:=@List.length_set
abbrev bE:=@List.size_toArray
abbrev bF:=@List.mem_append_left
abbrev bG:=@List.replicate_zero
abbrev bI:=@List.not_mem_nil
abbrev bK:=@List.mem_append
abbrev bL:=@List.map_nil
abbrev bM:=@Nat.lt_of_lt_of_le
abbrev bN:=@List.append_assoc
abbrev bO:=@Heap.get?_update_other
abbrev bQ:=@Nat.lt_of_succ_lt
abbrev bS:=@Option.isSome_some
abbrev bU:=@List.drop_succ_cons
abbrev bV:=@List.length_replicate
abbrev bW:=@Bool.and_eq_true
abbrev bX:=@List.getElem?_map
abbrev bY:=@Option.bind_some
abbrev bZ:=@Int.mul_le_mul_of_nonneg_right
abbrev cC:=@Nat.ne_of_lt
abbrev cD:=@List.mem_map
abbrev cF:=@Option.getD_some
abbrev cG:=@List.mem_map_of_mem
abbrev cH:=@List.append_nil
abbrev cJ:=@List.lookup_cons
abbrev cK:=@Bool.false_eq_true
abbrev cL:=@List.drop_zero
abbrev cM:=@Bool.false_and
abbrev cN:=@List.nodup_cons
abbrev cO:=@List.all_eq_true
abbrev cP:=@List.map_append
abbrev cQ:=@Option.map_eq_some_iff
abbrev cU:=@List.set_eq_of_length_le
abbrev cW:=@Int.emod_lt_of_pos
abbrev dB:=@List.length_range
abbrev dD:=@Heap.get?_update_self
abbrev dH:=@Nat.lt_irrefl
abbrev dI:=@Bool.true_and
abbrev dQ:=@Nat.le_max_right
abbrev dR:=@List.getElem?_set_ne
abbrev dY:=@List.nodup_append
abbrev eE:=@Nat.le_max_left
abbrev eF:=@Int.emod_nonneg
abbrev eP:=@Option.isSome_iff_exists
abbrev eQ:=@List.map_map
abbrev eS:=@Nat.zero_le
abbrev eU:=@Bool.and_eq_true_iff
abbrev eW:=@Option.bind_eq_some_iff
abbrev eX:=@List.flatten_cons
abbrev fC:=@PyProof.Rows.callWith_type1
abbrev fD:=@List.any_eq_true
abbrev fH:=@List.getD_eq_getElem?_getD
abbrev fJ:=@List.length_singleton
abbrev fQ:=@List.any_cons
abbrev fR:=@Bool.not_true
abbrev fZ:=@Int.mul_le_mul_of_nonneg_left
abbrev gC:=@List.find?_cons
abbrev gJ:=@List.pairwise_map
abbrev gK:=@List.any_eq_false
abbrev gL:=@List.mem_range
abbrev gM:=@List.getElem?_append_right
abbrev gN:=@Int.mul_nonneg
abbrev gO:=@Heap.size_push
abbrev gT:=@List.length_take
abbrev gX:=@List.getElem?_zip_eq_some
abbrev hY:=@List.mem_filter
abbrev hZ:=@List.length_zip
abbrev iD:=@List.getElem?_replicate
abbrev iE:=@Int.le_refl
abbrev iI:=@Nat.ne_of_gt
abbrev iJ:=@List.getElem?_set_self
abbrev iK:=@Int.toNat_natCast
abbrev iW:=@List.set_getElem_self
abbrev iX:=@List.getElem?_eq_none
end
namespace L2
open PySem PySem.Spec PyProof.Rows
inductive V where
 |non | bl (b:Bool) | int (i:Int) | str (x:Str) | byt (b:Array UInt8) | flt (b:UInt64) | ref (a:Addr) | ty (n:String)
 deriving DecidableEq
def aMn:Value->Option V
 | .none=>some .non
 | .bool b=>some (.bl b)
 | .int i _=>some (.int i)
 | .str x _=>some (.str x)
 | .bytes b _=>some (.byt b)
 | .float b _=>some (.flt b)
 | .ref a=>some (.ref a)
 | .type n=>some (.ty n)
 |_=>none
def oR(s:Stmt):Arguments:=match s with
 | .FunctionDef _ a _ _ _ _ _ _ _ _=>a
 |_=>{ posonlyargs:=[],args:=[],vararg:=none,kwonlyargs:=[],kw_defaults:=[],kwarg:=none,defaults:=[] }
def gR(s:Stmt):List Stmt:=match s with
 | .FunctionDef _ _ b _ _ _ _ _ _ _=>b
 |_=>[]
def aO(s:Stmt):Scope:=match s with
 | .FunctionDef _ _ _ _ _ _ sc _ _ _=>sc
 |_=>{ kind:=.function,names:=[],isGenerator:=false,isCoroutine:=false }
end L2
namespace L2
open PySem PySem.W PySem.Spec PyProof.Rows PySem.Calls
def aMm(h:Heap):Frag:=(List.range h.objs.size).filterMap λa=>(h.get? a).map λo=>(a,o)
noncomputable def onceSeen (tr:(String->Option Builtin)->Program->World->Nat->Option Value->Nat->Shared->Thread->Option Shared) (tb:String->Option Builtin) (im:List Stmt->List Str) {β:Type} (os:List Str->Shared->β) (p:Program) (N:Nat) {α:Type} (Yf:Frag->α) (w:World) (o:OsState):Option (Bool×β×α):=
 (tr tb p w 11 (some (.ref 6)) N ⟨boot_heap w.params,Array.mk [],boot_drawn,boot_toks,o⟩ (topStub p)).map fun s₁ =>
  (staticsOk (im p.main.body) (boot_heap w.params) s₁.heap&&namesBound p s₁.heap&&gensDone s₁&&laidKept (boot_heap w.params) s₁.heap,os (im p.main.body) s₁,Yf (aMm s₁.heap))
def lC(p:Program)(i:Nat):Stmt:=p.main.body.getD i (.Pass ⟨0,0,0,0⟩)
def gA(s:Stmt):Str:=match s with
 | .FunctionDef n ..=>n
 | .Assign [.Name n _] _ _=>n
 |_=>⟨#[]⟩
abbrev FO:=Option ((Str×Str×Arguments×FuncBody×Scope)×(Addr×List (Str×Addr)×Value×Addr)×Bool)
def vD(K:Frag)(n:Str):FO:=match nsIn K mainGlobals n with
 |some (some (.ref f))=>(match K.lookup f with
  |some ⟨_,_,.func fd,_⟩=>some ((fd.name,fd.qualname,fd.params,fd.body,fd.scope),(fd.globals,fd.closure,fd.defaults,fd.builtins),codeIn K fd.code n)
  |_=>none)
 |_=>none
def vW(s:Stmt):FO:=some ((gA s,gA s,oR s,.stmts (gR s),aO s),(mainGlobals,[],.none,builtinsNs),true)
def pT(K:Frag)(n:Str):Bool:=match nsIn K mainGlobals n with
 |some none=>true
 |_=>false
def vC(K:Frag)(n:Str):Option V:=match nsIn K mainGlobals n with
 |some (some v)=>aMn v
 |_=>none
def aQj(K:Frag)(n:Str):Option (List (Option V)):=match nsIn K mainGlobals n with
 |some (some (.ref a))=>(match K.lookup a with
  |some ⟨.type "tuple",_,.seq xs _,_⟩=>some (xs.toList.map aMn)
  |_=>none)
 |_=>none
def bltNs:List Str:=[⟨#[105,115,105,110,115,116,97,110,99,101]⟩,⟨#[105,110,116]⟩,⟨#[98,111,111,108]⟩,⟨#[108,105,115,116]⟩,⟨#[108,101,110]⟩,⟨#[115,116,114]⟩,⟨#[116,117,112,108,101]⟩,⟨#[97,108,108]⟩,⟨#[100,105,99,116]⟩,⟨#[109,97,120]⟩,⟨#[109,105,110]⟩,⟨#[114,97,110,103,101]⟩,⟨#[122,105,112]⟩,⟨#[101,110,117,109,101,114,97,116,101]⟩,⟨#[115,111,114,116,101,100]⟩,⟨#[115,117,109]⟩,⟨#[114,101,118,101,114,115,101,100]⟩]
end L2
namespace Lf
open PySem L2
abbrev veM:List Value:=[.type "ValueError",.type "Exception",.type "BaseException",.type "object"]
end Lf
namespace PySem.W
open PySem PySem.Spec PySem.Calls PyProof.Rows
def excKit(K:Frag)(D:Addr):Bool:=(findIn K (.ref D) "__getattribute__" == some (some (.builtin "BaseException.__getattribute__")))&&(findIn K (.ref D) "__getattr__" == some none)&&(mroIn K D (.type "BaseException") == some true)&&(mroIn K D (.type "object") == some true) &&
 (findIn K (.ref D) "__class__" == some (some (.builtin "object.__class__")))&&(specialIn K (.builtin "object.__class__") "__get__" == some (some (.builtin "getset_descriptor.__get__")))&&(takesIn K (.builtin "object.__class__") == some true)
end PySem.W
namespace Lf
open PySem L2
open PySem.W (Frag nsIn)
def mL(K:Frag)(N:Addr)(n:Str):Bool:=match K.lookup N with
 |some ⟨_,_,.dict es _,_⟩=>es.toList.all (λe=>match e.key with | .str _ _=>true | _=>false)&&(es.toList.find? (·.key.isStr n)).isNone
 |_=>false
def fX(K:Frag):Nat->List Value->Bool
 |n+1,.ref A::r=>(match K.lookup A with
  |some ⟨_,_,.cls cd,_⟩=>mL K cd.ns "__init__" && fX K n r
  |_=>false)
 |_,l=>l == veM
def nI(K:Frag)(C:Addr):Bool:=match K.lookup C with
 |some ⟨.type "type",_,.cls cd,sl⟩=>(match cd.mro with
  | .ref C'::tl=>C' == C&&cd.hasDel == false&&sl.size == 6&&sl[4]? == some (some (.builtin "ValueError.__new__"))&&mL K cd.ns "__init__" && fX K 4 tl
  |_=>false)&&PySem.W.excKit K C
 |_=>false
def kF(K:Frag)(n:Str):Option Addr:=match nsIn K mainGlobals n with
 |some (some (.ref C))=>some C
 |_=>none
def aAp(K:Frag)(C D:Addr):Bool:=match K.lookup C with
 |some ⟨_,_,.cls cd,_⟩=>cd.mro.contains (.ref D)
 |_=>false
def aQi(K:Frag)(ns:List Str):List (Bool×List (Option Bool×Bool)×Option Bool×Option Bool):=ns.map λn=>match kF K n with
 |some C=>(nI K C,ns.map (λm=>match kF K m with | some D=>(PySem.W.kitOne K (.ref C) (.ref D),aAp K C D) | none=>(none,false)),PySem.W.kitOne K (.ref C) (.type "ValueError"),PySem.W.kitOne K (.type "NoneType") (.ref C))
 |none=>(false,[],none,none)
end Lf
namespace Lf
open PySem L2
open PySem.W (Frag nsIn)
open PySem.W (Frag nsIn)
def lR(K:Frag):Nat->List Value->Bool
 |n+1,.ref A::r=>(match K.lookup A with
  |some ⟨_,_,.cls cd,_⟩=>mL K cd.ns "__str__" && lR K n r
  |_=>false)
 |_,l=>l == veM
def sF(K:Frag)(n:Str):Bool:=match kF K n with
 |some C=>(match K.lookup C with
  |some ⟨_,_,.cls cd,_⟩=>(match cd.mro with
   | .ref C'::tl=>C' == C&&mL K cd.ns "__str__" && lR K 4 tl
   |_=>false)
  |_=>false)
 |none=>false
end Lf
namespace Lf
open PySem L2
open PySem.W (Frag nsIn)
abbrev OX:=Bool×List (Option Bool×Bool)×Option Bool×Option Bool
end Lf
namespace Lf
open PySem L2
def tb(n:Nat):Int:=4*n
theorem aYp:Nat.ble 1 PySem.Challenge.pw_laidfields_k20_no_value.main.body.length=true:=by k_qdec
def aWl(s:Stmt):Option V:=match s with
 | .Assign _ (.Constant (.int i) _ _) _=>some (.int i)
 | .Assign _ (.Constant (.str x) _ _) _=>some (.str x)
 |_=>none
def aYq(e:Expr):Option V:=match e with
 | .Constant (.int i) _ _=>some (.int i)
 |_=>none
def aZv(s:Stmt):Option (List (Option V)):=match s with
 | .Assign _ (.Tuple es _ _) _=>some (es.map aYq)
 |_=>none
abbrev zF:Option Bool×Bool:=(some false,false)
def seenF(p:Program)(K:eC):List FO×List Bool×List (Option V)×List (Option (List (Option V)))×List OX×List Bool:=([9,10,11,12,13,14,15,16,17,18,19,21,25,26,27,28,29,30,31,32,34,35,36,37,38,39,40,41,42,43,44,45,46,47,48,49,50].map λi=>vD K (gA (lC p i)),(bltNs++[(⟨#[86,97,108,117,101,69,114,114,111,114]⟩:Str)]).map (pT K),[23,24].map λi=>vC K (gA (lC p i)),[].map λi=>aQj K (gA (lC p i)),aQi K AN,[sF K "NoBytes",sF K "NoValue"])
def seenV(p:Program):List FO×List Bool×List (Option V)×List (Option (List (Option V)))×List OX×List Bool:=([9,10,11,12,13,14,15,16,17,18,19,21,25,26,27,28,29,30,31,32,34,35,36,37,38,39,40,41,42,43,44,45,46,47,48,49,50].map λi=>vW (lC p i),List.replicate 18 true,[23,24].map λi=>aWl (lC p i),[].map λi=>aZv (lC p i),[(true,[(some true,true),zF,zF,zF,zF,zF,zF],some true,some false),(true,[(some true,true),(some true,true),zF,zF,zF,zF,zF],some true,some false),(true,[(some true,true),zF,(some true,true),zF,zF,zF,zF],some true,some false),(true,[(some true,true),zF,zF,(some true,true),zF,zF,zF],some true,some false),(true,[(some true,true),zF,zF,zF,(some true,true),zF,zF],some true,some false),(true,[(some true,true),zF,zF,zF,zF,(some true,true),zF],some true,some false),(true,[(some true,true),zF,zF,zF,zF,zF,(some true,true)],some true,some false)],[true,true])
theorem aFq:∀w:World,onceSeen PySem.W.topRun treeTable importedModules (λm s=>PySem.W.openSeen (PySem.W.view PySem.Challenge.pw_laidfields_k20_no_value [1,2,3,4,5,6,7,9,10,11,12,13,14,15,16,17,18,19,21,23,24,25,26,27,28,29,30,31,32,34,35,36,37,38,39,40,41,42,43,44,45,46,47,48,49,50]) [] m (λs=>PySem.W.xlAt (PySem.W.view PySem.Challenge.pw_laidfields_k20_no_value [1,2,3,4,5,6,7,9,10,11,12,13,14,15,16,17,18,19,21,23,24,25,26,27,28,29,30,31,32,34,35,36,37,38,39,40,41,42,43,44,45,46,47,48,49,50]) [] s&&PySem.W.recOk [] s) true s) PySem.Challenge.pw_laidfields_k20_no_value 5342 (seenF PySem.Challenge.pw_laidfields_k20_no_value) w=λ_=>some (true,PySem.W.openGood (PySem.W.view PySem.Challenge.pw_laidfields_k20_no_value [1,2,3,4,5,6,7,9,10,11,12,13,14,15,16,17,18,19,21,23,24,25,26,27,28,29,30,31,32,34,35,36,37,38,39,40,41,42,43,44,45,46,47,48,49,50]) [],seenV PySem.Challenge.pw_laidfields_k20_no_value):=by
 have _:=aYp
 rw[PySem.W.Fast.te16760491073586173781,PySem.W.Fast.te14082659384304107361,PySem.W.Fast.te14364793385576792824,PySem.W.Fast.te5923862056798008813,PySem.W.Fast.te4187177175401517315]
 exact λw=>by kernel_rfl
end Lf
namespace L2
open PySem PySem.Spec PyProof.Rows
section
variable{P:Program}{w:World}{A:Around}{E:fF}{s:Shared}
structure Seek(P:Program)(w:World)(A:Around)(E:fF)(s:Shared)(es:Array DictEntry)(u:Value)(n:Int)(y:DictEntry->Bool):Prop where
 eq:∀e∈es,e.hash=n->∀Q,Q (y e) s->wpAny (model P w) A (eqBool e.key u) Q E s
 qu:∀Q,Q true s->wpAny (model P w) A (eqIsQuiet 8 u) Q E s
 qe:∀e∈es,∀Q,Q true s->wpAny (model P w) A (eqIsQuiet 8 e.key) Q E s
 st:∀e∈es,e.key=u->e.hash=n
 odd:isExactStrKey u=true->(es.all λe=>isExactStrKey e.key)=true->False
 one:∀(i j:Nat) e f,es[i]? = some e->es[j]? = some f->e.hash=n->f.hash=n->y e=true->y f=true->i=j
abbrev plcs(es:Array DictEntry)(n:Int):List Nat:=placesWithHash es.size (λi=>es[i]?.map (·.hash)) n
theorem lT{es:Array DictEntry}{n:Int}{i:Nat}:i∈plcs es n↔∃e,es[i]? = some e/\e.hash=n:=by
 unfold plcs placesWithHash
 rw[hY,gL]
 constructor
 ·rintro ⟨hi,hp⟩
  dsimp only at hp
  rw[Array.getElem?_eq_getElem hi,Option.map_some,beq_iff_eq,Option.some.injEq]at hp
  exact⟨_,Array.getElem?_eq_getElem hi,hp⟩
 ·rintro ⟨e,he,hn⟩
  obtain⟨hi,_⟩:=Array.getElem?_eq_some_iff.mp he
  refine⟨hi,?_⟩
  dsimp only
  rw[he,Option.map_some,hn]
  exact beq_self_eq_true _
theorem aAx{es:Array DictEntry}{n:Int}{v:Value}(h:v∈(plcs es n).filterMap λi=>es[i]?.map (·.key)):∃e∈es,e.key=v:=by
 obtain⟨i,_,hi⟩:=List.mem_filterMap.mp h
 obtain⟨e,he,hk⟩:=cQ.mp hi
 exact⟨e,Array.mem_of_getElem? he,hk⟩
theorem aAu{es:Array DictEntry}{u:Value}{n:Int}{y:DictEntry->Bool}{Q:Bool->Shared->Prop}(L:Seek P w A E s es u n y)(h:Q false s):wpAny (model P w) A (tableMayTell u ((plcs es n).filterMap λi=>es[i]?.map (·.key))) Q E s:=by
 unfold tableMayTell
 split
 ·exact wpAny_pure h
 ·refine wpAny_bind (L.qu _ ?_)
  simp only[fR,cK,if_false]
  refine wpAny_bind (wpAny_forIn_list _ (λl b t=>t=s/\b=(none,())/\∀v∈l,∃e∈es,e.key=v) _ ?_ ?_ _ _ ⟨rfl,rfl,λv hv=>aAx hv⟩)
  ·rintro v l b t ⟨rfl,rfl,hl⟩
   obtain⟨e,he,rfl⟩:=hl v aA
   refine wpAny_bind (L.qe e he _ ?_)
   simp only[fR,cK,if_false]
   exact wpAny_pure ⟨rfl,rfl,λv hv=>hl v (aB _ hv)⟩
  ·rintro b t ⟨rfl,rfl,_⟩
   exact wpAny_pure h
theorem yL{d:Addr}{o:Obj}{es:Array DictEntry}{ep:Nat}{u:Value}{n:Int}{y:DictEntry->Bool}{Q:Option Nat->Shared->Prop}(ho:s.heap.get? d=some o)(hd:o.data=.dict es ep)(L:Seek P w A E s es u n y)
  (h0:(∀(i:Nat) e,es[i]? = some e->e.hash=n->y e=false)->Q none s) (h1:∀(i:Nat) e,es[i]? = some e->e.hash=n->y e=true->Q (some i) s):wpAny (model P w) A (dictFind d u n) Q E s:=by
 have fin:∀pre:List Nat,pre=plcs es n->(∀i∈pre,∀e,es[i]? = some e->y e=false)->Q none s:=λpre e h=>h0 λi x hx hn=>h i (e ▸ lT.mpr ⟨x,hx,hn⟩) x hx
 have plain:wpAny (model P w) A (dictWalkPlain d u n es (plcs es n)) Q E s:=by
  unfold dictWalkPlain
  refine wpAny_bind (wpAny_forIn_list _ (λl b t=>t=s/\b=(none,())/\∃pre,plcs es n=pre++l/\∀i∈pre,∀e,es[i]? = some e->y e=false) _ ?_ ?_ _ _ ⟨rfl,rfl,[],rfl,λ_ h=>nomatch h⟩)
  ·rintro i l b t ⟨rfl,rfl,pre,hp,A3⟩
   obtain⟨e,he,hn⟩:=lT.mp (hp ▸ aI pre aA)
   rw[he]
   dsimp only
   rw[if_pos (by rw[hn];exact beq_self_eq_true _)]
   refine wpAny_bind (wpAny_dictEpoch ho hd (wpAny_bind (L.eq e (Array.mem_of_getElem? he) hn _ (wpAny_bind (wpAny_dictEpoch ho hd ?_)))))
   show wpAny _ _ (if(ep != ep)=true then _ else _) _ E _
   rw[if_neg (by simp)]
   cases hy:y e with
   |true=>exact wpAny_bind (wpAny_rule (wpAny_pure (wpAny_pure (h1 i e he hn hy))))
   |false =>
    refine wpAny_bind (wpAny_rule (wpAny_pure ⟨rfl,rfl,pre++[i],by rw[hp,bN];rfl,λj hj f hf=>?_⟩))
    rcases bK.mp hj with hj | hj
    ·exact A3 j hj f hf
    ·rw [aF.mp hj,he] at hf
     cases hf
     exact hy
  ·rintro b t ⟨rfl,rfl,pre,hp,A3⟩
   exact wpAny_pure (fin pre (by rw[hp,cH]) A3)
 have nd:(plcs es n).Nodup:=List.nodup_range.filter _
 have Lj:¬(es.any λe=>e.key == u&&e.hash != n)=true:=by
  rw[<-Array.any_toList,fD]
  rintro⟨e,he,hc⟩
  simp only[bW,beq_iff_eq,bne_iff_ne,ne_eq]at hc
  exact hc.2 (L.st e (Array.mem_toList_iff.mp he) hc.1)
 unfold dictFind
 try with_reducible refine wpAny_holding ?_
 refine wpAny_bind (wpAny_dictEntries ho hd ?_)
 dsimp only
 by_cases Ar:((u::(plcs es n).filterMap λi=>es[i]?.map (·.key)).all carriedByValue)=true
 ·have q:=L.odd
  cases u<;>dsimp only<;>first
   |(rw[if_pos Ar];exact plain)
   |(rw[if_neg (λz=>q rfl z),if_pos Ar];exact plain)
 ·have q:=L.odd
  have tail:∀g:Bool->Sem (Option Nat),wpAny (model P w) A (g false) Q E s->wpAny (model P w) A (if((plcs es n).filterMap (λi=>es[i]?.map (·.key)) == [u])=true then pure false >>= g else tableMayTell u ((plcs es n).filterMap λi=>es[i]?.map (·.key)) >>= g) Q E s:=λg hg=>by
   split
   ·exact wpAny_bind (wpAny_pure hg)
   ·exact wpAny_bind (aAu L hg)
  cases u<;>dsimp only<;>first
   |(rw[if_neg Ar];refine tail _ ?_)
   |(rw[if_neg (λz=>q rfl z),if_neg Ar];refine tail _ ?_)
   |(rw[if_neg Ar,if_neg Lj];refine tail _ ?_)
  all_goals
   rw[if_neg (by simp)]
   refine wpAny_bind (wpAny_forIn_list _ (λl b t=>t=s/\∃B8 pre,b=(none,B8)/\plcs es n=pre++l/\((B8=none/\∀i∈pre,∀e,es[i]? = some e->y e=false)\/∃j e,B8=some j/\j∈pre/\es[j]? = some e/\y e=true)) _ ?_ ?_ _ _ ⟨rfl,none,[],rfl,rfl,.inl ⟨rfl,λ_ h=>nomatch h⟩⟩)
   ·rintro i l b t ⟨rfl,B8,pre,rfl,hp,hh⟩
    obtain⟨e,he,hn⟩:=lT.mp (hp ▸ aI pre aA)
    have hi:i∉pre:=λz=>by
     rw[hp]at nd
     exact(dY.mp nd).2.2 i z i aA rfl
    rw[he]
    dsimp only
    rw[if_pos (by rw[hn];exact beq_self_eq_true _)]
    refine wpAny_bind (wpAny_dictEpoch ho hd (wpAny_bind (L.eq e (Array.mem_of_getElem? he) hn _ (wpAny_bind (wpAny_dictEpoch ho hd ?_)))))
    rw[if_neg (by simp)]
    cases hy:y e with
    |true =>
     rw[if_pos rfl]
     rcases hh with⟨rfl,A3⟩ | ⟨j,f,rfl,hj,hf,Hu⟩
     ·rw [if_neg (by simp)]
      refine wpAny_bind (wpAny_rule ?_)
      split
      ·exact wpAny_pure (wpAny_pure (h1 i e he hn hy))
      ·exact wpAny_pure ⟨rfl,some i,pre++[i],rfl,by rw[hp,bN];rfl,.inr ⟨i,e,rfl,aI _ aA,he,hy⟩⟩
     ·obtain ⟨f',Eo,Cq⟩:=lT.mp (hp ▸ bF _ hj)
      rw[hf]at Eo
      cases Eo
      exact absurd (L.one i j e f he hf hn Cq hy Hu ▸ hj) hi
    |false =>
     rw[if_neg (by simp)]
     refine wpAny_bind (wpAny_rule ?_)
     rw[if_neg (by simp)]
     refine wpAny_pure ⟨rfl,B8,pre++[i],rfl,by rw[hp,bN];rfl,?_⟩
     rcases hh with⟨h,A3⟩ | ⟨j,f,h,hj,hf,Hu⟩
     ·refine .inl ⟨h,fun j hj f hf => ?_⟩
      rcases bK.mp hj with hj | hj
      ·exact A3 j hj f hf
      ·rw [aF.mp hj,he] at hf
       cases hf
       exact hy
     ·exact .inr ⟨j,f,h,bF _ hj,hf,Hu⟩
   ·rintro b t ⟨rfl,B8,pre,rfl,hp,hh⟩
    rcases hh with⟨rfl,A3⟩ | ⟨j,f,rfl,hj,hf,Hu⟩
    ·exact wpAny_pure (fin pre (by rw[hp,cH]) A3)
    ·obtain ⟨f',Eo,Cq⟩:=lT.mp (hp ▸ bF _ hj)
     rw[hf]at Eo
     cases Eo
     exact wpAny_pure (h1 j f hf Cq Hu)
def DAt(h:Heap)(d:Addr)(es:Array DictEntry)(ep:Nat):Prop:=∃o,h.get? d=some o/\o.ExactDict/\o.data=.dict es ep
theorem DAt.ty{d:Addr}{es:Array DictEntry}{ep:Nat}(h:DAt s.heap d es ep):s.TypeIs (.ref d) "dict":=let ⟨o,ho,hc,_⟩:=h;⟨o,ho,hc.1⟩
def Got(es:Array DictEntry)(n:Int)(y:DictEntry->Bool)(r:Option Value):Prop:=
 (r=none/\∀(i:Nat) e,es[i]? = some e->e.hash=n->y e=false)\/∃(i:Nat) (e:DictEntry),es[i]? = some e/\e.hash=n/\y e=true/\r=some e.val
theorem Got.same{es:Array DictEntry}{n:Int}{y:DictEntry->Bool}{r r':Option Value}{u:Value}(L:Seek P w A E s es u n y)(h:Got es n y r)(h':Got es n y r'):r=r':=by
 rcases h with⟨rfl,h⟩ | ⟨i,e,he,hn,hy,rfl⟩
 ·rcases h' with ⟨rfl,_⟩ | ⟨i,e,he,hn,hy,rfl⟩
  ·rfl
  ·rw[h i e he hn]at hy;cases hy
 ·rcases h' with ⟨rfl,h⟩ | ⟨j,f,hf,Cq,hy',rfl⟩
  ·rw[h i e he hn]at hy;cases hy
  ·cases L.one i j e f he hf hn Cq hy hy'
   rw[he]at hf
   cases hf
   rfl
def nE(P:Program)(w:World)(A:Around)(E:fF)(s:Shared)(u:Value)(n:Int)(t:Nat):Prop:=∀Q,Q n { s with toks:=t }->wpAny (model P w) A (pyHash u) Q E s
variable{d:Addr}{es:Array DictEntry}{ep:Nat}{u:Value}{n:Int}{y:DictEntry->Bool}{t:Nat}{r:Option Value}
theorem vQ{Q:Option Value->Shared->Prop}(D:DAt s.heap d es ep)(hh:nE P w A E s u n t)(L:Seek P w A E { s with toks:=t } es u n y)(g:Got es n y r)(h:Q r { s with toks:=t }):wpAny (model P w) A (dictGet d u) Q E s:=by
 obtain⟨o,ho,hc,hd⟩:=D
 unfold dictGet
 try with_reducible refine wpAny_holding ?_
 refine wpAny_bind (hh _ (wpAny_bind (yL (s:={ s with toks:=t }) ho hd L (λA3=>?_) λi e he hn hy=>?_)))
 ·cases Got.same L g (.inl ⟨rfl,A3⟩)
  exact wpAny_pure h
 ·cases Got.same L g (.inr ⟨i,e,he,hn,hy,rfl⟩)
  refine wpAny_bind (wpAny_dictEntries (s:={ s with toks:=t }) ho hd ?_)
  rw[he]
  exact wpAny_pure h
theorem aQy{Q:fF}(D:DAt s.heap d es ep)(hs:(d == sysModules)=false)(hh:nE P w A.in1 E s u n t)(L:Seek P w A.in1 E { s with toks:=t } es u n y)(g:Got es n y r)(h:Q (.bool r.isSome) { s with toks:=t }):wpAny (model P w) A (compareOp .In u (.ref d)) Q E s:=by
 show wpAny _ _ (contains (.ref d) u >>= λb=>pure (Value.bool b)) Q E s
 refine wpAny_bind ?_
 unfold contains
 try with_reducible refine wpAny_holding ?_
 refine wpAny_bind (wpAny_specialOf D.ty slot_dict_contains.lookup ?_)
 show wpAny _ _ (if(some (Value.builtin "dict.__contains__") == some Value.none)=true then _ else _) _ E s
 rw[if_neg (by rw[beq_builtin_none];exact aG)]
 refine wpAny_bind (wpAny_callSpecialUnlessNone?_slot (name:=Str.ofString "__contains__") D.ty slot_dict_contains (wpAny_call_entry slot_dict_contains D.ty entry_dict_contains ?_ (args_dict_contains _ _)))
 show wpAny _ _ (dictGet d u >>= _) _ _ s
 refine wpAny_bind (vQ D hh L g ?_)
 cases r with
 |some v=>exact wpAny_pure ⟨_,rfl,wpAny_truthy_bool (wpAny_pure h)⟩
 |none =>
  show wpAny _ _ (Builtin.Dict.pendingKey? d u >>= _) _ _ _
  exact wpAny_bind (wpAny_pendingKey_other hs (wpAny_pure ⟨_,rfl,wpAny_truthy_bool (wpAny_pure h)⟩))
theorem aBk{Q:fF}(D:DAt s.heap d es ep)(hs:(d == sysModules)=false)(hh:nE P w A.in1 E s u n t)(L:Seek P w A.in1 E { s with toks:=t } es u n y)(g:Got es n y r)(h:Q (.bool (!r.isSome)) { s with toks:=t }):wpAny (model P w) A (compareOp .NotIn u (.ref d)) Q E s:=by
 show wpAny _ _ (contains (.ref d) u >>= λb=>pure (Value.bool (!b))) Q E s
 refine wpAny_bind ?_
 unfold contains
 try with_reducible refine wpAny_holding ?_
 refine wpAny_bind (wpAny_specialOf D.ty slot_dict_contains.lookup ?_)
 show wpAny _ _ (if(some (Value.builtin "dict.__contains__") == some Value.none)=true then _ else _) _ E s
 rw[if_neg (by rw[beq_builtin_none];exact aG)]
 refine wpAny_bind (wpAny_callSpecialUnlessNone?_slot (name:=Str.ofString "__contains__") D.ty slot_dict_contains (wpAny_call_entry slot_dict_contains D.ty entry_dict_contains ?_ (args_dict_contains _ _)))
 show wpAny _ _ (dictGet d u >>= _) _ _ s
 refine wpAny_bind (vQ D hh L g ?_)
 cases r with
 |some v=>exact wpAny_pure ⟨_,rfl,wpAny_truthy_bool (wpAny_pure h)⟩
 |none =>
  show wpAny _ _ (Builtin.Dict.pendingKey? d u >>= _) _ _ _
  exact wpAny_bind (wpAny_pendingKey_other hs (wpAny_pure ⟨_,rfl,wpAny_truthy_bool (wpAny_pure h)⟩))
theorem aGp{v:Value}{Q:fF}(D:DAt s.heap d es ep)(hh:nE P w A.in1 E s u n t)(L:Seek P w A.in1 E { s with toks:=t } es u n y)(g:Got es n y (some v))(h:Q v { s with toks:=t }):wpAny (model P w) A (getItem (.ref d) u) Q E s:=by
 unfold getItem
 try with_reducible refine wpAny_holding ?_
 refine wpAny_bind (wpAny_sequenceKey D.ty (by decide) ?_)
 refine wpAny_bind (wpAny_callSpecial?_slot (name:=Str.ofString "__getitem__") D.ty slot_dict_getitem (wpAny_call_entry slot_dict_getitem D.ty entry_dict_getitem ?_ (args_dict_getitem _ _)))
 show wpAny _ _ (dictGet d u >>= _) _ _ s
 exact wpAny_bind (vQ D hh L g (wpAny_pure ⟨v,rfl,wpAny_pure h⟩))
theorem aJo{v:Value}{Q:Unit->Shared->Prop}(D:DAt s.heap d es ep)(hz:es.size<=sizeLine)(hh:nE P w A.in1 E s u n t)(L:Seek P w A.in1 E { s with toks:=t } es u n y)(A3:∀(i:Nat) e,es[i]? = some e->e.hash=n->y e=false)
  (h:∀h',DAt h' d (es.push ⟨n,u,v⟩) (ep+1)->Heap.SameBut d s.heap h'->Q () { s with heap:=h',toks:=t }):wpAny (model P w) A (setItem (.ref d) u v) Q E s:=by
 obtain⟨o,ho,hc,hd⟩:=id D
 unfold setItem
 try with_reducible refine wpAny_holding ?_
 refine wpAny_bind (wpAny_sequenceKey D.ty (by decide) ?_)
 refine wpAny_bind (wpAny_callSpecial?_slot (name:=Str.ofString "__setitem__") D.ty slot_dict_setitem (wpAny_call_entry slot_dict_setitem D.ty entry_dict_setitem ?_ (args_dict_setitem _ _ _)))
 show wpAny _ _ (Builtin.Dict.notOrdered "__setitem__" ⟨[.ref d,u,v],[]⟩ >>= _) _ _ s
 refine wpAny_bind (wpAny_notOrdered_dict D.ty ?_)
 show wpAny _ _ (dictSet d u v >>= _) _ _ s
 refine wpAny_bind ?_
 unfold dictSet
 try with_reducible refine wpAny_holding ?_
 refine wpAny_bind (hh _ ?_)
 unfold dictSetHashed
 try with_reducible refine wpAny_holding ?_
 refine wpAny_bind (yL (s:={ s with toks:=t }) ho hd L (λ_=>?_) λi e he hn hy=>by rw[A3 i e he hn]at hy;cases hy)
 refine wpAny_bind (wpAny_rule (wpAny_updateDictKeys (hz:=by omega) (s:={ s with toks:=t }) ho hd (wpAny_pure ⟨.none,rfl,wpAny_pure (h _ ⟨_,dD _ ho (Obj.isFreed_of_dict (Obj.data_mapDictKeys hd _)),hc.mapDictKeys _,Obj.data_mapDictKeys hd _⟩ (Heap.SameBut.update ..))⟩)))
theorem yD{Q:fF}(hs:(d == sysModules)=false)(D:DAt s.heap d es ep)(h:Q (.ref s.heap.objs.size) { s with heap:=s.heap.push { cls:=.type "dict_keyiterator",data:=.fields #[.ref d,.int 0 0,.int es.size 0,.int ep 0] } }):wpAny (model P w) A (pyIter (.ref d)) Q E s:=by
 obtain⟨o,ho,hc,hd⟩:=id D
 refine wpAny_pyIter_slot D.ty F.slot_dict_iter (wpAny_call_entry F.slot_dict_iter D.ty F.entry_dict_iter ?_ (F.args_dict_iter_1 _))
 unfold Builtin.«dict.__iter__»
 refine wpAny_bind ?_
 unfold Builtin.Dict.dictSlotNone
 refine wpAny_bind (wpAny_notOrdered_dict D.ty (wpAny_pure ?_))
 show wpAny _ _ (Builtin.Dict.showsAll d >>= _) _ _ s
 unfold Builtin.Dict.showsAll
 rw[if_neg (by rw[hs];exact aG)]
 refine wpAny_bind (wpAny_pure (wpAny_bind (wpAny_dictEntries ho hd (wpAny_bind (wpAny_dictEpoch ho hd ?_)))))
 refine wpAny_bind (wpAny_newObj_type (wpAny_pure ⟨_,rfl, "dict_keyiterator",_,⟨_,aY _ rfl,rfl⟩,F.slot_dict_keyiterator_next.lookup,?_⟩))
 simpa [rawInt]using h
theorem ho_{it:Addr}{i:Nat}{Q:Option Value->Shared->Prop}(hh:es.size<=i->A.handled=none)(I:s.heap.IsKeyIter it d i es.size ep)(D:DAt s.heap d es ep)
  (h:∀e h',es[i]? = some e->h'.IsKeyIter it d (i+1) es.size ep->Heap.SameBut it s.heap h'->Q (some e.key) { s with heap:=h' })
  (h':∀h',es.size<=i->Heap.ExtBut it s.heap h'->Q none { s with heap:=h' }):wpAny (model P w) A (pyNext (.ref it)) Q E s:=by
 obtain⟨o,ho,hc,hd⟩:=id I
 obtain⟨od,Mr,_,E8⟩:=D
 have nm:∀{A:Around} {E:fF} {Q:String->Shared->Prop},Q "dict_keyiterator" s->wpAny (model P w) A (typeNameOf (.ref it)) Q E s:=λq=>wpAny_typeNameOf_keyiter I.typeIs q
 have nm':∀{A:Around} {E:fF} {Q:String->Shared->Prop},Q "dict_keyiterator" s->wpAny (model P w) A (typeNameOfWhole (.ref it)) Q E s:=λq=>wpAny_typeNameOfWhole_keyiter I.typeIs q
 unfold pyNext
 refine wpAny_bind (wpAny_attempt (wpAny_callSpecial?_slot (name:=Str.ofString "__next__") I.typeIs F.slot_dict_keyiterator_next (wpAny_call_entry F.slot_dict_keyiterator_next I.typeIs F.entry_dict_keyiterator_next ?_ (F.args_dict_keyiterator_next_1 _))))
 refine wpAny_bind (wpAny_pure (wpAny_bind (wpAny_bind (wpAny_bind ?_))))
 refine(by first | exact nm' | exact nm:∀{A:Around} {E:fF} {Q:String->Shared->Prop},Q "dict_keyiterator" s->wpAny (model P w) A _ Q E s) (wpAny_pure (wpAny_bind (wpAny_fieldsOf ho hd ?_)))
 simp only[show Builtin.Dict_items.ownsTuple "dict_keyiterator" = false by decide,cK,if_false]
 change wpAny _ _ (if(Value.ref d == Value.none)=true then _ else _) _ _ s
 rw[if_neg (show ¬(Value.ref d == Value.none)=true from aG)]
 refine wpAny_bind (wpAny_pure (wpAny_bind (wpAny_dictEntries Mr E8 ?_)))
 rw[if_neg (by simp)]
 refine wpAny_bind (wpAny_pure (wpAny_bind (wpAny_dictEpoch Mr E8 ?_)))
 rw[if_neg (by simp)]
 refine wpAny_pure ?_
 simp only[show ¬((i:Int)<0)from by omega,if_false,iK]
 by_cases hi:es.size<=i
 ·simp only [Array.getElem?_eq_none hi]
  refine wpAny_bind (wpAny_bind ?_)
  refine(by first | exact nm' | exact nm:∀{A:Around} {E:fF} {Q:String->Shared->Prop},Q "dict_keyiterator" s->wpAny (model P w) A _ Q E s) (wpAny_pure ?_)
  change wpAny _ _ (setField (.ref it) 0 .none >>= _) _ _ s
  refine wpAny_bind (wpAny_setField ho hd (by simp) ?_)
  change wpAny _ _ (newExc (.type "StopIteration") [] >>= _) _ _ _
  simp only[newExc,newTuple,raiseNew]
  refine wpAny_bind (wpAny_bind (wpAny_newObj_type (wpAny_bind (m:=firstArgMember _ _) (wpAny_of_eq (a:=Value.none) (by first | rfl | (simp only[firstArgMember];rfl)) (wpAny_newObj_type ?_ (by size_fits)))) (by size_fits)))
  refine wpAny_bind (wpAny_handled ?_)
  rw[show A.in1.handled=none from hh hi]
  refine wpAny_bind (wpAny_pure (wpAny_throw (wpAny_bind ?_)))
  exact wpAny_isInstance (T:= "StopIteration") (b:=true) ⟨_,aY _ rfl,rfl⟩ isSubtype_stop (wpAny_pure (h' _ hi (((Heap.SameBut.update ..).extBut.push _).push _)))
 ·have he:=Array.getElem?_eq_getElem (Nat.lt_of_not_le hi)
  simp only[he]
  refine wpAny_bind (wpAny_bind ?_)
  refine(by first | exact nm' | exact nm:∀{A:Around} {E:fF} {Q:String->Shared->Prop},Q "dict_keyiterator" s->wpAny (model P w) A _ Q E s) (wpAny_pure (wpAny_bind (wpAny_isOneOf_keyiter I.typeIs ?_)))
  change wpAny _ _ (setField (.ref it) 1 (rawInt ((i:Int)+1)) >>= _) _ _ s
  have I':(s.heap.update it (Obj.mapFields (·.setIfInBounds 1 (rawInt ((i:Int)+1))))).IsKeyIter it d (i+1) es.size ep:=⟨_,dD _ ho (Obj.isFreed_of_fields (Obj.data_mapFields hd _)),(Obj.cls_mapFields ..).trans hc,by rw[Obj.data_mapFields hd];simp[rawInt]⟩
  refine wpAny_bind (wpAny_setField ho hd (by simp) (wpAny_bind (wpAny_holding (wpAny_bind (wpAny_isOneOf_keyiter (s:={ s with heap:=s.heap.update it (Obj.mapFields (·.setIfInBounds 1 (rawInt ((i:Int)+1)))) }) I'.typeIs ?_)))))
  exact wpAny_pure (wpAny_pure ⟨_,rfl,wpAny_pure (h _ _ he I' (Heap.SameBut.update ..))⟩)
theorem DAt.to{h h':Heap}(D:DAt h d es ep)(k:∀o,h.get? d=some o->h'.get? d=some o):DAt h' d es ep:=let ⟨o,ho,r⟩:=D;⟨o,k o ho,r⟩
theorem DAt.lt{h:Heap}(D:DAt h d es ep):d<h.objs.size:=let ⟨_,ho,_⟩:=D;aR ho
theorem aAo(hh:A.handled=none)(I d:Addr)(Bt:d≠I)(es:Array DictEntry)(ep:Nat):Walks P w A I [I,d] [I] es.size (λi v=>∃e,es[i]? = some e/\v=e.key) (λi h=>h.IsKeyIter I d i es.size ep/\DAt h d es ep)where
 sub:=λb hb=>by simp at hb;simp[hb]
 frame:=λ_ _ _ st hk=>⟨st.1.at λo e=>hk I (by simp) o e,st.2.to λo e=>hk d (by simp) o e⟩
 item:=λi s Q E hi st hQ=>ho_ (λz=>absurd hi (Nat.not_lt.mpr z)) st.1 st.2 (λf h' he a b=>hQ _ h' s.toks ⟨_,he,rfl⟩ ⟨a,st.2.to λo e=>b.extBut d o Bt e⟩ λc o hc e=>b.extBut c o (λz=>hc (by simp[z])) e) λ_ z=>absurd hi (Nat.not_lt.mpr z)
 done:=λs Q E st hQ=>ho_ (λ_=>hh) st.1 st.2 (λf _ he=>absurd (Array.getElem?_eq_some_iff.mp he).1 (dH _)) λh' _ b=>hQ h' s.toks λc o hc e=>b c o (λz=>hc (by simp[z])) e
 self:=λ_ _ _ _ st hQ=>wpAny_pyIter_keyiter st.1 hQ
theorem aJk(hs:(d == sysModules)=false):PySem.W.KdlSrc P w "dict" d d es.size (λi v=>∃e,es[i]? = some e/\v=e.key) (λh=>DAt h d es ep)where
 type:=λ_ D=>D.ty
 there:=λ_ D=>⟨D.lt,D.lt⟩
 keep:=λ_ _ D hk=>D.to λo e=>hk d (.inl rfl) o e
 notList:=by decide
 notTuple:=by decide
 hint:=λ_ _ _ _ D hq=>PySem.W.kdl_hint_dict D.ty hq
 iter:=λ_ _ hh D=>⟨_,_,(λ_ _ hq=>yD hs D hq),aAo hh _ d (cC D.lt) es ep,⟨⟨_,aY _ rfl,rfl,rfl⟩,D.to λo e=>aD _ e⟩⟩
theorem aLa{Q:fF}(hs:(d == sysModules)=false)(D:DAt s.heap d es ep)(hz:(es.size:Int)<2^63)(h:∀t t',Q (.int es.size t) { s with toks:=t' }):wpAny (model P w) A (call (.builtin "len") [.ref d]) Q E s:=by
 refine Calls.call_function_entry kind_len plain_len entry_len (args_len1 _) ?_
 unfold Builtin.«len»
 refine wpAny_bind (m:=oneArg "len" _) (wpAny_pure (wpAny_bind (m:=callSpecial? (.ref d) (Str.ofString "__len__")) (wpAny_callSpecial?_slot (name:=Str.ofString "__len__") D.ty F.slot_dict_len (wpAny_call_entry F.slot_dict_len D.ty F.entry_dict_len ?_ (F.args_dict_len_1 _)))))
 obtain⟨o,ho,_,hd⟩:=D
 change wpAny _ _ (dictSize d >>= _) _ _ s
 unfold dictSize
 refine wpAny_bind (wpAny_bind (wpAny_dictEntries ho hd (wpAny_pure ?_)))
 change wpAny _ _ (Builtin.Dict.pendingCount d >>= _) _ _ s
 refine wpAny_bind (wpAny_pendingCount_other hs (wpAny_ret_mkInt ?_))
 refine wpAny_bind (wpAny_holding (wpAny_pure (wpAny_bind (wpAny_letGo ?_))))
 change wpAny _ _ (if((es.size:Nat):Int)<0 then _ else _) _ _ _
 rw[if_neg (by omega)]
 change wpAny _ _ (if((es.size:Nat):Int)>=2^63 then _ else _) _ _ _
 rw[if_neg (by omega)]
 exact wpAny_bind (wpAny_mkInt (wpAny_pure ⟨_,rfl,h _ _⟩))
end
inductive Key where
 |inl (i:Int) | inr (x:Str) | non | tru | ref (b:Addr) (x:Str)
 deriving DecidableEq
def sS:Key->Value->Bool
 | .inl k,v=>Value.isInt k v
 | .inr x,v=>Value.isStrOf x v
 |_,_=>false
def aYr(w:World):Key->Int
 | .inl k=>hashInt k
 | .inr x=>hashStr w x
 |_=>0
theorem bt_:∀{k:Key} {v:Value},sS k v=true->(∃i t,k=Key.inl i/\v=Value.int i t)\/(∃x t,k=Key.inr x/\v=Value.str x t)
 | .inl i,v,h=>by
  obtain⟨t,e⟩:=Value.isInt_shape (k:=i) (v:=v) h
  exact .inl ⟨i,t,rfl,e⟩
 | .inr x,v,h=>by
  obtain⟨t,e⟩:=Value.isStrOf_shape (x:=x) (v:=v) h
  exact .inr ⟨x,t,rfl,e⟩
theorem aBt(i:Int)(t:Tok):sS (.inl i) (.int i t)=true:=by simp[sS,Value.isInt]
theorem aBs(x:Str)(t:Tok):sS (.inr x) (.str x t)=true:=by simp[sS,Value.isStrOf]
theorem aQq(a b:Int):decide ((Key.inl a:Key)=Key.inl b)=(a == b):=by
 by_cases e:a=b
 ·subst e;simp
 ·have h:¬ (Key.inl a:Key)=Key.inl b:=fun q=>e (Key.inl.inj q)
  rw[dzF h]
  exact(beq_eq_false_iff_ne.mpr e).symm
theorem aQn(a b:Str):decide ((Key.inr a:Key)=Key.inr b)=decide (a=b):=by
 by_cases e:a=b
 ·subst e;simp
 ·have h:¬ (Key.inr a:Key)=Key.inr b:=fun q=>e (Key.inr.inj q)
  rw[dzF h,dzF e]
theorem aQp(a:Int)(b:Str):decide ((Key.inl a:Key)=Key.inr b)=false:=dzF (λq=>nomatch q)
theorem aQo(a:Str)(b:Int):decide ((Key.inr a:Key)=Key.inl b)=false:=dzF (λq=>nomatch q)
def dA(prog:Program)(w:World):PySem.KeyKind prog w Key where
 is:=sS
 hash:=aYr w
 inj:=λv a b ha hb=>by
  rcases bt_ ha with⟨i,t,rfl,rfl⟩ | ⟨x,t,rfl,rfl⟩
  ·rcases bt_ hb with ⟨j,u,rfl,e⟩ | ⟨y,u,rfl,e⟩
   ·injection e with e1 _;rw[e1]
   ·exact nomatch e
  ·rcases bt_ hb with ⟨j,u,rfl,e⟩ | ⟨y,u,rfl,e⟩
   ·exact nomatch e
   ·injection e with e1 _;rw[e1]
 byValue:=λk v h=>by
  rcases bt_ h with⟨i,t,rfl,rfl⟩ | ⟨x,t,rfl,rfl⟩<;>rfl
 pyHash:=λhv h=>by
  rcases bt_ hv with⟨i,t,rfl,rfl⟩ | ⟨x,t,rfl,rfl⟩
  ·exact wpAny_pyHash_int h
  ·exact wpAny_pyHash_str h
 eqBool:=λhu hv h=>by
  rcases bt_ hu with⟨i,t,rfl,rfl⟩ | ⟨x,t,rfl,rfl⟩
  ·rcases bt_ hv with ⟨j,u,rfl,rfl⟩ | ⟨y,u,rfl,rfl⟩
   ·rw[aQq]at h;exact wpAny_eqBool_int h
   ·rw[aQp]at h;exact SeqAt.EqAt.int_str i t y u _ _ _ _ h
  ·rcases bt_ hv with ⟨j,u,rfl,rfl⟩ | ⟨y,u,rfl,rfl⟩
   ·rw[aQo]at h;exact SeqAt.EqAt.str_int x t j u _ _ _ _ h
   ·rw[aQn]at h;exact wpAny_eqBool_str h
 «strs»:=λk x t v h=>by
  rcases bt_ h with⟨i,u,rfl,e⟩ | ⟨y,u,rfl,e⟩
  ·exact nomatch e
  ·injection e with e1 _
   subst e1
   cases v<;>rfl
theorem xY(prog:Program)(w:World)(i:Int)(t:Tok):(dA prog w).is (.inl i) (.int i t)=true:=aBt i t
theorem in_(prog:Program)(w:World)(x:Str)(t:Tok):(dA prog w).is (.inr x) (.str x t)=true:=aBs x t
def RelV:V->Value->Prop
 | .non,u=>u=Value.none
 | .bl b,u=>u=Value.bool b
 | .int i,u=>∃t,u=Value.int i t
 | .str x,u=>∃t,u=Value.str x t
 | .byt b,u=>∃t,u=Value.bytes b t
 | .flt b,u=>∃t,u=Value.float b t
 | .ref a,u=>u=Value.ref a
 | .ty n,u=>u=Value.type n
abbrev Vals:List V->List Value->Prop:=Paired RelV
theorem Vals.length{xs:List V}{us:List Value}(r:Vals xs us):xs.length=us.length:=Paired.length r
theorem Vals.get:∀{xs:List V} {us:List Value} {i:Nat} {x:V},Vals xs us->xs[i]? = some x->∃u,us[i]? = some u/\RelV x u
 |_,_,_,_,.nil,e=>by simp at e
 |_,_,0,_,.cons r _,e=>by simp at e;subst e;exact⟨_,rfl,r⟩
 |_,_,i+1,x,.cons _ t,e=>by
  obtain⟨u,h1,h2⟩:=Vals.get (i:=i) (x:=x) t (by simpa using e)
  exact⟨u,by simpa using h1,h2⟩
theorem Vals.set{x:V}{u:Value}(r:RelV x u):∀{xs:List V} {us:List Value} (i:Nat),Vals xs us->Vals (xs.set i x) (us.set i u)
 |_,_,_,.nil=>.nil
 |_,_,0,.cons _ t=>.cons r t
 |_,_,i+1,.cons q t=>.cons q (Vals.set r i t)
theorem Vals.append:∀{xs ys:List V} {us ws:List Value},Vals xs us->Vals ys ws->Vals (xs++ys) (us++ws)
 |_,_,_,_,.nil,s=>s
 |_,_,_,_,.cons r t,s=>.cons r (Vals.append t s)
theorem Vals.take:∀{xs:List V} {us:List Value} (n:Nat),Vals xs us->Vals (xs.take n) (us.take n)
 |_,_,0,_=>.nil
 |_,_,_+1,.nil=>.nil
 |_,_,n+1,.cons r t=>.cons r (Vals.take n t)
theorem Vals.drop:∀{xs:List V} {us:List Value} (n:Nat),Vals xs us->Vals (xs.drop n) (us.drop n)
 |_,_,0,r=>r
 |_,_,_+1,.nil=>.nil
 |_,_,n+1,.cons _ t=>Vals.drop n t
def RelO:Option V->Option Value->Prop
 |some v,some u=>RelV v u
 |none,none=>True
 |_,_=>False
def KV{κ:Type}:List (κ×V)->List (κ×Value)->Prop:=Paired λ(p:κ×V) (q:κ×Value)=>p.1=q.1/\RelV p.2 q.2
def kV:Key->V
 | .inl i=>.int i
 | .inr x=>.str x
 | .non=>.non
 | .tru=>.bl true
 | .ref b _=>.ref b
def Key.odd:Key->Bool
 | .inl _=>false
 | .inr _=>false
 |_=>true
def eI(kvs:List (Key×V)):Bool:=kvs.any λkv=>kv.1.odd
def fW:Key->Key->Bool
 | .inl _,.tru=>true
 | .tru,.inl _=>true
 | .ref b x,.ref c y=>!decide (b=c/\x=y)
 |_,_=>false
def tV(kvs:List (Key×V)):Prop:=kvs.Pairwise λp q=>p.1≠q.1/\fW p.1 q.1=false
noncomputable def khash (P:Program) (w:World):Key->Int
 | .inl i=>hashInt i
 | .inr x=>hashStr w x
 | .non=>0xFCA86420
 | .tru=>hashInt 1
 | .ref _ x=>tupleKeyHash (dA P w) [.inr x]
inductive HO where
 /-- a list -/
 |lst (xs:List V)
 /-- a tuple (never changes) -/
 |tup (xs:List V)
 /-- a dict whose keys are ints and texts;one whose keys are tuples of ints and texts (the empty one is both) -/
 |dK (kvs:List (Key×V)) | dT (kvs:List (List Key×V))
 /-- a set of ints: its members,its size -/
 |set (S:Int->Bool) (n:Nat)
 /-- an instance of the class at C,its dict at dx,its attributes -/
 |ins (C dx:Addr) (fs:List (Str×V))
 /-- the dict of the instance at x -/
 |own (x:Addr)
 /-- the dict of an exception -/
 |xd (fs:List (Str×V))
 /-- a bound method,f of x -/
 |met (f x:Addr)
 /-- a range object lo,lo+1,.. below hi -/
 |rng (lo hi:Int)
 /-- a thing that is known to the object (the script;a dict while a loop walks it): read,never written while it is so -/
 |frz (o:Obj) (u:HO)
 /-- a code object's table -/
 |tbl (ps:Array Value)
 /-- any other thing,by what is true of its one object (a def of one's own: SetO a S n:=HO.ext λh=>..) -/
 |ext (φ:Heap->Prop)
abbrev Hp:=Addr->Option HO
def upd(H:Hp)(a:Addr)(o:HO):Hp:=λb=>if b=a then some o else H b
theorem cA{H:Hp}{a:Addr}{o:HO}:upd H a o a=some o:=by unfold upd;rw[if_pos rfl]
theorem fB{H:Hp}{a b:Addr}{o:HO}(h:b≠a):upd H a o b=H b:=by unfold upd;rw[if_neg h]
theorem u4{H:Hp}{a b:Addr}{o u:HO}(h:H a=some o)(h':H b=some u)(d:o≠u):a≠b:=by
 intro e;subst e;rw[h]at h';exact d (ozI h')
theorem zU{H:Hp}{a b:Addr}{o:HO}(h:H a=some o)(h':H b=none):a≠b:=by
 intro e;subst e;rw[h]at h';cases h'
def gP(H:Hp):Key->Prop
 | .ref b x=>H b=some (.tup [.str x])
 |_=>True
def lK(P:Program)(w:World)(H:Hp)(p:Key×V)(e:DictEntry):Prop:=e.hash=khash P w p.1/\RelV (kV p.1) e.key/\RelV p.2 e.val/\gP H p.1
def aZw(P:Program)(w:World)(H:Hp)(h:Heap)(a:Addr)(kvs:List (Key×V)):Prop:=eI kvs=true/\tV kvs/\∃es ep,DAt h a es ep/\Paired (lK P w H) kvs es.toList
section
variable(P:Program)(w:World)
def ObjOk(H:Hp)(h:Heap)(a:Addr):HO->Prop
 | .lst xs=>xs.length<=sizeLine/\∃(its:List Value) (n:Nat),Vals xs its/\h.get? a=some { cls:=.type "list",data:=.seq its.toArray n }
 | .tup xs=>xs.length<=sizeLine/\∃its:List Value,Vals xs its/\IsTup h a its.toArray
 | .dK kvs=>kvs.length<=sizeLine/\(a == sysModules)=false/\((∃vs,KV kvs vs/\h.DictOf (dA P w) a vs)\/aZw P w H h a kvs)
 | .dT kvs => kvs.length ≤ sizeLine ∧ (a == sysModules) = false ∧ ∃ xs : List (List Key × Addr × Value),
   Paired (λ(p:List Key×V) (q:List Key×Addr×Value)=>p.1=q.1/\H q.2.1=some (.tup (p.1.map kV))/\RelV p.2 q.2.2) kvs xs /\
   ∃o es ep,h.get? a=some o/\o.ExactDict/\o.data=.dict es ep/\es.toList=xs.map (entryOfKey (tupleKind (dA P w)))/\(xs.map (·.1)).Nodup
 | .set S n=>h.SetOf (intKind P w) a S n
 | .ins C dx fs => H dx = some (.own a) ∧ fs.length ≤ 1000 ∧ dx ≠ a ∧ h.get? a = some (PySem.W.instObj C dx) ∧
   ∃mA,h.Ns1 dx mA/\(∀f,RelO (fs.lookup f) (mA f))/\PySem.Within mA (fs.map (·.1))
 | .own _=>∃o,h.get? a=some o
 | .xd fs=>∃mA,h.Ns1 a mA/\∀f,RelO (fs.lookup f) (mA f)
 | .rng lo hi=>∃t u v,h.get? a=some { cls:=.type "range",data:=.fields #[.int lo t,.int hi u,.int 1 v] }
 | .frz o u=>h.get? a=some o/\ObjOk H h a u
 | .tbl ps=>h.get? a=some { cls:=.none,data:=.fields ps }
 | .met f x=>h.get? a=some (PySem.W.methodObj (.ref f) (.ref x))
 | .ext φ=>φ h/\(∃o,h.get? a=some o)/\∀h1 h2:Heap,φ h1->(∀o,h1.get? a=some o->h2.get? a=some o)->φ h2
def HOk(H:Hp)(h:Heap):Prop:=∀a o,H a=some o->ObjOk P w H h a o
end
section
variable{P:Program}{w:World}{H H':Hp}{h h':Heap}{a:Addr}{o:HO}
theorem ObjOk.lt(x:ObjOk P w H h a o):a<h.objs.size:=by
 cases o with
 |lst xs=>obtain⟨_,_,_,_,e⟩:=x;exact aR e
 |tup xs=>obtain⟨_,_,_,p⟩:=x;exact p.lt
 |dK kvs =>
  rcases x with⟨_,_,⟨_,_,o,_,_,e,_⟩ | ⟨_,_,_,_,⟨o,e,_⟩,_⟩⟩<;>exact aR e
 |dT kvs=>obtain⟨_,_,_,_,o,_,_,e,_⟩:=x;exact aR e
 |set S n=>obtain⟨o,_,_,_,e,_⟩:=x;exact aR e
 |ins C dx fs=>obtain⟨_,_,_,e,_⟩:=x;exact aR e
 |own y=>obtain⟨_,e⟩:=x;exact aR e
 |xd fs=>obtain⟨_,⟨_,_,_,e,_⟩,_⟩:=x;exact aR e
 |rng lo hi=>obtain⟨_,_,_,e⟩:=x;exact aR e
 |frz ob u=>obtain⟨e,_⟩:=x;exact aR e
 |tbl ps=>exact aR (show h.get? a=some _ from x)
 |met f y=>exact aR (show h.get? a=some _ from x)
 |ext φ=>obtain⟨_,⟨_,e⟩,_⟩:=x;exact aR e
theorem gq_{kvs:List (Key×V)}(x:ObjOk P w H h a (.dK kvs)):∃o es ep,h.get? a=some o/\o.ExactDict/\o.data=.dict es ep:=by
 rcases x with⟨_,_,⟨_,_,o,es,ep,e,c,d,_⟩ | ⟨_,_,es,ep,⟨o,e,c,d⟩,_⟩⟩<;>exact⟨o,es,ep,e,c,d⟩
theorem Paired.mapP{α β:Type}{F G:α->β->Prop}:∀{l₁:List α} {l₂:List β},Paired F l₁ l₂->(∀a b,F a b->G a b)->Paired G l₁ l₂
 |_,_,.nil,_=>.nil
 |_,_,.cons r t,f=>.cons (f _ _ r) (Paired.mapP t f)
theorem ObjOk.stay(x:ObjOk P w H h a o)(k:∀b u,(b=a\/H b=some (.own a))->h.get? b=some u->h'.get? b=some u)
  (ho:∀b,H b=some (.own a)->H' b=some (.own a)) (ht:∀b xs,H b=some (.tup xs)->H' b=some (.tup xs)):ObjOk P w H' h' a o:=by
 induction o with
 |lst xs=>obtain⟨z,its,n,r,e⟩:=x;exact⟨z,its,n,r,k _ _ (.inl rfl) e⟩
 |tup xs=>obtain⟨z,its,r,ob,e,c⟩:=x;exact⟨z,its,r,ob,k _ _ (.inl rfl) e,c⟩
 |dK kvs =>
  rcases x with⟨z,y,⟨vs,r,ob,es,ep,e,c⟩ | ⟨od,ap,es,ep,⟨ob,e,c⟩,r⟩⟩
  ·exact⟨z,y,.inl ⟨vs,r,ob,es,ep,k _ _ (.inl rfl) e,c⟩⟩
  ·refine ⟨z,y,.inr ⟨od,ap,es,ep,⟨ob,k _ _ (.inl rfl) e,c⟩,Paired.mapP r fun p q u=>⟨u.1,u.2.1,u.2.2.1,?_⟩⟩⟩
   obtain⟨⟨kk,v⟩,hk⟩:∃x,p=x:=⟨_,rfl⟩
   subst hk
   have:=u.2.2.2
   cases kk<;>first | exact True.intro | exact ht _ _ this
 |dT kvs =>
  obtain⟨z,y,xs,r,ob,es,ep,e,c⟩:=x
  exact⟨z,y,xs,Paired.mapP r λp q z=>⟨z.1,ht _ _ z.2.1,z.2.2⟩,ob,es,ep,k _ _ (.inl rfl) e,c⟩
 |set S n=>obtain⟨ob,es,ep,t,e,c⟩:=x;exact⟨ob,es,ep,t,k _ _ (.inl rfl) e,c⟩
 |ins C dx fs =>
  obtain⟨d,z,ne,e,mA,⟨od,es,ep,e2,c⟩,r⟩:=x
  exact⟨ho _ d,z,ne,k _ _ (.inl rfl) e,mA,⟨od,es,ep,k _ _ (.inr d) e2,c⟩,r⟩
 |own y=>obtain⟨ob,e⟩:=x;exact⟨ob,k _ _ (.inl rfl) e⟩
 |xd fs=>obtain⟨mA,⟨od,es,ep,e,c⟩,r⟩:=x;exact⟨mA,⟨od,es,ep,k _ _ (.inl rfl) e,c⟩,r⟩
 |rng lo hi=>obtain⟨t,u,v,e⟩:=x;exact⟨t,u,v,k _ _ (.inl rfl) e⟩
 |frz ob u ih=>obtain⟨e,q⟩:=x;exact⟨k _ _ (.inl rfl) e,ih q⟩
 |tbl ps =>
  have e:h.get? a=some { cls:=.none,data:=.fields ps }:=x
  show h'.get? a=some { cls:=.none,data:=.fields ps }
  exact k a _ (.inl rfl) e
 |met f y =>
  have e:h.get? a=some (PySem.W.methodObj (.ref f) (.ref y)):=x
  show h'.get? a=some (PySem.W.methodObj (.ref f) (.ref y))
  exact k a _ (.inl rfl) e
 |ext φ=>obtain⟨p,⟨o,e⟩,st⟩:=x;exact⟨st _ _ p λo q=>k _ _ (.inl rfl) q,⟨o,k _ _ (.inl rfl) e⟩,st⟩
theorem HOk.lt(x:HOk P w H h)(e:H a=some o):a<h.objs.size:=(x a o e).lt
theorem HOk.fresh(x:HOk P w H h)(e:h.objs.size<=a):H a=none:=by
 cases q:H a with
 |none=>rfl
 |some u=>exact absurd (bM (x.lt q) e) (dH _)
theorem HOk.kept(x:HOk P w H h)(k:∀b u,h.get? b=some u->h'.get? b=some u):HOk P w H h':=λa o e =>
 (x a o e).stay (λb u _ q=>k b u q) (λ_ q=>q) λ_ _ q=>q
theorem HOk.laid(x:HOk P w H h)(k:∀b u,h.get? b=some u->h'.get? b=some u)(hp:h.objs.size<=a)(new:ObjOk P w (upd H a o) h' a o):HOk P w (upd H a o) h':=λb u e=>by
 have hn:=x.fresh hp
 by_cases hb:b=a
 ·subst hb;rw[cA]at e;cases e;exact new
 ·rw [fB hb] at e
  exact(x b u e).stay (λc v _ q=>k c v q) (λc q=>by rw[fB (zU q hn)];exact q) λc xs q=>by rw[fB (zU q hn)];exact q
end
def Rd(H:Hp)(a:Addr)(u:HO):Prop:=H a=some u\/∃o,H a=some (.frz o u)
theorem Rd.ok{P:Program}{w:World}{H:Hp}{h:Heap}{a:Addr}{u:HO}(r:Rd H a u)(x:HOk P w H h):ObjOk P w H h a u:=by
 rcases r with r | ⟨o,r⟩
 ·exact x a u r
 ·obtain ⟨_,q⟩:=x a _ r
  exact q
def Mut:Option HO->Prop
 |some (.lst _)=>True
 |some (.dK _)=>True
 |some (.dT _)=>True
 |some (.set _ _)=>True
 |some (.ins _ _ _)=>True
 |some (.ext _)=>True
 |_=>False
section
variable{P:Program}{w:World}{H:Hp}{h h':Heap}{x e:Addr}{o':HO}
theorem HOk.write(ok:HOk P w H h)(mu:Mut (H x))(he:e=x\/H e=some (.own x))(k:∀b u,b≠e->h.get? b=some u->h'.get? b=some u)(Hd:∃u,h'.get? e=some u)
  (new:ObjOk P w (upd H x o') h' x o'):HOk P w (upd H x o') h':=λb u q=>by
 have nown:∀c y,H c=some (.own y)->c≠x:=λc y r z=>by subst z;rw[r]at mu;exact mu
 have ntup:∀c xs,H c=some (.tup xs)->c≠x:=λc xs r z=>by subst z;rw[r]at mu;exact mu
 by_cases hb:b=x
 ·subst hb;rw[cA]at q;cases q;exact new
 ·rw [fB hb] at q
  by_cases Fp:b=e
  ·have q':H b=some (.own x):=by
    rcases he with z | z
    ·exact absurd (Fp.trans z) hb
    ·rw[Fp];exact z
   rw[q]at q';cases q'
   obtain⟨v,hv⟩:=Hd
   exact⟨v,by rw[Fp];exact hv⟩
  ·refine (ok b u q).stay (fun c v hc r=>k c v ?_ r) (fun c r=>by rw [fB (nown c b r)]; exact r) fun c xs r=>by rw [fB (ntup c xs r)]; exact r
   rcases hc with rfl | hc
   ·exact Fp
   ·rintro rfl
    rcases he with z | z
    ·exact nown c b hc z
    ·rw[hc]at z;cases z;exact hb rfl
end
structure Un(fs ex:List Addr)(H H':Hp)(h h':Heap):Prop where
 keep:∀b o,h.get? b=some o->H b=none->b∉fs->b∉ex->h'.get? b=some o
 slot:∀b o,h.get? b=some o->H b=none->b∈fs->b∉ex->∃sl,h'.get? b=some { o with slots:=sl }
 free:∀b o,h.get? b=some o->H b=none->b∉ex->H' b=none
 there:∀b o,h.get? b=some o->b∉ex->∃o',h'.get? b=some o'
 tups:∀b xs,H b=some (.tup xs)->H' b=some (.tup xs)
 frzs:∀b o u,H b=some (.frz o u)->H' b=some (.frz o u)
 tbls:∀b ps,H b=some (.tbl ps)->∃more,H' b=some (.tbl (ps++more))
section
variable{fs fs' ex ex':List Addr}{H H1 H2:Hp}{h h1 h2 h':Heap}{a x e:Addr}{o:HO}
theorem Un.any(u:Un fs ex H H1 h h1){b:Addr}{ob:Obj}(q:h.get? b=some ob)(n:H b=none)(hx:b∉ex):∃sl,h1.get? b=some { ob with slots:=sl }:=by
 by_cases hb:b∈fs
 ·exact u.slot b ob q n hb hx
 ·exact⟨ob.slots,u.keep b ob q n hb hx⟩
theorem Un.kept(k:∀b u,h.get? b=some u->h'.get? b=some u):Un fs ex H H h h':=
 ⟨λb ob q _ _ _=>k b ob q,λb ob q _ _ _=>⟨ob.slots,k b ob q⟩,λ_ _ _ n _=>n,λb ob q _=>⟨ob,k b ob q⟩,λ_ _ q=>q,λ_ _ _ q=>q,λ_ ps q=>⟨#[],by rw[q];simp⟩⟩
theorem Un.refl:Un fs ex H H h h:=Un.kept λ_ _ q=>q
theorem Un.laid(k:∀b u,h.get? b=some u->h'.get? b=some u)(hp:h.objs.size<=a)(hn:H a=none):Un fs ex H (upd H a o) h h' where
 keep:=λb u q _ _ _=>k b u q
 slot:=λb u q _ _ _=>⟨u.slots,k b u q⟩
 free:=λb u q n _=>by rw[fB (cC (bM (aR q) hp))];exact n
 there:=λb u q _=>⟨u,k b u q⟩
 tups:=λb xs q=>by rw[fB (zU q hn)];exact q
 frzs:=λb u xs q=>by rw[fB (zU q hn)];exact q
 tbls:=λb ps q=>⟨#[],by rw[fB (zU q hn),q];simp⟩
theorem Un.write(mu:Mut (H x))(he:e=x\/H e=some (.own x))(k:∀b u,b≠e->h.get? b=some u->h'.get? b=some u)(Hd:∃u,h'.get? e=some u):Un fs ex H (upd H x o) h h':=by
 have hx:∀b,H b=none->b≠x:=λb n z=>by subst z;rw[n]at mu;exact mu
 have hb:∀b,H b=none->b≠e:=λb n z=>by
  subst z
  rcases he with r | r
  ·exact hx b n r
  ·rw[n]at r;cases r
 have hm:∀b u,H b=some u->¬Mut (some u)->b≠x:=λb u q nm z=>by subst z;rw[q]at mu;exact nm mu
 refine⟨λb u q n _ _=>k b u (hb b n) q,λb u q n _ _=>⟨u.slots,k b u (hb b n) q⟩,λb u q n _=>by rw[fB (hx b n)];exact n,λb u q _=>?_,
  λb xs q=>by rw[fB (hm b _ q λz=>z)];exact q,λb u xs q=>by rw[fB (hm b _ q λz=>z)];exact q,λb ps q=>⟨#[],by rw[fB (hm b _ q λz=>z),q];simp⟩⟩
 by_cases Fp:b=e
 ·subst Fp;exact Hd
 ·exact⟨u,k b u Fp q⟩
end
def trk(h:Heap)(H:Hp):List Addr:=(List.range h.objs.size).filter λa=>(H a).isSome
def vL(h:Heap)(H:Hp):Heap:=PySem.W.hideAll h (trk h H)
theorem aBy(h:Heap)(H:Hp):(vL h H).objs.size=h.objs.size:=PySem.W.hideAll_size _ _
theorem aGv{h:Heap}{H:Hp}{b:Addr}{o:Obj}(e:h.get? b=some o)(n:H b=none):(vL h H).get? b=some o:=
 PySem.W.hideAll_get _ e λhm=>by
  have q:(H b).isSome=true:=(hY.mp hm).2
  rw[n]at q;simp at q
theorem aKp{h:Heap}{H:Hp}{b:Addr}{o:Obj}(e:(vL h H).get? b=some o):h.get? b=some o/\H b=none:=by
 have e':h.get? b=some o:=PySem.W.of_hideAll (trk h H) e
 refine⟨e',?_⟩
 cases q:H b with
 |none=>rfl
 |some x =>
  have hm:b∈trk h H:=hY.mpr ⟨gL.mpr (aR e'),by simp[q]⟩
  have z:(vL h H).get? b=none:=PySem.W.hideAll_none (trk h H) hm
  rw[z]at e;cases e
def aMk(g h:Heap)(L:Addr):List (Addr×Obj):=(List.range h.objs.size).filterMap λa=>if a=L\/(g.get? a).isSome=true then none else(h.get? a).map λo=>(a,o)
def rest(g h:Heap)(L d:Addr):List (Addr×Obj):=(aMk g h L).filter λp=>decide (p.1≠d)
structure Mod(K:eC)(mg:kW)(base:Heap):Prop where
 kin:K.In base
 glob:base.Ns mainGlobals mg
 blt:∃mb,base.Ns builtinsNs mb/\∀x:Str,x ≠ "__name__" -> mb x=bootBuiltins x
 nolimit:base.NoLimit
structure Cx where
 prog:Program
 w:World
 K:PySem.W.Frag
 mg:Str->Option Value
 base:Heap
 A:Around
 N:List Str
 s₀:Shared
 H₀:Hp
 env:Env
 outer:List Env
 stack:List Env
 ex:List Addr
 fn:Str->Bool
 calm:Bool
 pn:List (Addr×Obj)
 xe:Value->Shared->Prop
def frs(l:List Env):List Addr:=l.filterMap (·.frame)
abbrev Cx.fs(X:Cx):List Addr:=frs X.outer
def Vis(sc:Scope)(x:Str):Prop:=sc.names.lookup x=some .local\/sc.names.lookup x=some .cell\/sc.names.lookup x=some .free
def Loc(sc:Scope)(x:Str):Prop:=sc.names.lookup x=some .local\/sc.names.lookup x=some .cell
def aZx(env:Env)(h:Heap)(m:kW)(x:Str)(u:Value):Prop:=
 (env.kindOf x=some .local/\m x=some u)\/((env.kindOf x=some .cell\/env.kindOf x=some .free)/\∃c,env.cells.lookup x=some c/\h.IsCell c (some u))
structure Cx.Ok(X:Cx):Prop where
 mod:Mod X.K X.mg X.base
 kind:X.env.scope.kind=.function
 glob:X.env.globals=mainGlobals
 blt:X.env.builtins=builtinsNs
 above:X.s₀.heap.objs.size<=X.env.locals
 inj:∀x y c,X.env.cells.lookup x=some c->X.env.cells.lookup y=some c->x=y
 has:∀x,(X.env.kindOf x=some .cell\/X.env.kindOf x=some .free)->∃c,X.env.cells.lookup x=some c
 cab:∀x c,X.fn x=true->X.env.cells.lookup x=some c->X.s₀.heap.objs.size<=c
 hd:X.calm=true->X.A.handled=none
 frames:X.A.frames=some X.stack
 stk:X.stack=X.outer\/(X.stack=X.env::X.outer/\X.env.frame=some X.env.locals)
 exf:∀b∈X.ex,b≠X.env.locals/\∀x c,X.env.cells.lookup x=some c->c≠b
 bs:∀b o,X.base.get? b=some o->X.s₀.heap.get? b=some o/\X.H₀ b=none
 bsz:X.base.objs.size<=X.s₀.heap.objs.size
 noex:∀b o,X.base.get? b=some o->b∉X.ex
 exfs:∀b∈X.ex,b∉X.fs
 funs:X.s₀.heap.FunFrames X.base X.outer
 frf:∀b∈X.fs,X.H₀ b=none
structure Inv(X:Cx)(Aa:fG)(σ:List (Option V))(H:Hp)(s:Shared):Prop where
 ok:X.Ok
 os:s.os=X.s₀.os
 bare:AllBare s.gens
 base:Un X.fs X.ex X.H₀ H X.s₀.heap s.heap
 loc:∃m,s.heap.Ns X.env.locals m/\∀(i:Nat) (x:Str) (v:V),X.N[i]? = some x->σ[i]? = some (some v)->Vis X.env.scope x->∃u,RelV v u/\aZx X.env s.heap m x u
 cell:∀x c,X.env.cells.lookup x=some c->∃v,s.heap.IsCell c v
 free:H X.env.locals=none
 freeC:∀x c,X.env.cells.lookup x=some c->H c=none
 pin:∀p∈X.pn++Aa,s.heap.get? p.1=some p.2/\H p.1=none/\p.1≠X.env.locals/\p.1∉X.fs/\∀v,p.2.data ≠ .cell v
 hok:HOk X.prog X.w H s.heap
 len:σ.length=X.N.length
section
variable{X:Cx}{Aa:fG}{σ:List (Option V)}{H H':Hp}{s:Shared}{h':Heap}
theorem Cx.Ok.nofr(ok:X.Ok){b:Addr}{o:Obj}(e:X.base.get? b=some o):b∉X.fs:=λhb=>by
 have:=(ok.funs.mem hb).1
 rw[e]at this;cases this
theorem Inv.bs(I:Inv X Aa σ H s):∀b o,X.base.get? b=some o->s.heap.get? b=some o/\H b=none:=λb o e =>
 ⟨I.base.keep b o (I.ok.bs b o e).1 (I.ok.bs b o e).2 (I.ok.nofr e) (I.ok.noex b o e),I.base.free b o (I.ok.bs b o e).1 (I.ok.bs b o e).2 (I.ok.noex b o e)⟩
theorem Inv.bk(I:Inv X Aa σ H s):∀b o,X.base.get? b=some o->s.heap.get? b=some o:=λb o e=>(I.bs b o e).1
theorem Inv.mod(I:Inv X Aa σ H s):Mod X.K X.mg X.base:=I.ok.mod
theorem Inv.kIn(I:Inv X Aa σ H s):X.K.In s.heap:=I.ok.mod.kin.keeps I.bk
theorem Inv.fr(I:Inv X Aa σ H s):∃m,Fr X.base X.env.locals s.heap m:=
 let ⟨m,hn,_⟩:=I.loc
 ⟨m,hn,I.bk,nzL I.ok.bsz I.ok.above⟩
theorem Inv.lt(I:Inv X Aa σ H s):X.env.locals<s.heap.objs.size:=let ⟨_,hn,_⟩:=I.loc;hn.lt
theorem Inv.sz(I:Inv X Aa σ H s):X.s₀.heap.objs.size<=s.heap.objs.size:=nzL I.ok.above (Nat.le_of_lt I.lt)
theorem Inv.nofs(I:Inv X Aa σ H s){a:Addr}(h:s.heap.objs.size<=a):a∉X.fs:=λhb=>by
 obtain⟨_,o,ho,_⟩:=I.ok.funs.mem hb
 exact absurd (bM (aR ho) (nzL I.sz h)) (dH _)
theorem Inv.cne(I:Inv X Aa σ H s):∀x c,X.env.cells.lookup x=some c->c≠X.env.locals:=λx c e z=>by
 obtain⟨v,o,ho,hd⟩:=I.cell x c e
 obtain⟨m,⟨o',es,ep,Dk,D9,_⟩,_⟩:=I.loc
 rw[z,Dk]at ho;cases ho;rw[D9]at hd;cases hd
theorem Inv.funs(I:Inv X Aa σ H s):s.heap.FunFrames X.base X.outer:=by
 have all:∀(l:List Env),(∀b∈frs l,b∈X.fs)->X.s₀.heap.FunFrames X.base l->s.heap.FunFrames X.base l:=by
  intro l
  induction l with
  |nil=>intro _ _;trivial
  |cons env r ih =>
   intro hs hl
   obtain⟨hk,⟨L,o,hf,hn,ho,hd⟩,hr⟩:=hl
   have hL:L∈X.fs:=hs L (by unfold frs;rw[List.filterMap_cons,hf];exact aA)
   obtain⟨sl,e⟩:=I.base.slot L o ho (I.ok.frf L hL) hL λz=>I.ok.exfs L z hL
   exact⟨hk,⟨L,_,hf,hn,e,hd⟩,ih (λb hb=>hs b (by unfold frs;rw[List.filterMap_cons,hf];exact aB _ hb)) hr⟩
 exact all X.outer (λ_ hb=>hb) I.ok.funs
theorem Inv.stack(I:Inv X Aa σ H s):s.heap.FunFrames X.base X.stack:=by
 rcases I.ok.stk with e | ⟨e,hf⟩
 ·rw[e];exact I.funs
 ·rw [e]
  obtain⟨m,hn,_⟩:=I.loc
  refine .cons (by rw[I.ok.kind];decide) hf hn ?_ I.funs
  exact Heap.get?_none_of_le (nzL I.ok.bsz I.ok.above)
theorem Inv.stkSub(I:Inv X Aa σ H s):∀b∈frs X.stack,b∈X.env.locals::X.fs:=λb hb=>by
 rcases I.ok.stk with e | ⟨e,hf⟩
 ·rw[e]at hb;exact aB _ hb
 ·rw [e] at hb
  unfold frs at hb
  rw[List.filterMap_cons,hf]at hb
  exact hb
theorem Inv.stkFree(I:Inv X Aa σ H s):∀b∈frs X.stack,H b=none:=λb hb=>by
 rcases aE.mp (I.stkSub b hb)with e | hb
 ·rw[e];exact I.free
 ·obtain ⟨_,o,ho,_⟩:=I.ok.funs.mem hb
  exact I.base.free b o ho (I.ok.frf b hb) λz=>I.ok.exfs b z hb
theorem Inv.step{g':Array GenState}{t':Nat}{d':Drawn}{ch:List Addr}(I:Inv X Aa σ H s)
  (E9:∀b∈ch,(b∈X.ex\/X.s₀.heap.objs.size<=b)/\b≠X.env.locals/\(∀x c,X.env.cells.lookup x=some c->c≠b)/\∀p∈X.pn++Aa,p.1≠b)
  (keep:∀b o,b≠X.env.locals->b∉X.fs->b∉ch->s.heap.get? b=some o->H b=none->h'.get? b=some o)
  (slot:∀b o,b≠X.env.locals->b∈X.fs->b∉ch->s.heap.get? b=some o->H b=none->∃sl,h'.get? b=some { o with slots:=sl }) (free:∀b o,b∉ch->s.heap.get? b=some o->H b=none->H' b=none)
  (there:∀b o,b∉ch->s.heap.get? b=some o->∃o',h'.get? b=some o')
  (tups:∀b xs,H b=some (.tup xs)->H' b=some (.tup xs)) (frzs:∀b o u,H b=some (.frz o u)->H' b=some (.frz o u)) (tbls:∀b ps,H b=some (.tbl ps)->∃more,H' b=some (.tbl (ps++more)))
  (ns:∀m,s.heap.Ns X.env.locals m->h'.Ns X.env.locals m) (hok:HOk X.prog X.w H' h') (hg:AllBare g') :
  Inv X Aa σ H' { s with heap:=h',gens:=g',drawn:=d',toks:=t' }:=by
 have neL:∀b o,X.s₀.heap.get? b=some o->b≠X.env.locals:=λb o e=>cC (bM (aR e) I.ok.above)
 have neC:∀b o,X.s₀.heap.get? b=some o->b∉X.ex->b∉ch:=λb o e hx hb=>by
  rcases(E9 b hb).1 with z | z
  ·exact hx z
  ·exact absurd (bM (aR e) z) (dH _)
 have cellK:∀x c,X.env.cells.lookup x=some c->∀v,s.heap.IsCell c v->h'.IsCell c v:=λx c e v ⟨o,ho,hd⟩=>by
  have nch:c∉ch:=λz=>(E9 c z).2.2.1 x c e rfl
  by_cases hc:c∈X.fs
  ·obtain ⟨sl,q⟩:=slot c o (I.cne x c e) hc nch ho (I.freeC x c e)
   exact⟨_,q,hd⟩
  ·exact⟨o,keep c o (I.cne x c e) hc nch ho (I.freeC x c e),hd⟩
 refine⟨I.ok,I.os,hg,⟨λb o e n hb hx=>?_,λb o e n hb hx=>?_,λb o e n hx=>?_,λb o e hx=>?_,λb xs e=>tups b xs (I.base.tups b xs e),λb o xs e=>frzs b o xs (I.base.frzs b o xs e),λb ps e=>?_⟩,?_,λx c e=>?_,?_,λx c e=>?_,λp hp=>?_,hok,I.len⟩
 ·exact keep b o (neL b o e) hb (neC b o e hx) (I.base.keep b o e n hb hx) (I.base.free b o e n hx)
 ·obtain ⟨sl,e1⟩:=I.base.slot b o e n hb hx
  obtain⟨sl',e2⟩:=slot b _ (neL b o e) hb (neC b o e hx) e1 (I.base.free b o e n hx)
  exact⟨sl',e2⟩
 ·obtain ⟨o',e1⟩:=I.base.there b o e hx
  exact free b o' (neC b o e hx) e1 (I.base.free b o e n hx)
 ·obtain ⟨o',e1⟩:=I.base.there b o e hx
  exact there b o' (neC b o e hx) e1
 ·obtain ⟨m1,e1⟩:=I.base.tbls b ps e
  obtain⟨m2,e2⟩:=tbls b _ e1
  exact⟨m1++m2,by rw[e2,Array.append_assoc]⟩
 ·obtain ⟨m,hn,hl⟩:=I.loc
  refine⟨m,ns m hn,λi x v e1 e2 e3=>?_⟩
  obtain⟨u,r,l⟩:=hl i x v e1 e2 e3
  refine⟨u,r,?_⟩
  rcases l with l | ⟨k,c,e,z⟩
  ·exact .inl l
  ·exact .inr ⟨k,c,e,cellK x c e _ z⟩
 ·obtain ⟨v,z⟩:=I.cell x c e
  exact⟨v,cellK x c e v z⟩
 ·obtain ⟨m,⟨o,_,_,ho,_⟩,_⟩:=I.loc
  exact free _ o (λz=>(E9 _ z).2.1 rfl) ho I.free
 ·obtain ⟨v,o,ho,hd⟩:=I.cell x c e
  exact free c o (λz=>(E9 c z).2.2.1 x c e rfl) ho (I.freeC x c e)
 ·obtain ⟨e,n,ne,nf,d⟩:=I.pin p hp
  have nch:p.1∉ch:=λz=>(E9 p.1 z).2.2.2 p hp rfl
  exact⟨keep p.1 p.2 ne nf nch e n,free p.1 p.2 nch e n,ne,nf,d⟩
theorem Inv.un{t':Nat}(I:Inv X Aa σ H s)(u:Un X.fs [] H H' s.heap h')(hok:HOk X.prog X.w H' h'):Inv X Aa σ H' { s with heap:=h',toks:=t' }:=by
 obtain⟨m,⟨o,es,ep,ho,r⟩,_⟩:=id I.loc
 obtain⟨sl,hL⟩:=u.any ho I.free (by simp)
 exact I.step (g':=s.gens) (d':=s.drawn) (ch:=[]) (λ_ z=>nomatch z) (λb o _ hb _ e n=>u.keep b o e n hb (by simp)) (λb o _ hb _ e n=>u.slot b o e n hb (by simp)) (λb o _ e n=>u.free b o e n (by simp)) (λb o _ e=>u.there b o e (by simp)) u.tups u.frzs u.tbls (λm' hm=>by
  obtain⟨o',es',ep',Dk,r'⟩:=hm
  rw[ho]at Dk;cases Dk
  exact⟨_,es',ep',hL,r'⟩) hok I.bare
theorem Inv.call{g':Array GenState}{t':Nat}{d':Drawn}{ch:List Addr}(I:Inv X Aa σ H s)(u:Un (frs X.stack) ch H H' s.heap h')(hok:HOk X.prog X.w H' h')(hg:AllBare g')
  (E9:∀b∈ch,(b∈X.ex\/X.s₀.heap.objs.size<=b)/\b≠X.env.locals/\(∀x c,X.env.cells.lookup x=some c->c≠b)/\∀p∈X.pn++Aa,p.1≠b) :
  Inv X Aa σ H' { s with heap:=h',gens:=g',drawn:=d',toks:=t' }:=by
 obtain⟨m,⟨o,es,ep,ho,r⟩,_⟩:=id I.loc
 obtain⟨sl,hL⟩:=u.any ho I.free λz=>(E9 _ z).2.1 rfl
 exact I.step (ch:=ch) E9 (λb o hL hb hc e n=>u.keep b o e n (λz=>(aE.mp (I.stkSub b z)).elim hL hb) hc) (λb o _ _ hc e n=>u.any e n hc) (λb o hc e n=>u.free b o e n hc) (λb o hc e=>u.there b o e hc) u.tups u.frzs u.tbls (λm' hm=>by
  obtain⟨o',es',ep',Dk,r'⟩:=hm
  rw[ho]at Dk;cases Dk
  exact⟨_,es',ep',hL,r'⟩) hok hg
theorem Inv.turned{t':Nat}{it:Addr}(I:Inv X Aa σ H s)(k:∀b o,b≠it->s.heap.get? b=some o->h'.get? b=some o)(hn:H it=none)(hL:it≠X.env.locals)
  (h1:it∈X.ex\/X.s₀.heap.objs.size<=it) (h2:∀x c,X.env.cells.lookup x=some c->c≠it) (h3:∀p∈X.pn++Aa,p.1≠it):Inv X Aa σ H { s with heap:=h',toks:=t' }:=by
 have nit:∀b u,H b=some u->b≠it:=λb u e z=>by rw[z,hn]at e;cases e
 refine I.step (g':=s.gens) (d':=s.drawn) (ch:=[it]) (λb hb=>?_) (λb o _ _ hc e _=>k b o (λz=>hc (by simp[z])) e) (λb o _ _ hc e _=>⟨o.slots,k b o (λz=>hc (by simp[z])) e⟩) (λ_ _ _ _ n=>n)
  (λb o hc e=>⟨o,k b o (λz=>hc (by simp[z])) e⟩) (λ_ _ e=>e) (λ_ _ _ e=>e) (λb ps e=>⟨#[],by rw[e];simp⟩) (λm hm=>?_) (λb u e=>?_) I.bare
 ·have e:b=it:=by simpa using hb
  subst e
  exact⟨h1,hL,h2,h3⟩
 ·obtain ⟨o,es,ep,ho,r⟩:=hm
  exact⟨o,es,ep,k _ o (Ne.symm hL) ho,r⟩
 ·refine (I.hok b u e).stay (fun c v hc q=>k c v ?_ q) (fun _ q=>q) fun _ _ q=>q
  rcases hc with z | z
  ·rw[z];exact nit b u e
  ·exact nit c _ z
theorem Inv.tok(I:Inv X Aa σ H s)(t:Nat):Inv X Aa σ H { s with toks:=t }:=I.un (h':=s.heap) (t':=t) Un.refl I.hok
theorem Inv.kept{t':Nat}(I:Inv X Aa σ H s)(k:∀b u,s.heap.get? b=some u->h'.get? b=some u):Inv X Aa σ H { s with heap:=h',toks:=t' }:=I.un (Un.kept k) (I.hok.kept k)
theorem Inv.laid{a:Addr}{o:HO}{t':Nat}(I:Inv X Aa σ H s)(k:∀b u,s.heap.get? b=some u->h'.get? b=some u)(hp:s.heap.objs.size<=a)(new:ObjOk X.prog X.w (upd H a o) h' a o) :
  Inv X Aa σ (upd H a o) { s with heap:=h',toks:=t' }:=I.un (Un.laid k hp (I.hok.fresh hp)) (I.hok.laid k hp new)
theorem Inv.write{x e:Addr}{o:HO}{t':Nat}(I:Inv X Aa σ H s)(mu:Mut (H x))(he:e=x\/H e=some (.own x))(k:∀b u,b≠e->s.heap.get? b=some u->h'.get? b=some u)(Hd:∃u,h'.get? e=some u)
  (new:ObjOk X.prog X.w (upd H x o) h' x o):Inv X Aa σ (upd H x o) { s with heap:=h',toks:=t' }:=I.un (Un.write mu he k Hd) (I.hok.write mu he k Hd new)
theorem Inv.weak{σ':List (Option V)}(I:Inv X Aa σ H s)(hl:σ'.length=σ.length)(w:∀(i:Nat) v,σ'[i]? = some (some v)->σ[i]? = some (some v)):Inv X Aa σ' H s:=
 ⟨I.ok,I.os,I.bare,I.base,let ⟨m,hn,Ee⟩:=I.loc;⟨m,hn,λi x v e1 e2 e3=>Ee i x v e1 (w i v e2) e3⟩,I.cell,I.free,I.freeC,I.pin,I.hok,hl.trans I.len⟩
theorem Inv.pins_of{pins':fG}(I:Inv X Aa σ H s)(h:∀p∈pins',s.heap.get? p.1=some p.2/\H p.1=none/\p.1≠X.env.locals/\p.1∉X.fs/\∀v,p.2.data ≠ .cell v):Inv X pins' σ H s:=
 ⟨I.ok,I.os,I.bare,I.base,I.loc,I.cell,I.free,I.freeC,λp hp=>(bK.mp hp).elim (λz=>I.pin p (bF _ z)) (h p),I.hok,I.len⟩
theorem pU{N:List Str}(hN:N.Nodup){i j:Nat}{x:Str}(a:N[i]? = some x)(b:N[j]? = some x):i=j:=by
 obtain⟨h1,e1⟩:=aW.mp a
 obtain⟨h2,e2⟩:=aW.mp b
 exact(List.getElem_inj hN).mp (e1.trans e2.symm)
theorem ig_{M:Model}{A:Around}{E:fF}{i:Nat}{x:Str}{v:V}{u:Value}{Q:Unit->Shared->Prop}(I:Inv X Aa σ H s)(hN:X.N.Nodup)(hi:X.N[i]? = some x)(hx:Loc X.env.scope x)(r:RelV v u)
  (h:∀s',Inv X Aa (σ.set i (some v)) H s'->(∃a,Heap.SameBut a s.heap s'.heap/\(a=X.env.locals\/X.env.cells.lookup x=some a))->Q () s') (hf:X.fn x=true\/X.env.scope.names.lookup x=some .local:=by first | exact .inl rfl | exact .inr rfl | assumption):wpAny M A (storeName X.env x u) Q E s:=by
 obtain⟨m,hn,hl⟩:=id I.loc
 have Do:(X.env.scope.kind == .class||(X.env.scope.kind == .module&&X.env.locals != X.env.globals))=false:=by rw[I.ok.kind];rfl
 have hiσ:i<σ.length:=by rw[I.len];exact(aW.mp hi).1
 have cne:=I.cne
 have tracked:∀{a:Addr} {h':Heap},(∃o,s.heap.get? a=some o/\H a=none)->Heap.SameBut a s.heap h'->HOk X.prog X.w H h':=λ{a h'} ha hs b ob e=>by
  obtain⟨_,_,Fz⟩:=ha
  refine(I.hok b ob e).stay (λc w' hc q=>(hs.2 c ?_).trans q) (λ_ q=>q) λ_ _ q=>q
  rintro rfl
  rcases hc with rfl | hc
  ·rw[Fz]at e;cases e
  ·rw[Fz]at hc;cases hc
 rcases hx with hk | hk
 ·refine wpAny_storeName_local hk hn (fun h' Cq hs => ?_) Do
  obtain⟨oL,_,_,Hb,_⟩:=id hn
  refine h _ ⟨I.ok,I.os,I.bare,⟨λb o e n hb hx=>?_,λb o e n hb hx=>?_,I.base.free,λb o e hx=>?_,I.base.tups,I.base.frzs,I.base.tbls⟩,⟨_,Cq,λj y v' e1 e2 e3=>?_⟩,λy c e=>?_,I.free,I.freeC,λp hp=>?_,tracked ⟨oL,Hb,I.free⟩ hs,by simpa using I.len⟩ ⟨_,hs,.inl rfl⟩
  ·exact(hs.2 b (cC (bM (aR e) I.ok.above))).trans (I.base.keep b o e n hb hx)
  ·obtain ⟨sl,e1⟩:=I.base.slot b o e n hb hx
   exact⟨sl,(hs.2 b (cC (bM (aR e) I.ok.above))).trans e1⟩
  ·obtain ⟨o',e1⟩:=I.base.there b o e hx
   exact⟨o',(hs.2 b (cC (bM (aR e) I.ok.above))).trans e1⟩
  ·by_cases hj:j=i
   ·subst hj
    rw[hi]at e1;cases e1
    rw[iJ hiσ]at e2
    cases e2
    exact⟨u,r,.inl ⟨hk,by simp⟩⟩
   ·rw [dR (Ne.symm hj)] at e2
    obtain⟨u',r',q⟩:=hl j y v' e1 e2 e3
    refine⟨u',r',?_⟩
    rcases q with⟨k,e⟩ | ⟨k,c,e,z⟩
    ·refine .inl ⟨k,?_⟩
     have:y≠x:=λe=>hj (pU hN e1 (e ▸ hi))
     simp[this,e]
    ·exact .inr ⟨k,c,e,z.sameBut hs (cne y c e)⟩
  ·obtain ⟨w',z⟩:=I.cell y c e
   exact⟨w',z.sameBut hs (cne y c e)⟩
  ·obtain ⟨e,n,ne,nf,d⟩:=I.pin p hp
   exact⟨(hs.2 p.1 ne).trans e,n,ne,nf,d⟩
 ·have K5:X.fn x=true:=by
   rcases hf with z | z
   ·exact z
   ·rw[z]at hk;cases hk
  obtain⟨c,hc⟩:=I.ok.has x (.inl hk)
  obtain⟨w',z⟩:=I.cell x c hc
  refine wpAny_storeName_cell I.ok.kind hk hc z (λh' Iw hs=>?_)
  obtain⟨oc,Fg,Ki⟩:=id z
  refine h { s with heap:=h' } ⟨I.ok,I.os,I.bare,⟨λb o e n hb hx=>?_,λb o e n hb hx=>?_,I.base.free,λb o e hx=>?_,I.base.tups,I.base.frzs,I.base.tbls⟩,⟨m,hn.sameBut hs (Ne.symm (cne x c hc)),λj y v' e1 e2 e3=>?_⟩,λy c' e=>?_,I.free,I.freeC,λp hp=>?_,tracked ⟨oc,Fg,I.freeC x c hc⟩ hs,by simpa using I.len⟩ ⟨c,hs,.inr hc⟩
  ·exact(hs.2 b (cC (bM (aR e) (I.ok.cab x c K5 hc)))).trans (I.base.keep b o e n hb hx)
  ·obtain ⟨sl,e1⟩:=I.base.slot b o e n hb hx
   exact⟨sl,(hs.2 b (cC (bM (aR e) (I.ok.cab x c K5 hc)))).trans e1⟩
  ·obtain ⟨o',e1⟩:=I.base.there b o e hx
   exact⟨o',(hs.2 b (cC (bM (aR e) (I.ok.cab x c K5 hc)))).trans e1⟩
  ·by_cases hj:j=i
   ·subst hj
    rw[hi]at e1;cases e1
    rw[iJ hiσ]at e2
    cases e2
    exact⟨u,r,.inr ⟨.inl hk,c,hc,Iw⟩⟩
   ·rw [dR (Ne.symm hj)] at e2
    obtain⟨u',r',q⟩:=hl j y v' e1 e2 e3
    refine⟨u',r',?_⟩
    rcases q with q | ⟨k,c',e,z'⟩
    ·exact .inl q
    ·refine .inr ⟨k,c',e,z'.sameBut hs ?_⟩
     rintro rfl
     exact hj (pU hN e1 (I.ok.inj _ _ _ e hc ▸ hi))
  ·by_cases My:c'=c
   ·subst My;exact⟨_,Iw⟩
   ·obtain ⟨w2,z2⟩:=I.cell y c' e
    exact⟨w2,z2.sameBut hs My⟩
  ·obtain ⟨e,n,ne,nf,d⟩:=I.pin p hp
   refine⟨(hs.2 p.1 ?_).trans e,n,ne,nf,d⟩
   intro q
   rw[q,Fg]at e
   have q':oc=p.2:=ozI e
   exact d w' (by rw[<-q'];exact Ki)
theorem wX{M:Model}{A:Around}{E:fF}{i:Nat}{x:Str}{v:V}{u:Value}{Q:Unit->Shared->Prop}(I:Inv X Aa σ H s)(hN:X.N.Nodup)(hi:X.N[i]? = some x)(hx:Loc X.env.scope x)(r:RelV v u)
  (h:∀s',Inv X Aa (σ.set i (some v)) H s'->Q () s') (hf:X.fn x=true\/X.env.scope.names.lookup x=some .local:=by first | exact .inl rfl | exact .inr rfl | assumption):wpAny M A (storeName X.env x u) Q E s:=
 ig_ I hN hi hx r (λs' I' _=>h s' I') hf
theorem Inv.call'{s':Shared}{ch:List Addr}(I:Inv X Aa σ H s)(ho:s'.os=s.os)(u:Un (frs X.stack) ch H H' s.heap s'.heap)(hok:HOk X.prog X.w H' s'.heap)(hg:AllBare s'.gens)
  (E9:∀b∈ch,(b∈X.ex\/X.s₀.heap.objs.size<=b)/\b≠X.env.locals/\(∀x c,X.env.cells.lookup x=some c->c≠b)/\∀p∈X.pn++Aa,p.1≠b):Inv X Aa σ H' s':=by
 obtain⟨h',g',d',t',o'⟩:=s'
 have e:o'=s.os:=ho
 subst e
 exact I.call (g':=g') (t':=t') (d':=d') u hok hg E9
end
abbrev XK:=Value->Option Addr->Hp->Prop
abbrev St:=List (Option V)
abbrev VK:=V->Hp->Prop
abbrev TE:=St->Hp->VK->Prop
abbrev TT:=St->Hp->(Bool->Hp->Prop)->Prop
abbrev TA:=St->Hp->(List V->Hp->Prop)->Prop
structure Ends where
 nx:St->Hp->Prop
 rt:VK
 bk:St->Hp->Prop:=λ_ _=>False
 ct:St->Hp->Prop:=λ_ _=>False
abbrev TS:=Ends->St->Hp->Prop
def EP(X:Cx)(Aa:fG)(σ:St)(Q:VK)(u:Value)(s':Shared):Prop:=∃v H',Inv X Aa σ H' s'/\RelV v u/\Q v H'
def TP(X:Cx)(Aa:fG)(σ:St)(Q:Bool->Hp->Prop)(b:Bool)(s':Shared):Prop:=∃H',Inv X Aa σ H' s'/\Q b H'
def AP(X:Cx)(Aa:fG)(σ:St)(Q:List V->Hp->Prop)(us:List Value)(s':Shared):Prop:=∃vs H',Inv X Aa σ H' s'/\Vals vs us/\Q vs H'
def SP(X:Cx)(Aa:fG)(D:Ends)(f:Flow)(s':Shared):Prop:=
 match f with
 | .next=>∃σ' H',Inv X Aa σ' H' s'/\D.nx σ' H'
 | .brk=>∃σ' H',Inv X Aa σ' H' s'/\D.bk σ' H'
 | .cont=>∃σ' H',Inv X Aa σ' H' s'/\D.ct σ' H'
 | .ret u=>∃v σ' H',Inv X Aa σ' H' s'/\RelV v u/\D.rt v H'
def PE(X:Cx)(e:Expr)(t:TE):Prop:=
 ∀(Aa:fG) (s:Shared) (σ:St) (H:Hp) (Q:VK),Inv X Aa σ H s->t σ H Q->wpAny (model X.prog X.w) X.A (eval e X.env) (EP X Aa σ Q) X.xe s
def PT(X:Cx)(e:Expr)(t:TT):Prop:=
 ∀(Aa:fG) (s:Shared) (σ:St) (H:Hp) (Q:Bool->Hp->Prop),Inv X Aa σ H s->t σ H Q->wpAny (model X.prog X.w) X.A (isTrue e X.env (eval e X.env)) (TP X Aa σ Q) X.xe s
def PW(X:Cx)(e:Expr)(t:TT):Prop:=
 ∀(whole:Sem Value) (Aa:fG) (s:Shared) (σ:St) (H:Hp) (Q:Bool->Hp->Prop),Inv X Aa σ H s->t σ H Q->wpAny (model X.prog X.w) X.A (isTrue e X.env whole) (TP X Aa σ Q) X.xe s
theorem PW.pt{X:Cx}{e:Expr}{t:TT}(h:PW X e t):PT X e t:=h _
def PA(X:Cx)(es:List Expr)(t:TA):Prop:=
 ∀(pos:Pos) (Aa:fG) (s:Shared) (σ:St) (H:Hp) (Q:List V->Hp->Prop),Inv X Aa σ H s->t σ H Q->wpAny (model X.prog X.w) X.A (spliced (backTo pos (starEach es X.env))) (AP X Aa σ Q) X.xe s
def PS(X:Cx)(st:Stmt)(t:TS):Prop:=
 ∀(Aa:fG) (s:Shared) (σ:St) (H:Hp) (D:Ends),Inv X Aa σ H s->t D σ H->wpAny (model X.prog X.w) X.A (exec st X.env) (SP X Aa D) X.xe s
def PSs(X:Cx)(st:List Stmt)(t:TS):Prop:=
 ∀(Aa:fG) (s:Shared) (σ:St) (H:Hp) (D:Ends),Inv X Aa σ H s->t D σ H->wpAny (model X.prog X.w) X.A (execs st X.env) (SP X Aa D) X.xe s
theorem eO{α:Type}{t:Sem α}{Q Q':α->Shared->Prop}{M:Model}{A:Around}{E:fF}{s:Shared}(h:wpAny M A t Q E s)(hQ:∀a s,Q a s->Q' a s):wpAny M A t Q' E s:=wpAny_mono h hQ λ_ _ x=>x
section
variable{X:Cx}
def gU(i:Nat):TE:=λσ H Q=>∃v,σ[i]? = some (some v)/\Q v H
def tC(v:V):TE:=λ_ H Q=>Q v H
theorem aOt{i:Nat}{x:Str}{pos:Pos}(hN:X.N[i]? = some x)(hv:Vis X.env.scope x)(hd:(x == ("__debug__" : Str))=false:=by decide)(Ea:(x == ("__classdict__" : Str))=false:=by decide):PE X (.Name x pos) (gU i):=by
 intro Aa s σ H Q I h
 obtain⟨v,e,h⟩:=h
 obtain⟨m,hn,hl⟩:=I.loc
 obtain⟨u,r,l⟩:=hl i x v hN e hv
 have fin:EP X Aa σ Q u s:=⟨v,H,I,r,h⟩
 rcases l with⟨hk,hm⟩ | ⟨hk,c,hc,F1⟩
 ·exact wpAny_Name (wpAny_loadName_local I.ok.kind hk hn hm fin) hd
 ·rcases hk with hk | hk
  ·exact wpAny_Name (wpAny_loadName_cell I.ok.kind hk hc F1 fin) hd
  ·exact wpAny_Name (wpAny_loadName_free I.ok.kind hk hc F1 fin Ea) hd
theorem iY{i j pos}:PE X (.Constant (.int i) j pos) (tC (.int i)):=λ_ _ _ H _ I h=>wpAny_Constant_int ⟨.int i,H,I.tok _,⟨_,rfl⟩,h⟩
theorem aUl{b j pos}:PE X (.Constant (.bool b) j pos) (tC (.bl b)):=λ_ _ _ H _ I h=>Constant_bool ⟨.bl b,H,I,rfl,h⟩
theorem aOw{j pos}:PE X (.Constant .none j pos) (tC .non):=λ_ _ _ H _ I h=>Constant_none ⟨.non,H,I,rfl,h⟩
theorem gh_{x j pos}:PE X (.Constant (.str x) j pos) (tC (.str x)):=λ_ _ _ H _ I h=>Calls.Constant_str ⟨.str x,H,I.tok _,⟨_,rfl⟩,h⟩
def Gl(X:Cx)(x:Str):Prop:=X.env.kindOf x=some .globalImplicit
theorem hc_{E:fF}{Aa:fG}{s:Shared}{σ:St}{H:Hp}{x:Str}{u:Value}{pos:Pos}{Q:fF}(I:Inv X Aa σ H s)(hg:Gl X x)(hm:X.mg x=some u)(h:Q u s)
  (hd:(x == ("__debug__" : Str))=false:=by decide):wpAny (model X.prog X.w) X.A (eval (.Name x pos) X.env) Q E s:=
 Calls.Name_function_global I.ok.kind hg (Calls.loadGlobal_global (by rw[I.ok.glob];exact I.mod.glob.keeps I.bk) hm h) hd
theorem hm_{E:fF}{Aa:fG}{s:Shared}{σ:St}{H:Hp}{x:Str}{u:Value}{pos:Pos}{Q:fF}(I:Inv X Aa σ H s)(hg:Gl X x)(hm:X.mg x=none)(hv:bootBuiltins x=some u)(h:Q u s)
  (hn:x ≠ "__name__":=by decide) (hd:(x == ("__debug__" : Str))=false:=by decide):wpAny (model X.prog X.w) X.A (eval (.Name x pos) X.env) Q E s:=by
 obtain⟨mb,h1,h2⟩:=I.mod.blt
 exact Calls.Name_function_global I.ok.kind hg (Calls.loadGlobal_builtin (by rw[I.ok.glob];exact I.mod.glob.keeps I.bk) hm (by rw[I.ok.blt];exact h1.keeps I.bk) ((h2 x hn).trans hv) h) hd
theorem fx_{x:Str}{v:V}{u:Value}{pos:Pos}(hg:Gl X x)(hm:X.mg x=some u)(r:RelV v u)(hd:(x == ("__debug__" : Str))=false:=by decide):PE X (.Name x pos) (tC v):=
 λ_ _ _ H _ I h=>hc_ I hg hm ⟨v,H,I,r,h⟩ hd
theorem mD{x:Str}{v:V}{u:Value}{pos:Pos}(hg:Gl X x)(hm:X.mg x=none)(hv:bootBuiltins x=some u)(r:RelV v u)(hn:x ≠ "__name__":=by decide)(hd:(x == ("__debug__" : Str))=false:=by decide):PE X (.Name x pos) (tC v):=
 λ_ _ _ H _ I h=>hm_ I hg hm hv ⟨v,H,I,r,h⟩ hn hd
variable{a b:Expr}{ta tb:TE}{pos:Pos}
def PC(X:Cx)(op:CmpOp)(a b:Expr)(t:TE):Prop:=
 ∀(Aa:fG) (s:Shared) (σ:St) (H:Hp) (Q:VK),Inv X Aa σ H s->t σ H Q ->
  wpAny (model X.prog X.w) X.A (eval a X.env) (λv s₁=>wpAny (model X.prog X.w) X.A (eval b X.env) (λu s₂=>wpAny (model X.prog X.w) X.A (compareOp op v u) (EP X Aa σ Q) X.xe s₂) X.xe s₁) X.xe s
theorem xW(b:Expr){op:CmpOp}(h:op ≠ .In)(h2:op ≠ .NotIn):behindInMarks op b=false:=by
 have e1:(op == CmpOp.In)=false:=by cases op<;>first | rfl | exact absurd rfl h
 have e2:(op == CmpOp.NotIn)=false:=by cases op<;>first | rfl | exact absurd rfl h2
 cases b<;>simp[behindInMarks,e1,e2]
def tB(t:TE):TT:=λσ H Q=>t σ H λx H1=>∃c,x=.bl c/\Q c H1
theorem aOy{op:CmpOp}{t:TE}(h:PC X op a b t)(h1:behindInMarks op b=false:=by first | exact xW _ (by decide) (by decide) | rfl):PE X (.Compare a [op] [b] pos) t:=λAa s σ H Q I hw=>wpAny_Compare1 (h Aa s σ H Q I hw) h1
theorem aOq{op:CmpOp}{t:TE}(h:PC X op a b t)(h1:behindInMarks op b=false:=by first | exact xW _ (by decide) (by decide) | rfl):PT X (.Compare a [op] [b] pos) (tB t):=by
 intro Aa s σ H Q I hw
 refine wpAny_isTrue_Compare1 (eO (h Aa s σ H _ I hw) λv s1 h1=>eO h1 λu s2 h2=>eO h2 λc s3 ⟨x,H1,I1,r1,q1⟩=>?_) h1
 obtain⟨d,rfl,q⟩:=q1
 cases r1
 exact wpAny_truthy_bool ⟨H1,I1,q⟩
theorem aOo{e:Expr}{t:TE}(h:PE X e t)(he:∀whole,isTrue e X.env whole=(do let v <-whole;standAt e.pos;holding [v] (truthy v)):=by intro _;rfl):PT X e (tB t):=by
 intro Aa s σ H Q I hw
 refine isTrue_plain (eO (h Aa s σ H _ I hw) λv s1 ⟨x,H1,I1,r1,q1⟩=>?_) (he _)
 obtain⟨d,rfl,q⟩:=q1
 cases r1
 exact wpAny_truthy_bool ⟨H1,I1,q⟩
variable{tA tB':TT}{rest:List Expr}
def aYj(t u:TT):TT:=λσ H Q=>t σ H λc H1=>if c=true then u σ H1 Q else Q false H1
def tOr(t u:TT):TT:=λσ H Q=>t σ H λc H1=>if c=true then Q true H1 else u σ H1 Q
def aYc(t:TT):TT:=λσ H Q=>t σ H λc H1=>Q (!c) H1
theorem r_(ha:PT X a tA):PW X (.BoolOp .And [a] pos) tA:=by
 intro wh Aa s σ H Q I h
 refine isTrue_and (eO (ha Aa s σ H Q I h) λc s1 e=>?_)
 cases c with
 |true=>exact isTrue_and_nil e
 |false=>exact e
theorem aOn(ha:PT X a tA):PW X (.BoolOp .Or [a] pos) tA:=by
 intro wh Aa s σ H Q I h
 refine isTrue_or (eO (ha Aa s σ H Q I h) λc s1 e=>?_)
 cases c with
 |false=>exact isTrue_or_nil e
 |true=>exact e
theorem aEv(ha:PT X a tA)(hb:PW X (.BoolOp .And (b::rest) pos) tB'):PW X (.BoolOp .And (a::b::rest) pos) (aYj tA tB'):=by
 intro wh Aa s σ H Q I h
 refine isTrue_and (eO (ha Aa s σ H _ I h) λc s1 ⟨H1,I1,q1⟩=>?_)
 cases c with
 |true=>exact hb wh Aa s1 σ H1 Q I1 q1
 |false=>exact⟨H1,I1,q1⟩
theorem aUj(ha:PT X a tA)(hb:PW X (.BoolOp .Or (b::rest) pos) tB'):PW X (.BoolOp .Or (a::b::rest) pos) (tOr tA tB'):=by
 intro wh Aa s σ H Q I h
 refine isTrue_or (eO (ha Aa s σ H _ I h) λc s1 ⟨H1,I1,q1⟩=>?_)
 cases c with
 |true=>exact⟨H1,I1,q1⟩
 |false=>exact hb wh Aa s1 σ H1 Q I1 q1
theorem aOp(ha:PT X a tA):PT X (.UnaryOp .Not a pos) (aYc tA):=by
 intro Aa s σ H Q I h
 exact isTrue_not (ha Aa s σ H (λc H1=>Q (!c) H1) I h)
def aUc(ta tb:TE):TE:=λσ H Q=>ta σ H λx H1=>∃c,x=.bl c/\if c=true then tb σ H1 Q else Q (.bl false) H1
def aTx(ta:TE):TE:=λσ H Q=>ta σ H λx H1=>∃c,x=.bl c/\Q (.bl (!c)) H1
theorem aOu{op}{t:TE}(h:PE X a t):PE X (.BoolOp op [a] pos) t:=λAa s σ H Q I hw=>BoolOp_one (h Aa s σ H Q I hw)
theorem aPa(ha:PE X a ta)(hb:PE X (.BoolOp .And (b::rest) pos) tb):PE X (.BoolOp .And (a::b::rest) pos) (aUc ta tb):=by
 intro Aa s σ H Q I h
 refine BoolOp_and (eO (ha Aa s σ H _ I h) λv s1 ⟨x,H1,I1,r1,q1⟩=>?_)
 obtain⟨c,rfl,q1⟩:=q1
 cases r1
 refine wpAny_truthy_bool ?_
 cases c with
 |true=>exact hb Aa s1 σ H1 Q I1 q1
 |false=>exact⟨.bl false,H1,I1,rfl,q1⟩
theorem aOv(ha:PE X a ta):PE X (.UnaryOp .Not a pos) (aTx ta):=by
 intro Aa s σ H Q I h
 refine UnaryOp_ (eO (ha Aa s σ H _ I h) λv s1 ⟨x,H1,I1,r1,q1⟩=>?_)
 obtain⟨c,rfl,q1⟩:=q1
 cases r1
 exact not_of (wpAny_truthy_bool ⟨.bl (!c),H1,I1,rfl,q1⟩)
end
def SqL(K:eC)(H:Hp)(a:Addr)(xs:List V):Prop:=
 Rd H a (.lst xs) \/
  ∃(o:Obj) (its:Array Value) (n:Nat),K.lookup a=some o/\o.cls=.type "list" /\ o.dict=none/\o.data=.seq its n/\its.size<=sizeLine/\Vals xs its.toList
def SqT(K:eC)(H:Hp)(a:Addr)(xs:List V):Prop:=
 Rd H a (.tup xs) \/
  ∃(o:Obj) (its:Array Value) (n:Nat),K.lookup a=some o/\o.cls=.type "tuple" /\ o.data=.seq its n/\its.size<=sizeLine/\Vals xs its.toList
theorem RelV.abs{x:V}{u:Value}(r:RelV x u):aMn u=some x:=by
 cases x with
 |non=>cases r;rfl
 |bl _=>cases r;rfl
 |int _=>obtain⟨t,rfl⟩:=r;rfl
 |str _=>obtain⟨t,rfl⟩:=r;rfl
 |byt _=>obtain⟨t,rfl⟩:=r;rfl
 |flt _=>obtain⟨t,rfl⟩:=r;rfl
 |ref _=>cases r;rfl
 |ty _=>cases r;rfl
theorem RelV.inj{x y:V}{u:Value}(r:RelV x u)(q:RelV y u):x=y:=ozI (r.abs.symm.trans q.abs)
theorem Vals.inj:∀{xs ys:List V} {us:List Value},Vals xs us->Vals ys us->xs=ys
 |_,_,_,.nil,.nil=>rfl
 |_,_,_,.cons r t,.cons r' t'=>by rw[r.inj r',Vals.inj t t']
section
variable{X:Cx}{Aa:fG}{σ:St}{H:Hp}{s:Shared}{a:Addr}{xs ys:List V}
theorem SqL.of{K:eC}(h:H a=some (.lst xs)):SqL K H a xs:=.inl (.inl h)
theorem SqT.of{K:eC}(h:H a=some (.tup xs)):SqT K H a xs:=.inl (.inl h)
theorem Inv.list(I:Inv X Aa σ H s)(h:SqL X.K H a xs):∃its:List Value,Vals xs its/\PlainL s.heap a its.toArray/\xs.length<=sizeLine:=by
 rcases h with h | ⟨o,its,n,hk,hc,hd,hs,hz,r⟩
 ·obtain ⟨z,its,n,r,e⟩:=h.ok I.hok
  exact⟨its,r,⟨_,n,e,rfl,rfl,rfl⟩,z⟩
 ·refine ⟨its.toList,r,⟨o,n,I.kIn a o hk,hc,hd,by simpa using hs⟩,?_⟩
  have e:=r.length
  simp only[Array.length_toList]at e
  lia
theorem Inv.tuple(I:Inv X Aa σ H s)(h:SqT X.K H a xs):∃its:List Value,Vals xs its/\IsTup s.heap a its.toArray/\xs.length<=sizeLine:=by
 rcases h with h | ⟨o,its,n,hk,hc,hs,hz,r⟩
 ·obtain ⟨z,its,r,p⟩:=h.ok I.hok
  exact⟨its,r,p,z⟩
 ·refine ⟨its.toList,r,⟨o,I.kIn a o hk,hc,n,by simpa using hs⟩,?_⟩
  have e:=r.length
  simp only[Array.length_toList]at e
  lia
theorem Inv.list_inj(I:Inv X Aa σ H s)(h:SqL X.K H a xs)(h':SqL X.K H a ys):xs=ys:=by
 obtain⟨its,r,⟨o,n,e,_,_,d⟩,_⟩:=I.list h
 obtain⟨its',r',⟨o',n',e',_,_,d'⟩,_⟩:=I.list h'
 rw[e]at e';cases e'
 rw[d]at d'
 injection d' with d1 _
 have:its=its':=by simpa using congrArg Array.toList d1
 subst this
 exact r.inj r'
theorem Inv.tuple_inj(I:Inv X Aa σ H s)(h:SqT X.K H a xs)(h':SqT X.K H a ys):xs=ys:=by
 obtain⟨its,r,⟨o,e,_,n,d⟩,_⟩:=I.tuple h
 obtain⟨its',r',⟨o',e',_,n',d'⟩,_⟩:=I.tuple h'
 rw[e]at e';cases e'
 rw[d]at d'
 injection d' with d1 _
 have:its=its':=by simpa using congrArg Array.toList d1
 subst this
 exact r.inj r'
end
abbrev Cx.wish(X:Cx)(E:fF):Cx:={ X with xe:=E }
abbrev Cx.nox(X:Cx):Cx:=X.wish λ_ _=>False
theorem Cx.Ok.wish{X:Cx}(ok:X.Ok)(E:fF):(X.wish E).Ok:=
 ⟨ok.mod,ok.kind,ok.glob,ok.blt,ok.above,ok.inj,ok.has,ok.cab,ok.hd,ok.frames,ok.stk,ok.exf,ok.bs,ok.bsz,ok.noex,ok.exfs,ok.funs,ok.frf⟩
theorem Cx.Ok.unwish{X:Cx}{E:fF}(ok:(X.wish E).Ok):X.Ok:=
 ⟨ok.mod,ok.kind,ok.glob,ok.blt,ok.above,ok.inj,ok.has,ok.cab,ok.hd,ok.frames,ok.stk,ok.exf,ok.bs,ok.bsz,ok.noex,ok.exfs,ok.funs,ok.frf⟩
section
variable{X:Cx}{Aa:fG}{σ:St}{H:Hp}{s:Shared}{E:fF}
theorem Inv.wish(I:Inv X Aa σ H s)(E:fF):Inv (X.wish E) Aa σ H s:=⟨I.ok.wish E,I.os,I.bare,I.base,I.loc,I.cell,I.free,I.freeC,I.pin,I.hok,I.len⟩
theorem Inv.unwish(I:Inv (X.wish E) Aa σ H s):Inv X Aa σ H s:=⟨I.ok.unwish,I.os,I.bare,I.base,I.loc,I.cell,I.free,I.freeC,I.pin,I.hok,I.len⟩
theorem SP.unwish{D:Ends}{f:Flow}{s':Shared}(h:SP (X.wish E) Aa D f s'):SP X Aa D f s':=by
 cases f with
 |next=>obtain⟨σ',H',I,q⟩:=h;exact⟨σ',H',I.unwish,q⟩
 |brk=>obtain⟨σ',H',I,q⟩:=h;exact⟨σ',H',I.unwish,q⟩
 |cont=>obtain⟨σ',H',I,q⟩:=h;exact⟨σ',H',I.unwish,q⟩
 |ret u=>obtain⟨v,σ',H',I,r,q⟩:=h;exact⟨v,σ',H',I.unwish,r,q⟩
theorem PSs.nox{st:List Stmt}{t:TS}(h:PSs X.nox st t):PSs X st t:=λAa s σ H D I hw =>
 wpAny_mono (h Aa s σ H D (I.wish _) hw) (λ_ _ q=>q.unwish) λ_ _ z=>False.elim z
end
section
variable{X:Cx}{st:Stmt}{rest:List Stmt}{t u:TS}{e:Expr}{te:TE}{pos:Pos}
def aTy:TS:=λD σ H=>D.nx σ H
def aYa(t u:TS):TS:=λD σ H=>t { D with nx:=u D } σ H
theorem nZ:PSs X [] aTy:=λ_ _ σ H _ I h=>wpAny_execs_nil ⟨σ,H,I,h⟩
theorem rT(h1:PS X st t)(h2:PSs X rest u):PSs X (st::rest) (aYa t u):=by
 intro Aa s σ H D I h
 refine wpAny_execs_cons (eO (h1 Aa s σ H { D with nx:=u D } I h) λf s1 q=>?_)
 cases f with
 |next =>
  obtain⟨σ',H',I',q⟩:=q
  exact h2 Aa s1 σ' H' D I' q
 |ret v=>exact q
 |brk=>exact q
 |cont=>exact q
theorem es_(h1:PS X st t):PSs X [st] t:=by
 intro Aa s σ H D I h
 refine wpAny_execs_cons (eO (h1 Aa s σ H D I h) λf s1 q=>?_)
 cases f with
 |next=>exact wpAny_execs_nil q
 |ret v=>exact q
 |brk=>exact q
 |cont=>exact q
theorem Inv.quiet{Aa:fG}{σ:St}{H:Hp}{s:Shared}(I:Inv X Aa σ H s):interactive X.env=false:=by simp[interactive,I.ok.kind]
def aMu(te:TE):TS:=λD σ H=>te σ H λ_ H1=>D.nx σ H1
theorem oA(he:PE X e te)(hs:swapsWith e none pos.line X.env=pure false:=by rfl):PS X (.Expr e pos) (aMu te):=by
 intro Aa s σ H D I h
 exact wpAny_Expr_any (eO (he Aa s σ H _ I h) λv s1 ⟨x,H1,I1,r1,q1⟩=>⟨σ,H1,I1,q1⟩) I.quiet hs
def aYb(te:TE):TS:=λD σ H=>te σ H D.rt
theorem uT(he:PE X e te):PS X (.Return (some e) pos) (aYb te):=by
 intro Aa s σ H D I h
 exact wpAny_Return_some (eO (he Aa s σ H _ I h) λv s1 ⟨x,H1,I1,r1,q1⟩=>⟨x,σ,H1,I1,r1,q1⟩)
def aYf(c:TT)(t u:TS):TS:=λD σ H=>c σ H λb H1=>if b=true then t D σ H1 else u D σ H1
theorem s_{c:Expr}{a b:List Stmt}{tc:TT}(hc:PT X c tc)(ha:PSs X a t)(hb:PSs X b u):PS X (.If c a b pos) (aYf tc t u):=by
 intro Aa s σ H D I h
 refine wpAny_If (eO (hc Aa s σ H _ I h) λd s1 ⟨H1,I1,q1⟩=>?_)
 cases d with
 |true=>exact ha Aa s1 σ H1 D I1 q1
 |false=>exact hb Aa s1 σ H1 D I1 q1
end
abbrev TG:=V->St->Hp->(St->Hp->Prop)->Prop
abbrev TGs:=List V->St->Hp->(St->Hp->Prop)->Prop
def PG(X:Cx)(target:Expr)(t:TG):Prop:=
 ∀(Aa:fG) (s:Shared) (σ:St) (H:Hp) (v:V) (u:Value) (Q:St->Hp->Prop),Inv X Aa σ H s->RelV v u->t v σ H Q ->
  wpAny (model X.prog X.w) X.A (assign target X.env u) (λ_ s'=>∃σ' H',Inv X Aa σ' H' s'/\Q σ' H') X.xe s
def PGs(X:Cx)(ts:List Expr)(t:TGs):Prop:=
 ∀(Aa:fG) (s:Shared) (σ:St) (H:Hp) (vs:List V) (us:List Value) (Q:St->Hp->Prop),Inv X Aa σ H s->Vals vs us->t vs σ H Q ->
  wpAny (model X.prog X.w) X.A (assignInOrder ((assignEach ts X.env).map (·.2)) us) (λ_ s'=>∃σ' H',Inv X Aa σ' H' s'/\Q σ' H') X.xe s
abbrev aSj:=V->V->V->Hp->(Hp->Prop)->Prop
def aWo(X:Cx)(t:aSj):Prop:=
 ∀(Aa:fG) (s:Shared) (σ:St) (H:Hp) (o i v:V) (ov iv u:Value) (Q:Hp->Prop),Inv X Aa σ H s->RelV o ov->RelV i iv->RelV v u->t o i v H Q ->
  wpAny (model X.prog X.w) X.A (setItem ov iv u) (λ_ s'=>∃H',Inv X Aa σ H' s'/\Q H') X.xe s
section
variable{X:Cx}{pos:Pos}
def jF(i:Nat):TG:=λv σ H Q=>Q (σ.set i (some v)) H
theorem gF{i:Nat}{x:Str}(hN:X.N.Nodup)(hi:X.N[i]? = some x)(hx:Loc X.env.scope x)(hf:X.fn x=true\/X.env.scope.names.lookup x=some .local:=by first | exact .inl rfl | exact .inr rfl | assumption):PG X (.Name x pos) (jF i):=by
 intro Aa s σ H v u Q I r h
 exact wpAny_assign_Name (wX I hN hi hx r (λs' I'=>⟨_,H,I',h⟩) hf)
def aLs:TGs:=λvs σ H Q=>vs=[]/\Q σ H
def w6(t:TG)(u:TGs):TGs:=λvs σ H Q=>∃v r,vs=v::r/\t v σ H λσ' H'=>u r σ' H' Q
theorem zT:PGs X [] aLs:=by
 intro Aa s σ H vs us Q I r h
 obtain⟨e,h⟩:=h
 subst e
 cases r
 exact assignInOrder_nil ⟨σ,H,I,h⟩
theorem lJ{e:Expr}{es:List Expr}{t:TG}{u:TGs}(h1:PG X e t)(h2:PGs X es u)
  (hs:(assignEach (e::es) X.env).map (·.2)=assign e X.env::(assignEach es X.env).map (·.2):=by rfl):PGs X (e::es) (w6 t u):=by
 intro Aa s σ H vs us Q I r h
 obtain⟨v,vr,e1,h⟩:=h
 subst e1
 cases r with
 |cons r rr =>
  rw[hs]
  refine assignInOrder_cons (eO (h1 Aa s σ H _ _ _ I r h) λ_ s1 ⟨σ1,H1,I1,q1⟩=>?_)
  exact h2 Aa s1 σ1 H1 _ _ Q I1 rr q1
def aLr(K:eC)(n:Nat)(t:TGs):TG:=λv σ H Q=>∃a xs,v=.ref a/\SqT K H a xs/\xs.length=n/\t xs σ H Q
theorem hl_{es:List Expr}{k:Nat}{t:TGs}{n:Nat}(hc:X.calm=true)(h:PGs X es t)
  (hn:(assignEach es X.env).length=n:=by rfl) (Cu:(assignEach es X.env).findIdx? (·.1)=none:=by rfl):PG X (.Tuple es k pos) (aLr X.K n t):=by
 intro Aa s σ H v u Q I r hw
 obtain⟨a,xs,e1,hq,hl,hw⟩:=hw
 subst e1
 cases r
 obtain⟨its,rv,ht,hz⟩:=I.tuple hq
 refine assign_Tuple_tuple (I.ok.hd hc) ht (by simp[hn,<-hl,rv.length]) Cu λh' hx=>?_
 have I1:Inv X Aa σ H { s with heap:=h' }:=I.kept (t':=s.toks) λb o e=>hx b o (cC (aR e)) e
 exact h Aa _ σ H xs _ Q I1 (by simpa using rv) hw
def aVo(to ti:TE)(t:aSj):TG:=λv σ H Q=>to σ H λo H1=>ti σ H1 λi H2=>t o i v H2 λH3=>Q σ H3
theorem mJ{o i:Expr}{to ti:TE}{t:aSj}(ho:PE X o to)(hi:PE X i ti)(hs:aWo X t)
  (ha:∀ v,assign (.Subscript o i pos) X.env v=(do
   let ov <-holding [v] (eval o X.env)
   let iv <-holding [v,ov] (eval i X.env)
   standAt pos
   holding [v,ov,iv] (setItem ov iv v)
   release [v,ov,iv] []):=by intro _;rfl):PG X (.Subscript o i pos) (aVo to ti t):=by
 intro Aa s σ H v u Q I r h
 rw[ha]
 refine wpAny_bind (wpAny_holding (eO (ho Aa s σ H _ I h) λov s1 ⟨x,H1,I1,r1,q1⟩=>?_))
 refine wpAny_bind (wpAny_holding (eO (hi Aa s1 σ H1 _ I1 q1) λiv s2 ⟨y,H2,I2,r2,q2⟩=>?_))
 refine wpAny_bind (wpAny_standAt (wpAny_bind (wpAny_holding (eO (hs Aa s2 σ H2 x y v ov iv u _ I2 r1 r2 r q2) λ_ s3 ⟨H3,I3,q3⟩=>?_))))
 exact wpAny_release ⟨σ,H3,I3,q3⟩
def wV(te:TE)(g:TG):TS:=λD σ H=>te σ H λx H1=>g x σ H1 D.nx
theorem gg_{tg e:Expr}{te:TE}{g:TG}(he:PE X e te)(hg:PG X tg g)(hs:swapsWithSole [tg] e pos.line X.env=pure false:=by rfl)(hw:swappedStores [tg] e X.env=pure none:=by rfl)
  (h1:(assignEach [tg] X.env).map (·.2)=[assign tg X.env]:=by rfl):PS X (.Assign [tg] e pos) (wV te g):=by
 intro Aa s σ H D I h
 refine wpAny_Assign_stores (eO (he Aa s σ H _ I h) λv s1 ⟨x,H1,I1,r1,q1⟩=>?_) hs hw
 rw[h1]
 exact eO (hg Aa s1 σ H1 x v _ I1 r1 q1) λ_ s2 q=>q
theorem wL{i:Nat}{x:Str}{e:Expr}{te:TE}{pos':Pos}(hN:X.N.Nodup)(hi:X.N[i]? = some x)(hx:Loc X.env.scope x)(he:PE X e te)(hs:swapsWith e (some (.Name x pos')) pos.line X.env=pure false:=by rfl)(hf:X.fn x=true\/X.env.scope.names.lookup x=some .local:=by first | exact .inl rfl | exact .inr rfl | assumption) :
  PS X (.Assign [.Name x pos'] e pos) (wV te (jF i)):=by
 intro Aa s σ H D I h
 refine wpAny_Assign_Name (eO (he Aa s σ H _ I h) λv s1 ⟨y,H1,I1,r1,q1⟩=>?_) hs
 exact wX I1 hN hi hx r1 (λs2 I2=>⟨_,H1,I2,q1⟩) hf
end
section
variable{X:Cx}{pos:Pos}
def aOe(c:TT)(tb:TS):TS:=λD σ H=>∃W:Nat->St->Hp->Prop,(∃m,W m σ H)/\∀m σ H,W m σ H ->
 c σ H λb H1=>if b=true then ∃N:St->Hp->Prop,(∀σ' H',N σ' H'->∃m',m'<m/\W m' σ' H')/\tb { D with nx:=N,ct:=N,bk:=D.nx } σ H1 else D.nx σ H1
theorem aFa{c:Expr}{body:List Stmt}{tc:TT}{tb:TS}(hp:PassesOwn (model X.prog X.w) X.A X.env X.xe)(hc:PT X c tc)(hb:PSs X body tb):PS X (.While c body [] pos) (aOe tc tb):=by
 intro Aa s σ H D I h
 obtain⟨W,⟨m0,w0⟩,turn⟩:=h
 refine wpAny_While (codeAny_whileLoop (λn s'=>∃σ' H',Inv X Aa σ' H' s'/\W n σ' H') ?_ m0 ⟨σ,H,I,w0⟩)
 rintro n s1 ⟨σ1,H1,I1,w1⟩
 refine wpAny_passesOwn hp (eO (hc Aa s1 σ1 H1 _ I1 (turn n σ1 H1 w1)) λb s2 ⟨H2,I2,q2⟩=>?_)
 cases b with
 |true =>
  obtain⟨N,hN,q2⟩:=q2
  rw[if_pos rfl]
  refine wpAny_passesOwn hp (eO (hb Aa s2 σ1 H2 _ I2 q2) λf s3 q3=>?_)
  cases f with
  |next =>
   obtain⟨σ3,H3,I3,n3⟩:=q3
   obtain⟨m',hm,w3⟩:=hN σ3 H3 n3
   exact⟨m',hm,σ3,H3,I3,w3⟩
  |cont =>
   obtain⟨σ3,H3,I3,n3⟩:=q3
   obtain⟨m',hm,w3⟩:=hN σ3 H3 n3
   exact⟨m',hm,σ3,H3,I3,w3⟩
  |brk=>exact q3
  |ret v=>exact q3
 |false =>
  rw[if_neg aG]
  exact wpAny_execs_nil ⟨σ1,H2,I2,q2⟩
end
structure It where
 go:Nat->Hp->Prop
 yld:Nat->Hp->V->Hp->Prop
 stop:Nat->Hp->Prop
def lN(X:Cx)(Aa:fG)(H:Hp)(b:Addr):Prop:=
 H b=none/\b≠X.env.locals/\b∉X.fs/\(b∈X.ex\/X.s₀.heap.objs.size<=b)/\(∀x c,X.env.cells.lookup x=some c->c≠b)/\∀p∈X.pn++Aa,p.1≠b
theorem Inv.fpOk{X:Cx}{Aa:fG}{σ:St}{H H':Hp}{s:Shared}{b:Addr}(I:Inv X Aa σ H s)(hb:s.heap.objs.size<=b)(hn:H' b=none):lN X Aa H' b:=by
 refine⟨hn,iI (bM I.lt hb),I.nofs hb,.inr (nzL I.sz hb),λx c e z=>?_,λp hp z=>?_⟩
 ·obtain ⟨v,q⟩:=I.cell x c e
  exact absurd (bM q.lt (by rw[z];exact hb)) (dH _)
 ·exact absurd (bM (aR (I.pin p hp).1) (by rw[z];exact hb)) (dH _)
structure Turn(P:Program)(w:World)(K:eC)(tg:Expr)(J:It)(fp:List Addr)(it:Addr)(tn:Nat->Heap->Prop):Prop where
 mem:it∈fp
 obj:∀i h,tn i h->∀b∈fp,∃o,h.get? b=some o/\∀v,o.data ≠ .cell v
 keep:∀i h h',tn i h->(∀b∈fp,∀o,h.get? b=some o->h'.get? b=some o)->tn i h'
 item:∀(X:Cx),X.prog=P->X.w=w->X.K=K->X.calm=true->∀(i:Nat) (Aa:fG) (s:Shared) (σ:St) (H:Hp) (E:fF),Inv X Aa σ H s->(∀b∈fp,lN X Aa H b)->tn i s.heap->J.go i H ->
  wpAny (model P w) X.A (pyNext (.ref it)) (λr s1=>∃u,r=some u /\
   wpAny (model P w) X.A (letOwnedTupleGo tg (.ref it) u) (λ_ s2=>∃x H',Inv X Aa σ H' s2/\RelV x u/\J.yld i H x H'/\tn (i+1) s2.heap/\∀b∈fp,H' b=none) E s1) E s
 done:∀(X:Cx),X.prog=P->X.w=w->X.K=K->X.calm=true->∀(i:Nat) (Aa:fG) (s:Shared) (σ:St) (H:Hp) (E:fF),Inv X Aa σ H s->(∀b∈fp,lN X Aa H b)->tn i s.heap->J.stop i H ->
  wpAny (model P w) X.A (pyNext (.ref it)) (λr s1=>r=none/\Inv X Aa σ H s1) E s
 self:∀(A:Around) (i:Nat) (s:Shared) (Q:fF) (E:fF),tn i s.heap->Q (.ref it) s->wpAny (model P w) A (pyIter (.ref it)) Q E s
abbrev TI:=St->Hp->(It->Hp->Prop)->Prop
def PIE(X:Cx)(Aa:fG)(σ:St)(tg:Expr)(R:It->Hp->Prop)(itv:Value)(s2:Shared):Prop:=
 ∃(it:Addr) (fp:List Addr) (tn:Nat->Heap->Prop) (J:It) (H':Hp),itv=.ref it/\Inv X Aa σ H' s2/\Turn X.prog X.w X.K tg J fp it tn/\tn 0 s2.heap/\(∀b∈fp,lN X Aa H' b)/\R J H'
def PI(X:Cx)(tg iter:Expr)(wi:TI):Prop:=
 ∀(Aa:fG) (s:Shared) (σ:St) (H:Hp) (R:It->Hp->Prop),Inv X Aa σ H s->wi σ H R ->
  wpAny (model X.prog X.w) X.A (eval iter X.env) (λv s1=>wpAny (model X.prog X.w) X.A (pyIter v) (PIE X Aa σ tg R) X.xe s1) X.xe s
theorem w4{M:Model}{A:Around}{E:fF}{s:Shared}{tg:Expr}{it:Addr}{u:Value}{o:Obj}{n:String}{vs:Array Value}{Q:Unit->Shared->Prop}(ho:s.heap.get? it=some o)(hc:o.cls=.type n)(hd:o.data=.fields vs)
    (hn:["enumerate","zip","dict_itemiterator","dict_reverseitemiterator","odict_iterator","itertools.zip_longest","itertools.pairwise"].contains n=false) (hQ:Q () s):wpAny M A (letOwnedTupleGo tg (.ref it) u) Q E s:=by
  unfold letOwnedTupleGo
  cases tg<;>first
    |exact wpAny_pure hQ
    |(cases u<;>first
        |exact wpAny_pure hQ
        | (refine wpAny_bind (wpAny_load ho ?_)
           rw[hc,hd]
           show wpAny M A (if(["enumerate","zip","dict_itemiterator","dict_reverseitemiterator","odict_iterator","itertools.zip_longest","itertools.pairwise"].contains n&&vs[0]? == some (rawInt _))=true then _ else _) Q E s
           rw[if_neg (by intro h;rw[hn,cM]at h;cases h)]
           exact wpAny_pure hQ))
def Itl(K:eC)(a:Addr):It:=
 ⟨λi H=>∃xs x,SqL K H a xs/\xs[i]? = some x,λi H x H'=>H'=H/\∀xs,SqL K H a xs->xs[i]? = some x,λi H=>∃xs,SqL K H a xs/\xs.length<=i⟩
def Itt(K:eC)(a:Addr):It:=
 ⟨λi H=>∃xs x,SqT K H a xs/\xs[i]? = some x,λi H x H'=>H'=H/\∀xs,SqT K H a xs->xs[i]? = some x,λi H=>∃xs,SqT K H a xs/\xs.length<=i⟩
def Itr(lo:Int)(n:Nat):It:=⟨λi _=>i<n,λi H x H'=>H'=H/\x=.int (lo+i),λi _=>n<=i⟩
theorem aAq{P:Program}{w:World}{K:eC}{tg:Expr}(a it:Addr):Turn P w K tg (Itl K a) [it] it (λi h=>h.IsListIter it a i)where
 mem:=by simp
 obj:=λi h st b hb=>by
  have e:b=it:=by simpa using hb
  subst e
  obtain⟨o,e,c,d⟩:=st
  exact⟨o,e,λv z=>by rw[d]at z;cases z⟩
 keep:=λi h h' st k=>st.at λo e=>k it (by simp) o e
 item:=by
  intro X hP hw hK hc i Aa s σ H E I hf st hg
  subst hP hw hK
  obtain⟨xs,x,hq,hx⟩:=hg
  obtain⟨its,rv,p,hz⟩:=I.list hq
  obtain⟨u,hu,ru⟩:=rv.get hx
  obtain⟨f0,f1,f2,f3,f4,f5⟩:=hf it (by simp)
  refine wpAny_pyNext_list_item st p.isList (x:=u) (by simpa using hu) λh' st' sb=>?_
  have I1:Inv X Aa σ H { s with heap:=h' }:=I.turned (t':=s.toks) (λb o hb e=>(sb.2 b hb).trans e) f0 f1 f3 f4 f5
  obtain⟨o,e,c,d⟩:=id st'
  exact⟨u,rfl,w4 (s:={ s with heap:=h' }) e c d (by decide) ⟨x,H,I1,ru,⟨rfl,λys hy=>by rw[I.list_inj hy hq];exact hx⟩,st',λb hb=>(hf b hb).1⟩⟩
 done:=by
  intro X hP hw hK hc i Aa s σ H E I hf st hg
  subst hP hw hK
  obtain⟨xs,hq,hx⟩:=hg
  obtain⟨its,rv,p,hz⟩:=I.list hq
  obtain⟨f0,f1,f2,f3,f4,f5⟩:=hf it (by simp)
  have hl:=rv.length
  exact wpAny_pyNext_list_end (I.ok.hd hc) st p.isList (by simp;lia) λh' eb=>⟨rfl,I.turned (t':=s.toks) (λb o hb e=>eb b o hb e) f0 f1 f3 f4 f5⟩
 self:=λ_ _ _ _ _ st h=>wpAny_pyIter_listiter st h
theorem b8{P:Program}{w:World}{K:eC}{tg:Expr}(a it:Addr):Turn P w K tg (Itt K a) [it] it (λi h=>h.IsTupleIter it a i)where
 mem:=by simp
 obj:=λi h st b hb=>by
  have e:b=it:=by simpa using hb
  subst e
  obtain⟨o,e,c,d⟩:=st
  exact⟨o,e,λv z=>by rw[d]at z;cases z⟩
 keep:=λi h h' st k=>st.at λo e=>k it (by simp) o e
 item:=by
  intro X hP hw hK hc i Aa s σ H E I hf st hg
  subst hP hw hK
  obtain⟨xs,x,hq,hx⟩:=hg
  obtain⟨its,rv,p,hz⟩:=I.tuple hq
  obtain⟨u,hu,ru⟩:=rv.get hx
  obtain⟨f0,f1,f2,f3,f4,f5⟩:=hf it (by simp)
  refine wpAny_pyNext_tuple_item st (show s.heap.IsTuple a its.toArray from p) (x:=u) (by simpa using hu) λh' st' sb=>?_
  have I1:Inv X Aa σ H { s with heap:=h' }:=I.turned (t':=s.toks) (λb o hb e=>(sb.2 b hb).trans e) f0 f1 f3 f4 f5
  obtain⟨o,e,c,d⟩:=id st'
  exact⟨u,rfl,w4 (s:={ s with heap:=h' }) e c d (by decide) ⟨x,H,I1,ru,⟨rfl,λys hy=>by rw[I.tuple_inj hy hq];exact hx⟩,st',λb hb=>(hf b hb).1⟩⟩
 done:=by
  intro X hP hw hK hc i Aa s σ H E I hf st hg
  subst hP hw hK
  obtain⟨xs,hq,hx⟩:=hg
  obtain⟨its,rv,p,hz⟩:=I.tuple hq
  obtain⟨f0,f1,f2,f3,f4,f5⟩:=hf it (by simp)
  have hl:=rv.length
  exact wpAny_pyNext_tuple_end (I.ok.hd hc) st (show s.heap.IsTuple a its.toArray from p) (by simp;lia) λh' eb=>⟨rfl,I.turned (t':=s.toks) (λb o hb e=>eb b o hb e) f0 f1 f3 f4 f5⟩
 self:=λ_ _ _ _ _ st h=>wpAny_pyIter_tupleiter st h
theorem b9{P:Program}{w:World}{K:eC}{tg:Expr}(it:Addr)(lo:Int)(n:Nat):Turn P w K tg (Itr lo n) [it] it (λi h=>IsRangeIter h it (lo+(i:Nat)*1) ((n:Int)-(i:Nat)) 1)where
 mem:=by simp
 obj:=λi h st b hb=>by
  have e:b=it:=by simpa using hb
  subst e
  exact⟨_,st,λv z=>by
   have z':Data.fields _=Data.cell v:=z
   cases z'⟩
 keep:=λi h h' st k=>k it (by simp) _ st
 item:=by
  intro X hP hw hK hc i Aa s σ H E I hf st hg
  subst hP hw hK
  obtain⟨f0,f1,f2,f3,f4,f5⟩:=hf it (by simp)
  have W:=Walks.range (prog:=X.prog) (w:=X.w) (I.ok.hd hc) it lo 1 n
  refine W.item i s _ _ hg st λv h' tk hv st' kk=>?_
  obtain⟨t,rfl⟩:=hv
  have I1:Inv X Aa σ H { s with heap:=h',toks:=tk }:=I.turned (λb o hb e=>kk b o (by simpa using hb) e) f0 f1 f3 f4 f5
  refine⟨_,rfl,w4 (s:={ s with heap:=h',toks:=tk }) (n:= "range_iterator") st' rfl rfl (by decide) ⟨.int (lo+i),H,I1,⟨t,?_⟩,⟨rfl,rfl⟩,st',λb hb=>(hf b hb).1⟩⟩
  rw[Int.mul_one]
 done:=by
  intro X hP hw hK hc i Aa s σ H E I hf st hg
  subst hP hw hK
  obtain⟨f0,f1,f2,f3,f4,f5⟩:=hf it (by simp)
  exact wpAny_pyNext_range_end (I.ok.hd hc) st (by have:n<=i:=hg;lia) λh' eb=>⟨rfl,I.turned (t':=s.toks) (λb o hb e=>eb b o hb e) f0 f1 f3 f4 f5⟩
 self:=λ_ _ _ _ _ st h=>wpAny_pyIter_rangeiter st h
section
variable{X:Cx}{tg:Expr}
def aVe(K:eC)(tl:TE):TI:=λσ H R=>tl σ H λx H1=>∃a,x=.ref a/\(∃xs,SqL K H1 a xs)/\R (Itl K a) H1
def aZh(K:eC)(tl:TE):TI:=λσ H R=>tl σ H λx H1=>∃a,x=.ref a/\(∃xs,SqT K H1 a xs)/\R (Itt K a) H1
theorem aJx{l:Expr}{tl:TE}(hl:PE X l tl):PI X tg l (aVe X.K tl):=by
 intro Aa s σ H R I h
 refine eO (hl Aa s σ H _ I h) λv s1 ⟨x,H1,I1,r1,q1⟩=>?_
 obtain⟨a,e,⟨xs,hq⟩,q⟩:=q1
 subst e
 cases r1
 obtain⟨its,rv,p,hz⟩:=I1.list hq
 refine wpAny_pyIter_list p.isList ?_
 refine⟨s1.heap.objs.size,[s1.heap.objs.size],_,_,H1,rfl,I1.kept (t':=s1.toks) λb o e=>aD _ e,aAq a _,⟨_,aY _ rfl,rfl,rfl⟩,λb hb=>?_,q⟩
 have e:b=s1.heap.objs.size:=by simpa using hb
 subst e
 exact I1.fpOk (aP _) (I1.hok.fresh (aP _))
theorem aOs{l:Expr}{tl:TE}(hl:PE X l tl):PI X tg l (aZh X.K tl):=by
 intro Aa s σ H R I h
 refine eO (hl Aa s σ H _ I h) λv s1 ⟨x,H1,I1,r1,q1⟩=>?_
 obtain⟨a,e,⟨xs,hq⟩,q⟩:=q1
 subst e
 cases r1
 obtain⟨its,rv,p,hz⟩:=I1.tuple hq
 refine wpAny_pyIter_tuple (show s1.heap.IsTuple a its.toArray from p) ?_
 refine⟨s1.heap.objs.size,[s1.heap.objs.size],_,_,H1,rfl,I1.kept (t':=s1.toks) λb o e=>aD _ e,b8 a _,⟨_,aY _ rfl,rfl,rfl⟩,λb hb=>?_,q⟩
 have e:b=s1.heap.objs.size:=by simpa using hb
 subst e
 exact I1.fpOk (aP _) (I1.hok.fresh (aP _))
theorem aEp{Aa:fG}{σ:St}{H:Hp}{s:Shared}{R:It->Hp->Prop}{E:fF}{lo hi:Int}{t u v:Tok}{tk:Nat}(I:Inv X Aa σ H s)(h1 : -(2^62)<=lo)(h2:lo<2^62)(h3 : -(2^62)<=hi)(h4:hi<2^62)
  (q:R (Itr lo (hi-lo).toNat) H):wpAny (model X.prog X.w) X.A (pyIter (.ref s.heap.objs.size)) (PIE X Aa σ tg R) E { s with heap:=s.heap.push { cls:=.type "range",data:=.fields #[.int lo t,.int hi u,.int 1 v] },toks:=tk }:=by
 refine wpAny_pyIter_range (IsRange.new ..) (small_one h1 h2 h3 h4) ?_
 have I1:Inv X Aa σ H { s with heap:=s.heap.push { cls:=.type "range",data:=.fields #[.int lo t,.int hi u,.int 1 v] },toks:=tk }:=I.kept λb o e=>aD _ e
 refine⟨(s.heap.push { cls:=.type "range",data:=.fields #[.int lo t,.int hi u,.int 1 v] }).objs.size,[(s.heap.push { cls:=.type "range",data:=.fields #[.int lo t,.int hi u,.int 1 v] }).objs.size],_,_,H,rfl,
  I1.kept (t':=tk) λb o e=>aD _ e,b9 _ lo (hi-lo).toNat,?_,λb hb=>?_,q⟩
 ·have e1:lo + ((0:Nat):Int) * 1=lo:=by simp
  have e2:(((hi-lo).toNat:Nat):Int)-((0:Nat):Int)=Builtin.Range.rangeSize lo hi 1:=by rw[rangeSize_one];split<;>lia
  show IsRangeIter _ _ (lo+((0:Nat):Int)*1) ((((hi-lo).toNat:Nat):Int)-((0:Nat):Int)) 1
  rw[e1,e2]
  exact aY _ rfl
 ·have e:b=(s.heap.push { cls:=.type "range",data:=.fields #[.int lo t,.int hi u,.int 1 v] }).objs.size:=by simpa using hb
  subst e
  exact I1.fpOk (aP _) (I1.hok.fresh (aP _))
def aVd(ta:TA):TI:=λσ H R=>ta σ H λvs H1=>∃j:Int,vs=[.int j] /\ -(2^62)<=j/\j<2^62/\R (Itr 0 j.toNat) H1
theorem ik_{a:Expr}{ta:TA}{p pos:Pos}(hg:Gl X "range")(hm:X.mg "range" = none)(ha:PA X [a] ta)(hs:starEach [a] X.env=[(false,eval a X.env)]:=by rfl):PI X tg (.Call (.Name "range" p) [a] [] pos) (aVd ta):=by
 intro Aa s σ H R I h
 refine Call_ (hm_ I hg hm boot_range (fC (eO (ha pos Aa s σ H _ I h) λus s1 ⟨vs,H1,I1,r1,q1⟩=>?_) hs rfl))
 obtain⟨j,e,q1,q2,q⟩:=q1
 subst e
 cases r1 with
 |cons r rr =>
  cases rr
  obtain⟨t,rfl⟩:=r
  exact call_range_1 (aEp I1 (by lia) (by lia) q1 q2 (by simpa using q))
def aJf(wi:TI)(g:TG)(tb:TS):TS:=λD σ H=>wi σ H λJ H1=>∃W:Nat->Nat->St->Hp->Prop,(∃m,W 0 m σ H1)/\∀i m σ H,W i m σ H ->
 (J.stop i H/\D.nx σ H)\/(J.go i H/\∃N:St->Hp->Prop,(∀σ' H',N σ' H'->∃m',m'<m/\W (i+1) m' σ' H')/\∀x H',J.yld i H x H'->g x σ H' λσ2 H2=>tb { D with nx:=N,ct:=N,bk:=D.nx } σ2 H2)
def pN(fp:List Addr)(h:Heap):List (Addr×Obj):=fp.filterMap λb=>(h.get? b).map λo=>(b,o)
theorem fp_{fp:List Addr}{h:Heap}{b:Addr}{o:Obj}(hb:b∈fp)(e:h.get? b=some o):(b,o)∈pN fp h:=List.mem_filterMap.mpr ⟨b,hb,by rw[e];rfl⟩
theorem aBh{fp:List Addr}{h:Heap}{p:Addr×Obj}(hp:p∈pN fp h):p.1∈fp/\h.get? p.1=some p.2:=by
 obtain⟨b,hb,e⟩:=List.mem_filterMap.mp hp
 cases q:h.get? b with
 |none=>rw[q]at e;cases e
 |some o =>
  rw[q]at e
  have e':(b,o)=p:=ozI e
  subst e'
  exact⟨hb,q⟩
theorem Inv.pinned{Aa:fG}{σ:St}{H:Hp}{s:Shared}{fp:List Addr}(I:Inv X Aa σ H s)(hf:∀b∈fp,lN X Aa H b)(ho:∀b∈fp,∃o,s.heap.get? b=some o/\∀v,o.data ≠ .cell v):Inv X (Aa++pN fp s.heap) σ H s:=
 I.pins_of λp hp=>(bK.mp hp).elim (λz=>I.pin p (aI _ z)) λz=>by
  obtain⟨hb,e⟩:=aBh z
  obtain⟨f0,f1,f2,_⟩:=hf p.1 hb
  obtain⟨o,e',d⟩:=ho p.1 hb
  rw[e]at e';cases e'
  exact⟨e,f0,f1,f2,d⟩
theorem Inv.unpinned{Aa pl:fG}{σ:St}{H:Hp}{s:Shared}(I:Inv X (Aa++pl) σ H s):Inv X Aa σ H s:=I.pins_of λp hp=>I.pin p (aI _ (bF _ hp))
theorem uU{iter:Expr}{body:List Stmt}{wi:TI}{g:TG}{tb:TS}{pos:Pos}(hp:PassesOwn (model X.prog X.w) X.A X.env X.xe)(hc:X.calm=true)(hi:PI X tg iter wi)(hg:PG X tg g)(hb:PSs X body tb)
  (hs:∀x,foldedSetIterable iter X.env x=pure x:=by intro _;rfl):PS X (.For tg iter body [] pos) (aJf wi g tb):=by
 intro Aa s σ H D I h
 refine wpAny_For (eO (hi Aa s σ H _ I h) λv s1 h1=>eO h1 λitv s2 h2=>?_) hs
 obtain⟨it,fp,tn,J,H2,e,I2,T,Fy,f2,W,⟨m0,w0⟩,turn⟩:=h2
 subst e
 have stat:∀{H':Hp},(∀b∈fp,H' b=none)->∀b∈fp,lN X Aa H' b:=λhn b hb=>⟨hn b hb,(f2 b hb).2⟩
 refine codeAny_forLoop_any (λn s'=>∃i σ' H',Inv X Aa σ' H' s'/\tn i s'.heap/\(∀b∈fp,H' b=none)/\W i n σ' H') ?_ m0 ⟨0,σ,H2,I2,Fy,λb hb=>(f2 b hb).1,w0⟩
 rintro n s3 ⟨i,σ3,H3,I3,Mf,M7,w3⟩
 rcases turn i n σ3 H3 w3 with⟨stop,qn⟩ | ⟨go,N,hN,step⟩
 ·refine wpAny_passesOwn hp (eO (T.done X rfl rfl rfl hc i Aa s3 σ3 H3 X.xe I3 (stat M7) Mf stop) fun r s4 ⟨hr,I4⟩ => ?_)
  subst hr
  exact wpAny_execs_nil ⟨σ3,H3,I4,qn⟩
 ·refine wpAny_passesOwn hp (eO (T.item X rfl rfl rfl hc i Aa s3 σ3 H3 X.xe I3 (stat M7) Mf go) fun r s4 ⟨u,hr,h4⟩ => ?_)
  subst hr
  refine wpAny_passesOwn hp (eO h4 λ_ s5 ⟨x,H5,I5,r5,y5,Fw,Lr⟩=>?_)
  have I5':=I5.pinned (stat Lr) (T.obj _ _ Fw)
  refine wpAny_passesOwn hp (eO (hg _ s5 σ3 H5 x u _ I5' r5 (step x H5 y5)) λ_ s6 ⟨σ6,H6,I6,q6⟩=>?_)
  refine wpAny_passesOwn hp (eO (hb _ s6 σ6 H6 _ I6 q6) λf s7 q7=>?_)
  have again:∀{σ7:St} {H7:Hp},Inv X (Aa++pN fp s5.heap) σ7 H7 s7->N σ7 H7->∃m,m<n/\∃i σ' H',Inv X Aa σ' H' s7/\tn i s7.heap/\(∀b∈fp,H' b=none)/\W i m σ' H':=λ{σ7 H7} I7 n7=>by
   obtain⟨m',hm,w7⟩:=hN σ7 H7 n7
   refine⟨m',hm,i+1,σ7,H7,I7.unpinned,T.keep _ _ _ Fw λb hb o e=>(I7.pin (b,o) (aI _ (aI _ (fp_ hb e)))).1,λb hb=>?_,w7⟩
   obtain⟨o,e,d⟩:=T.obj _ _ Fw b hb
   exact(I7.pin (b,o) (aI _ (aI _ (fp_ hb e)))).2.1
  cases f with
  |next=>obtain⟨σ7,H7,I7,n7⟩:=q7;exact again I7 n7
  |cont=>obtain⟨σ7,H7,I7,n7⟩:=q7;exact again I7 n7
  |brk=>obtain⟨σ7,H7,I7,q7⟩:=q7;exact⟨σ7,H7,I7.unpinned,q7⟩
  |ret v=>obtain⟨x7,σ7,H7,I7,r7,q7⟩:=q7;exact⟨x7,σ7,H7,I7.unpinned,r7,q7⟩
end
theorem aCa{lo:Int}{n:Nat}{g:TG}{tb:TS}{D:Ends}{σ:St}{H:Hp}(Pv:Nat->St->Hp->Prop)(h0:Pv 0 σ H)
  (hs:∀i σ H,i<n->Pv i σ H->g (.int (lo+i)) σ H λσ2 H2=>tb { D with nx:=Pv (i+1),ct:=Pv (i+1),bk:=D.nx } σ2 H2) (hd:∀σ H,Pv n σ H->D.nx σ H) :
  ∃W:Nat->Nat->St->Hp->Prop,(∃m,W 0 m σ H)/\∀i m σ H,W i m σ H ->
   ((Itr lo n).stop i H/\D.nx σ H)\/((Itr lo n).go i H/\∃N:St->Hp->Prop,(∀σ' H',N σ' H'->∃m',m'<m/\W (i+1) m' σ' H')/\∀x H',(Itr lo n).yld i H x H'->g x σ H' λσ2 H2=>tb { D with nx:=N,ct:=N,bk:=D.nx } σ2 H2):=by
 refine⟨λi m σ H=>m=n-i/\i<=n/\Pv i σ H,⟨n,by simp,eS _,h0⟩,?_⟩
 rintro i m σ H ⟨rfl,hi,p⟩
 by_cases Bf:i<n
 ·refine .inr ⟨Bf,Pv (i + 1),fun σ' H' p'=>⟨n - (i + 1),by lia,rfl,Bf,p'⟩,fun x H' y => ?_⟩
  obtain⟨e,y⟩:=y
  subst e y
  exact hs i σ _ Bf p
 ·have e:i=n:=by lia
  subst e
  exact .inl ⟨aP _,hd σ H p⟩
abbrev R2:=V->V->Hp->VK->Prop
def OpR(X:Cx)(f:Value->Value->Sem Value)(r:R2):Prop:=
 ∀(Aa:fG) (s:Shared) (σ:St) (H:Hp) (x y:V) (v u:Value) (Q:VK),Inv X Aa σ H s->RelV x v->RelV y u->r x y H Q ->
  wpAny (model X.prog X.w) X.A (f v u) (EP X Aa σ Q) X.xe s
def UnR(X:Cx)(f:Value->Sem Value)(r:V->Hp->VK->Prop):Prop:=
 ∀(Aa:fG) (s:Shared) (σ:St) (H:Hp) (x:V) (v:Value) (Q:VK),Inv X Aa σ H s->RelV x v->r x H Q ->
  wpAny (model X.prog X.w) X.A (f v) (EP X Aa σ Q) X.xe s
def CallR(X:Cx)(f:Value)(r:List V->Hp->VK->Prop):Prop:=
 ∀(Aa:fG) (s:Shared) (σ:St) (H:Hp) (xs:List V) (us:List Value) (Q:VK),Inv X Aa σ H s->Vals xs us->r xs H Q ->
  wpAny (model X.prog X.w) X.A (call f us) (EP X Aa σ Q) X.xe s
def tOp(r:R2)(ta tb:TE):TE:=λσ H Q=>ta σ H λx H1=>tb σ H1 λy H2=>r x y H2 Q
def tUn(r:V->Hp->VK->Prop)(ta:TE):TE:=λσ H Q=>ta σ H λx H1=>r x H1 Q
def rI(C:Int->Int->Prop)(g:Int->Int->V):R2:=λx y H Q=>∃i j,x=.int i/\y=.int j/\C i j/\Q (g i j) H
def rI0(g:Int->Int->V):R2:=λx y H Q=>∃i j,x=.int i/\y=.int j/\Q (g i j) H
def rU(g:Int->V):V->Hp->VK->Prop:=λx H Q=>∃i,x=.int i/\Q (g i) H
section
variable{X:Cx}{a b c:Expr}{ta tb tc:TE}{pos:Pos}
theorem aSd(ha:PE X a ta)(hb:PE X b tb){Aa:fG}{s:Shared}{σ:St}{H:Hp}{R:V->V->Hp->Prop}(I:Inv X Aa σ H s)
  (h:ta σ H λx H1=>tb σ H1 λy H2=>R x y H2) {Q:fF} {f:Value->Value->Sem Value}
  (hf:∀v u s2 x y H2,Inv X Aa σ H2 s2->RelV x v->RelV y u->R x y H2->wpAny (model X.prog X.w) X.A (f v u) Q X.xe s2) :
  wpAny (model X.prog X.w) X.A (eval a X.env) (λv s₁=>wpAny (model X.prog X.w) X.A (eval b X.env) (λu s₂=>wpAny (model X.prog X.w) X.A (f v u) Q X.xe s₂) X.xe s₁) X.xe s:=by
 refine eO (ha Aa s σ H _ I h) λv s1 ⟨x,H1,I1,r1,q1⟩=>?_
 refine eO (hb Aa s1 σ H1 _ I1 q1) λu s2 ⟨y,H2,I2,r2,q2⟩=>?_
 exact hf v u s2 x y H2 I2 r1 r2 q2
theorem nH{op:Operator}{r:R2}(ho:OpR X (binaryOp op) r)(ha:PE X a ta)(hb:PE X b tb):PE X (.BinOp a op b pos) (tOp r ta tb):=by
 intro Aa s σ H Q I h
 exact wpAny_BinOp (aSd ha hb I h λv u s2 x y H2 I2 rx ry q=>ho Aa s2 σ H2 x y v u Q I2 rx ry q)
theorem t6{op:UnaryOp}{r:V->Hp->VK->Prop}(ho:UnR X (unaryOp op) r)(ha:PE X a ta):PE X (.UnaryOp op a pos) (tUn r ta):=by
 intro Aa s σ H Q I h
 exact UnaryOp_ (eO (ha Aa s σ H _ I h) λv s1 ⟨x,H1,I1,r1,q1⟩=>ho Aa s1 σ H1 x v Q I1 r1 q1)
theorem opI{f:Value->Value->Sem Value}{C:Int->Int->Prop}{g:Int->Int->Int}
  (rule:∀(i j:Int) (t u:Tok) (s:Shared) (Q:fF) (E:fF),C i j->Q (.int (g i j) s.toks) { s with toks:=s.toks+1 }->wpAny (model X.prog X.w) X.A (f (.int i t) (.int j u)) Q E s) :
  OpR X f (rI C λi j=>.int (g i j)):=by
 intro Aa s σ H x y v u Q I rx ry h
 obtain⟨i,j,rfl,rfl,hc,q⟩:=h
 obtain⟨t,rfl⟩:=rx
 obtain⟨t',rfl⟩:=ry
 exact rule i j t t' s _ _ hc ⟨.int (g i j),H,I.tok _,⟨_,rfl⟩,q⟩
theorem aUo{f:Value->Value->Sem Value}{g:Int->Int->Int}
  (rule:∀(i j:Int) (t u:Tok) (s:Shared) (Q:fF) (E:fF),Q (.int (g i j) s.toks) { s with toks:=s.toks+1 }->wpAny (model X.prog X.w) X.A (f (.int i t) (.int j u)) Q E s) :
  OpR X f (rI0 λi j=>.int (g i j)):=by
 intro Aa s σ H x y v u Q I rx ry h
 obtain⟨i,j,rfl,rfl,q⟩:=h
 obtain⟨t,rfl⟩:=rx
 obtain⟨t',rfl⟩:=ry
 exact rule i j t t' s _ _ ⟨.int (g i j),H,I.tok _,⟨_,rfl⟩,q⟩
theorem aKh{f:Value->Value->Sem Value}{g:Int->Int->Bool}
  (rule:∀(i j:Int) (t u:Tok) (s:Shared) (Q:fF) (E:fF),Q (.bool (g i j)) s->wpAny (model X.prog X.w) X.A (f (.int i t) (.int j u)) Q E s) :
  OpR X f (rI0 λi j=>.bl (g i j)):=by
 intro Aa s σ H x y v u Q I rx ry h
 obtain⟨i,j,rfl,rfl,q⟩:=h
 obtain⟨t,rfl⟩:=rx
 obtain⟨t',rfl⟩:=ry
 exact rule i j t t' s _ _ ⟨.bl (g i j),H,I,rfl,q⟩
def aSp(i j:Int):Prop:=0<=j/\j<=1000000/\i.natAbs<2^64
theorem jD:OpR X (binaryOp .Add) (rI0 λi j=>.int (i+j)):=aUo λ_ _ _ _ _ _ _ q=>add_int q
theorem aPf:OpR X (binaryOp .Sub) (rI0 λi j=>.int (i-j)):=aUo λ_ _ _ _ _ _ _ q=>sub_int q
theorem mK:OpR X (binaryOp .Mod) (rI (λ_ j=>0<j) λi j=>.int (i%j)):=opI λi j _ _ _ _ _ hc q=>by
 have h1:(0:Int)<j:=hc
 exact mod_int' (by lia) (by rw[Int.fmod_eq_emod_of_nonneg i (by lia)];exact q)
theorem aPh:OpR X (binaryOp .Pow) (rI aSp λi j=>.int (i^j.toNat)):=opI λ_ _ _ _ _ _ _ hc q=>pow_int_small hc.1 hc.2.1 hc.2.2 q
theorem unI{f:Value->Sem Value}{g:Int->Int}
  (rule:∀(i:Int) (t:Tok) (s:Shared) (Q:fF) (E:fF),Q (.int (g i) s.toks) { s with toks:=s.toks+1 }->wpAny (model X.prog X.w) X.A (f (.int i t)) Q E s) :
  UnR X f (rU λi=>.int (g i)):=by
 intro Aa s σ H x v Q I rx h
 obtain⟨i,rfl,q⟩:=h
 obtain⟨t,rfl⟩:=rx
 exact rule i t s _ _ ⟨.int (g i),H,I.tok _,⟨_,rfl⟩,q⟩
theorem uE:UnR X (unaryOp .USub) (rU λi=>.int (-i)):=unI λ_ _ _ _ _ q=>neg_int q
end
def aOi:V->V->Bool
 | .non,.non=>true | .non,.int _=>true | .int _,.non=>true | .non,.bl _=>true | .bl _,.non=>true | .non,.str _=>true | .str _,.non=>true
 | .int _,.int _=>true | .bl _,.bl _=>true | .str _,.str _=>true | .byt _,.byt _=>true
 | .int _,.str _=>true | .str _,.int _=>true | .bl _,.str _=>true | .str _,.bl _=>true
 |_,_=>false
def rEq:R2:=λx y H Q=>aOi x y=true/\Q (.bl (decide (x=y))) H
def rNe:R2:=λx y H Q=>aOi x y=true/\Q (.bl (!decide (x=y))) H
theorem z9{i j:Int}:decide (V.int i=V.int j)=(i == j):=by
 rw[Bool.eq_iff_iff]
 simp
theorem aHm{i j:Bool}:decide (V.bl i=V.bl j)=(i == j):=by
 rw[Bool.eq_iff_iff]
 simp
theorem y_{i j:Str}:decide (V.str i=V.str j)=(i == j):=by
 rw[Bool.eq_iff_iff]
 simp
theorem z_{i j:Array UInt8}:decide (V.byt i=V.byt j)=(i.toList == j.toList):=by
 rw[Bool.eq_iff_iff]
 cases i
 cases j
 simp
section
variable{X:Cx}{a b c:Expr}{ta tb tc:TE}{pos:Pos}
theorem lG{Aa:fG}{σ:St}{H:Hp}{s:Shared}{Q:VK}{k k':Bool}(I:Inv X Aa σ H s)(q:Q (.bl k) H)(e:k=k'):EP X Aa σ Q (.bool k') s:=by
 subst e
 exact⟨.bl k,H,I,rfl,q⟩
theorem u0:OpR X (compareOp .Eq) rEq:=by
 intro Aa s σ H x y v u Q I rx ry h
 obtain⟨hs,q⟩:=h
 cases x with
 |non =>
  cases rx
  cases y with
  |non=>cases ry;exact PySem.EqNone.eq_none_none (lG I q (by simp))
  |bl j=>cases ry;exact PySem.EqNone.eq_none_bool (lG I q (by simp))
  |int j=>obtain⟨t',rfl⟩:=ry;exact PySem.EqNone.eq_none_int (lG I q (by simp))
  |str j=>obtain⟨t',rfl⟩:=ry;exact PySem.EqNone.eq_none_str (lG I q (by simp))
  |_=>exact absurd (show false=true from hs) aG
 |bl i =>
  cases rx
  cases y with
  |non=>cases ry;exact PySem.EqNone.eq_bool_none (lG I q (by simp))
  |bl j=>cases ry;exact eq_bool (lG I q aHm)
  |str j=>obtain⟨t',rfl⟩:=ry;exact PySem.EqMixed.eq_bool_str (lG I q (by simp))
  |_=>exact absurd (show false=true from hs) aG
 |int i =>
  obtain⟨t,rfl⟩:=rx
  cases y with
  |non=>cases ry;exact PySem.EqNone.eq_int_none (lG I q (by simp))
  |int j=>obtain⟨t',rfl⟩:=ry;exact eq_int (lG I q z9)
  |str j=>obtain⟨t',rfl⟩:=ry;exact PySem.EqMixed.eq_int_str (lG I q (by simp))
  |_=>exact absurd (show false=true from hs) aG
 |str i =>
  obtain⟨t,rfl⟩:=rx
  cases y with
  |non=>cases ry;exact PySem.EqNone.eq_str_none (lG I q (by simp))
  |bl j=>cases ry;exact PySem.EqMixed.eq_str_bool (lG I q (by simp))
  |int j=>obtain⟨t',rfl⟩:=ry;exact PySem.EqMixed.eq_str_int (lG I q (by simp))
  |str j=>obtain⟨t',rfl⟩:=ry;exact eq_str (lG I q y_)
  |_=>exact absurd (show false=true from hs) aG
 |byt i =>
  obtain⟨t,rfl⟩:=rx
  cases y with
  |byt j=>obtain⟨t',rfl⟩:=ry;exact PySem.W.eq_bytes (lG I q z_)
  |_=>exact absurd (show false=true from hs) aG
 |_=>cases y<;>exact absurd (show false=true from hs) aG
theorem aUn:OpR X (compareOp .NotEq) rNe:=by
 intro Aa s σ H x y v u Q I rx ry h
 obtain⟨hs,q⟩:=h
 cases x with
 |non =>
  cases rx
  cases y with
  |non=>cases ry;exact PySem.EqNone.ne_none_none (lG I q (by simp))
  |bl j=>cases ry;exact PySem.EqNone.ne_none_bool (lG I q (by simp))
  |int j=>obtain⟨t',rfl⟩:=ry;exact PySem.EqNone.ne_none_int (lG I q (by simp))
  |str j=>obtain⟨t',rfl⟩:=ry;exact PySem.EqNone.ne_none_str (lG I q (by simp))
  |_=>exact absurd (show false=true from hs) aG
 |bl i =>
  cases rx
  cases y with
  |non=>cases ry;exact PySem.EqNone.ne_bool_none (lG I q (by simp))
  |bl j=>cases ry;exact ne_bool (lG I q (congrArg not aHm))
  |str j=>obtain⟨t',rfl⟩:=ry;exact PySem.EqMixed.ne_bool_str (lG I q (by simp))
  |_=>exact absurd (show false=true from hs) aG
 |int i =>
  obtain⟨t,rfl⟩:=rx
  cases y with
  |non=>cases ry;exact PySem.EqNone.ne_int_none (lG I q (by simp))
  |int j=>obtain⟨t',rfl⟩:=ry;exact ne_int (lG I q (congrArg not z9))
  |str j=>obtain⟨t',rfl⟩:=ry;exact PySem.EqMixed.ne_int_str (lG I q (by simp))
  |_=>exact absurd (show false=true from hs) aG
 |str i =>
  obtain⟨t,rfl⟩:=rx
  cases y with
  |non=>cases ry;exact PySem.EqNone.ne_str_none (lG I q (by simp))
  |bl j=>cases ry;exact PySem.EqMixed.ne_str_bool (lG I q (by simp))
  |int j=>obtain⟨t',rfl⟩:=ry;exact PySem.EqMixed.ne_str_int (lG I q (by simp))
  |str j=>obtain⟨t',rfl⟩:=ry;exact ne_str (lG I q (congrArg not y_))
  |_=>exact absurd (show false=true from hs) aG
 |byt i =>
  obtain⟨t,rfl⟩:=rx
  cases y with
  |byt j=>obtain⟨t',rfl⟩:=ry;exact PySem.W.ne_bytes (lG I q (congrArg not z_))
  |_=>exact absurd (show false=true from hs) aG
 |_=>cases y<;>exact absurd (show false=true from hs) aG
theorem pR:OpR X (compareOp .Lt) (rI0 λi j=>.bl (decide (i<j))):=aKh λ_ _ _ _ _ _ _ q=>lt_int q
theorem xS:OpR X (compareOp .LtE) (rI0 λi j=>.bl (decide (i<=j))):=aKh λ_ _ _ _ _ _ _ q=>le_int q
theorem aFo:OpR X (compareOp .Gt) (rI0 λi j=>.bl (decide (j<i))):=aKh λ_ _ _ _ _ _ _ q=>gt_int q
theorem aNe:OpR X (compareOp .GtE) (rI0 λi j=>.bl (decide (j<=i))):=aKh λ_ _ _ _ _ _ _ q=>ge_int q
theorem aPi:OpR X (compareOp .Is) (λx y H Q=>y=.non/\Q (.bl (decide (x=.non))) H):=by
 intro Aa s σ H x y v u Q I rx ry h
 obtain⟨rfl,q⟩:=h
 cases ry
 refine is_none_gen (lG I q ?_)
 cases x<;>first
  |(cases rx;rfl)
  |(obtain⟨t,rfl⟩:=rx;rfl)
theorem OpR.or{f:Value->Value->Sem Value}{r r':R2}(h:OpR X f r)(h':OpR X f r'):OpR X f (λx y H Q=>r x y H Q\/r' x y H Q):=by
 intro Aa s σ H x y v u Q I rx ry q
 rcases q with q | q
 ·exact h Aa s σ H x y v u Q I rx ry q
 ·exact h' Aa s σ H x y v u Q I rx ry q
theorem bR(b:Expr){op:CmpOp}(h:op ≠ .In:=by decide)(h2:op ≠ .NotIn:=by decide):behindInMarks op b=false:=by
 have e1:(op == CmpOp.In)=false:=by cases op<;>first | rfl | exact absurd rfl h
 have e2:(op == CmpOp.NotIn)=false:=by cases op<;>first | rfl | exact absurd rfl h2
 cases b<;>simp[behindInMarks,e1,e2]
theorem aKd{op:CmpOp}{r:R2}(ho:OpR X (compareOp op) r)(ha:PE X a ta)(hb:PE X b tb)(hm:behindInMarks op b=false):PE X (.Compare a [op] [b] pos) (tOp r ta tb):=by
 intro Aa s σ H Q I h
 exact wpAny_Compare1 (aSd ha hb I h λv u s2 x y H2 I2 rx ry q=>ho Aa s2 σ H2 x y v u Q I2 rx ry q) hm
def aEb(t:TE):TT:=λσ H Q=>t σ H λx H'=>∃k,x=.bl k/\Q k H'
theorem ha_{op:CmpOp}{r:R2}(ho:OpR X (compareOp op) r)(ha:PE X a ta)(hb:PE X b tb)(hm:behindInMarks op b=false):PT X (.Compare a [op] [b] pos) (aEb (tOp r ta tb)):=by
 intro Aa s σ H Q I h
 refine wpAny_isTrue_Compare1 (eO (ha Aa s σ H _ I h) λv s1 ⟨x,H1,I1,r1,q1⟩=>eO (hb Aa s1 σ H1 _ I1 q1) λu s2 ⟨y,H2,I2,r2,q2⟩ =>
  eO (ho Aa s2 σ H2 x y v u _ I2 r1 r2 q2) λc s3 ⟨z,H3,I3,r3,k,e,q3⟩=>?_) hm
 subst e
 cases r3
 exact wpAny_truthy_bool ⟨H3,I3,q3⟩
def c6(r r':R2)(ta tb tc:TE):TE:=λσ H Q=>ta σ H λx H1=>tb σ H1 λy H2=>r x y H2 λz H3=>∃k,z=.bl k /\
 (if k=true then tc σ H3 λw' H4=>r' y w' H4 Q else Q (.bl false) H3)
theorem aFg{op op':CmpOp}{r r':R2}(ho:OpR X (compareOp op) r)(Dk:OpR X (compareOp op') r')(ha:PE X a ta)(hb:PE X b tb)(hc:PE X c tc)
  (hm:lastMarks [op,op'] [b,c]=false:=by with_unfolding_all rfl):PE X (.Compare a [op,op'] [b,c] pos) (c6 r r' ta tb tc):=by
 intro Aa s σ H Q I h
 refine Compare_chain (eO (ha Aa s σ H _ I h) λv s1 ⟨x,H1,I1,r1,q1⟩=>chain_link (eO (hb Aa s1 σ H1 _ I1 q1) λu s2 ⟨y,H2,I2,r2,q2⟩ =>
  eO (ho Aa s2 σ H2 x y v u _ I2 r1 r2 q2) λd s3 ⟨z,H3,I3,r3,k,e,q3⟩=>?_)) hm
 subst e
 cases r3
 refine wpAny_truthy_bool ?_
 cases k with
 |false=>exact ite_ff ⟨.bl false,H3,I3,rfl,q3⟩
 |true=>exact ite_tt (chain_last (eO (hc Aa s3 σ H3 _ I3 q3) λw' s4 ⟨z',H4,I4,r4,q4⟩=>Dk Aa s4 σ H4 y z' u w' Q I4 r2 r4 q4))
theorem aEz{op op':CmpOp}{r r':R2}(ho:OpR X (compareOp op) r)(Dk:OpR X (compareOp op') r')(ha:PE X a ta)(hb:PE X b tb)(hc:PE X c tc)
  (hm:lastMarks [op,op'] [b,c]=false:=by with_unfolding_all rfl):PT X (.Compare a [op,op'] [b,c] pos) (aEb (c6 r r' ta tb tc)):=by
 intro Aa s σ H Q I h
 refine isTrue_chain (eO (ha Aa s σ H _ I h) λv s1 ⟨x,H1,I1,r1,q1⟩=>test_link (eO (hb Aa s1 σ H1 _ I1 q1) λu s2 ⟨y,H2,I2,r2,q2⟩ =>
  eO (ho Aa s2 σ H2 x y v u _ I2 r1 r2 q2) λd s3 ⟨z,H3,I3,r3,k,e,q3⟩=>?_)) hm
 subst e
 cases r3
 refine wpAny_truthy_bool ?_
 cases k with
 |false =>
  obtain⟨k',e',q'⟩:=q3
  cases e'
  exact ite_ff ⟨H3,I3,q'⟩
 |true =>
  refine ite_tt (test_last (eO (hc Aa s3 σ H3 _ I3 q3) λw' s4 ⟨z',H4,I4,r4,q4⟩=>eO (Dk Aa s4 σ H4 y z' u w' _ I4 r2 r4 q4) λd' s5 ⟨z2,H5,I5,r5,k2,e2,q5⟩=>?_))
  subst e2
  cases r5
  exact wpAny_truthy_bool ⟨H5,I5,q5⟩
theorem mP:(sizeLine:Nat)<2^63:=by rw[sizeLine_eq];decide
theorem jC:OpR X (binaryOp .Add) (λx y H Q=>∃i j,x=.str i/\y=.str j/\i.length+j.length<=sizeLine/\Q (.str (i++j)) H):=by
 intro Aa s σ H x y v u Q I rx ry h
 obtain⟨i,j,rfl,rfl,hz,q⟩:=h
 obtain⟨t,rfl⟩:=rx
 obtain⟨t',rfl⟩:=ry
 exact add_str (λt' tk=>⟨.str (i++j),H,I.tok _,⟨_,rfl⟩,q⟩) hz
theorem iB{x:V}{us:List Value}(r:Vals [x] us):∃u,us=[u]/\RelV x u:=by
 cases r with
 |cons r1 r2=>cases r2;exact⟨_,rfl,r1⟩
theorem pE{x y:V}{us:List Value}(r:Vals [x,y] us):∃u w',us=[u,w']/\RelV x u/\RelV y w':=by
 cases r with
 |cons r1 r2 =>
  cases r2 with
  |cons r3 r4=>cases r4;exact⟨_,_,rfl,r1,r3⟩
theorem aCo(hc:X.calm=true):CallR X (.builtin "max") (λxs H Q=>∃i j,xs=[.int i,.int j]/\Q (.int (if j>i then j else i)) H):=by
 intro Aa s σ H xs us Q I r h
 obtain⟨i,j,rfl,q⟩:=h
 obtain⟨u,w',rfl,⟨t,rfl⟩,⟨t',rfl⟩⟩:=pE r
 refine max_two_ints (I.ok.hd hc) λh' tk k=>⟨_,H,I.kept k,?_,q⟩
 by_cases hj:j>i
 ·rw[if_pos hj,if_pos hj];exact⟨_,rfl⟩
 ·rw[if_neg hj,if_neg hj];exact⟨_,rfl⟩
theorem aCk(hc:X.calm=true):CallR X (.builtin "min") (λxs H Q=>∃i j,xs=[.int i,.int j]/\Q (.int (if j<i then j else i)) H):=by
 intro Aa s σ H xs us Q I r h
 obtain⟨i,j,rfl,q⟩:=h
 obtain⟨u,w',rfl,⟨t,rfl⟩,⟨t',rfl⟩⟩:=pE r
 refine min_two_ints (I.ok.hd hc) λh' tk k=>⟨_,H,I.kept k,?_,q⟩
 by_cases hj:j<i
 ·rw[if_pos hj,if_pos hj];exact⟨_,rfl⟩
 ·rw[if_neg hj,if_neg hj];exact⟨_,rfl⟩
theorem tL:CallR X (.type "int") (λxs H Q=>(∃i,xs=[.int i]/\Q (.int i) H)\/∃k,xs=[.bl k]/\Q (.int (if k then 1 else 0)) H):=by
 intro Aa s σ H xs us Q I r h
 rcases h with⟨i,rfl,q⟩ | ⟨k,rfl,q⟩
 ·obtain ⟨u,rfl,t,rfl⟩:=iB r
  exact call_int_int ⟨.int i,H,I,⟨_,rfl⟩,q⟩
 ·obtain ⟨u,rfl,r1⟩:=iB r
  cases r1
  exact call_int_bool ⟨.int (if k then 1 else 0),H,I.tok _,⟨_,rfl⟩,q⟩
end
structure ObjM(h:Heap)(x dx C:Addr)(mA:kW):Prop where
 obj:h.get? x=some (PySem.W.instObj C dx)
 ns:h.Ns1 dx mA
 ne:dx≠x
theorem aBo{h:Heap}{dx:Addr}{mA:kW}(n:h.Ns1 dx mA):∃od,h.get? dx=some od/\∀name,PySem.W.lookIn name od=some (mA name):=by
 obtain⟨o,es,ep,ho,hd,hk,_,hm⟩:=n
 refine⟨o,ho,λname=>?_⟩
 have e:=hm name
 unfold nsFind findBy at e
 rw[<-Array.find?_toList]at e
 unfold PySem.W.lookIn
 rw[hd]
 dsimp only
 split
 ·rename_i y q
  rw[q]at e
  exact congrArg some e
 ·rename_i q
  rw[q]at e
  have a:es.toList.any (·.refKey)=false:=by
   rw[gK]
   intro y hy
   obtain⟨z,t,Kz⟩:=hk y (Array.mem_toList_iff.mp hy)
   simp[DictEntry.refKey,Kz]
  have a':¬es.toList.any (·.refKey)=true:=by rw[a];exact aG
  rw[if_neg a']
  exact congrArg some e
theorem ObjM.look{h:Heap}{x dx C:Addr}{mA:kW}(I:ObjM h x dx C mA):∃od,PySem.W.InstAt h x (PySem.W.instObj C dx) C (some od)/\∀name,PySem.W.lookIn name od=some (mA name):=
 let ⟨od,ho,hl⟩:=aBo I.ns
 ⟨od,⟨I.obj,rfl,rfl,ho⟩,hl⟩
theorem RelO.some_of{v:V}{o:Option Value}(r:RelO (some v) o):∃u,o=some u/\RelV v u:=by
 cases o with
 |none=>exact(show False from r).elim
 |some u=>exact⟨u,rfl,r⟩
theorem RelO.none_of{o:Option Value}(r:RelO none o):o=none:=by
 cases o with
 |none=>rfl
 |some u=>exact(show False from r).elim
section
variable{P:Program}{w:World}{H H':Hp}{h h':Heap}{a C dx:Addr}{fs fs':List (Str×V)}
theorem v7(hok:HOk P w H h)(e:H a=some (.ins C dx fs)):∃mA,ObjM h a dx C mA/\(∀f,RelO (fs.lookup f) (mA f))/\PySem.Within mA (fs.map (·.1))/\fs.length<=1000/\H dx=some (.own a):=by
 obtain⟨d,z,ne,ob,mA,n,r,q⟩:=(show ObjOk P w H h a (.ins C dx fs)from hok a _ e)
 exact⟨mA,⟨ob,n,ne⟩,r,q,z,d⟩
end
structure Cls(K:eC)(C:Addr):Prop where
 pg:PySem.W.plainGet K C Str.empty=true
 hd:PySem.W.hasDictIn K C=true
 po:PySem.W.plainOver K C=true
 sa:PySem.W.findIn K (.ref C) "__setattr__" = some (some (.builtin "object.__setattr__"))
theorem Cls.get{K:eC}{C:Addr}(c:Cls K C)(f:Str):PySem.W.plainGet K C f=true:=c.pg
section
variable{X:Cx}{Aa:fG}{σ:St}{H:Hp}{s:Shared}{A:Around}{E:fF}{Q:fF}{c:Value}{b:Bool}
inductive TyOf(K:eC)(H:Hp):V->Value->Prop where
 |non:TyOf K H .non (.type "NoneType")
 |bl (x:Bool):TyOf K H (.bl x) (.type "bool")
 |int (i:Int):TyOf K H (.int i) (.type "int")
 |str (x:Str):TyOf K H (.str x) (.type "str")
 |flt (x:UInt64):TyOf K H (.flt x) (.type "float")
 |lst {a:Addr} {xs:List V} (e:H a=some (.lst xs)):TyOf K H (.ref a) (.type "list")
 |frz {a:Addr} {o:Obj} {xs:List V} (e:H a=some (.frz o (.lst xs))):TyOf K H (.ref a) (.type "list")
 |tup {a:Addr} {xs:List V} (e:H a=some (.tup xs)):TyOf K H (.ref a) (.type "tuple")
 |dK {a:Addr} {kvs:List (Key×V)} (e:H a=some (.dK kvs)):TyOf K H (.ref a) (.type "dict")
 |dT {a:Addr} {kvs:List (List Key×V)} (e:H a=some (.dT kvs)):TyOf K H (.ref a) (.type "dict")
 | ins {a C dx : Addr} {fs : List (Str × V)} (e : H a = some (.ins C dx fs)) (cl : Cls K C) (ha : PySem.W.findIn K (.ref C) "__class__" = some (some (.builtin "object.__class__")))
   (hn:PySem.W.specialIn K (.builtin "object.__class__") "__get__" = some (some (.builtin "getset_descriptor.__get__"))) (Jo:PySem.W.takesIn K (.builtin "object.__class__")=some true)
   (hm:PySem.W.mroIn K C (.type "object")=some true):TyOf K H (.ref a) (.ref C)
theorem dj_{x:V}{u t:Value}(I:Inv X Aa σ H s)(rx:RelV x u)(ty:TyOf X.K H x t)(e:PySem.W.kitOne X.K t c=some b)(h:∀tk,Q (.bool b) { s with toks:=tk }) :
  wpAny (model X.prog X.w) A (call (.builtin "isinstance") [u,c]) Q E s:=by
 cases ty with
 |non=>cases(show u=Value.none from rx);exact PySem.W.kia_one PySem.W.kitx_none I.kIn True.intro e (λz=>nomatch z) h
 |bl y=>cases(show u=Value.bool y from rx);exact PySem.W.kia_one PySem.W.kitx_bool I.kIn True.intro e (λz=>nomatch z) h
 |int i=>obtain⟨t,q⟩:=(show ∃t,u=Value.int i t from rx);cases q;exact PySem.W.kia_one PySem.W.kitx_int I.kIn True.intro e (λz=>nomatch z) h
 |str y=>obtain⟨t,q⟩:=(show ∃t,u=Value.str y t from rx);cases q;exact PySem.W.kia_one PySem.W.kitx_str I.kIn True.intro e (λz=>nomatch z) h
 |flt y=>obtain⟨t,q⟩:=(show ∃t,u=Value.float y t from rx);cases q;exact PySem.W.kia_one PySem.W.kitx_float I.kIn True.intro e (λz=>nomatch z) h
 | @lst a xs ea =>
  cases(show u=Value.ref a from rx)
  obtain⟨_,_,n,_,h1⟩:=(show ObjOk X.prog X.w H s.heap a (.lst xs)from I.hok a _ ea)
  exact PySem.W.kia_one PySem.W.kitx_list I.kIn ⟨_,h1,rfl⟩ e (λz=>nomatch z) h
 | @frz a ob xs ea =>
  cases(show u=Value.ref a from rx)
  obtain⟨_,_,_,n,_,h1⟩:=(show ObjOk X.prog X.w H s.heap a (.frz ob (.lst xs))from I.hok a _ ea)
  exact PySem.W.kia_one PySem.W.kitx_list I.kIn ⟨_,h1,rfl⟩ e (λz=>nomatch z) h
 | @tup a xs ea =>
  cases(show u=Value.ref a from rx)
  obtain⟨_,_,_,p⟩:=(show ObjOk X.prog X.w H s.heap a (.tup xs)from I.hok a _ ea)
  obtain⟨o,h1,h2,_⟩:=p
  exact PySem.W.kia_one PySem.W.kitx_tuple I.kIn ⟨o,h1,h2⟩ e (λz=>nomatch z) h
 | @dK a kvs ea =>
  cases(show u=Value.ref a from rx)
  obtain⟨o,es,ep,h1,h2,_⟩:=gq_ (show ObjOk X.prog X.w H s.heap a (.dK kvs)from I.hok a _ ea)
  exact PySem.W.kia_one PySem.W.kitx_dict I.kIn ⟨o,h1,h2.1⟩ e (λz=>nomatch z) h
 | @dT a kvs ea =>
  cases(show u=Value.ref a from rx)
  obtain⟨_,_,xs,_,o,es,ep,h1,h2,_⟩:=(show ObjOk X.prog X.w H s.heap a (.dT kvs)from I.hok a _ ea)
  exact PySem.W.kia_one PySem.W.kitx_dict I.kIn ⟨o,h1,h2.1⟩ e (λz=>nomatch z) h
 | @ins a C dx fs ea cl ha hn Jo hm =>
  cases(show u=Value.ref a from rx)
  obtain⟨mA,O,_⟩:=v7 I.hok ea
  obtain⟨od,J,_⟩:=O.look
  exact PySem.W.kia_one (PySem.W.kitx_own (cl.get _) cl.hd ha hn Jo hm) I.kIn J e (λz=>nomatch z) h
end
structure Room(k:Nat)(A:Around):Prop where
 hd:A.handled=none
 dp:A.depth+3*k+5<recursionLimit
 un:A.units+16*k+200<cLine
 gd:A.guards=some []
theorem Room.mono{j k:Nat}{A:Around}(r:Room k A)(h:j<=k):Room j A:=⟨r.hd,by have:=r.dp;lia,by have:=r.un;lia,r.gd⟩
theorem Room.deeper{k:Nat}{A:Around}(r:Room (k+1) A)(env:Env):Room k (A.deeper env):=
 ⟨r.hd,by have:=r.dp;show A.depth+1+3*k+5<_;lia,by have:=r.un;show A.units+3+16*k+200<_;lia,r.gd⟩
theorem Room.depth{k:Nat}{A:Around}(r:Room k A):A.depth<recursionLimit:=by have:=r.dp;lia
theorem Room.units{k:Nat}{A:Around}(r:Room k A):A.units+64<cLine:=by have:=r.un;lia
theorem Room.units0{k:Nat}{A:Around}(r:Room k A):A.units<cLine:=by have:=r.un;lia
def wS:TA:=λ_ H Q=>Q [] H
def lD(ta:TE)(tr:TA):TA:=λσ H Q=>ta σ H λx H1=>tr σ H1 λxs H2=>Q (x::xs) H2
section
variable{X:Cx}{e:Expr}{es:List Expr}{te:TE}{t:TA}{pos:Pos}
theorem lZ:PA X [] wS:=λ_ _ _ _ H Q I h=>Calls.spliced_nil ⟨[],H,I,.nil,h⟩
theorem hX(ha:PE X e te)(hr:PA X es t)(hs:starEach (e::es) X.env=(false,eval e X.env)::starEach es X.env:=by rfl):PA X (e::es) (lD te t):=by
 intro pos Aa s σ H Q I h
 rw[hs]
 show wpAny _ _ (spliced ((false,eval e X.env)::backTo pos (starEach es X.env))) _ _ s
 refine Calls.spliced_cons (eO (ha Aa s σ H _ I h) λu s1 ⟨x,H1,I1,r1,q1⟩=>?_)
 exact eO (hr pos Aa s1 σ H1 _ I1 q1) λus s2 ⟨xs,H2,I2,r2,q2⟩=>⟨x::xs,H2,I2,.cons r1 r2,q2⟩
def aTv(t:TA):TE:=λσ H Q=>t σ H λxs H1=>xs.length<=sizeLine/\∀p,H1 p=none->Q (.ref p) (upd H1 p (.tup xs))
def aYe(t:TA):TE:=λσ H Q=>t σ H λxs H1=>xs.length<=sizeLine/\∀p,H1 p=none->Q (.ref p) (upd H1 p (.lst xs))
theorem uX{x1}(h:PA X es t):PE X (.Tuple es x1 pos) (aTv t):=by
 intro Aa s σ H Q I hq
 refine wpAny_Tuple_spliced (eO (h pos Aa s σ H _ I hq) λus s1 ⟨xs,H1,I1,r,z,q⟩=>⟨by rw[<-r.length];exact z,?_⟩)
 have hf:H1 s1.heap.objs.size=none:=I1.hok.fresh (aP _)
 refine⟨.ref s1.heap.objs.size,upd H1 s1.heap.objs.size (.tup xs),I1.laid (t':=s1.toks) (λb u e=>aD _ e) (aP _) ?_,rfl,q _ hf⟩
 exact⟨z,us,r,⟨_,aY _ rfl,rfl,_,rfl⟩⟩
theorem uY(h:PA X es t):PE X (.List es pos) (aYe t):=by
 intro Aa s σ H Q I hq
 refine wpAny_List_spliced (eO (h pos Aa s σ H _ I hq) λus s1 ⟨xs,H1,I1,r,z,q⟩=>⟨by rw[<-r.length];exact z,?_⟩)
 have hf:H1 s1.heap.objs.size=none:=I1.hok.fresh (aP _)
 refine⟨.ref s1.heap.objs.size,upd H1 s1.heap.objs.size (.lst xs),I1.laid (t':=s1.toks) (λb u e=>aD _ e) (aP _) ?_,rfl,q _ hf⟩
 exact⟨z,us,0,r,aY _ rfl⟩
end
abbrev Sp:=List V->Hp->VK->XK->Prop
abbrev CXT:=List Env->Hp->Shared->XK->Value->Shared->Prop
structure Env0(P:Program)(w:World)(K:eC)(mg:kW)(base:Heap)(A:Around)(outer:List Env)(s:Shared)(H:Hp):Prop where
 frames:A.frames=some outer
 mod:Mod K mg base
 bs:∀b o,base.get? b=some o->s.heap.get? b=some o/\H b=none
 bsz:base.objs.size<=s.heap.objs.size
 funs:s.heap.FunFrames base outer
 frf:∀b∈frs outer,H b=none
 hok:HOk P w H s.heap
 bare:AllBare s.gens
def CE(outer:List Env)(P:Program)(w:World)(H:Hp)(s:Shared)(Q:VK)(u:Value)(s':Shared):Prop:=
 ∃v H',s'.os=s.os/\AllBare s'.gens/\Un (frs outer) [] H H' s.heap s'.heap/\HOk P w H' s'.heap/\RelV v u/\Q v H'
def CR(CX:CXT)(outer:List Env)(P:Program)(w:World)(H:Hp)(s:Shared)(Q:VK)(E:XK)(r:Result)(s':Shared):Prop:=
 match r with
 | .ok (.ret u)=>CE outer P w H s Q u s'
 | .ok _=>False
 | .error e=>CX outer H s E e s'
structure FnOk(P:Program)(w:World)(K:eC)(mg:kW)(base:Heap)(CX:CXT)(k:Nat)(f:Addr)(fd:FuncData)(ps:List Str)(sp:Sp):Prop where
 len:∀vs H Q E,sp vs H Q E->vs.length=ps.length
 run:∀(A:Around) (outer:List Env) (s:Shared) (H:Hp) (args:Args) (us:List Value) (vs:List V) (Q:VK) (E:XK),Room k A->Env0 P w K mg base A outer s H->BindsTo s fd args (ps.zip us)->Vals vs us->sp vs H Q E ->
  codeAny (model P w) A (.call (.ref f) args) (CR CX outer P w H s Q E) s
theorem FnOk.mono{CX:CXT}{j k:Nat}{f:Addr}{fd:FuncData}{ps:List Str}{sp:Sp}(F:FnOk P w K mg base CX j f fd ps sp)(h:j<=k) :
  FnOk P w K mg base CX k f fd ps sp:=⟨F.len,λA outer s H args us vs Q E hr=>F.run A outer s H args us vs Q E (hr.mono h)⟩
theorem FnOk.imp{CX:CXT}{k:Nat}{f:Addr}{fd:FuncData}{ps:List Str}{sp sp':Sp}(F:FnOk P w K mg base CX k f fd ps sp)
  (h:∀vs H Q E,sp' vs H Q E->sp vs H Q E):FnOk P w K mg base CX k f fd ps sp':=
 ⟨λvs H Q E q=>F.len vs H Q E (h _ _ _ _ q),λA outer s H args us vs Q E hr he hb hv hs=>F.run A outer s H args us vs Q E hr he hb hv (h _ _ _ _ hs)⟩
section
variable{X:Cx}{Aa:fG}{σ:St}{H:Hp}{s s':Shared}
theorem Inv.env0(I:Inv X Aa σ H s):Env0 X.prog X.w X.K X.mg X.base X.A X.stack s H:=
 ⟨I.ok.frames,I.ok.mod,I.bs,nzL I.ok.bsz I.sz,I.stack,I.stkFree,I.hok,I.bare⟩
theorem Inv.after{Q:VK}{u:Value}(I:Inv X Aa σ H s)(h:CE X.stack X.prog X.w H s Q u s'):EP X Aa σ Q u s':=by
 obtain⟨v,H',os,bare,un,hok,r,q⟩:=h
 obtain⟨hh,g,d,t,os'⟩:=s'
 obtain rfl:os'=s.os:=os
 exact⟨v,H',I.call (h':=hh) (g':=g) (d':=d) (t':=t) (ch:=[]) un hok bare (λb z=>absurd z (by simp)),r,q⟩
end
def aMv(sp:Sp)(dvs:List V)(E:XK)(t:TA):TE:=λσ H Q=>t σ H λvs H1=>sp (vs++dvs) H1 Q E
def Binds(K:eC)(fd:FuncData)(ps:List Str)(ds:List Value):Prop:=
 ∀(s:Shared) (us:List Value),K.In s.heap->(us++ds).length=ps.length->BindsTo s fd ⟨us,[]⟩ (ps.zip (us++ds))
theorem Binds.all{K:eC}{fd:FuncData}{ps:List Str}(h:∀us:List Value,us.length=ps.length->bindArgs fd ⟨us,[]⟩=pure (ps.zip us)):Binds K fd ps []:=λs us _ hl=>by
 rw[cH]at hl ⊢
 exact .of_eq (h us hl)
def l_(CX:CXT)(X:Cx)(E:XK):Prop:=∀(Aa:fG) (σ:St) (H:Hp) (s:Shared) (e:Value) (s':Shared),Inv X Aa σ H s->CX X.stack H s E e s'->X.xe e s'
section
variable{X:Cx}{CX:CXT}{k:Nat}{f C:Addr}{ps:List Str}{sp:Sp}{dvs:List V}{ds:List Value}{E:XK}{x m:Str}{p pos apos:Pos}{e o:Expr}{es:List Expr}{ta:TE}{t:TA}
theorem aOj{Aa:fG}{σ:St}{H:Hp}{s:Shared}{Q:VK}{us:List Value}{vs:List V}(F:FnOk X.prog X.w X.K X.mg X.base CX k f fd ps sp)(hr:Room k X.A)(hb:Binds X.K fd ps ds)(hd:Vals dvs ds)(hx:l_ CX X E)
  (I:Inv X Aa σ H s) (r:Vals vs us) (h:sp (vs++dvs) H Q E):wpAny (model X.prog X.w) X.A (call (.ref f) us) (EP X Aa σ Q) X.xe s:=by
 have r2:Vals (vs++dvs) (us++ds):=r.append hd
 have hl:(us++ds).length=ps.length:=by rw[<-r2.length];exact F.len _ _ _ _ h
 refine wpAny_call (codeAny_mono (F.run X.A X.stack s H ⟨us,[]⟩ (us++ds) (vs++dvs) Q E hr I.env0 (hb s us I.kIn hl) r2 h) λr s' hq=>?_)
 cases r with
 |error e=>exact hx Aa σ H s e s' I hq
 |ok fl =>
  cases fl with
  |ret u=>exact I.after hq
  |next=>exact False.elim hq
  |brk=>exact False.elim hq
  |cont=>exact False.elim hq
theorem et_(F:FnOk X.prog X.w X.K X.mg X.base CX k f fd ps sp)(hr:Room k X.A)(hg:Gl X x)(hm:X.mg x=some (.ref f))(hk:PySem.W.keepIn X.K (.ref f)=true)(hb:Binds X.K fd ps ds)(hd:Vals dvs ds)(hx:l_ CX X E)
  (ha:PA X (e::es) t) (Bs:(x == ("__debug__" : Str))=false:=by decide) (he:starEach (e::es) X.env=(false,eval e X.env)::starEach es X.env:=by rfl) (Ay:(backTo pos (starEach es X.env)).any (·.1)=false:=by rfl) :
  PE X (.Call (.Name x p) (e::es) [] pos) (aMv sp dvs E t):=by
 intro Aa s σ H Q I h
 refine wpAny_Call_Name_kw (hc_ I hg hm ?_ Bs)
 refine PySem.W.callWith_K (h₀:=X.base) I.ok.mod.kin hk (eO (ha pos Aa s σ H _ I h) λus s1 ⟨vs,H1,I1,r,q⟩=>⟨I1.kIn,?_⟩) he Ay
 exact aOj F hr hb hd hx I1 r q
end
def PK(X:Cx)(kws:List Keyword)(t:TA):Prop:=
 ∀(pos:Pos) (Aa:fG) (s:Shared) (σ:St) (H:Hp) (Q:List V->Hp->Prop),Inv X Aa σ H s->t σ H Q->wpAny (model X.prog X.w) X.A (evalAll ((backToKw pos (keywordEach kws X.env)).map (·.2))) (AP X Aa σ Q) X.xe s
section
variable{X:Cx}{CX:CXT}{k:Nat}{f C:Addr}{ps ks:List Str}{sp:Sp}{E:XK}{x m:Str}{p pos apos kpos:Pos}{e o:Expr}{es:List Expr}{kws:List Keyword}{te ta:TE}{t tk:TA}{nm:Option Str}
theorem d5:PK X [] wS:=λ_ _ _ _ H Q I h=>wpAny_evalAll_nil ⟨[],H,I,.nil,h⟩
theorem uV(ha:PE X e te)(hr:PK X kws t):PK X (⟨nm,e,kpos⟩::kws) (lD te t):=by
 intro pos Aa s σ H Q I h
 show wpAny _ _ (evalAll ((do let v <-eval e X.env;standAt pos;pure v)::(backToKw pos (keywordEach kws X.env)).map (·.2))) _ _ s
 refine wpAny_evalAll_cons (wpAny_bind (eO (ha Aa s σ H _ I h) λu s1 ⟨x,H1,I1,r1,q1⟩=>wpAny_bind (wpAny_standAt (wpAny_pure ?_))))
 exact eO (hr pos Aa s1 σ H1 _ I1 q1) λus s2 ⟨xs,H2,I2,r2,q2⟩=>⟨x::xs,H2,I2,.cons r1 r2,q2⟩
variable{g:List Value->List Value->List Value}{gV:List V->List V->List V}
end
structure FnScope(N P:List Str)(sc:Scope):Prop where
 kind:sc.kind=.function
 co:sc.isCoroutine=false
 gen:sc.isGenerator=false
 nd:N.Nodup
 pre:N.take P.length=P
 par:∀x∈P,sc.names.lookup x=some .local\/sc.names.lookup x=some .cell
 nofree:∀y∈sc.names,y.2 ≠ .free
theorem jK{N P:List Str}{sc:Scope}(h:(sc.kind=.function/\sc.isCoroutine=false/\sc.isGenerator=false)/\N.Nodup/\N.take P.length=P/\(∀x∈P,sc.names.lookup x=some .local\/sc.names.lookup x=some .cell)/\∀y∈sc.names,y.2 ≠ .free):FnScope N P sc:=⟨h.1.1,h.1.2.1,h.1.2.2,h.2.1,h.2.2.1,h.2.2.2.1,h.2.2.2.2⟩
theorem tN{kindOf:Str->Option NameKind}{x:Str}:∀{binds:List (Str×Value)} {m:kW},(∀v,(x,v)∉binds)->bindL kindOf binds m x=m x
 | [],_,_=>rfl
 |(n,v)::r,m,h=>by
  unfold bindL
  rw[tN λw hw=>h w (aB _ hw)]
  split
  ·have:x≠n:=by rintro rfl; exact h v aA
   simp[this]
  ·rfl
theorem tP{kindOf:Str->Option NameKind}{x:Str}:∀{binds:List (Str×Value)} {m:kW},(∀v,(x,v)∉binds)->bindC kindOf binds m x=m x
 | [],_,_=>rfl
 |(n,v)::r,m,h=>by
  unfold bindC
  rw[tP λw hw=>h w (aB _ hw)]
  split
  ·rfl
  ·have:x≠n:=by rintro rfl; exact h v aA
   simp[this]
theorem tO{kindOf:Str->Option NameKind}{x:Str}{v:Value}:∀{P:List Str} {vs:List Value} {i:Nat} {m:kW},P.Nodup->P[i]? = some x->vs[i]? = some v->kindOf x=some .local ->
  bindL kindOf (P.zip vs) m x=some v
 | [],_,_,_,_,h,_,_=>by simp at h
 |_::_,[],_,_,_,_,h,_=>by simp at h
 |p::P,w::vs,0,m,nd,h1,h2,hk=>by
  simp at h1 h2;subst h1;subst h2
  show bindL kindOf ((p,w)::P.zip vs) m p=_
  unfold bindL
  rw[tN λv hv=>(cN.mp nd).1 (List.of_mem_zip hv).1,if_pos hk]
  simp
 |p::P,w::vs,i+1,m,nd,h1,h2,hk=>by
  show bindL kindOf ((p,w)::P.zip vs) m x=_
  unfold bindL
  exact tO (i:=i) (cN.mp nd).2 (by simpa using h1) (by simpa using h2) hk
theorem tQ{kindOf:Str->Option NameKind}{x:Str}{v:Value}:∀{P:List Str} {vs:List Value} {i:Nat} {m:kW},P.Nodup->P[i]? = some x->vs[i]? = some v->kindOf x≠some .local ->
  bindC kindOf (P.zip vs) m x=some v
 | [],_,_,_,_,h,_,_=>by simp at h
 |_::_,[],_,_,_,_,h,_=>by simp at h
 |p::P,w::vs,0,m,nd,h1,h2,hk=>by
  simp at h1 h2;subst h1;subst h2
  show bindC kindOf ((p,w)::P.zip vs) m p=_
  unfold bindC
  rw[tP λv hv=>(cN.mp nd).1 (List.of_mem_zip hv).1,if_neg hk]
  simp
 |p::P,w::vs,i+1,m,nd,h1,h2,hk=>by
  show bindC kindOf ((p,w)::P.zip vs) m x=_
  unfold bindC
  exact tQ (i:=i) (cN.mp nd).2 (by simpa using h1) (by simpa using h2) hk
def start(N:List Str)(vs:List V):St:=vs.map some++List.replicate (N.length-vs.length) none
def lX(CX:CXT)(P:Program)(w:World)(K:eC)(mg:kW)(base:Heap)(N:List Str)(qual:Str)(scope:Scope)(f:Addr)(cd:Value)(A:Around)(outer:List Env)(s:Shared)(H:Hp)(E:XK):Cx where
 prog:=P
 w:=w
 K:=K
 mg:=mg
 base:=base
 A:=A.deeper (envOfC qual scope s.heap.objs.size f cd)
 N:=N
 s₀:=s
 H₀:=H
 env:=envOfC qual scope s.heap.objs.size f cd
 outer:=outer
 stack:=envOfC qual scope s.heap.objs.size f cd::outer
 ex:=[]
 calm:=true
 fn:=λ_=>true
 pn:=[]
 xe:=λe s'=>wpAny (model P w) (A.deeper (envOfC qual scope s.heap.objs.size f cd)) (leaving (envOfC qual scope s.heap.objs.size f cd) e) (λ_ s''=>CX outer H s E e s'') (λe' s''=>CX outer H s E e' s'') s'
theorem zI{sc:Scope}{n:Nat}{x:Str}(h:sc.names.lookup x=some .cell):∃c,(cellsFrom n sc.names []).lookup x=some c:=by
 have q:=PySem.W.cellsFrom_some sc.names n [] (.inl h)
 exact eP.mp q
theorem aBw{CX:CXT}{N ps:List Str}{qual:Str}{scope:Scope}{f:Addr}{cd:Value}{A:Around}{outer:List Env}{s s1:Shared}{H:Hp}{E:XK}{us:List Value}{vs:List V}
  (S:FnScope N ps scope) (hd:A.handled=none) (e0:Env0 P w K mg base A outer s H) (hl:vs.length=ps.length) (r:Vals vs us)
  (x:InCallC s s.heap.objs.size (bindL (envOfC qual scope s.heap.objs.size f cd).kindOf (ps.zip us) λ_=>none) (cellsFrom (s.heap.objs.size+1) scope.names []) (bindC (envOfC qual scope s.heap.objs.size f cd).kindOf (ps.zip us) λ_=>none) s1) :
  Inv (lX CX P w K mg base N qual scope f cd A outer s H E) [] (start N vs) H s1:=by
 have Ay:ps.length<=N.length:=by have:=congrArg List.length S.pre;rw[gT]at this;lia
 obtain⟨h1,tk,rfl,hk⟩:=x.done
 have noA:∀b:Addr,b∉(lX CX P w K mg base N qual scope f cd A outer s H E).ex:=λb z=>absurd (show b∈([]:List Addr)from z) (by simp)
 refine⟨⟨e0.mod,S.kind,rfl,rfl,aP _,λy z c h1 h2=>?_,λy hy=>?_,λy c _ h=>?_,λ_=>hd,Around.frames_deeper e0.frames,.inr ⟨rfl,rfl⟩,λb z=>absurd z (noA b),e0.bs,e0.bsz,λb _ _=>noA b,λb z=>absurd z (noA b),e0.funs,e0.frf⟩,
  rfl,e0.bare,Un.kept hk,⟨_,x.toInCall.ns,λi y v h1 h2 h3=>?_⟩,λy c h=>⟨_,x.cell y c h⟩,e0.hok.fresh (aP _),λy c h=>?_,λp hp=>absurd (show p∈([]:fG)from hp) (by simp),e0.hok.kept hk,?_⟩
 ·exact name_of_addr x.apart (PySem.mem_of_lookup h1) (PySem.mem_of_lookup h2)
 ·have hy:scope.names.lookup y=some .cell∨scope.names.lookup y=some .free:=hy
  rcases hy with hy | hy
  ·exact zI hy
  ·exact absurd rfl (S.nofree _ (PySem.mem_of_lookup hy))
 ·exact Nat.le_of_lt (x.above y c (PySem.mem_of_lookup h))
 ·have hi:i < vs.length:=by
   unfold start at h2
   by_cases hi:i<vs.length
   ·exact hi
   ·rw [gM (by simpa using hi)] at h2
    rw[iD]at h2
    split at h2<;>cases h2
  have ha:vs[i]? = some v:=by
   unfold start at h2
   rw[List.getElem?_append_left (by simpa using hi),bX]at h2
   cases e:vs[i]? with
   |none=>rw[e]at h2;cases h2
   |some a=>rw[e]at h2;cases h2;rfl
  obtain⟨u,hu,rv⟩:=r.get ha
  have hp:ps[i]? = some y:=by
   rw[<-S.pre,List.getElem?_take_of_lt (by lia)];exact h1
  have ndP:ps.Nodup:=by rw[<-S.pre];exact S.nd.sublist (List.take_sublist _ _)
  refine⟨u,rv,?_⟩
  rcases S.par y (bB hp)with k | k
  ·exact .inl ⟨k,tO ndP hp hu k⟩
  ·obtain ⟨c,e⟩:=zI (n:=s.heap.objs.size + 1) k
   refine .inr ⟨.inl k,c,e,?_⟩
   have q:=x.cell y c e
   rw[tQ ndP hp hu (by show scope.names.lookup y≠_;rw[k];decide)]at q
   exact q
 ·exact e0.hok.fresh (Nat.le_of_lt (x.above y c (PySem.mem_of_lookup h)))
 ·unfold start
  show _=N.length
  rw[aK,aC,bV]
  lia
theorem aNk{CX:CXT}{k:Nat}{f:Addr}{name qual:Str}{params:Arguments}{body:List Stmt}{scope:Scope}{dV kV doc pm Af ct oc:Value}{an od:Option Addr}
  {osl:Array (Option Value)} {N ps:List Str} {sp:Sp} (lk:K.lookup f=some ⟨oc,od,.func (PySem.W.fnOf name qual params body scope dV kV doc pm an Af ct),osl⟩) (Ea:PySem.W.codeIn K Af qual=true) (S:FnScope N ps scope)
  (len:∀vs H Q E,sp vs H Q E->vs.length=ps.length)
  (Bb:∀ (A:Around) (outer:List Env) (s:Shared) (H:Hp) (vs:List V) (Q:VK) (E:XK),Room k (A.deeper (envOfC qual scope s.heap.objs.size f Af))→sp vs H Q E →
   ∃t,PSs (lX CX P w K mg base N qual scope f Af A outer s H E) body t/\t { nx:=λ_ H'=>Q .non H',rt:=Q } (start N vs) H) :
  FnOk P w K mg base CX (k+1) f (PySem.W.fnOf name qual params body scope dV kV doc pm an Af ct) ps sp:=by
 refine⟨len,λA outer s H args us vs Q E hr e0 hb r D5=>?_⟩
 have hl:=len _ _ _ _ D5
 have KX:K.In s.heap:=e0.mod.kin.keeps λb o e=>(e0.bs b o e).1
 have lim:s.heap.NoLimit:=e0.mod.nolimit.keeps λb o e=>(e0.bs b o e).1
 have Il:∀y∈ps.zip us,scope.names.lookup y.1=some .local\/(scope.names.lookup y.1=some .cell/\((cellsFrom (s.heap.objs.size+1) scope.names []).lookup y.1).isSome=true):=λ⟨n,v⟩ hy=>by
  rcases S.par n (List.of_mem_zip hy).1 with q | q
  ·exact .inl q
  ·exact .inr ⟨q,PySem.W.cellsFrom_some _ _ _ (.inl q)⟩
 refine codeAny_call_function hr.depth (KX _ _ lk) rfl S.co S.gen rfl (PySem.W.codeRec_of KX Ea) (hb _ _ _ _ ?_)
 refine wpAny_newFunctionEnv_cells S.kind Il λenv he s1 x=>?_
 subst he
 refine⟨lim.keeps x.toInCall.keep,codeAny_func ?_⟩
 obtain⟨t,ht,hq⟩:=Bb A outer s H vs Q E (hr.deeper _) D5
 have I:Inv (lX CX P w K mg base N qual scope f Af A outer s H E) [] (start N vs) H s1:=aBw S hr.hd e0 hl r x
 refine wpAny_mono (ht [] s1 (start N vs) H _ I hq) (λfl s' hs=>?_) λe s' hs=>hs
 have fin:∀{σ':St} {H':Hp} {v:V} {u:Value},Inv (lX CX P w K mg base N qual scope f Af A outer s H E) [] σ' H' s'->RelV v u->Q v H'->CE outer P w H s Q u s':=
  λ{σ' H' v u} J rv q=>⟨v,H',J.os,J.bare,J.base,J.hok,rv,q⟩
 cases fl with
 |ret u =>
  obtain⟨v,σ',H',J,rv,q⟩:=hs
  exact fin J rv q
 |next =>
  obtain⟨σ',H',J,q⟩:=hs
  exact fin (v:=V.non) (u:=Value.none) J rfl q
 |brk =>
  obtain⟨_,_,_,q⟩:=hs
  exact False.elim q
 |cont =>
  obtain⟨_,_,_,q⟩:=hs
  exact False.elim q
section
variable{X:Cx}{x:Str}{p pos:Pos}{e:Expr}{es:List Expr}{t:TA}{id T:String}{r:List V->Hp->VK->Prop}
def tCB(r:List V->Hp->VK->Prop)(t:TA):TE:=λσ H Q=>t σ H λvs H1=>r vs H1 Q
theorem fo_(hc:CallR X (.builtin id) r)(hg:Gl X x)(hm:X.mg x=none)(hv:bootBuiltins x=some (.builtin id))(ha:PA X (e::es) t)(hn:x ≠ "__name__":=by decide)(Bs:(x == ("__debug__" : Str))=false:=by decide)
  (he:starEach (e::es) X.env=(false,eval e X.env)::starEach es X.env:=by rfl) (Ay:(backTo pos (starEach es X.env)).any (·.1)=false:=by rfl):PE X (.Call (.Name x p) (e::es) [] pos) (tCB r t):=by
 intro Aa s σ H Q I h
 refine wpAny_Call_Name_kw (hm_ I hg hm hv ?_ hn Bs)
 exact PyProof.Rows.callWith_builtin1 (eO (ha pos Aa s σ H _ I h) λus s1 ⟨vs,H1,I1,r1,q1⟩=>hc Aa s1 σ H1 vs us Q I1 r1 q1) he Ay
theorem aBb(hc:CallR X (.type T) r)(hg:Gl X x)(hm:X.mg x=none)(hv:bootBuiltins x=some (.type T))(ha:PA X (e::es) t)(hn:x ≠ "__name__":=by decide)(Bs:(x == ("__debug__" : Str))=false:=by decide)
  (he:starEach (e::es) X.env=(false,eval e X.env)::starEach es X.env:=by rfl) (Ay:(backTo pos (starEach es X.env)).any (·.1)=false:=by rfl):PE X (.Call (.Name x p) (e::es) [] pos) (tCB r t):=by
 intro Aa s σ H Q I h
 refine wpAny_Call_Name_kw (hm_ I hg hm hv ?_ hn Bs)
 exact fC (eO (ha pos Aa s σ H _ I h) λus s1 ⟨vs,H1,I1,r1,q1⟩=>hc Aa s1 σ H1 vs us Q I1 r1 q1) he Ay
end
end L2
namespace HT
open PySem PyProof.Rows
section
open PySem.SeqAt
open PySem.AutoSeq1 (wpAny_loadPart')
open PySem.MeetsSeq PySem.MeetsSeq2 PySem.MeetsSeq3
end
section
variable{prog:Program}{w:World}{A:Around}{E:fF}{s:Shared}
def sIx(n d:Nat):Option Int->Nat
 |none=>d
 |some v=>if v<0 then(v+(n:Int)).toNat else min v.toNat n
end
end HT
namespace L2
open PySem PySem.Spec PyProof.Rows
abbrev TO:=St->Hp->(Option Int->Hp->Prop)->Prop
def PO(X:Cx)(e:Option Expr)(t:TO):Prop:=
 ∀(Aa:fG) (s:Shared) (σ:St) (H:Hp) (Q:Option Int->Hp->Prop),Inv X Aa σ H s->t σ H Q ->
  wpAny (model X.prog X.w) X.A (evalPart e X.env) (λu s'=>∃o H',Inv X Aa σ H' s'/\IsPart u o/\Q o H') X.xe s
def aJe:TO:=λ_ H Q=>Q none H
def aTw(t:TE):TO:=λσ H Q=>t σ H λx H1=>∃i,x=.int i/\Q (some i) H1
theorem qG{ns:List Int}:∀{us:List Value},Vals (ns.map V.int) us->IntsAre us ns:=by
 induction ns with
 |nil=>intro us r;rw[bL]at r;cases r;exact .nil
 |cons n ns ih =>
  intro us r
  rw[aL]at r
  cases r with
  |cons r1 r2 =>
   obtain⟨t,e⟩:=r1
   subst e
   exact .cons n t (ih r2)
section
variable{X:Cx}{e:Expr}{te:TE}{lo hi:Option Expr}{tl th:TO}{pos p2:Pos}
theorem oC:PO X none aJe:=by
 intro Aa s σ H Q I h
 rw[evalPart_none]
 exact wpAny_pure ⟨none,H,I,.none,h⟩
theorem oB(h:PE X e te):PO X (some e) (aTw te):=by
 intro Aa s σ H Q I hw
 rw[evalPart_some]
 refine eO (h Aa s σ H _ I hw) λu s1 ⟨x,H1,I1,r1,q1⟩=>?_
 obtain⟨i,rfl,q⟩:=q1
 obtain⟨t,rfl⟩:=r1
 exact⟨some i,H1,I1,.int i t,q⟩
def SlR(X:Cx)(r:V->Option Int->Option Int->Hp->VK->Prop):Prop:=
 ∀(Aa:fG) (s:Shared) (σ:St) (H:Hp) (x:V) (v vl vu:Value) (lo hi:Option Int) (sl:Addr) (Q:VK),Inv X Aa σ H s->RelV x v->s.heap.IsSliceOf sl vl vu .none->IsPart vl lo->IsPart vu hi->r x lo hi H Q ->
  ∃T id,typeLookup (.type T) "__getitem__" = pure (some (.builtin id))/\s.TypeIs v T/\wpAny (model X.prog X.w) X.A (getItem v (.ref sl)) (EP X Aa σ Q) X.xe s
theorem SlR.or{r r':V->Option Int->Option Int->Hp->VK->Prop}(h:SlR X r)(h':SlR X r'):SlR X (λx lo hi H Q=>r x lo hi H Q\/r' x lo hi H Q):=by
 intro Aa s σ H x v vl vu lo hi sl Q I rx hs pl pu q
 rcases q with q | q
 ·exact h Aa s σ H x v vl vu lo hi sl Q I rx hs pl pu q
 ·exact h' Aa s σ H x v vl vu lo hi sl Q I rx hs pl pu q
def tSl(r:V->Option Int->Option Int->Hp->VK->Prop)(te:TE)(tl th:TO):TE:=λσ H Q=>te σ H λx H1=>tl σ H1 λl H2=>th σ H2 λu H3=>r x l u H3 Q
theorem hs_{r:V->Option Int->Option Int->Hp->VK->Prop}(hr:SlR X r)(he:PE X e te)(hl:PO X lo tl)(hu:PO X hi th):PE X (.Subscript e (.Slice lo hi none p2) pos) (tSl r te tl th):=by
 intro Aa s σ H Q I h
 refine Subscript_ (eO (he Aa s σ H _ I h) λv s1 ⟨x,H1,I1,r1,q1⟩=>?_)
 refine wpAny_Slice (eO (hl Aa s1 σ H1 _ I1 q1) λvl s2 ⟨l,H2,I2,pl,q2⟩=>eO (hu Aa s2 σ H2 _ I2 q2) λvu s3 ⟨u,H3,I3,pu,q3⟩=>?_)
 rw[evalPart_none]
 refine wpAny_pure ?_
 have I4:Inv X Aa σ H3 { s3 with heap:=s3.heap.push { cls:=.type "slice",data:=.fields #[vl,vu,.none] } }:=I3.kept (t':=s3.toks) λb ob q=>aD _ q
 obtain⟨T,id,hT,ht,hg⟩:=hr Aa { s3 with heap:=s3.heap.push { cls:=.type "slice",data:=.fields #[vl,vu,.none] } } σ H3 x v vl vu l u s3.heap.objs.size Q I4 r1 (Heap.IsSliceOf.new ..) pl pu q3
 show wpAny (model X.prog X.w) X.A (subscriptTail e (.Slice lo hi none p2) v (.ref s3.heap.objs.size)) (EP X Aa σ Q) X.xe { s3 with heap:=s3.heap.push { cls:=.type "slice",data:=.fields #[vl,vu,.none] } }
 exact tail_any (ops:=[.ref s3.heap.objs.size,v]) ht hT hg (by with_unfolding_all rfl)
def aHr(xs:List V)(lo hi:Option Int):List V:=(xs.drop (HT.sIx xs.length 0 lo)).take (HT.sIx xs.length xs.length hi-HT.sIx xs.length 0 lo)
theorem zB(xs:List V)(lo hi:Option Int):(aHr xs lo hi).length<=xs.length:=by
 unfold aHr
 rw[gT,List.length_drop]
 lia
end
def ixN(n:Nat)(i:Int):Option Nat:=if 0<=i then(if i<n then some i.toNat else none)else if -(n:Int)<=i then some (i+n).toNat else none
def atI{α:Type}(xs:List α)(i:Int):Option α:=(ixN xs.length i).bind λj=>xs[j]?
theorem v3{n:Nat}{i:Int}{j:Nat}(h:ixN n i=some j):seqIndex? i n=some j/\j<n /\ -(n:Int)<=i/\i<n:=by
 unfold ixN at h
 by_cases h0:0<=i
 ·rw [if_pos h0] at h
  by_cases h1:i<n
  ·rw [if_pos h1] at h
   have e:i.toNat=j:=ozI h
   exact⟨by rw[seqIndex_of h0 h1,e],by lia,by lia,h1⟩
  ·rw[if_neg h1]at h;cases h
 ·rw [if_neg h0] at h
  by_cases h1 : -(n:Int)<=i
  ·rw [if_pos h1] at h
   have e:(i+n).toNat=j:=ozI h
   exact⟨by rw[seqIndex_neg (by lia) h1,e],by lia,h1,by lia⟩
  ·rw[if_neg h1]at h;cases h
theorem wJ{α:Type}{xs:List α}{i:Int}{v:α}(h:atI xs i=some v):∃j,seqIndex? i xs.length=some j/\xs[j]? = some v/\j<xs.length /\ -(xs.length:Int)<=i/\i<xs.length:=by
 unfold atI at h
 cases e:ixN xs.length i with
 |none=>rw[e]at h;cases h
 |some j =>
  rw[e]at h
  obtain⟨h1,h2,h3,h4⟩:=v3 e
  exact⟨j,h1,h,h2,h3,h4⟩
theorem ev_{α:Type}{xs:List α}{j:Nat}{v:α}(h:xs[j]? = some v):atI xs (j:Int)=some v:=by
 have hj:j<xs.length:=(aW.mp h).1
 have e:ixN xs.length (j:Int)=some j:=by
  unfold ixN
  rw[if_pos (by lia),if_pos (by lia)];simp
 unfold atI;rw[e];exact h
theorem aIh{α:Type}(xs:List α)(v:α):atI (xs++[v]) (-1)=some v:=by
 have hl:(xs++[v]).length=xs.length+1:=by simp
 have e:ixN (xs++[v]).length (-1)=some xs.length:=by
  unfold ixN
  rw[hl,if_neg (by decide),if_pos (by lia)]
  congr 1
  lia
 unfold atI
 rw[e]
 show(xs++[v])[xs.length]? = some v
 simp
def mF(b:Expr):Prop:=∀o i,subscripted b false o i=operate [o,i] (getItem o i)
def IxR(X:Cx)(r:R2):Prop:=
 ∀(value slice:Expr) (Aa:fG) (s:Shared) (σ:St) (H:Hp) (x y:V) (v u:Value) (Q:VK),Inv X Aa σ H s->RelV x v->RelV y u->r x y H Q ->
  subscripted slice false v u=operate [v,u] (getItem v u)->wpAny (model X.prog X.w) X.A (subscriptTail value slice v u) (EP X Aa σ Q) X.xe s
def MtR(X:Cx)(id:String)(r:V->List V->Hp->VK->Prop):Prop:=
 ∀(Aa:fG) (s:Shared) (σ:St) (H:Hp) (x:V) (xs:List V) (v:Value) (us:List Value) (Q:VK),Inv X Aa σ H s->RelV x v->Vals xs us->r x xs H Q ->
  wpAny (model X.prog X.w) X.A (call (.builtin id) (v::us)) (EP X Aa σ Q) X.xe s
section
variable{X:Cx}{a b:Expr}{ta tb:TE}{pos:Pos}
theorem IxR.or{r r':R2}(h:IxR X r)(h':IxR X r'):IxR X (λx y H Q=>r x y H Q\/r' x y H Q):=by
 intro value slice Aa s σ H x y v u Q I rx ry q hs
 rcases q with q | q
 ·exact h value slice Aa s σ H x y v u Q I rx ry q hs
 ·exact h' value slice Aa s σ H x y v u Q I rx ry q hs
theorem yM{r:R2}(hr:IxR X r)(ha:PE X a ta)(hb:PE X b tb)(hs:mF b):PE X (.Subscript a b pos) (tOp r ta tb):=by
 intro Aa s σ H Q I h
 exact Subscript_ (aSd ha hb I h λv u s2 x y H2 I2 rx ry q=>hr a b Aa s2 σ H2 x y v u Q I2 rx ry q (hs _ _))
def aEt(K:eC):R2:=λx y H Q=>∃p xs i v,x=.ref p/\y=.int i/\SqL K H p xs/\atI xs i=some v/\Q v H
def aOm(K:eC):R2:=λx y H Q=>∃p xs i v,x=.ref p/\y=.int i/\SqT K H p xs/\atI xs i=some v/\Q v H
def aUh:R2:=λx y H Q=>∃z i c,x=.str z/\y=.int i/\z.length<=sizeLine/\atI z.cps.toList i=some c/\Q (.str ⟨#[c]⟩) H
theorem dl_:IxR X (aEt X.K):=by
 intro value slice Aa s σ H x y v u Q I rx ry h hs
 obtain⟨p,xs,i,z,rfl,rfl,hq,he,q⟩:=h
 cases rx
 obtain⟨t,rfl⟩:=ry
 obtain⟨its,r,pl,hz⟩:=I.list hq
 obtain⟨j,h1,h2,h3,h4,h5⟩:=wJ he
 obtain⟨w,ew,rw'⟩:=r.get h2
 have hl:=r.length
 have hn:=mP
 have fin:EP X Aa σ Q w s:=⟨z,H,I,rw',q⟩
 by_cases h0:0<=i
 ·have hj:i.toNat=j:=by
   rw[seqIndex_of h0 h5]at h1
   exact ozI h1
  exact item_listR pl.isList h0 (by lia) (by rw[hj];simpa using ew) fin hs
 ·have hj:(i + (its.toArray.size:Int)).toNat=j:=by
   rw[seqIndex_neg (by lia) h4]at h1
   rw[bE,<-hl]
   exact ozI h1
  exact subscriptTail_builtinR (x:=w) pl.isList.typeIs slot_list_getitem.lookup
   (wpAny_getItem_list_neg (Q:=λr s'=>r=w/\EP X Aa σ Q r s') pl.isList (by lia) (by rw[bE]<;>lia) (by lia) (by rw[hj];simpa using ew) ⟨rfl,fin⟩) hs
theorem aQs:IxR X (aOm X.K):=by
 intro value slice Aa s σ H x y v u Q I rx ry h hs
 obtain⟨p,xs,i,z,rfl,rfl,hq,he,q⟩:=h
 cases rx
 obtain⟨t,rfl⟩:=ry
 obtain⟨its,r,pl,hz⟩:=I.tuple hq
 obtain⟨j,h1,h2,h3,h4,h5⟩:=wJ he
 obtain⟨w,ew,rw'⟩:=r.get h2
 have hl:=r.length
 have hn:=mP
 have fin:EP X Aa σ Q w s:=⟨z,H,I,rw',q⟩
 exact subscriptTail_builtinR (x:=w) pl.typeIs slot_tuple_getitem.lookup
  (getItem_tuple (j:=j) (Q:=λr s'=>r=w/\EP X Aa σ Q r s') pl (by lia) (by lia) (by rw[bE,<-hl];exact h1) (by simpa using ew) ⟨rfl,fin⟩) hs
theorem qE:IxR X aUh:=by
 intro value slice Aa s σ H x y v u Q I rx ry h hs
 obtain⟨z,i,c,rfl,rfl,hz,he,q⟩:=h
 obtain⟨t,rfl⟩:=rx
 obtain⟨t',rfl⟩:=ry
 obtain⟨j,h1,h2,h3,h4,h5⟩:=wJ he
 have hl:z.cps.toList.length=z.length:=by simp[Str.length]
 rw[hl]at h1 h4 h5
 have hn:=mP
 exact tail_any (typeIs_str s z t) slot_str_getitem.lookup (getItem_str (c:=c) (by
  have e1:decide (i < -(2^63:Int))=false:=dzF (by lia)
  have e2:decide (i>=2^63)=false:=dzF (by lia)
  rw[e1,e2,Bool.or_false]) (by rw[h1];simpa using h2) ⟨.str ⟨#[c]⟩,H,I.tok _,⟨_,rfl⟩,q⟩) hs
theorem f_(its:List Value)(n j:Nat)(u:Value):Obj.mapSeq (·.setIfInBounds j u) { cls:=.type "list",data:=.seq its.toArray n }={ cls:=.type "list",data:=.seq (its.set j u).toArray n }:=by
 simp[Obj.mapSeq]
theorem Inv.lst{Aa:fG}{σ:St}{H:Hp}{s:Shared}{p:Addr}{xs:List V}(I:Inv X Aa σ H s)(h:H p=some (.lst xs)) :
  ∃(its:List Value) (n:Nat),Vals xs its/\s.heap.get? p=some { cls:=.type "list",data:=.seq its.toArray n }/\xs.length<=sizeLine:=by
 obtain⟨z,its,n,r,e⟩:=I.hok p _ h
 exact⟨its,n,r,e,z⟩
theorem Inv.lstUpd{Aa:fG}{σ:St}{H:Hp}{s:Shared}{p:Addr}{xs ys:List V}{its its':List Value}{n n':Nat}{f:Obj->Obj}(I:Inv X Aa σ H s)(h:H p=some (.lst xs))
  (ho:s.heap.get? p=some { cls:=.type "list",data:=.seq its.toArray n }) (hf:f { cls:=.type "list",data:=.seq its.toArray n }={ cls:=.type "list",data:=.seq its'.toArray n' }) (r:Vals ys its') (hz:ys.length<=sizeLine) (t:Nat) :
  Inv X Aa σ (upd H p (.lst ys)) { s with heap:=s.heap.update p f,toks:=t }:=by
 have e:(s.heap.update p f).get? p=some { cls:=.type "list",data:=.seq its'.toArray n' }:=by
  rw[dD f ho (by rw[hf]<;>rfl),hf]
 refine I.write (x:=p) (e:=p) (by rw[h];trivial) (.inl rfl) (λb u hb q=>(bO _ _ (Ne.symm hb)).trans q) ⟨_,e⟩ ?_
 exact⟨hz,its',n',r,e⟩
def aNa:V->V->V->Hp->(Hp->Prop)->Prop:=λo i v H Q=>∃p xs k j,o=.ref p/\i=.int k/\H p=some (.lst xs)/\ixN xs.length k=some j/\Q (upd H p (.lst (xs.set j v)))
theorem fl_:aWo X aNa:=by
 intro Aa s σ H o i v ov iv u Q I ro ri rv h
 obtain⟨p,xs,k,j,rfl,rfl,hp,hj,q⟩:=h
 cases ro
 obtain⟨t,rfl⟩:=ri
 obtain⟨its,n,r,ho,hz⟩:=I.lst hp
 obtain⟨h1,h2,h3,h4⟩:=v3 hj
 have hl:=r.length
 have hn:=mP
 have I':Inv X Aa σ (upd H p (.lst (xs.set j v))) { s with heap:=s.heap.update p (Obj.mapSeq (·.setIfInBounds j u)) }:=
  I.lstUpd hp ho (f_ its n j u) (r.set rv j) (by rw[bD];exact hz) s.toks
 by_cases h0:0<=k
 ·have hk:k.toNat=j:=by
   rw[seqIndex_of h0 h4]at h1
   exact ozI h1
  exact PySem.W.ki_setAt ho h0 (by lia) (by rw[bE,<-hl];exact h4) (by rw[hk];exact⟨_,I',q⟩)
 ·have hk:(k + (its.toArray.size:Int)).toNat=j:=by
   rw[seqIndex_neg (by lia) h3]at h1
   rw[bE,<-hl]
   exact ozI h1
  exact PySem.W.ki_setBack ho (by lia) (by rw[bE,<-hl];exact h3) (by lia) (by rw[hk];exact⟨_,I',q⟩)
theorem uI(lo hi:Option Int)(n:Nat):(sliceBounds lo hi none n).1=((HT.sIx n 0 lo:Nat):Int)/\(sliceBounds lo hi none n).2.1=((HT.sIx n n hi:Nat):Int)/\(sliceBounds lo hi none n).2.2=1:=by
 refine⟨?_,?_,rfl⟩
 ·cases lo with
  |none=>simp[sliceBounds,HT.sIx]
  |some i =>
   simp only[sliceBounds,HT.sIx,Option.getD_none,show(1:Int)>0 by decide,if_true]
   by_cases h:i<0
   ·simp only[h,if_true]<;>lia
   ·simp only[h,if_false]<;>lia
 ·cases hi with
  |none=>simp[sliceBounds,HT.sIx]
  |some i =>
   simp only[sliceBounds,HT.sIx,Option.getD_none,show(1:Int)>0 by decide,if_true]
   by_cases h:i<0
   ·simp only[h,if_true]<;>lia
   ·simp only[h,if_false]<;>lia
theorem rJ(its:List Value)(lo hi:Option Int):slicePick its.toArray lo hi none=((its.drop (HT.sIx its.length 0 lo)).take (HT.sIx its.length its.length hi-HT.sIx its.length 0 lo)).toArray:=by
 obtain⟨h1,h2,h3⟩:=uI lo hi its.toArray.size
 unfold slicePick
 rw[h1,h2,h3]
 simp only[sliceRange_one,pick_run,bE]<;>rfl
def aUg(K:eC):V->Option Int->Option Int->Hp->VK->Prop:=λx lo hi H Q=>∃a xs,x=.ref a/\SqL K H a xs/\∀p,H p=none->Q (.ref p) (upd H p (.lst (aHr xs lo hi)))
theorem aJl:SlR X (aUg X.K):=by
 intro Aa s σ H x v vl vu lo hi sl Q I rx hs pl pu h
 obtain⟨a,xs,rfl,hx,q⟩:=h
 cases rx
 obtain⟨its,r,ht,hz⟩:=I.list hx
 have Ah:=r.length
 refine⟨"list",_,slot_list_getitem.lookup,ht.isList.typeIs,?_⟩
 refine wpAny_getItem_list_slice ht.isList hs pl pu .none (by simp) ?_ (by rw[bE]<;>lia)
 rw[rJ,<-Ah]
 refine⟨.ref s.heap.objs.size,_,I.laid (t':=s.toks) (o:=.lst (aHr xs lo hi)) (λb ob q=>aD _ q) (aP _) ?_,rfl,q _ (I.hok.fresh (aP _))⟩
 exact⟨nzL (zB xs lo hi) hz,_,0,(r.drop (HT.sIx xs.length 0 lo)).take (HT.sIx xs.length xs.length hi-HT.sIx xs.length 0 lo),aY _ rfl⟩
def lW:V->Bool
 | .non=>true
 | .bl _=>true
 | .int _=>true
 | .str _=>true
 |_=>false
def eqV:V->V->Bool
 | .non,.non=>true
 | .bl a,.bl b=>a == b
 | .bl a,.int b=>(if a then 1 else 0) == b
 | .int a,.bl b=>a == (if b then 1 else 0)
 | .int a,.int b=>a == b
 | .str a,.str b=>a == b
 |_,_=>false
theorem aRp{A:Around}{s:Shared}{y x:V}{u v:Value}(ry:RelV y u)(rx:RelV x v)(fy:lW y=true)(fx:lW x=true):SeqAt.EqAt A s u v (eqV y x):=by
 cases y with
 |non =>
  cases ry
  cases x with
  |non=>cases rx;exact SeqAt.EqAt.same _
  |bl b=>cases rx;exact SeqAt.EqAt.none_bool b
  |int b=>obtain⟨t,rfl⟩:=rx;exact SeqAt.EqAt.none_int b t
  |str b=>obtain⟨t,rfl⟩:=rx;exact SeqAt.EqAt.none_str b t
  |_=>exact absurd (show false=true from fx) aG
 |bl a =>
  cases ry
  cases x with
  |non=>cases rx;exact SeqAt.EqAt.bool_none a
  |bl b=>cases rx;exact SeqAt.EqAt.bool_bool a b
  |int b=>obtain⟨t,rfl⟩:=rx;exact SeqAt.EqAt.bool_int a b t
  |str b=>obtain⟨t,rfl⟩:=rx;exact SeqAt.EqAt.bool_str a b t
  |_=>exact absurd (show false=true from fx) aG
 |int a =>
  obtain⟨t',rfl⟩:=ry
  cases x with
  |non=>cases rx;exact SeqAt.EqAt.int_none a t'
  |bl b=>cases rx;exact SeqAt.EqAt.int_bool a t' b
  |int b=>obtain⟨t,rfl⟩:=rx;exact SeqAt.EqAt.int_int a t' b t
  |str b=>obtain⟨t,rfl⟩:=rx;exact SeqAt.EqAt.int_str a t' b t
  |_=>exact absurd (show false=true from fx) aG
 |str a =>
  obtain⟨t',rfl⟩:=ry
  cases x with
  |non=>cases rx;exact SeqAt.EqAt.str_none a t'
  |bl b=>cases rx;exact SeqAt.EqAt.str_bool a t' b
  |int b=>obtain⟨t,rfl⟩:=rx;exact SeqAt.EqAt.str_int a t' b t
  |str b=>obtain⟨t,rfl⟩:=rx;exact SeqAt.EqAt.str_str a t' b t
  |_=>exact absurd (show false=true from fx) aG
 |_=>exact absurd (show false=true from fy) aG
def eqU(x:V)(u:Value):Bool:=match u with
 | .none=>eqV .non x
 | .bool b=>eqV (.bl b) x
 | .int i _=>eqV (.int i) x
 | .str z _=>eqV (.str z) x
 |_=>false
theorem aHh{x y:V}{u:Value}(r:RelV y u)(f:lW y=true):eqU x u=eqV y x:=by
 cases y with
 |non=>cases r;rfl
 |bl b=>cases r;rfl
 |int i=>obtain⟨t,rfl⟩:=r;rfl
 |str z=>obtain⟨t,rfl⟩:=r;rfl
 |_=>exact absurd (show false=true from f) aG
theorem wK{x:V}:∀{xs:List V} {us:List Value},Vals xs us->xs.all lW=true->us.any (eqU x)=xs.any λy=>eqV y x
 |_,_,.nil,_=>rfl
 |y::xs,u::us,.cons r t,f=>by
  rw[List.all_cons,bW]at f
  rw[fQ,fQ,aHh r f.1,wK t f.2]
theorem pZ{A:Around}{s:Shared}{x:V}{v:Value}(rx:RelV x v)(fx:lW x=true):∀{xs:List V} {us:List Value},Vals xs us->xs.all lW=true->∀u∈us,SeqAt.EqAt A s u v (eqU x u)
 |_,_,.nil,_=>λu hu=>by cases hu
 |y::xs,u::us,.cons r t,f=>λu' hu=>by
  rw[List.all_cons,bW]at f
  rcases aE.mp hu with rfl | hu
  ·rw[aHh r f.1];exact aRp r rx f.1 fx
  ·exact pZ rx fx t f.2 u' hu
def inV(x:V)(xs:List V):Bool:=xs.any λy=>eqV y x
def rIn(K:eC)(neg:Bool):R2:=λx y H Q=>∃p xs,y=.ref p/\(SqL K H p xs\/SqT K H p xs)/\lW x=true/\xs.all lW=true/\Q (.bl (if neg then !inV x xs else inV x xs)) H
theorem aBg:OpR X (compareOp .In) (rIn X.K false):=by
 intro Aa s σ H x y v u Q I rx ry h
 obtain⟨p,xs,rfl,hq,fx,fs,q⟩:=h
 cases ry
 rcases hq with hq | hq
 ·obtain ⟨its,r,pl,hz⟩:=I.list hq
  refine SeqAt.in_listAt (eqU x) pl.isList (λw hw=>pZ rx fx r fs w (by simpa using hw)) ⟨.bl _,H,I,rfl,?_⟩
  rw[show its.toArray.any (eqU x)=its.any (eqU x) by simp,wK r fs]
  exact q
 ·obtain ⟨its,r,pl,hz⟩:=I.tuple hq
  refine SeqAt.in_tupleAt (eqU x) pl (λw hw=>pZ rx fx r fs w (by simpa using hw)) ⟨.bl _,H,I,rfl,?_⟩
  rw[show its.toArray.any (eqU x)=its.any (eqU x) by simp,wK r fs]
  exact q
theorem wE:CallR X (.builtin "len") (λxs H Q=>∃p ys,xs=[.ref p]/\(SqL X.K H p ys\/SqT X.K H p ys)/\Q (.int ys.length) H):=by
 intro Aa s σ H xs us Q I r h
 obtain⟨p,ys,rfl,hq,q⟩:=h
 obtain⟨u,rfl,rx⟩:=iB r
 cases rx
 have hn:=mP
 rcases hq with hq | hq
 ·obtain ⟨its,r',pl,hz⟩:=I.list hq
  have Ah:=r'.length
  exact Calls.call_len_list pl.isList (by simp only[bE]<;>lia) ⟨.int ys.length,H,I.tok _,⟨s.toks+1,by rw[bE,Ah]⟩,q⟩
 ·obtain ⟨its,r',pl,hz⟩:=I.tuple hq
  have Ah:=r'.length
  exact len_tuple pl (by simp only[bE]<;>lia) ⟨.int ys.length,H,I.tok _,⟨s.toks+1,by rw[bE,Ah]⟩,q⟩
theorem lY:CallR X (.builtin "len") (λxs H Q=>∃z,xs=[.str z]/\z.length<=sizeLine/\Q (.int z.length) H):=by
 intro Aa s σ H xs us Q I r h
 obtain⟨z,rfl,hz,q⟩:=h
 obtain⟨u,rfl,t,rfl⟩:=iB r
 have hn:=mP
 exact len_str (by lia) ⟨.int z.length,H,I.tok _,⟨_,rfl⟩,q⟩
theorem CallR.or{f:Value}{r r':List V->Hp->VK->Prop}(h:CallR X f r)(h':CallR X f r'):CallR X f (λxs H Q=>r xs H Q\/r' xs H Q):=by
 intro Aa s σ H xs us Q I rs q
 rcases q with q | q
 ·exact h Aa s σ H xs us Q I rs q
 ·exact h' Aa s σ H xs us Q I rs q
theorem rR:CallR X (.type "tuple") (λxs H Q=>∃p ys,xs=[.ref p]/\((SqL X.K H p ys/\∀l,H l=none->Q (.ref l) (upd H l (.tup ys)))\/(SqT X.K H p ys/\Q (.ref p) H))):=by
 intro Aa s σ H xs us Q I r h
 obtain⟨p,ys,rfl,h⟩:=h
 obtain⟨u,rfl,rx⟩:=iB r
 cases rx
 rcases h with⟨hq,q⟩ | ⟨hq,q⟩
 ·obtain ⟨its,r',pl,hz⟩:=I.list hq
  have Ah:=r'.length
  refine call_tuple_list pl.isList (λh' kp=>?_) (by simp only[bE]<;>lia)
  have I1:Inv X Aa σ H { s with heap:=h' }:=I.kept (t':=s.toks) kp
  have I2:Inv X Aa σ (upd H h'.objs.size (.tup ys)) { s with heap:=h'.push { cls:=.type "tuple",data:=.seq its.toArray } }:=
   I1.laid (t':=s.toks) (λb o e=>aD _ e) (aP _) (show ObjOk X.prog X.w _ _ _ (.tup ys)from⟨hz,its,r',IsTup.new _ _⟩)
  exact⟨.ref h'.objs.size,_,I2,rfl,q _ (I1.hok.fresh (aP _))⟩
 ·obtain ⟨its,r',pl,hz⟩:=I.tuple hq
  exact call_tuple_same pl ⟨.ref p,H,I,rfl,q⟩
def tyV(K:eC)(T:String)(x:V)(H:Hp):Prop:=match x with
 | .str _=>T = "str"
 | .int _=>T = "int"
 | .ref p => (T = "list" ∧ ∃ xs, SqL K H p xs) ∨ (T = "tuple" ∧ ∃ o, K.lookup p = some o ∧ o.cls = .type "tuple" ∧ o.dict = none) ∨
   (T = "dict" /\ ((∃kvs,H p=some (.dK kvs))\/∃kvs,H p=some (.dT kvs)))\/(T = "set" /\ ∃S n,H p=some (.set S n))
 |_=>False
theorem aDv{Aa:fG}{σ:St}{H:Hp}{s:Shared}{T:String}{x:V}{v:Value}(I:Inv X Aa σ H s)(r:RelV x v)(ty:tyV X.K T x H) :
  s.TypeIs v T/\∀a,v=.ref a->∃ob,s.heap.get? a=some ob/\ob.dict=none:=by
 cases x with
 |str z =>
  obtain⟨t,rfl⟩:=r
  cases(show T = "str" from ty)
  exact⟨typeIs_str s z t,λ_ e=>nomatch e⟩
 |int i =>
  obtain⟨t,rfl⟩:=r
  cases(show T = "int" from ty)
  exact⟨typeIs_int s i t,λ_ e=>nomatch e⟩
 |ref p =>
  cases r
  rcases ty with⟨rfl,xs,hq⟩ | ⟨rfl,o,hk,hc,hd⟩ | ⟨rfl,hk⟩ | ⟨rfl,S,n,hk⟩
  ·obtain ⟨its,_,pl,_⟩:=I.list hq
   refine⟨pl.isList.typeIs,λa e=>?_⟩
   cases e
   obtain⟨o,n,e,c,hd,_⟩:=pl
   exact⟨o,e,hd⟩
  ·refine ⟨⟨o,I.kIn p o hk,hc⟩,fun a e => ?_⟩
   cases e
   exact⟨o,I.kIn _ o hk,hd⟩
  ·have z:∃ o,s.heap.get? p=some o∧o.ExactDict:=by
    rcases hk with⟨kvs,hk⟩ | ⟨kvs,hk⟩
    ·obtain ⟨o,_,_,e,ex,_⟩:=gq_ (I.hok p _ hk)
     exact⟨o,e,ex⟩
    ·obtain ⟨_,_,_,_,o,_,_,e,ex,_⟩:=I.hok p _ hk
     exact⟨o,e,ex⟩
   obtain⟨o,e,ex⟩:=z
   refine⟨⟨o,e,ex.1⟩,λa e2=>?_⟩
   cases e2
   exact⟨o,e,ex.2.1⟩
  ·obtain ⟨o,_,_,_,e,ex,_⟩:=I.hok p _ hk
   refine⟨⟨o,e,ex.1⟩,λa e2=>?_⟩
   cases e2
   exact⟨o,e,ex.2.1⟩
 |_=>exact False.elim ty
def aUb(K:eC)(T:String)(r:V->List V->Hp->VK->Prop)(to:TE):TE:=λσ H Q=>to σ H λx H1=>tyV K T x H1/\r x [] H1 Q
def tBM(K:eC)(T:String)(r:V->List V->Hp->VK->Prop)(to:TE)(t:TA):TE:=λσ H Q=>to σ H λx H1=>tyV K T x H1/\t σ H1 λxs H2=>r x xs H2 Q
variable{o e:Expr}{es:List Expr}{to:TE}{t:TA}{name:Str}{apos cpos:Pos}{T id:String}{r:V->List V->Hp->VK->Prop}
theorem aOz(pa:PlainAttrs T)(slot:Slot T name id)(J3:typeOf (.builtin id)=pure (.type "method_descriptor"))(hm:MtR X id r)(ho:PE X o to)
  (Da:attributeBase o name X.env (eval o X.env)=eval o X.env:=by rfl) (Ek:(apos.endLine == cpos.line)=true:=by rfl):PE X (.Call (.Attribute o name apos) [] [] cpos) (aUb X.K T r to):=by
 intro Aa s σ H Q I h
 refine wpAny_Call_method0_late Da Ek (eO (ho Aa s σ H _ I h) λv s1 ⟨x,H1,I1,r1,ty,q1⟩=>?_)
 obtain⟨h1,h2⟩:=aDv I1 r1 ty
 exact⟨T,id,pa,slot,J3,h1,h2,Calls.callWith_builtin rfl (PySem.evalArgs_none (hm Aa s1 σ H1 x [] v [] Q I1 r1 .nil q1))⟩
theorem t7(pa:PlainAttrs T)(slot:Slot T name id)(J3:typeOf (.builtin id)=pure (.type "method_descriptor"))(hm:MtR X id r)(ho:PE X o to)(ha:PA X (e::es) t)
  (Da:attributeBase o name X.env (eval o X.env)=eval o X.env:=by rfl)
  (K6:((backTo cpos (starEach (e :: es) X.env)).all (fun x => !x.1) && (backToKw cpos (keywordEach [] X.env)).all (fun x=>x.1.isSome)
   && decide ((e::es).length+([]:List Keyword).length+(if([]:List Keyword).isEmpty then 0 else 1)<30))=true:=by rfl)
  (Ek:(apos.endLine == cpos.line)=true:=by rfl) (hs:starEach (e::es) X.env=(false,eval e X.env)::starEach es X.env:=by rfl) (Gc:(backTo cpos (starEach es X.env)).any (·.1)=false:=by rfl) :
  PE X (.Call (.Attribute o name apos) (e::es) [] cpos) (tBM X.K T r to t):=by
 intro Aa s σ H Q I h
 refine wpAny_Call_method_late Da K6 Ek rfl (eO (ho Aa s σ H _ I h) λv s1 ⟨x,H1,I1,r1,ty,q1⟩=>?_)
 obtain⟨h1,h2⟩:=aDv I1 r1 ty
 refine⟨T,id,pa,slot,J3,h1,h2,?_⟩
 have hA:=ha cpos Aa s1 σ H1 _ I1 q1
 rw[hs]at hA ⊢
 refine Calls.callWith_builtin (by show(false||(backTo cpos (starEach es X.env)).any (·.1))=false;rw[Gc]<;>rfl) (Calls.evalArgs_plain ?_)
 exact eO hA λus s2 ⟨vs,H2,I2,r2,q2⟩=>hm Aa s2 σ H2 x vs v us Q I2 r1 r2 q2
end
def MtM(X:Cx)(id:String)(r:V->List V->Hp->VK->Prop):Prop:=
 ∀(Aa:fG) (s:Shared) (σ:St) (H:Hp) (x:V) (xs:List V) (v:Value) (us:List Value) (Q:VK),Inv X Aa σ H s->RelV x v->Vals xs us->r x xs H Q ->
  wpAny (model X.prog X.w) X.A (call (.builtin id) (v::us)) (EP X Aa σ Q) X.xe s
theorem Vals.one:∀{x:V} {us:List Value},Vals [x] us->∃u,us=[u]/\RelV x u
 |_,_,.cons r .nil=>⟨_,rfl,r⟩
theorem Vals.two:∀{x y:V} {us:List Value},Vals [x,y] us->∃u v,us=[u,v]/\RelV x u/\RelV y v:=by
 intro x y us h;cases h with
 |cons r t=>cases t with
  |cons q z=>cases z;exact⟨_,_,rfl,r,q⟩
theorem Vals.rep{xs:List V}{us:List Value}(h:Vals xs us):∀k:Nat,Vals (List.replicate k xs).flatten (List.replicate k us).flatten
 | 0=>.nil
 |k+1=>by
  rw[aU,aU,eX,eX]
  exact Vals.append h (Vals.rep h k)
theorem sW(its:List Value):∀(k:Nat) (Ab:List Value),
  List.foldl (λx1 x2=>x1++x2) Ab.toArray (List.replicate k its.toArray)=(Ab++(List.replicate k its).flatten).toArray
 | 0,Ab=>by simp
 |k+1,Ab=>by
  have e:Ab.toArray++its.toArray=(Ab++its).toArray:=by simp
  have e2:(Ab++its)++(List.replicate k its).flatten=Ab++(List.replicate (k+1) its).flatten:=by
   rw[aU,eX,bN]
  rw[<-e2,<-sW its k (Ab++its),<-e,aU,List.foldl_cons]
section
variable{X:Cx}{Aa:fG}{σ:St}{H:Hp}{s:Shared}{l b:Addr}{xs ys zs:List V}
theorem Inv.lset{its its':List Value}{n:Nat}{f:Array Value->Array Value}{t':Nat}(I:Inv X Aa σ H s)(hH:H l=some (.lst xs))
  (e:s.heap.get? l=some { cls:=.type "list",data:=.seq its.toArray n }) (hf:f its.toArray=its'.toArray) (hv:Vals ys its') (hz:ys.length<=sizeLine) :
  Inv X Aa σ (upd H l (.lst ys)) { s with heap:=s.heap.update l (Obj.mapSeq f),toks:=t' }:=by
 have q:=PySem.IsL.update e f
 rw[hf]at q
 refine I.write (x:=l) (e:=l) (by rw[hH];exact trivial) (.inl rfl) (λb' u hb hu=>(bO s.heap (Obj.mapSeq f) (Ne.symm hb)).trans hu) ⟨_,q⟩ ?_
 exact⟨hz,its',_,hv,q⟩
theorem Inv.lnew{its:List Value}{t':Nat}(I:Inv X Aa σ H s)(hv:Vals ys its)(hz:ys.length<=sizeLine) :
  Inv X Aa σ (upd H s.heap.objs.size (.lst ys)) { s with heap:=s.heap.push { cls:=.type "list",data:=.seq its.toArray },toks:=t' }:=
 I.laid (λ_ _ q=>aD _ q) (aP _) ⟨hz,its,0,hv,aY _ rfl⟩
theorem Inv.fresh(I:Inv X Aa σ H s):H s.heap.objs.size=none:=I.hok.fresh (aP _)
theorem Inv.lstM(I:Inv X Aa σ H s)(hH:H l=some (.lst xs)):xs.length<=sizeLine/\∃(its:List Value) (n:Nat),Vals xs its/\xs.length=its.length/\s.heap.get? l=some { cls:=.type "list",data:=.seq its.toArray n }:=by
 obtain⟨z,its,n,r,e⟩:=I.hok l _ hH
 exact⟨z,its,n,r,r.length,e⟩
theorem aFy{n:Nat}(h:n<=sizeLine):Builtin.List.listTooLong n=false:=by
 unfold Builtin.List.listTooLong
 exact dzF (by lia)
end
section
variable{X:Cx}
def q_:V->List V->Hp->VK->Prop:=λx vs H Q=>∃l xs y,x=.ref l/\vs=[y]/\H l=some (.lst xs)/\xs.length<sizeLine/\Q .non (upd H l (.lst (xs++[y])))
theorem im_:MtM X "list.append" q_:=by
 intro Aa s σ H x vs v us Q I rx rv h
 obtain⟨l,xs,y,rfl,rfl,hH,hz,q⟩:=h
 cases rx
 obtain⟨u,rfl,ru⟩:=rv.one
 obtain⟨z,its,n,r,hl,e⟩:=I.lstM hH
 refine call_meets F.slot_list_append ⟨_,e,rfl⟩ F.entry_list_append (F.args_list_append_2 _ _) (PySem.list_append l its.toArray n u (by rw[bE];lia)) ⟨e,?_⟩
 refine⟨.non,_,I.lset (its':=its++[u]) hH e (by simp) (r.append (.cons ru .nil)) ?_,rfl,q⟩
 rw[aK,fJ]
 lia
def aYm:R2:=λx y H Q=>∃l b xs zs,x=.ref l/\y=.ref b/\H l=some (.lst xs)/\H b=some (.lst zs)/\xs.length+zs.length<=sizeLine/\∀p,H p=none->Q (.ref p) (upd H p (.lst (xs++zs)))
theorem aPj:OpR X (binaryOp .Add) aYm:=by
 intro Aa s σ H x y v u Q I rx ry h
 obtain⟨l,b,xs,zs,rfl,rfl,hH,hB,hz,q⟩:=h
 cases rx
 cases ry
 obtain⟨z,its,n,r,hl,e⟩:=I.lstM hH
 obtain⟨z2,its2,n2,r2,Cg,e2⟩:=I.lstM hB
 refine PySem.P.add_list e e2 ?_ (by rw[bE,bE];lia)
 have ea:its.toArray++its2.toArray=(its++its2).toArray:=by simp
 rw[ea]
 exact⟨.ref _,_,I.lnew (t':=s.toks) (r.append r2) (by rw[aK];lia),rfl,q _ I.fresh⟩
def aYl:R2:=λx y H Q=>∃l k xs,x=.ref l/\y=.int k/\H l=some (.lst xs) /\ -(2^63)<=k/\k<2^63/\xs.length*k.toNat<=sizeLine /\
 ∀p,H p=none->Q (.ref p) (upd H p (.lst (List.replicate k.toNat xs).flatten))
theorem aKz{α:Type}(xs:List α)(k:Nat):(List.replicate k xs).flatten.length=k*xs.length:=by
 induction k with
 |zero=>simp
 |succ k ih=>rw[aU,eX,aK,ih,Nat.succ_mul,Nat.add_comm]
theorem aPg:OpR X (binaryOp .Mult) aYl:=by
 intro Aa s σ H x y v u Q I rx ry h
 obtain⟨l,k,xs,rfl,rfl,hH,h1,h2,hz,q⟩:=h
 cases rx
 obtain⟨t,rfl⟩:=ry
 obtain⟨z,its,n,r,hl,e⟩:=I.lstM hH
 have Ah:its.toArray.size*k.toNat<=sizeLine:=by rw[bE,<-hl];exact hz
 have Lg:¬its.toArray.size*k.toNat>(2^63-1)/8:=by
  have:(sizeLine:Nat)<=(2^63-1)/8:=by decide
  lia
 have As:¬(!Builtin.List.listFitsIndex k)=true:=by
  rw[fitsIndex_both h1 h2]
  exact aG
 have Ik:¬Builtin.List.listTooLong (its.toArray.size*k.toNat)=true:=by
  rw[aFy Ah]
  exact aG
 have Dl:List.foldl (λx1 x2=>x1++x2) #[] (List.replicate (if its.toArray.isEmpty=true then 0 else k.toNat) its.toArray)=(List.replicate k.toNat its).flatten.toArray:=by
  have f0:∀m:Nat,List.foldl (λx1 x2=>x1++x2) #[] (List.replicate m its.toArray)=(List.replicate m its).flatten.toArray:=λm=>by
   have:=sW its m []
   rw[aX]at this
   exact this
  rw[f0]
  cases its with
  |nil=>simp
  |cons a r'=>rw[if_neg (by simp)]
 refine wpAny_binaryOp_repeat_ref (T:= "list") (U:= "int") (by decide) ⟨_,e,rfl⟩ (λs'=>typeIs_int s' k t) noFill_list_mul F.fills_int_mul F.slot_int_rmul repeat_list F.slot_int_index.lookup
  (call_meets F.slot_int_rmul (typeIs_int s k t) F.entry_int_rmul (F.args_int_rmul_2 _ _) (int___rmul___int_list k t l its.toArray n)
   ⟨e,rfl,⟨_,e,rfl⟩,call_meets F.slot_list_mul ⟨_,e,rfl⟩ F.entry_list_mul (F.args_list_mul_2 _ _) (AutoListH.list___mul___list_int_3 l its.toArray n k t As Lg Ik) ⟨e,?_⟩⟩)
 rw[Dl]
 exact⟨.ref _,_,I.lnew (t':=s.toks) (r.rep k.toNat) (by rw[aKz,Nat.mul_comm];exact hz),rfl,q _ I.fresh⟩
end
end L2
namespace Att
open PySem PySem.W PySem.Calls PyProof.Rows
theorem iq_{P:Params}{h:Heap}:∀(ns:List Int) (vs:List Value),WellAll P h vs (ns.map WData.int)->IntsAre vs ns:=by
 intro ns
 induction ns with
 |nil =>
  intro vs w
  rw[bL]at w
  cases w
  exact .nil
 |cons n ns ih =>
  intro vs w
  rw[aL]at w
  cases w with
  |cons a b =>
   cases a
   exact .cons _ _ (ih _ b)
theorem aAy{l:OpenLaw}{n:Nat}(hn:l.most=some n){P:Params}{h:Heap}{args:List WData}{kX:List Value}
  (Ff:l.row.toRowW.claim.pre args=true) (J1:WellAll P h kX args) :
  ∃a vs ns,kX=[Value.ref a]/\args=[WData.list (ns.map WData.int)]/\h.get? a=some { cls:=.type "list",data:=.seq vs.toArray }/\IntsAre vs ns/\ns.length<=n:=by
 have hsh:WShape.hasAll [] args [.list .int]=true:=(pre_splitW Ff).1
 have hc:l.pre.holds [] { args:=args }=true:=(pre_splitW Ff).2
 obtain⟨d,r,rfl,h1,h2⟩:=hasAllW_cons hsh
 obtain rfl:=hasAllW_nil h2
 obtain⟨xs,rfl,h3⟩:=hasW_list h1
 obtain⟨ns,rfl⟩:=items_int h3
 have Ah:ns.length<=n:=by
  unfold OpenLaw.pre at hc
  have h4:(WTm.not (.lt (.lit (.int (n:Int))) (.len (.arg 0)))).holds [] { args:=[.list (ns.map .int)] }=true:=by
   have h4:=(holds_andW hc).1
   rw[hn]at h4
   exact h4
  have h5:=condW_of h4 (w_not (w_lt w_lit (w_len_list (w_arg rfl))))
  rw[aC]at h5
  refine Nat.le_of_not_lt λq=>?_
  have q':(n:Int)<((ns.length:Nat):Int):=by lia
  first
   |(rw[dzT q']at h5;exact absurd h5 (by decide))
   |(simp at h5;lia)
 cases J1 with
 |cons w1 w2 =>
  cases w2
  cases w1 with
  |list ho Ar=>exact⟨_,_,ns,rfl,rfl,ho,iq_ ns _ Ar,Ah⟩
theorem aBa(l:OpenLaw)(args:List WData):l.row.toRowW.claim.post args (.bool true) args=true:=
 postW_of (r:=l.row.toRowW) (X:=(true == true))
  (show WShape.has [] (.bool true) .bool=true by first | rfl | decide | simp[WShape.has,WShape.arms,WShape.armsAll])
  (show(WTm.eq .res (.lit (.bool true))).value [] { args:=args,res:=some (.bool true),after:=args }=some (.bool (true == true))from w_eq_bool (w_res rfl) w_lit) rfl
theorem attach_call{l:OpenLaw}{n:Nat}{q:Program}{loose:List Str}{XP:(Str->Option Value)->Heap->Prop}{YP:World->Heap->Prop}{d:DefRec}
  (hn:l.most=some n) (Ld:d.params.defaults=[])
  (call:∀ (w:World) (s₀ s₁:Shared) (mg mb:kW) (fa:Addr) (o:Obj) (pm cd doc:Value) (a:Addr) (vs:List Value) (ns:List Int),
   Ground q loose [] XP w s₀ mg mb s₁.heap->YP w s₁.heap ->
   s₁.heap.get? fa=some o->o.data=.func (docDef d.name d.params d.body d.scope pm cd doc)->s₁.heap.CodeRec cd d.name->mg d.name=some (.ref fa) ->
   s₁.heap.get? a=some { cls:=.type "list",data:=.seq vs.toArray }->IntsAre vs ns->ns.length<=n->s₁.gens = #[] ->
   codeAny (model l.prog w) callerA (.call (.ref fa) ⟨[.ref a],[]⟩) (λr s'=>r=.ok (.ret (.bool true))/\OldK s₁.heap s'.heap/\s'.os=s₁.os/\AllBare s'.gens) s₁) :
  WalkO q loose XP YP l.row.toRowW d [] (λf vs=>PySem.call f vs):=by
 intro w s₀ s₁ mg mb G Y fa o pm cd doc dV kV ho hd Ea hD Ks hg args kX as Ff hlay hrd J1 hlo
 obtain rfl:dV=.none:=Dflts.none hD Ld
 obtain rfl:kV=.none:=Dflts.noKw hD
 obtain⟨a,vs,ns,rfl,rfl,Gf,Em,Ah⟩:=aAy hn Ff J1
 refine enter_call (codeAny_mono (call w s₀ s₁ mg mb fa o pm cd doc a vs ns G Y ho (fd_plain hd) Ea Ks Gf Em Ah hg) λr s' hq=>?_)
 obtain⟨rfl,h2,h3,h4⟩:=hq
 exact⟨.inl ⟨.bool true,.bool true,[],rfl,λ_=>rfl,.bool true,aBa l _,λ_=>⟨List.Pairwise.nil,λ_ hm=>(nomatch hm)⟩⟩,h2,h3,h4⟩
end Att
namespace L2
open PySem PySem.Spec PyProof.Rows
theorem sA:∀{vs:List Value} {ns:List Int},IntsAre vs ns->Vals (ns.map V.int) vs
 |_,_,.nil=>.nil
 |_,_,.cons n t h=>.cons ⟨t,rfl⟩ (sA h)
def aSk(H:Hp):Prop:=∀b,H b=none\/∃o xs,H b=some (.frz o (.lst xs))
theorem aGh{P:Program}{w:World}{K:eC}{mg mb:kW}{CX:CXT}{k:Nat}{fa a:Addr}{fd:FuncData}{x:Str}{sp:Sp}{s₁:Shared}{vs:List Value}{ns:List Int}
  (KX:K.In s₁.heap) (C0:s₁.heap.Ns mainGlobals mg) (hb:s₁.heap.Ns builtinsNs mb) (hbb:∀x:Str,x ≠ "__name__" -> mb x=bootBuiltins x) (Ku:s₁.heap.NoLimit) (hg:s₁.gens = #[])
  (ha:s₁.heap.get? a=some { cls:=.type "list",data:=.seq vs.toArray }) (hi:IntsAre vs ns) (hl:ns.length<=sizeLine) (hr:Room k callerA)
  (F:∀base:Heap,K.In base->base.Ns mainGlobals mg->FnOk P w K mg base CX k fa fd [x] sp) (Ix:∀(s:Shared) (u:Value),BindsTo s fd ⟨[u],[]⟩ [(x,u)])
  (D5:∀H:Hp,aSk H->SqL K H a (ns.map V.int)->sp [.ref a] H (λv _=>v=.bl true) λ_ _ _=>False)
  (Lp:∀H e s',CX [] H s₁ (λ_ _ _=>False) e s'->False) :
  codeAny (model P w) callerA (.call (.ref fa) ⟨[.ref a],[]⟩) (λr s'=>r=.ok (.ret (.bool true))/\OldK s₁.heap s'.heap/\s'.os=s₁.os/\AllBare s'.gens) s₁:=by
 have rv:=sA hi
 have lenV:=hi.length
 have core:∀H:Hp,aSk H->SqL K H a (ns.map V.int)->HOk P w H s₁.heap->(∀b,H b≠none->b=a)->(H a≠none->K.lookup a=none) ->
   codeAny (model P w) callerA (.call (.ref fa) ⟨[.ref a],[]⟩) (λr s'=>r=.ok (.ret (.bool true))/\OldK s₁.heap s'.heap/\s'.os=s₁.os/\AllBare s'.gens) s₁:=by
  intro H hO hS hok hA hK
  have base_of:∀{b:Addr} {o:Obj},s₁.heap.get? b=some o->H b=none->(vL s₁.heap H).get? b=some o:=λe n=>aGv e n
  have noA:∀{b:Addr} {o:Obj} {es:Array DictEntry} {ep:Nat},s₁.heap.get? b=some o->o.data=.dict es ep->H b=none:=λ{b o es ep} e d=>by
   cases q:H b with
   |none=>rfl
   |some u =>
    have e':b=a:=hA b (by rw[q];simp)
    subst e'
    rw[ha]at e;cases e
    have d':Data.seq vs.toArray _=Data.dict es ep:=d
    cases d'
  have nsK:∀{b:Addr} {m:kW},s₁.heap.Ns b m->(vL s₁.heap H).Ns b m:=λ{b m} ⟨o,es,ep,e,d,r⟩=>⟨o,es,ep,base_of e (noA e d),d,r⟩
  have M4:K.In (vL s₁.heap H):=λb o e=>base_of (KX b o e) (by
   cases q:H b with
   |none=>rfl
   |some u =>
    have e':b=a:=hA b (by rw[q];simp)
    subst e'
    rw[hK (by rw[q];simp)]at e;cases e)
  have hM:Mod K mg (vL s₁.heap H):=⟨M4,nsK C0,⟨mb,nsK hb,hbb⟩,let ⟨mc,h1,h2⟩:=Ku;⟨mc,nsK h1,h2⟩⟩
  have e0:Env0 P w K mg (vL s₁.heap H) callerA [] s₁ H:=⟨rfl,hM,λb o e=>aKp e,Nat.le_of_eq (aBy _ _),trivial,λb hb=>absurd (show b∈([]:List Addr)from hb) (by simp),hok,.of_eq hg⟩
  refine codeAny_mono ((F _ M4 (nsK C0)).run callerA [] s₁ H ⟨[.ref a],[]⟩ [.ref a] [.ref a] _ _ hr e0 (Ix s₁ (.ref a)) (.cons rfl .nil) (D5 H hO hS)) λr s' h=>?_
  cases r with
  |error e=>exact(Lp H e s' h).elim
  |ok fl =>
   cases fl with
   |next=>exact False.elim h
   |brk=>exact False.elim h
   |cont=>exact False.elim h
   |ret u =>
    obtain⟨v,H',os,bare,un,Kh,r',q⟩:=h
    have q':v=.bl true:=q
    subst q'
    obtain rfl:u=Value.bool true:=r'
    refine⟨rfl,OldK.of_keep λb o e=>?_,os,bare⟩
    cases q:H b with
    |none=>exact un.keep b o e q (by intro z;exact absurd (show b∈([]:List Addr)from z) (by simp)) (by simp)
    |some u =>
     rcases hO b with z | ⟨ob,xs,z⟩
     ·rw[q]at z;cases z
     ·have z2:=un.frzs b ob _ z
      obtain⟨e1,_⟩:=hok b _ z
      obtain⟨e2,_⟩:=Kh b _ z2
      rw[e]at e1;cases e1
      exact e2
 cases hk:K.lookup a with
 |some o =>
  have e:=KX a o hk
  rw[ha]at e
  cases e
  refine core (λ_=>none) (λ_=>.inl rfl) (.inr ⟨_,vs.toArray,_,hk,rfl,rfl,rfl,by rw[bE,lenV];exact hl,by simpa using rv⟩) (λb u z=>by have z':(none:Option HO)=some u:=z;cases z') (λb z=>absurd rfl z) λz=>absurd rfl z
 |none =>
  refine core (λb=>if b=a then some (.frz { cls:=.type "list",data:=.seq vs.toArray } (.lst (ns.map V.int)))else none) (λb=>?_) (.inl (.inr ⟨{ cls:=.type "list",data:=.seq vs.toArray },if_pos rfl⟩)) (λb u z=>?_) (λb z=>?_) λ_=>hk
  ·by_cases hb:b=a
   ·exact .inr ⟨_,_,if_pos hb⟩
   ·exact .inl (if_neg hb)
  ·by_cases hb:b=a
   ·have z':=(if_pos hb).symm.trans z
    cases z'
    subst hb
    exact⟨ha,by rw[aC];exact hl,vs,_,rv,ha⟩
   ·have z':=(if_neg hb).symm.trans z
    cases z'
  ·by_cases hb:b=a
   ·exact hb
   ·exact absurd (if_neg hb) z
abbrev CX0:CXT:=λ_ _ _ _ _ _=>False
abbrev E0:XK:=λ_ _ _=>False
theorem lU{X:Cx}:l_ CX0 X E0:=λ_ _ _ _ _ _ _ h=>h.elim
structure Fun(K:eC)(x qual:Str)(st:Stmt)(f:Addr)(fd:FuncData):Prop where
 ex:∃(oc:Value) (od:Option Addr) (kV doc pm:Value) (an:Option Addr) (Af ct:Value) (osl:Array (Option Value)),
  fd=PySem.W.fnOf x qual (oR st) (gR st) (aO st) .none kV doc pm an Af ct/\K.lookup f=some ⟨oc,od,.func fd,osl⟩/\PySem.W.codeIn K Af qual=true
 kp:PySem.W.keepIn K (.ref f)=true
section
theorem Fun.ok{x qual:Str}{st:Stmt}{f:Addr}{fd:FuncData}{N ps:List Str}{k:Nat}{sp:Sp}(F:Fun K x qual st f fd)(S:FnScope N ps (aO st))(len:∀vs H Q E,sp vs H Q E->vs.length=ps.length)
  (Bb:∀ (Af:Value) (A:Around) (outer:List Env) (s:Shared) (H:Hp) (vs:List V) (Q:VK) (E:XK),Room k (A.deeper (envOfC qual (aO st) s.heap.objs.size f Af))→sp vs H Q E →
   ∃t,PSs (lX CX0 P w K mg base N qual (aO st) f Af A outer s H E).nox (gR st) t/\t { nx:=λ_ H'=>Q .non H',rt:=Q } (start N vs) H):FnOk P w K mg base CX0 (k+1) f fd ps sp:=by
 obtain⟨oc,od,kV,doc,pm,an,Af,ct,osl,rfl,lk,Ea⟩:=F.ex
 refine aNk lk Ea S len λA outer s H vs Q E hr D5=>?_
 obtain⟨t,h,q⟩:=Bb Af A outer s H vs Q E hr D5
 exact⟨t,h.nox,q⟩
theorem Fun.binds{x qual:Str}{st:Stmt}{f:Addr}{fd:FuncData}{ps:List Str}(F:Fun K x qual st f fd)
  (h:∀(kV doc pm:Value) (an:Option Addr) (Af ct:Value) (us:List Value),us.length=ps.length->bindArgs (PySem.W.fnOf x qual (oR st) (gR st) (aO st) .none kV doc pm an Af ct) ⟨us,[]⟩=pure (ps.zip us)):Binds K fd ps []:=by
 obtain⟨oc,od,kV,doc,pm,an,Af,ct,osl,rfl,lk,Ea⟩:=F.ex
 exact .all (h kV doc pm an Af ct)
end
theorem rP{A:Around}{k:Nat}(hr:Room k A):A.units+1<cLine:=Nat.lt_of_le_of_lt (Nat.add_le_add_left (by decide:1<=64) _) hr.units
theorem sH{n:Nat}(h:n<=1000):n<sizeLine:=Nat.lt_of_le_of_lt h (by decide)
section
variable{X:Cx}
theorem pv(i:Nat){x:Str}{pos:Pos}(hN:X.N[i]? = some x:=by rfl)(hv:Vis X.env.scope x:=by first | exact Or.inl rfl | exact Or.inr (Or.inl rfl) | exact Or.inr (Or.inr rfl))(hd:(x == ("__debug__" : Str))=false:=by decide)
  (Ea:(x == ("__classdict__" : Str))=false:=by decide):PE X (.Name x pos) (gU i):=aOt hN hv hd Ea
end
theorem aZb{A B:Prop}(h:B):if false=true then A else B:=by
 rw[if_neg aG]
 exact h
theorem aZa{A B:Prop}(h:A):if true=true then A else B:=by
 rw[if_pos rfl]
 exact h
theorem nN{c A B:Prop}[Decidable c](h1:c->A)(h2:¬c->B):if c then A else B:=by
 by_cases h:c
 ·rw [if_pos h]
  exact h1 h
 ·rw [if_neg h]
  exact h2 h
def Same(H H':Hp):Prop:=∀b o,H b=some o->H' b=some o
theorem Same.refl(H:Hp):Same H H:=λ_ _ h=>h
theorem Same.trans{H H1 H2:Hp}(a:Same H H1)(b:Same H1 H2):Same H H2:=λc o h=>b c o (a c o h)
section
variable{X:Cx}
def aNo(_ j:Int):Prop:=0<j/\j<2^250
theorem aGb{j:Int}(h1:0<j)(h2:j<2^250):j.natAbs.log2<9000:=by
 have h0:j.natAbs≠0:=by lia
 have h3:j.natAbs<2^250:=by lia
 exact Nat.lt_trans ((Nat.log2_lt h0).mpr h3) (by decide)
theorem pS:OpR X (binaryOp .FloorDiv) (rI aNo λi j=>.int (i/j)):=opI λi j _ _ _ _ _ hc q=>by
 have h1:(0:Int)<j:=hc.1
 exact floordiv_int (by lia) (by rw[Int.fdiv_eq_ediv_of_nonneg i (by lia)];exact q) (.inl (PyProof.noPylong_of_log2 (aGb hc.1 hc.2)))
def CMulB(i j:Int):Prop:=i.natAbs<2^250/\j.natAbs<2^250
theorem CMulB.ok{i j:Int}(h:CMulB i j):IntMulOk i j:=by
 have a:Builtin.Int.intBits i<=250:=intBits_le h.1
 have b:Builtin.Int.intBits j<=250:=intBits_le h.2
 unfold IntMulOk Builtin.Int.intTooBig
 intro z
 rw[bW]at z
 have c:=of_decide_eq_true z.2
 rw[bitsLine_eq]at c
 lia
theorem jB:OpR X (binaryOp .Mult) (rI CMulB λi j=>.int (i*j)):=opI λ_ _ _ _ _ _ _ hc q=>mul_int q hc.ok
end
section
variable{K:eC}
theorem aGj(T:String):PySem.W.kitOne K (.type T) (.type T)=some true:=by
 unfold PySem.W.kitOne
 rw[if_pos (beq_self_eq_true _)]
theorem aQm{T S:String}{b:Bool}(h1:(Value.type T == Value.type S)=false)(h2:PySem.W.kitMeta S=true)(h3:(fastBuiltinMro T).map (·.contains (Value.type S))=some b):PySem.W.kitOne K (.type T) (.type S)=some b:=by
 unfold PySem.W.kitOne
 rw[if_neg (by rw[h1];exact aG)]
 show(if PySem.W.kitMeta S=true then PySem.W.subIn K (.type T) (.type S)else none)=some b
 rw[if_pos h2]
 exact h3
theorem dr_:bootBuiltins "isinstance" = some (.builtin "isinstance"):=by decide +kernel
theorem rA:bootBuiltins "max" = some (.builtin "max"):=by decide +kernel
theorem aRz:bootBuiltins "min" = some (.builtin "min"):=by decide +kernel
theorem rB:bootBuiltins "int" = some (.type "int"):=by decide +kernel
theorem je_:bootBuiltins "bool" = some (.type "bool"):=by decide +kernel
theorem mY:bootBuiltins "str" = some (.type "str"):=by decide +kernel
theorem hj_:bootBuiltins "list" = some (.type "list"):=by decide +kernel
theorem dq_:bootBuiltins "tuple" = some (.type "tuple"):=by decide +kernel
theorem jd_:bootBuiltins "dict" = some (.type "dict"):=by decide +kernel
end
theorem qX{scope:Scope}{env:Env}(h:∀y∈scope.names,y.2=.free->∃c,env.cells.lookup y.1=some c) :
  ∃cl,closureFor scope env=pure cl/\(∀x c,cl.lookup x=some c->env.cells.lookup x=some c)/\(∀y∈scope.names,y.2=.free->∃c,cl.lookup y.1=some c):=by
 have key:∀(ns:List (Str×NameKind)) (cs:List (Str×Addr)),(∀y∈ns,y.2=.free->∃c,env.cells.lookup y.1=some c)->(∀x c,cs.lookup x=some c->env.cells.lookup x=some c) ->
   ∃cl,(forIn ns cs λ(x:Str×NameKind) (cs:List (Str×Addr))=>(if x.2 == .free then do let c <-cellOf env x.1;pure (ForInStep.yield ((x.1,c)::cs))else pure (ForInStep.yield cs):Sem _))=pure cl /\
    (∀x c,cl.lookup x=some c->env.cells.lookup x=some c)/\(∀x c,cs.lookup x=some c->∃c,cl.lookup x=some c)/\(∀y∈ns,y.2=.free->∃c,cl.lookup y.1=some c):=by
  intro ns
  induction ns with
  |nil=>intro cs _ hc;exact⟨cs,rfl,hc,λx c e=>⟨c,e⟩,λy hy=>nomatch hy⟩
  |cons y r ih =>
   intro cs hn hc
   obtain⟨n,k⟩:=y
   by_cases hk:k=.free
   ·subst hk
    obtain⟨c,e⟩:=hn (n,.free) aA rfl
    obtain⟨cl,e1,e2,e3,e4⟩:=ih ((n,c)::cs) (λy hy=>hn y (aB _ hy)) (λx c' q=>by
     rw[cJ]at q
     cases hx:x == n with
     |true =>
      rw[hx]at q
      cases q
      have:x=n:=by simpa using hx
      rw[this]
      exact e
     |false =>
      rw[hx]at q
      exact hc x c' q)
    refine⟨cl,?_,e2,λx c' q=>?_,λy hy Jn=>?_⟩
    ·rw [List.forIn_cons]
     have e':env.cells.lookup n=some c:=e
     simp only[beq_self_eq_true,if_true,cellOf,e']
     exact e1
    ·cases hx:x == n with
     |true=>exact e3 x c (by rw[cJ,hx])
     |false=>exact e3 x c' (by rw[cJ,hx];exact q)
    ·rcases aE.mp hy with rfl | hy
     ·exact e3 n c (by rw[cJ];simp)
     ·exact e4 y hy Jn
   ·obtain ⟨cl,e1,e2,e3,e4⟩:=ih cs (fun y hy=>hn y (aB _ hy)) hc
    refine⟨cl,?_,e2,e3,λy hy Jn=>?_⟩
    ·rw [List.forIn_cons]
     have hb:(k == NameKind.free)=false:=by simpa using hk
     simp only[hb,cK,if_false]
     exact e1
    ·rcases aE.mp hy with rfl | hy
     ·exact absurd Jn hk
     ·exact e4 y hy Jn
 obtain⟨cl,e1,e2,_,e4⟩:=key scope.names [] h (λx c e=>by simp at e)
 refine⟨cl,?_,e2,e4⟩
 simp only[closureFor]
 rw[show(forIn scope.names ([]:List (Str×Addr)) λ(x:Str×NameKind) (cs:List (Str×Addr))=>(if x.2 == .free then do let c <-cellOf env x.1;pure (ForInStep.yield ((x.1,c)::cs))else pure (ForInStep.yield cs):Sem _))=pure cl from e1]
 rfl
theorem ii_{scope:Scope}{env:Env}{x:Str}{k:NameKind}(h:(relabel scope env).names.lookup x=some k):∃k0,scope.names.lookup x=some k0/\(k0=k\/(k0=.free/\k=.cell)):=by
 unfold relabel at h
 dsimp only at h
 revert h
 generalize scope.names=ns
 induction ns with
 |nil=>intro h;simp at h
 |cons y r ih =>
  obtain⟨n,k'⟩:=y
  intro h
  rw[aL]at h
  cases hx:x == n with
  |true =>
   rw[cJ,hx]
   refine⟨k',rfl,?_⟩
   dsimp only at h
   split at h
   ·rename_i hc
    rw[cJ,hx]at h
    cases h
    rw[bW,bW]at hc
    exact .inr ⟨by simpa using hc.1.1,rfl⟩
   ·rw [cJ,hx] at h
    cases h
    exact .inl rfl
  |false =>
   rw[cJ,hx]
   dsimp only at h
   apply ih
   split at h
   ·rw[cJ,hx]at h;exact h
   ·rw[cJ,hx]at h;exact h
theorem uQ{scope:Scope}{env:Env}{x:Str}(h:scope.names.lookup x=some .free)(hk:env.scope.kind=.function)(hc:env.kindOf x=some .cell):(relabel scope env).names.lookup x=some .cell:=by
 unfold relabel
 dsimp only
 revert h
 generalize scope.names=ns
 induction ns with
 |nil=>intro h;simp at h
 |cons y r ih =>
  obtain⟨n,k'⟩:=y
  intro h
  rw[aL]
  cases hx:x == n with
  |true =>
   rw[cJ,hx]at h
   cases h
   have:x=n:=by simpa using hx
   subst this
   dsimp only
   rw[if_pos (by rw[hk,hc];rfl),cJ,hx]
  |false =>
   rw[cJ,hx]at h
   dsimp only
   split
   ·rw[cJ,hx];exact ih h
   ·rw[cJ,hx];exact ih h
section
variable{prog:Program}{w:World}{A:Around}{R:Result->Shared->Prop}{s:Shared}
theorem wC{elt target iter:Expr}{ifs:List Expr}{scope:Scope}{pos:Pos}{it Ab:Value}{env:Env}(I:Nat->Shared->Prop)
  (turn:∀ n s,I n s→wpAny (model prog w) A (pyNext it) (fun r s₁=>match r with
   |none=>R (.ok .next) s₁
   | some v => wpAny (model prog w) A (letOwnedTupleGo target it v) (fun _ s₀ => wpAny (model prog w) A (assign target env v) (fun _ s₂ =>
     wpAny (model prog w) A (forIn ifs true λc r=>if r=true then do let ok <-isTrue c env (eval c env);pure (ForInStep.yield ok)else pure (ForInStep.yield r)) (λok s₃ =>
      if ok=true then wpAny (model prog w) A (eval elt env) (λx s₄ =>
       wpAny (model prog w) A (call (.builtin "list.append") [Ab,x]) (λ_ s₅=>∃m,m<n/\I m s₅) (λ_ _=>False) s₄) (λ_ _=>False) s₃
      else ∃m,m<n/\I m s₃) (λ_ _=>False) s₂) (λ_ _=>False) s₀) (λ_ _=>False) s₁) (λ_ _=>False) s)
  (n:Nat) (h:I n s) :
  codeAny (model prog w) A (.compLoop (.ListComp elt [⟨target,iter,ifs,0⟩] scope pos) 0 it Ab env) R s:=by
 refine codeAny_loop rfl I (λn s hI=>?_) n h
 show wpAny _ A ((compTurn (.ListComp elt [⟨target,iter,ifs,0⟩] scope pos) 0 it Ab env).onRaise (λx=>do noteFrame x env;theTreesLotGoes x)) _ _ s
 refine wpAny_noted ?_
 rw[compTurn_list]
 refine wpAny_bind (wpAny_standAt (wpAny_bind (wpAny_mono (turn n s hI) (λr s₁ h₁=>?_) λ_ _ h'=>h'.elim)))
 cases r with
 |none=>exact wpAny_pure h₁
 |some v =>
  refine wpAny_bind (wpAny_mono h₁ (λ_ s₀ h₀=>?_) λ_ _ h'=>h'.elim)
  refine wpAny_bind (wpAny_mono h₀ (λ_ s₂ h₂=>wpAny_bind (wpAny_mono h₂ (λok s₃ h₃=>?_) λ_ _ h'=>h'.elim)) λ_ _ h'=>h'.elim)
  cases ok with
  |false=>exact wpAny_pure ⟨rfl,h₃⟩
  |true =>
   exact wpAny_bind (wpAny_bind (wpAny_mono h₃ (λx s₄ h₄=>wpAny_bind (wpAny_mono h₄ (λ_ s₅ h₅=>wpAny_pure (wpAny_pure ⟨rfl,h₅⟩)) λ_ _ h'=>h'.elim)) λ_ _ h'=>h'.elim))
end
section
variable{X:Cx}{Aa:fG}{σ:St}{H:Hp}{s:Shared}
def PCs(X:Cx)(ifs:List Expr)(t:TT):Prop:=
 ∀(Aa:fG) (s:Shared) (σ:St) (H:Hp) (Q:Bool->Hp->Prop),Inv X Aa σ H s->t σ H Q ->
  wpAny (model X.prog X.w) X.A (forIn ifs true λc r=>if r=true then do let ok <-isTrue c X.env (eval c X.env);pure (ForInStep.yield ok)else pure (ForInStep.yield r)) (TP X Aa σ Q) X.xe s
def aTu:TT:=λ_ H Q=>Q true H
theorem aKv{i:Nat}{x:V}{σ:St}{H:Hp}{A B:St->Hp->Prop}(h:A (σ.set i (some x)) H):jF i x σ H (λσ2 H2=>aTu σ2 H2 (λb H3=>if b=true then A σ2 H3 else B σ2 H3)):=by
 show(if true=true then A (σ.set i (some x)) H else B (σ.set i (some x)) H)
 exact aZa h
theorem t9:PCs X [] aTu:=λAa s σ H Q I h=>wpAny_tests_nil ⟨H,I,h⟩
theorem aKe{c:Expr}{t:TT}(h:PT X c t):PCs X [c] t:=λAa s σ H Q I q=>wpAny_tests_one (h Aa s σ H Q I q)
end
def jX(n:Nat)(outs:List Nat)(σ:St):St:=List.replicate n none++outs.map λj=>(σ[j]?).join
theorem pO(n:Nat)(outs:List Nat)(σ:St):(jX n outs σ).length=n+outs.length:=by
 unfold jX
 rw[aK,bV,aC]
def eB(X:Cx)(N':List Str)(scope:Scope)(cl:List (Str×Addr))(C:Addr)(s:Shared)(H:Hp)(ex:List Addr):Cx where
 prog:=X.prog
 w:=X.w
 K:=X.K
 mg:=X.mg
 base:=X.base
 A:=X.A
 N:=N'
 s₀:=s
 H₀:=H
 env:=compEnvC scope cl C X.env
 outer:=X.stack
 stack:=X.stack
 ex:=ex
 fn:=λ_=>false
 calm:=X.calm
 pn:=[]
 xe:=λ_ _=>False
structure CompScope(dsc scope:Scope)(N tgs:List Str)(outs:List Nat)(N':List Str):Prop where
 kind:scope.kind=.function
 names:∀x∈scope.names,x.2=.local->scope.names.lookup x.1=some .local
 nocell:∀y∈scope.names,y.2 ≠ .cell
 free:∀y∈scope.names,y.2=.free->dsc.names.lookup y.1=some .cell
 isN:N'=tgs++outs.map (λj=>N.getD j "")
 lts:∀j∈outs,j<N.length
 outF:∀j∈outs,scope.names.lookup (N.getD j "")=some .free
 nd:N'.Nodup
def Tgt(n:Nat)(g:TG):Prop:=∀x σ H Q,g x σ H Q->g x σ H (λσ2 H2=>Q σ2 H2/\σ2.length=σ.length/\∀i,n<=i->σ2[i]? = σ[i]?)
theorem tM{n i:Nat}(h:i<n):Tgt n (jF i):=λx σ H Q q=>⟨q,by rw[bD],λj hj=>dR (by lia)⟩
def aIl(n:Nat)(g:TGs):Prop:=∀xs σ H Q,g xs σ H Q->g xs σ H (λσ2 H2=>Q σ2 H2/\σ2.length=σ.length/\∀i,n<=i->σ2[i]? = σ[i]?)
theorem eq_{n:Nat}:aIl n aLs:=λxs σ H Q ⟨e,q⟩=>⟨e,q,rfl,λ_ _=>rfl⟩
def aAl(g:TGs):Prop:=∀xs σ H Q Q',(∀σ2 H2,Q σ2 H2->Q' σ2 H2)->g xs σ H Q->g xs σ H Q'
theorem bx_{n i:Nat}{u:TGs}(h:i<n)(hu:aIl n u)(mu:aAl u):aIl n (w6 (jF i) u):=λxs σ H Q ⟨v,r,e,q⟩=>by
 refine⟨v,r,e,?_⟩
 have z:=hu r (σ.set i (some v)) H Q q
 refine mu r _ H _ _ (λσ2 H2 ⟨a,b,c⟩=>⟨a,?_,λj hj=>?_⟩) z
 ·rw[b,bD]
 ·rw[c j hj,dR (by lia)]
theorem bw_:aAl aLs:=λxs σ H Q Q' h ⟨e,q⟩=>⟨e,h _ _ q⟩
theorem db_{i:Nat}{u:TGs}(mu:aAl u):aAl (w6 (jF i) u):=λxs σ H Q Q' h ⟨v,r,e,q⟩=>⟨v,r,e,mu r _ H _ _ h q⟩
theorem nU{K:eC}{n k:Nat}{t:TGs}(h:aIl n t):Tgt n (aLr K k t):=λx σ H Q ⟨a,xs,e,hq,hl,q⟩=>⟨a,xs,e,hq,hl,h xs σ H Q q⟩
def sE(n:Nat)(outs:List Nat)(wi:TI)(g:TG)(tc:TT)(te:TE):TE:=λσ H Q=>wi σ H λJ H1 =>
 ∃W:Nat->Nat->List V->Hp->Prop,(∃m,W 0 m [] H1)/\∀i m Ab H,W i m Ab H ->
  (J.stop i H/\Ab.length<=sizeLine/\∀l,H l=none->Q (.ref l) (upd H l (.lst Ab))) \/
  (J.go i H∧Ab.length < sizeLine∧∃ N:List V→Hp→Prop,(∀ acc' H',N acc' H'→∃ m',m' < m∧W (i + 1) m' acc' H')∧∀ x H',J.yld i H x H'→g x (jX n outs σ) H' fun σ2 H2=>tc σ2 H2 fun b H3 =>
   if b=true then te σ2 H3 λy H4=>N (Ab++[y]) H4 else N Ab H3)
section
variable{X:Cx}{Aa:fG}{σ:St}{H2:Hp}{s2:Shared}{dsc scope:Scope}{tgs N':List Str}{outs:List Nat}{cl:List (Str×Addr)}{fp:List Addr}{C D:Addr}{h1:Heap}{tk:Nat}{mC:kW}
theorem j1(S:CompScope dsc scope X.N tgs outs N')(Dj:X.env.scope=dsc)(I2:Inv X Aa σ H2 s2)(f2:∀b∈fp,lN X Aa H2 b)(Hc:∀b∈fp,b<s2.heap.objs.size)
  (C9:∀x c,cl.lookup x=some c->X.env.cells.lookup x=some c) (Fo:∀y∈scope.names,y.2=.free->∃c,cl.lookup y.1=some c)
  (hC:s2.heap.objs.size<=C) (kp:∀b o,s2.heap.get? b=some o->h1.get? b=some o) (nC:h1.Ns C mC) :
  Inv (eB X N' scope cl C s2 H2 fp) [] (jX tgs.length outs σ) H2 { s2 with heap:=h1,toks:=tk }:=by
 have freeAt:∀x,scope.names.lookup x=some .free->(relabel scope X.env).names.lookup x=some .cell:=λx e =>
  uQ e I2.ok.kind (by show X.env.scope.names.lookup x=some .cell;rw[Dj];exact S.free (x,.free) (PySem.mem_of_lookup e) rfl)
 refine⟨⟨I2.ok.mod,?_,I2.ok.glob,I2.ok.blt,hC,λx y c e1 e2=>I2.ok.inj x y c (C9 x c e1) (C9 y c e2),λx hx=>?_,(λx c h=>nomatch h),I2.ok.hd,I2.ok.frames,.inl rfl,λb hb=>?_,I2.bs,nzL I2.ok.bsz I2.sz,λb o e hb=>?_,λb hb=>?_,I2.stack,I2.stkFree⟩,
  rfl,I2.bare,Un.kept kp,⟨mC,nC,λi x v e1 e2 e3=>?_⟩,λx c e=>?_,I2.hok.fresh hC,λx c e=>I2.freeC x c (C9 x c e),λp hp=>absurd (show p∈([]:fG)from hp) (by simp),I2.hok.kept kp,?_⟩
 ·exact S.kind
 ·have Ct:(relabel scope X.env).names.lookup x=some .cell∨(relabel scope X.env).names.lookup x=some .free:=hx
  have z:scope.names.lookup x=some .free:=by
   rcases Ct with Ct | Ct
   ·obtain ⟨k0,e,h | ⟨h,_⟩⟩:=ii_ Ct
    ·rw [h] at e
     exact absurd rfl (S.nocell _ (PySem.mem_of_lookup e))
    ·rw[h]at e;exact e
   ·obtain ⟨k0,e,h | ⟨h,_⟩⟩:=ii_ Ct
    ·rw[h]at e;exact e
    ·rw[h]at e;exact e
  exact Fo (x,.free) (PySem.mem_of_lookup z) rfl
 ·refine ⟨fun z => ?_,fun x c e=>(f2 b hb).2.2.2.2.1 x c (C9 x c e)⟩
  have z':b=C:=z
  exact absurd (bM (Hc b hb) hC) (by rw[z'];exact dH _)
 ·rcases (f2 b hb).2.2.2.1 with z | z
  ·exact I2.ok.noex b o e z
  ·exact absurd (bM (aR e) (nzL I2.ok.bsz z)) (dH _)
 ·intro z
  rcases aE.mp (I2.stkSub b z)with z | z
  ·exact(f2 b hb).2.1 z
  ·exact(f2 b hb).2.2.1 z
 ·have e2':(List.replicate tgs.length (none:Option V) ++ outs.map fun j=>(σ[j]?).join)[i]? = some (some v):=e2
  have e1':N'[i]? = some x:=e1
  by_cases hi:i<tgs.length
  ·rw [List.getElem?_append_left (by rw [bV]; exact hi),iD,if_pos hi] at e2'
   cases e2'
  ·rw [gM (by rw [bV]; lia),bV,bX] at e2'
   rw[S.isN,gM (by lia),bX]at e1'
   cases ej:outs[i-tgs.length]? with
   |none=>rw[ej]at e2';cases e2'
   |some j =>
    rw[ej]at e1' e2'
    have hj:j∈outs:=bB ej
    have ex:X.N.getD j "" = x:=ozI e1'
    have ev:(σ[j]?).join=some v:=ozI e2'
    have ev':σ[j]? = some (some v):=by
     cases q:σ[j]? with
     |none=>rw[q]at ev;cases ev
     |some o=>rw[q]at ev;exact congrArg some ev
    have eN:X.N[j]? = some x:=by
     have hl:=S.lts j hj
     rw[<-ex,fH,aM hl]
     rfl
    have fx:scope.names.lookup x=some .free:=by rw[<-ex];exact S.outF j hj
    have cx:X.env.scope.names.lookup x=some .cell:=by rw[Dj];exact S.free (x,.free) (PySem.mem_of_lookup fx) rfl
    obtain⟨m,hn,hl⟩:=I2.loc
    obtain⟨u,ru,lk⟩:=hl j x v eN ev' (.inr (.inl cx))
    refine⟨u,ru,?_⟩
    rcases lk with⟨k,_⟩ | ⟨k,c,ec,⟨oc,Fg,Ir⟩⟩
    ·have k':X.env.scope.names.lookup x=some .local:=k
     rw[cx]at k';cases k'
    ·obtain ⟨c',ec'⟩:=Fo (x,.free) (PySem.mem_of_lookup fx) rfl
     have ecc:=C9 x c' ec'
     rw[ec]at ecc
     cases ecc
     exact .inr ⟨.inl (freeAt x fx),c,ec',oc,kp _ _ Fg,Ir⟩
 ·obtain ⟨v,oc,Fg,Ir⟩:=I2.cell x c (C9 x c e)
  exact⟨v,oc,kp _ _ Fg,Ir⟩
 ·show (jX tgs.length outs σ).length=N'.length
  rw[pO,S.isN,aK,aC]
theorem aHs{σ5:St}{H5:Hp}{s5:Shared}{Ab:List V}{its:List Value}{n:Nat}(I2:Inv X Aa σ H2 s2)(I5:Inv (eB X N' scope cl C s2 H2 fp) [] σ5 H5 s5)(f2:∀b∈fp,lN X Aa H2 b)
  (hD:s2.heap.objs.size<=D) (eD:s5.heap.get? D=some { cls:=.type "list",data:=.seq its.toArray n }) (r:Vals Ab its) (hz:Ab.length<=sizeLine) (hn:H5 D=none):Inv X Aa σ (upd H5 D (.lst Ab)) s5:=by
 have ne:∀b o,s2.heap.get? b=some o->b≠D:=λb o e z=>absurd (bM (aR e) (by rw[z];exact hD)) (dH _)
 refine I2.call' (ch:=fp) I5.os ⟨λb o e nn hb hx=>?_,λb o e nn hb hx=>?_,λb o e nn hx=>?_,λb o e hx=>?_,λb xs e=>?_,λb o u e=>?_,λb ps e=>?_⟩ (λb u e=>?_) I5.bare λb hb=>⟨(f2 b hb).2.2.2.1,(f2 b hb).2.1,(f2 b hb).2.2.2.2.1,(f2 b hb).2.2.2.2.2⟩
 ·exact I5.base.keep b o e nn hb hx
 ·exact I5.base.slot b o e nn hb hx
 ·rw [fB (ne b o e)]
  exact I5.base.free b o e nn hx
 ·exact I5.base.there b o e hx
 ·have q:=I5.base.tups b xs e
  rw[fB (zU q hn)]
  exact q
 ·have q:=I5.base.frzs b o u e
  rw[fB (zU q hn)]
  exact q
 ·obtain ⟨more,q⟩:=I5.base.tbls b ps e
  refine⟨more,?_⟩
  rw[fB (zU q hn)]
  exact q
 ·by_cases hb:b=D
  ·subst hb
   rw[cA]at e
   cases e
   exact⟨hz,its,n,r,eD⟩
  ·rw [fB hb] at e
   exact(I5.hok b u e).stay (λc v _ q=>q) (λc q=>by rw[fB (zU q hn)];exact q) λc xs q=>by rw[fB (zU q hn)];exact q
end
theorem sN{n:Nat}{outs:List Nat}{σ σ6:St}(k6:∀i,n<=i->σ6[i]? = (jX n outs σ)[i]?):∀(i:Nat) v,(jX n outs σ)[i]? = some (some v)->σ6[i]? = some (some v):=λi v e=>by
 by_cases hi:n<=i
 ·rw[k6 i hi];exact e
 ·unfold jX at e
  rw[List.getElem?_append_left (by rw[bV];lia),iD,if_pos (by lia)]at e
  cases e
section
variable{X:Cx}{tg elt iter:Expr}{ifs:List Expr}{dsc scope:Scope}{tgs N':List Str}{outs:List Nat}{wi:TI}{g:TG}{tc:TT}{te:TE}{pos:Pos}
theorem qW{Aa:fG}{σ:St}{H2:Hp}{s2:Shared}{cl:List (Str×Addr)}{it:Addr}{fp:List Addr}{tn:Nat->Heap->Prop}{J:It}(S:CompScope dsc scope X.N tgs outs N')(Dj:X.env.scope=dsc)(hc:X.calm=true)
  (hg:∀cl C s H ex,PG (eB X N' scope cl C s H ex) tg g) (E7:Tgt tgs.length g) (Ep:∀cl C s H ex,PCs (eB X N' scope cl C s H ex) ifs tc) (he:∀cl C s H ex,PE (eB X N' scope cl C s H ex) elt te)
  (C9:∀x c,cl.lookup x=some c->X.env.cells.lookup x=some c) (Fo:∀y∈scope.names,y.2=.free->∃c,cl.lookup y.1=some c)
  (I2:Inv X Aa σ H2 s2) (T:Turn X.prog X.w X.K tg J fp it tn) (Fy:tn 0 s2.heap) (f2:∀b∈fp,lN X Aa H2 b)
  {W:Nat->Nat->List V->Hp->Prop} {m0:Nat} (w0:W 0 m0 [] H2) {Qf:List V->Hp->Prop}
  (turn:∀ i m Ab H,W i m Ab H→(J.stop i H∧Ab.length≤sizeLine∧Qf Ab H)∨(J.go i H∧Ab.length < sizeLine∧∃ N:List V→Hp→Prop,(∀ acc' H',N acc' H'→∃ m',m' < m∧W (i + 1) m' acc' H')∧∀ x H',J.yld i H x H'→g x (jX tgs.length outs σ) H' fun σ2 H2=>tc σ2 H2 fun b H3 =>
   if b=true then te σ2 H3 λy H4=>N (Ab++[y]) H4 else N Ab H3))
  {E:fF} {RR:Value->Addr->Result->Shared->Prop}
  (fin:∀D C s5 mC Ab H5,Inv X Aa σ (upd H5 D (.lst Ab)) s5->H5 D=none->Qf Ab H5->s5.heap.Ns C mC->lN X Aa (upd H5 D (.lst Ab)) C->RR (.ref D) C (.ok .next) s5) :
  wpAny (model X.prog X.w) X.A (newList []) (λAb s₃=>wpAny (model X.prog X.w) X.A (newFunctionEnv scope X.env.globals cl [] X.env.qual none .none (some X.env)) (λcenv s₄ =>
   codeAny (model X.prog X.w) X.A (.compStart (.ListComp elt [⟨tg,iter,ifs,0⟩] scope pos) 0 (.ref it) Ab { cenv with scope:=relabel scope X.env }) (RR Ab cenv.locals) s₄) E s₃) E s2:=by
 have Hc:∀b∈fp,b<s2.heap.objs.size:=λb hb=>let ⟨o,e,_⟩:=T.obj 0 _ Fy b hb;aR e
 refine wpAny_newObj_type (wpAny_newFunctionEnv S.nocell (by intro y hy;simp at hy) (λh₁ hns₁ hsb₁=>?_) S.kind)
 dsimp only at hns₁ hsb₁ ⊢
 generalize Ln:s2.heap.push { cls:=.type "list",dict:=none,data:=.seq ([]:List Value).toArray }=HH at hns₁ hsb₁ ⊢
 have hC:HH.objs.size=s2.heap.objs.size+1:=by rw[<-Ln,gO]
 have Jw:s2.heap.objs.size≠HH.objs.size:=by rw[hC];exact cC (Nat.lt_succ_self _)
 have Jd:s2.heap.objs.size<=HH.objs.size:=by rw[hC];exact Nat.le_succ _
 have old:∀b o,s2.heap.get? b=some o->h₁.get? b=some o:=λb o e=>hsb₁.extBut b o (by rw[hC];exact cC (Nat.lt_succ_of_lt (aR e))) (aD _ (Ln ▸ aD _ e))
 have B7:h₁.get? s2.heap.objs.size=some { cls:=.type "list",data:=.seq ([]:List Value).toArray 0 }:=hsb₁.extBut _ _ Jw (aD _ (Ln ▸ aY _ rfl))
 have Jc:∀b∈fp,s2.heap.objs.size≠b:=λb hb=>iI (Hc b hb)
 have fresh2:H2 s2.heap.objs.size=none:=I2.hok.fresh (aP _)
 have I4:=j1 (tk:=s2.toks+([]:List (Str×Value)).length) S Dj I2 f2 Hc C9 Fo Jd old hns₁
 have Mg:tn 0 h₁:=T.keep 0 _ _ Fy λb hb o e=>old b o e
 generalize hCC:HH.objs.size=C at *
 generalize Jv:s2.heap.objs.size=D at *
 have nofs:D∉(eB X N' scope cl C s2 H2 fp).fs:=λz=>by
  obtain⟨_,o,ho,_⟩:=I2.stack.mem (show D∈frs X.stack from z)
  have:=aR ho
  rw[Jv]at this
  exact dH _ this
 have pinD:∀{σ':St} {H':Hp} {s':Shared} {its:List Value} {n:Nat},Inv (eB X N' scope cl C s2 H2 fp) [] σ' H' s'->s'.heap.get? D=some { cls:=.type "list",data:=.seq its.toArray n }->H' D=none ->
   Inv (eB X N' scope cl C s2 H2 fp) [(D,{ cls:=.type "list",data:=.seq its.toArray n })] σ' H' s':=λ{σ' H' s' its n} J e hn=>J.pins_of λp hp=>by
  have ep:p=(D,{ cls:=.type "list",data:=.seq its.toArray n }):=by simpa using hp
  subst ep
  exact⟨e,hn,Jw,nofs,λv z=>by cases z⟩
 have stat:∀{H':Hp} {o:Obj},(∀b∈fp,H' b=none)->∀b∈fp,lN (eB X N' scope cl C s2 H2 fp) [(D,o)] H' b:=λ{H' o} hn b hb=>by
  refine⟨hn b hb,(I4.ok.exf b hb).1,I4.ok.exfs b hb,.inl hb,(I4.ok.exf b hb).2,λp hp=>?_⟩
  have B6:p∈([]:fG)++[(D,o)]:=hp
  have ep:p=(D,o):=by simpa using B6
  subst ep
  exact Jc b hb
 have loop:∀s₃:Shared,s₃={ s2 with heap:=h₁,toks:=s2.toks+([]:List (Str×Value)).length } ->
   codeAny (model X.prog X.w) X.A (.compLoop (.ListComp elt [⟨tg,iter,ifs,0⟩] scope pos) 0 (.ref it) (.ref D) (compEnvC scope cl C X.env)) (RR (.ref D) C) s₃:=by
  rintro s₃ rfl
  refine wC (λm s'=>∃i Ab H its n,Inv (eB X N' scope cl C s2 H2 fp) [(D,{ cls:=.type "list",data:=.seq its.toArray n })] (jX tgs.length outs σ) H s'/\tn i s'.heap/\(∀b∈fp,H b=none)/\Vals Ab its/\W i m Ab H) ?_ m0
   ⟨0,[],H2,[],0,pinD I4 B7 fresh2,Mg,λb hb=>(f2 b hb).1,.nil,w0⟩
  rintro m s' ⟨i,Ab,H,its,n,I',st',fr',rD,w'⟩
  rcases turn i m Ab H w' with⟨stop,hz,q⟩ | ⟨go,hz,N,hN,step⟩
  ·refine eO (T.done (eB X N' scope cl C s2 H2 fp) rfl rfl rfl hc i _ s' _ H _ I' (stat fr') st' stop) fun r s4 ⟨hr,J4⟩ => ?_
   subst hr
   obtain⟨eD,nD,_⟩:=J4.pin (D,{ cls:=.type "list",data:=.seq its.toArray n }) (aI _ aA)
   obtain⟨mC,nsC,_⟩:=J4.loc
   have I5:Inv X Aa σ (upd H D (.lst Ab)) s4:=aHs (D:=D) I2 (J4.pins_of (pins':=[]) (λp hp=>nomatch hp)) f2 (by rw[Jv];exact aP _) eD rD hz nD
   refine fin D C s4 mC Ab H I5 nD q nsC (I2.fpOk (by rw[Jv];exact Jd) ?_)
   rw[fB (Ne.symm Jw)]
   exact J4.free
  ·refine eO (T.item (eB X N' scope cl C s2 H2 fp) rfl rfl rfl hc i _ s' _ H _ I' (stat fr') st' go) fun r s4 ⟨u,hr,h4⟩ => ?_
   subst hr
   dsimp only
   refine eO h4 λ_ s5 ⟨x,H5,I5,r5,y5,Fw,Lr⟩=>?_
   have I5':=I5.pinned (stat Lr) (T.obj _ _ Fw)
   refine eO (hg cl C s2 H2 fp _ s5 _ H5 x u _ I5' r5 (E7 x _ H5 _ (step x H5 y5))) λ_ s6 ⟨σ6,H6,I6,q6,l6,k6⟩=>?_
   refine eO (Ep cl C s2 H2 fp _ s6 σ6 H6 _ I6 q6) λb s7 ⟨H7,I7,q7⟩=>?_
   have tail:∀{H':Hp} {s':Shared},Inv (eB X N' scope cl C s2 H2 fp) ([(D,{ cls:=.type "list",data:=.seq its.toArray n })]++pN fp s5.heap) σ6 H' s'->(∀b∈fp,∀o,s5.heap.get? b=some o->s'.heap.get? b=some o)/\∀b∈fp,H' b=none:=λ{H' s'} J =>
    ⟨fun b hb o e=>(J.pin (b,o) (aI _ (aI _ (fp_ hb e)))).1,fun b hb=>by
     obtain⟨o,e,d⟩:=T.obj _ _ Fw b hb
     exact(J.pin (b,o) (aI _ (aI _ (fp_ hb e)))).2.1⟩
   cases b with
   |false =>
    rw[if_neg aG]at q7 ⊢
    obtain⟨m',hm,w7⟩:=hN _ _ q7
    obtain⟨t1,t2⟩:=tail I7
    exact⟨m',hm,i+1,Ab,H7,its,n,I7.unpinned.weak l6.symm (sN k6),T.keep _ _ _ Fw t1,t2,rD,w7⟩
   |true =>
    rw[if_pos rfl]at q7 ⊢
    refine eO (he cl C s2 H2 fp _ s7 σ6 H7 _ I7 q7) λv s8 ⟨y,H8,I8,r8,q8⟩=>?_
    obtain⟨m',hm,w8⟩:=hN _ _ q8
    obtain⟨t1,t2⟩:=tail I8
    obtain⟨eD,nD,_⟩:=I8.pin (D,{ cls:=.type "list",data:=.seq its.toArray n }) (aI _ (bF _ aA))
    have hl:=rD.length
    refine call_meets F.slot_list_append ⟨_,eD,rfl⟩ F.entry_list_append (F.args_list_append_2 _ _) (PySem.list_append D its.toArray n v (by rw[bE];lia)) ⟨eD,?_⟩
    have q:=PySem.IsL.update eD (·.push v)
    have eA:its.toArray.push v=(its++[v]).toArray:=by simp
    rw[eA]at q
    refine⟨m',hm,i+1,Ab++[y],H8,its++[v],_,pinD (Inv.weak (Inv.turned (it:=D) (I8.pins_of (pins':=[]) (λp hp=>nomatch hp)) (λb o hb e=>(bO _ _ (Ne.symm hb)).trans e) nD Jw (.inr (by show s2.heap.objs.size<=D;rw[Jv];exact aP _)) (λx c e z=>?_) (λp hp=>nomatch hp)) l6.symm (sN k6)) q nD,
     T.keep _ _ _ Fw (λb hb o e=>(bO _ _ (Jc b hb)).trans (t1 b hb o e)),t2,rD.append (.cons r8 .nil),w8⟩
    obtain⟨v',oc,Fg,Ir⟩:=I8.cell x c e
    rw[z,eD]at Fg
    cases Fg
    cases Ir
 exact codeAny_compStart_list (loop _ rfl) (T.self X.A 0 _ _ _ Mg (loop _ rfl))
theorem oF{N:List Str}(S:CompScope dsc scope N tgs outs N')(hi:PI X tg iter wi)(hg:∀cl C s H ex,PG (eB X N' scope cl C s H ex) tg g)(E7:Tgt tgs.length g)(Ep:∀cl C s H ex,PCs (eB X N' scope cl C s H ex) ifs tc)
  (he:∀cl C s H ex,PE (eB X N' scope cl C s H ex) elt te) (F5:X.N=N:=by rfl) (Dj:X.env.scope=dsc:=by rfl) (hc:X.calm=true:=by rfl) (hs:∀x,foldedSetIterable iter X.env x=pure x:=by intro _;rfl) :
  PE X (.ListComp elt [⟨tg,iter,ifs,0⟩] scope pos) (sE tgs.length outs wi g tc te):=by
 subst F5
 intro Aa s σ H Q I h
 obtain⟨cl,e1,e2,e3⟩:=qX (scope:=scope) (env:=X.env) (λy hy hk=>I.ok.has y.1 (.inl (by show X.env.scope.names.lookup y.1=_;rw[Dj];exact S.free y hy hk)))
 rw[eval_ListComp]
 refine wpAny_comprehension_free (use:=none) rfl hs e1 S.kind S.names (wpAny_mono (hi Aa s σ H _ I h) (λxv s1 h1=>wpAny_mono h1 (λitv s2 h2=>?_) λ_ _ e=>e) λ_ _ e=>e)
 obtain⟨it,fp,tn,J,H2,rfl,I2,T,Fy,f2,W,⟨m0,w0⟩,turn⟩:=h2
 refine qW (RR:=λAb C=>compPost (model X.prog X.w) X.A X.xe none (EP X Aa σ Q) Ab C) S Dj hc hg E7 Ep he e2 e3 I2 T Fy f2 w0 (Qf:=λAb H=>∀l,H l=none->Q (.ref l) (upd H l (.lst Ab))) turn ?_
 intro D C s5 mC Ab H5 I5 nD q nsC hf
 refine⟨mC,nsC,λh' Ka=>⟨.ref D,_,?_,rfl,q D nD⟩⟩
 exact I5.turned (it:=C) (t':=s5.toks) (λb o hb e=>(Ka.2 b hb).trans e) hf.1 hf.2.1 hf.2.2.2.1 hf.2.2.2.2.1 hf.2.2.2.2.2
theorem uS{N:List Str}{i:Nat}{x:Str}{px spos:Pos}(hN:X.N.Nodup)(hx:X.N[i]? = some x)(hl:X.env.scope.names.lookup x=some .local)(S:CompScope dsc scope N tgs outs N')(hi:PI X tg iter wi)(hg:∀cl C s H ex,PG (eB X N' scope cl C s H ex) tg g)(E7:Tgt tgs.length g)
  (Ep:∀cl C s H ex,PCs (eB X N' scope cl C s H ex) ifs tc) (he:∀cl C s H ex,PE (eB X N' scope cl C s H ex) elt te)
  (hsw:swapsWith (.ListComp elt [⟨tg,iter,ifs,0⟩] scope pos) (some (.Name x px)) spos.line X.env=pure true:=by rfl)
  (F5:X.N=N:=by rfl) (Dj:X.env.scope=dsc:=by rfl) (hc:X.calm=true:=by rfl) (hs:∀x,foldedSetIterable iter X.env x=pure x:=by intro _;rfl) :
  PS X (.Assign [.Name x px] (.ListComp elt [⟨tg,iter,ifs,0⟩] scope pos) spos) (wV (sE tgs.length outs wi g tc te) (jF i)):=by
 subst F5
 intro Aa s σ H Dn I h
 obtain⟨cl,e1,e2,e3⟩:=qX (scope:=scope) (env:=X.env) (λy hy hk=>I.ok.has y.1 (.inl (by show X.env.scope.names.lookup y.1=_;rw[Dj];exact S.free y hy hk)))
 rw[exec_Assign_Name_used _ _ _ _ hsw]
 refine wpAny_bind (wpAny_standAt (wpAny_bind ?_))
 show wpAny _ X.A (do let _ <-comprehension (.ListComp elt [⟨tg,iter,ifs,0⟩] scope pos) scope X.env _ (newList []) false (eval iter X.env) (some (assign (.Name x px) X.env))) _ _ s
 refine wpAny_bind (wpAny_mono (wpAny_comprehension_free (use:=some (assign (.Name x px) X.env)) (Q:=λ_ s'=>SP X Aa Dn .next s') rfl hs e1 S.kind S.names
  (wpAny_mono (hi Aa s σ H _ I h) (λxv s1 h1=>wpAny_mono h1 (λitv s2 h2=>?_) λ_ _ e=>e) λ_ _ e=>e)) (λ_ s' hq=>wpAny_pure (wpAny_pure hq)) λ_ _ e=>e)
 obtain⟨it,fp,tn,J,H2,rfl,I2,T,Fy,f2,W,⟨m0,w0⟩,turn⟩:=h2
 refine qW (RR:=λAb C=>compPost (model X.prog X.w) X.A X.xe (some (assign (.Name x px) X.env)) (λ_ s'=>SP X Aa Dn .next s') Ab C) S Dj hc hg E7 Ep he e2 e3 I2 T Fy f2 w0
  (Qf:=λAb H=>∀l,H l=none->Dn.nx (σ.set i (some (.ref l))) (upd H l (.lst Ab))) turn ?_
 intro D C s5 mC Ab H5 I5 nD q nsC hf
 show wpAny _ X.A (assign (.Name x px) X.env (.ref D)) _ _ _
 refine wpAny_assign_Name (ig_ I5 hN hx (.inl hl) (show RelV (.ref D) (.ref D)from rfl) (λs' I' ⟨a,sb,ha⟩=>?_) (.inr hl))
 have hCa:C≠a:=by
  rcases ha with ha | ha
  ·rw[ha];exact hf.2.1
  ·exact Ne.symm (hf.2.2.2.2.1 x a ha)
 refine⟨mC,nsC.sameBut sb hCa,λh' Ka=>⟨_,_,I'.turned (it:=C) (t':=s'.toks) (λb o hb e=>(Ka.2 b hb).trans e) hf.1 hf.2.1 hf.2.2.2.1 hf.2.2.2.2.1 hf.2.2.2.2.2,q D nD⟩⟩
end
theorem j2{lo:Int}{n:Nat}{g:TG}{tc:TT}{te:TE}{σ':St}{H1:Hp}{Fin:List V->Hp->Prop}(Pv:Nat->List V->Hp->Prop)(hz:n<=1000000)(h0:Pv 0 [] H1)(hl:∀i Ab H,i<=n->Pv i Ab H->Ab.length<=i)
  (hs:∀i Ab H,i<n->Pv i Ab H->g (.int (lo+i)) σ' H λσ2 H2=>tc σ2 H2 λb H3=>if b=true then te σ2 H3 λy H4=>Pv (i+1) (Ab++[y]) H4 else Pv (i+1) Ab H3) (hd:∀Ab H,Pv n Ab H->Fin Ab H) :
  ∃W:Nat->Nat->List V->Hp->Prop,(∃m,W 0 m [] H1)/\∀i m Ab H,W i m Ab H->((Itr lo n).stop i H/\Ab.length<=sizeLine/\Fin Ab H) \/
   ((Itr lo n).go i H/\Ab.length<sizeLine/\∃N:List V->Hp->Prop,(∀acc' H',N acc' H'->∃m',m'<m/\W (i+1) m' acc' H')/\∀x H',(Itr lo n).yld i H x H'->g x σ' H' λσ2 H2=>tc σ2 H2 λb H3=>if b=true then te σ2 H3 λy H4=>N (Ab++[y]) H4 else N Ab H3):=by
 have zl:(1000000:Nat)<sizeLine:=by rw[sizeLine_eq];decide
 refine⟨λi m Ab H=>m=n-i/\i<=n/\Pv i Ab H,⟨n,by simp,eS _,h0⟩,?_⟩
 rintro i m Ab H ⟨rfl,hi,p⟩
 have al:=hl i Ab H hi p
 by_cases Bf:i<n
 ·refine .inr ⟨Bf,by lia,Pv (i + 1),fun acc' H' p'=>⟨n - (i + 1),by lia,rfl,Bf,p'⟩,fun x H' y => ?_⟩
  obtain⟨e,y⟩:=y
  subst e y
  exact hs i Ab _ Bf p
 ·have e:i=n:=by lia
  subst e
  exact .inl ⟨aP _,by lia,hd Ab H p⟩
def SIter(t:Bool)(h:Heap)(it l:Addr)(k:Nat):Prop:=if t=true then h.IsTupleIter it l k else h.IsListIter it l k
def SSeq(t:Bool)(h:Heap)(l:Addr)(xs:Array Value):Prop:=if t=true then h.IsTuple l xs else h.IsList l xs
theorem SIter.obj{t:Bool}{h:Heap}{it l:Addr}{k:Nat}(x:SIter t h it l k):∃o,h.get? it=some o/\∀v,o.data ≠ .cell v:=by
 cases t
 ·obtain⟨o,e,_,d⟩:=(show h.IsListIter it l k from x);exact⟨o,e,λv z=>by rw[d]at z;cases z⟩
 ·obtain⟨o,e,_,d⟩:=(show h.IsTupleIter it l k from x);exact⟨o,e,λv z=>by rw[d]at z;cases z⟩
theorem SIter.to{t:Bool}{h h':Heap}{it l:Addr}{k:Nat}(x:SIter t h it l k)(e:∀o,h.get? it=some o->h'.get? it=some o):SIter t h' it l k:=by
 cases t
 ·obtain⟨o,a,r⟩:=(show h.IsListIter it l k from x);exact⟨o,e o a,r⟩
 ·obtain⟨o,a,r⟩:=(show h.IsTupleIter it l k from x);exact⟨o,e o a,r⟩
theorem SSeq.to{t:Bool}{h h':Heap}{l:Addr}{xs:Array Value}(x:SSeq t h l xs)(e:∀o,h.get? l=some o->h'.get? l=some o):SSeq t h' l xs:=by
 cases t
 ·obtain⟨o,a,r⟩:=(show h.IsList l xs from x);exact⟨o,e o a,r⟩
 ·obtain⟨o,a,r⟩:=(show h.IsTuple l xs from x);exact⟨o,e o a,r⟩
section
variable{prog:Program}{w:World}{A:Around}{E:fF}{s:Shared}
theorem f7{it l:Addr}{i:Nat}{items:Array Value}{x:Value}{Q:fF}(B8:s.heap.IsTupleIter it l i)(hl:s.heap.IsTuple l items)(hx:items[i]? = some x)
  (hQ:∀h',h'.IsTupleIter it l (i+1)->Heap.SameBut it s.heap h'->Q x { s with heap:=h' }):wpAny (model prog w) A (Builtin.SmallTypes.nextOf (.ref it)) Q E s:=by
 obtain⟨o,ho,hc,hd⟩:=id B8;obtain⟨ol,Kg,_,nl,Ip⟩:=hl
 unfold Builtin.SmallTypes.nextOf
 refine wpAny_bind (wpAny_callSpecial?_slot (name:=Str.ofString "__next__") B8.typeIs F.slot_tuple_iterator_next (wpAny_call_entry F.slot_tuple_iterator_next B8.typeIs F.entry_tuple_iterator_next ?_ (F.args_tuple_iterator_next_1 _)))
 show wpAny _ _ (field (.ref it) 0 >>= _) _ _ s;refine wpAny_bind (wpAny_field ho hd (x:=.ref l) rfl ?_)
 show wpAny _ _ (if(Value.ref l == Value.none)=true then _ else _) _ _ s;rw[if_neg (show ¬((Value.ref l == Value.none)=true)from aG)]
 show wpAny _ _ (field (.ref it) 1 >>= _) _ _ s;refine wpAny_bind (wpAny_field ho hd (x:=.int i 0) rfl ?_)
 show wpAny _ _ (seqItems? (.ref l) >>= _) _ _ s;refine wpAny_bind (wpAny_seqItems Kg Ip ?_);simp only[iK,hx]
 exact wpAny_bind (wpAny_setField ho hd (by simp) (wpAny_pure ⟨x,rfl,wpAny_pure (hQ _ ⟨_,dD _ ho (Obj.isFreed_of_fields (Obj.data_mapFields hd _)),(Obj.cls_mapFields ..).trans hc,by rw[Obj.data_mapFields hd];simp[rawInt]⟩ (Heap.SameBut.update ..))⟩))
theorem xX{it l:Addr}{i:Nat}{items:Array Value}{Q:fF}(hh:A.handled=none)(B8:s.heap.IsTupleIter it l i)(hl:s.heap.IsTuple l items)(hx:items[i]? = none)
  (hE:∀h' e,Heap.ExtBut it s.heap h'->(∃o,h'.get? e=some o/\o.cls=.type "StopIteration")->E (.ref e) { s with heap:=h' }):wpAny (model prog w) A (Builtin.SmallTypes.nextOf (.ref it)) Q E s:=by
 obtain⟨o,ho,hc,hd⟩:=id B8;obtain⟨ol,Kg,_,nl,Ip⟩:=hl
 unfold Builtin.SmallTypes.nextOf
 refine wpAny_bind (wpAny_callSpecial?_slot (name:=Str.ofString "__next__") B8.typeIs F.slot_tuple_iterator_next (wpAny_call_entry F.slot_tuple_iterator_next B8.typeIs F.entry_tuple_iterator_next ?_ (F.args_tuple_iterator_next_1 _)))
 show wpAny _ _ (field (.ref it) 0 >>= _) _ _ s;refine wpAny_bind (wpAny_field ho hd (x:=.ref l) rfl ?_)
 show wpAny _ _ (if(Value.ref l == Value.none)=true then _ else _) _ _ s;rw[if_neg (show ¬((Value.ref l == Value.none)=true)from aG)]
 show wpAny _ _ (field (.ref it) 1 >>= _) _ _ s;refine wpAny_bind (wpAny_field ho hd (x:=.int i 0) rfl ?_)
 show wpAny _ _ (seqItems? (.ref l) >>= _) _ _ s;refine wpAny_bind (wpAny_seqItems Kg Ip ?_);simp only[iK,hx]
 refine wpAny_bind (wpAny_rule (wpAny_bind (wpAny_setField ho hd (by simp) ?_)));show wpAny _ _ (newExc (.type "StopIteration") [] >>= _) _ _ _
 refine wpAny_bind ?_;simp only[newExc,newTuple];refine wpAny_bind (wpAny_newObj_type ?_ (by size_fits))
 refine wpAny_bind (m:=firstArgMember _ _) (wpAny_of_eq (a:=Value.none) (by first | rfl | (simp only[firstArgMember];rfl)) ?_);refine wpAny_newObj_type ?_ (by size_fits);simp only[raiseNew]
 refine wpAny_bind (wpAny_handled ?_);first | rw[show A.in1.handled=none from hh] | rw[hh]
 refine wpAny_bind (wpAny_pure (wpAny_throw ?_));exact hE _ _ (((Heap.SameBut.update ..).extBut.push _).push _) ⟨_,aY _ rfl,rfl⟩
theorem pV{t:Bool}{it l:Addr}{i:Nat}{items:Array Value}{x:Value}{Q:fF}(B8:SIter t s.heap it l i)(hl:SSeq t s.heap l items)(hx:items[i]? = some x)
  (hQ:∀h',SIter t h' it l (i+1)->Heap.SameBut it s.heap h'->Q x { s with heap:=h' }):wpAny (model prog w) A (Builtin.SmallTypes.nextOf (.ref it)) Q E s:=by
 cases t
 ·exact wpAny_nextOf_list_item B8 hl hx hQ
 ·exact f7 B8 hl hx hQ
theorem sQ{t:Bool}{it l:Addr}{i:Nat}{items:Array Value}{Q:fF}(hh:A.handled=none)(B8:SIter t s.heap it l i)(hl:SSeq t s.heap l items)(hx:items[i]? = none)
  (hE:∀h' e,Heap.ExtBut it s.heap h'->(∃o,h'.get? e=some o/\o.cls=.type "StopIteration")->E (.ref e) { s with heap:=h' }):wpAny (model prog w) A (Builtin.SmallTypes.nextOf (.ref it)) Q E s:=by
 cases t
 ·exact wpAny_nextOf_list_end hh B8 hl hx hE
 ·exact xX hh B8 hl hx hE
theorem aAn{t1 t2:Bool}{z TI TO i1 i2 l1 l2:Addr}{k1 k2:Nat}{xs ys:Array Value}{x y a b:Value}{Q:fF}(D:ZipApart z TI TO i1 i2 l1 l2)
  (hz:IsZip s.heap z TI TO .none) (Cw:IsPair s.heap TI (.ref i1) (.ref i2)) (C1:IsPair s.heap TO a b)
  (h1:SIter t1 s.heap i1 l1 k1) (h2:SIter t2 s.heap i2 l2 k2) (D6:SSeq t1 s.heap l1 xs) (Cg:SSeq t2 s.heap l2 ys) (hx:xs[k1]? = some x) (hy:ys[k2]? = some y)
  (hQ:∀ h',IsZip h' z TI TO (rawInt s.heap.objs.size)→IsPair h' TO x y→SIter t1 h' i1 l1 (k1 + 1)→SIter t2 h' i2 l2 (k2 + 1)→IsPair h' s.heap.objs.size x y→h'.objs.size=s.heap.objs.size + 1 →
   (∀c o,c≠z->c≠TO->c≠i1->c≠i2->s.heap.get? c=some o->h'.get? c=some o)->Q (.ref s.heap.objs.size) { s with heap:=h' }) :
  wpAny (model prog w) A (Builtin.«zip.__next__» ⟨[.ref z],[]⟩) (λfin s'=>∃v,fin=.done (.ret v)/\Q v s') E s:=by
 show wpAny _ _ (field (.ref z) 2 >>= _) _ _ _;refine wpAny_bind (wpAny_field hz rfl (x:=.bool false) rfl ?_)
 show wpAny _ _ (field (.ref z) 3 >>= _) _ _ _;refine wpAny_bind (wpAny_field hz rfl (x:=.ref TI) rfl ?_);refine wpAny_bind (wpAny_seqItems Cw rfl ?_)
 show wpAny _ _ (Builtin.SmallTypes.ownedTupleIsFree (.ref z) >>= _) _ _ _;refine wpAny_bind ?_;unfold Builtin.SmallTypes.ownedTupleIsFree
 refine wpAny_bind (wpAny_field hz rfl (x:=.none) rfl (wpAny_pure ?_));simp only[if_true];refine wpAny_bind (wpAny_rule ?_)
 refine wpAny_bind (wpAny_field hz rfl (x:=.ref TO) rfl ?_);refine wpAny_bind (wpAny_setField_rec hz (by simp) λq1 hz₁ s1=>?_);replace hz₁:IsZip q1 z TI TO .ellipsis:=hz₁
 refine wpAny_bind ?_;simp only[List.zipIdx_cons,List.zipIdx_nil,List.forIn_cons,List.forIn_nil]
 refine wpAny_bind (wpAny_bind (wpAny_onRaise ?_));show wpAny _ _ (Builtin.SmallTypes.nextOf (.ref i1) >>= _) _ _ _
 refine wpAny_bind (pV (h1.to λo e=>s1.extBut _ _ D.i1z e) (D6.to λo e=>s1.extBut _ _ D.l1z e) hx λq2 a2 s2=>wpAny_pure ?_)
 have b2:IsPair q2 TO a b:=s2.extBut _ _ D.TOi1 (s1.extBut _ _ D.TOz C1)
 refine wpAny_bind (wpAny_seqItems b2 rfl ?_);refine wpAny_bind (wpAny_updateSeq_pair b2 λq3 b3 s3=>?_);replace b3:IsPair q3 TO x b:=b3
 refine wpAny_bind (wpAny_letGo (wpAny_pure ?_));refine wpAny_bind (wpAny_bind (wpAny_onRaise ?_));show wpAny _ _ (Builtin.SmallTypes.nextOf (.ref i2) >>= _) _ _ _
 refine wpAny_bind (pV (h2.to λo e=>s3.extBut _ _ D.TOi2.symm (s2.extBut _ _ D.i12.symm (s1.extBut _ _ D.i2z e))) (Cg.to λo e=>s3.extBut _ _ D.l2TO (s2.extBut _ _ D.l2i1 (s1.extBut _ _ D.l2z e))) hy λq4 a4 s4=>wpAny_pure ?_)
 have b4:IsPair q4 TO x b:=s4.extBut _ _ D.TOi2 b3
 refine wpAny_bind (wpAny_seqItems b4 rfl ?_);refine wpAny_bind (wpAny_updateSeq_pair b4 λq5 b5 s5=>?_);replace b5:IsPair q5 TO x y:=b5
 refine wpAny_bind (wpAny_letGo (wpAny_pure (wpAny_pure ?_)));refine wpAny_bind (wpAny_seqItems b5 rfl ?_);refine wpAny_bind (wpAny_newTuple ?_)
 have hsz:q5.objs.size=s.heap.objs.size:=by rw[s5.1,s4.1,s3.1,s2.1,s1.1]
 have z5:IsZip q5 z TI TO .ellipsis:=s5.extBut _ _ D.TOz.symm (s4.extBut _ _ D.i2z.symm (s3.extBut _ _ D.TOz.symm (s2.extBut _ _ D.i1z.symm hz₁)))
 have k5:∀c o,c≠z->c≠TO->c≠i1->c≠i2->s.heap.get? c=some o->q5.get? c=some o:=λc o c1 c2 c3 c4 e=>s5.extBut _ _ c2 (s4.extBut _ _ c4 (s3.extBut _ _ c2 (s2.extBut _ _ c3 (s1.extBut _ _ c1 e))))
 have d1:SIter t1 q5 i1 l1 (k1+1):=a2.to λo e=>s5.extBut _ _ D.TOi1.symm (s4.extBut _ _ D.i12 (s3.extBut _ _ D.TOi1.symm e))
 have d2:SIter t2 q5 i2 l2 (k2+1):=a4.to λo e=>s5.extBut _ _ D.TOi2.symm e
 have zlt:z<q5.objs.size:=aR z5
 show wpAny _ _ (Builtin.SmallTypes.ownedTupleHandOut (.ref z) (.ref q5.objs.size) >>= _) _ _ _;refine wpAny_bind ?_;unfold Builtin.SmallTypes.ownedTupleHandOut
 have z6:IsZip (q5.push { cls:=.type "tuple",data:=.seq #[x,y] }) z TI TO .ellipsis:=aD _ z5
 refine wpAny_bind (wpAny_setField_rec z6 (by simp) λq7 z7 s7=>?_);replace z7:IsZip q7 z TI TO (rawInt q5.objs.size):=z7
 refine wpAny_setField_rec z7 (by simp) λq8 z8 s8=>?_;replace z8:IsZip q8 z TI TO (rawInt q5.objs.size):=z8
 have up:∀c o,c≠z->q5.get? c=some o->q8.get? c=some o:=λc o c1 e=>s8.extBut _ _ c1 (s7.extBut _ _ c1 (aD _ e))
 have t8:IsPair q8 q5.objs.size x y:=s8.extBut _ _ (iI zlt) (s7.extBut _ _ (iI zlt) (aY _ rfl))
 have n8:q8.objs.size=q5.objs.size+1:=by rw[s8.1,s7.1,gO]
 rw[hsz]at z8 t8 n8;refine wpAny_pure ⟨_,rfl,?_⟩;show Q (.ref q5.objs.size) _;rw[hsz]
 exact hQ q8 z8 (up _ _ D.TOz b5) (d1.to λo e=>up _ o D.i1z e) (d2.to λo e=>up _ o D.i2z e) t8 n8 λc o c1 c2 c3 c4 e=>up c o c1 (k5 c o c1 c2 c3 c4 e)
theorem aDc{t1 t2:Bool}{z TI TO i1 i2 l1 l2:Addr}{k1 k2:Nat}{xs ys:Array Value}{a b:Value}{Q:Fin->Shared->Prop}(hh:A.handled=none)(D:ZipApart z TI TO i1 i2 l1 l2)
  (hz:IsZip s.heap z TI TO .none) (Cw:IsPair s.heap TI (.ref i1) (.ref i2)) (C1:IsPair s.heap TO a b)
  (h1:SIter t1 s.heap i1 l1 k1) (h2:SIter t2 s.heap i2 l2 k2) (D6:SSeq t1 s.heap l1 xs) (Cg:SSeq t2 s.heap l2 ys) (Gn:xs[k1]? = none\/ys[k2]? = none)
  (hE:∀h' e,(∀c o,c≠z->c≠TO->c≠i1->c≠i2->s.heap.get? c=some o->h'.get? c=some o)->(∃o,h'.get? e=some o/\o.cls=.type "StopIteration")->E (.ref e) { s with heap:=h' }) :
  wpAny (model prog w) A (Builtin.«zip.__next__» ⟨[.ref z],[]⟩) Q E s:=by
 show wpAny _ _ (field (.ref z) 2 >>= _) _ _ _;refine wpAny_bind (wpAny_field hz rfl (x:=.bool false) rfl ?_)
 show wpAny _ _ (field (.ref z) 3 >>= _) _ _ _;refine wpAny_bind (wpAny_field hz rfl (x:=.ref TI) rfl ?_);refine wpAny_bind (wpAny_seqItems Cw rfl ?_)
 show wpAny _ _ (Builtin.SmallTypes.ownedTupleIsFree (.ref z) >>= _) _ _ _;refine wpAny_bind ?_;unfold Builtin.SmallTypes.ownedTupleIsFree
 refine wpAny_bind (wpAny_field hz rfl (x:=.none) rfl (wpAny_pure ?_));simp only[if_true];refine wpAny_bind (wpAny_rule ?_)
 refine wpAny_bind (wpAny_field hz rfl (x:=.ref TO) rfl ?_);refine wpAny_bind (wpAny_setField_rec hz (by simp) λq1 hz₁ s1=>?_);replace hz₁:IsZip q1 z TI TO .ellipsis:=hz₁
 refine wpAny_bind ?_;simp only[List.zipIdx_cons,List.zipIdx_nil,List.forIn_cons,List.forIn_nil]
 refine wpAny_bind (wpAny_bind (wpAny_onRaise ?_));show wpAny _ _ (Builtin.SmallTypes.nextOf (.ref i1) >>= _) _ _ _
 cases hx:xs[k1]? with
 |none =>
  refine wpAny_bind (sQ hh (h1.to λo e=>s1.extBut _ _ D.i1z e) (D6.to λo e=>s1.extBut _ _ D.l1z e) hx λq2 e s2 he=>?_)
  obtain⟨oe,Ge,Iu⟩:=he
  have z2:IsZip q2 z TI TO .ellipsis:=s2 _ _ D.i1z.symm hz₁
  have ez:e≠z:=λx=>by subst x;rw[z2]at Ge;cases Ge;simp at Iu
  exact wpAny_setField_rec z2 (by simp) λq3 _ s3=>hE q3 e (λc o c1 _ c3 _ x=>s3.extBut _ _ c1 (s2 _ _ c3 (s1.extBut _ _ c1 x))) ⟨oe,s3.extBut _ _ ez Ge,Iu⟩
 |some x =>
  have hy:ys[k2]? = none:=by rcases Gn with h | h;rw[hx]at h;cases h;exact h
  refine wpAny_bind (pV (h1.to λo e=>s1.extBut _ _ D.i1z e) (D6.to λo e=>s1.extBut _ _ D.l1z e) hx λq2 a2 s2=>wpAny_pure ?_)
  have b2:IsPair q2 TO a b:=s2.extBut _ _ D.TOi1 (s1.extBut _ _ D.TOz C1)
  refine wpAny_bind (wpAny_seqItems b2 rfl ?_);refine wpAny_bind (wpAny_updateSeq_pair b2 λq3 b3 s3=>?_)
  refine wpAny_bind (wpAny_letGo (wpAny_pure ?_));refine wpAny_bind (wpAny_bind (wpAny_onRaise ?_));show wpAny _ _ (Builtin.SmallTypes.nextOf (.ref i2) >>= _) _ _ _
  refine wpAny_bind (sQ hh (h2.to λo e=>s3.extBut _ _ D.TOi2.symm (s2.extBut _ _ D.i12.symm (s1.extBut _ _ D.i2z e))) (Cg.to λo e=>s3.extBut _ _ D.l2TO (s2.extBut _ _ D.l2i1 (s1.extBut _ _ D.l2z e))) hy λq4 e s4 he=>?_)
  obtain⟨oe,Ge,Iu⟩:=he
  have z4:IsZip q4 z TI TO .ellipsis:=s4 _ _ D.i2z.symm (s3.extBut _ _ D.TOz.symm (s2.extBut _ _ D.i1z.symm hz₁))
  have ez:e≠z:=λx=>by subst x;rw[z4]at Ge;cases Ge;simp at Iu
  exact wpAny_setField_rec z4 (by simp) λq5 _ s5=>hE q5 e (λc o c1 c2 c3 c4 x=>s5.extBut _ _ c1 (s4 _ _ c4 (s3.extBut _ _ c2 (s2.extBut _ _ c3 (s1.extBut _ _ c1 x))))) ⟨oe,s5.extBut _ _ ez Ge,Iu⟩
theorem xN{t1 t2:Bool}{z TI TO i1 i2 l1 l2:Addr}{k1 k2:Nat}{xs ys:Array Value}{x y a b:Value}{Q:Option Value->Shared->Prop}(D:ZipApart z TI TO i1 i2 l1 l2)
  (hz:IsZip s.heap z TI TO .none) (Cw:IsPair s.heap TI (.ref i1) (.ref i2)) (C1:IsPair s.heap TO a b)
  (h1:SIter t1 s.heap i1 l1 k1) (h2:SIter t2 s.heap i2 l2 k2) (D6:SSeq t1 s.heap l1 xs) (Cg:SSeq t2 s.heap l2 ys) (hx:xs[k1]? = some x) (hy:ys[k2]? = some y)
  (hQ:∀ h',IsZip h' z TI TO (rawInt s.heap.objs.size)→IsPair h' TO x y→SIter t1 h' i1 l1 (k1 + 1)→SIter t2 h' i2 l2 (k2 + 1)→IsPair h' s.heap.objs.size x y→h'.objs.size=s.heap.objs.size + 1 →
   (∀c o,c≠z->c≠TO->c≠i1->c≠i2->s.heap.get? c=some o->h'.get? c=some o)->Q (some (.ref s.heap.objs.size)) { s with heap:=h' }) :
  wpAny (model prog w) A (pyNext (.ref z)) Q E s:=by
 have hT:s.TypeIs (.ref z) "zip":=⟨_,hz,rfl⟩
 unfold pyNext
 exact wpAny_bind (wpAny_attempt (wpAny_callSpecial?_slot (name:=Str.ofString "__next__") hT F.slot_zip_next (wpAny_call_entry F.slot_zip_next hT F.entry_zip_next (aAn D hz Cw C1 h1 h2 D6 Cg hx hy λh' a1 a2 a3 a4 a5 a6 a7=>wpAny_pure (hQ h' a1 a2 a3 a4 a5 a6 a7)) (F.args_zip_next_1 _))))
theorem uR{t1 t2:Bool}{z TI TO i1 i2 l1 l2:Addr}{k1 k2:Nat}{xs ys:Array Value}{a b:Value}{Q:Option Value->Shared->Prop}(hh:A.handled=none)(D:ZipApart z TI TO i1 i2 l1 l2)
  (hz:IsZip s.heap z TI TO .none) (Cw:IsPair s.heap TI (.ref i1) (.ref i2)) (C1:IsPair s.heap TO a b)
  (h1:SIter t1 s.heap i1 l1 k1) (h2:SIter t2 s.heap i2 l2 k2) (D6:SSeq t1 s.heap l1 xs) (Cg:SSeq t2 s.heap l2 ys) (Gn:xs[k1]? = none\/ys[k2]? = none)
  (hQ:∀h',(∀c o,c≠z->c≠TO->c≠i1->c≠i2->s.heap.get? c=some o->h'.get? c=some o)->Q none { s with heap:=h' }):wpAny (model prog w) A (pyNext (.ref z)) Q E s:=by
 have hT:s.TypeIs (.ref z) "zip":=⟨_,hz,rfl⟩
 unfold pyNext
 refine wpAny_bind (wpAny_attempt (wpAny_callSpecial?_slot (name:=Str.ofString "__next__") hT F.slot_zip_next (wpAny_call_entry F.slot_zip_next hT F.entry_zip_next (aDc hh D hz Cw C1 h1 h2 D6 Cg Gn λh' e hk he=>?_) (F.args_zip_next_1 _))))
 obtain⟨o,ho,hc⟩:=he
 exact wpAny_bind (wpAny_isInstance (T:= "StopIteration") (b:=true) ⟨o,ho,hc⟩ isSubtype_stop (wpAny_pure (hQ _ hk)))
end
abbrev aGq(t:Bool):String:=if t=true then "tuple_iterator" else "list_iterator"
abbrev zq1(t1:Bool)(h:Heap)(l1:Addr):Heap:=h.push { cls:=.type (aGq t1),data:=.fields #[.ref l1,.int 0 0] }
abbrev zq2(t1 t2:Bool)(h:Heap)(l1 l2:Addr):Heap:=(zq1 t1 h l1).push { cls:=.type (aGq t2),data:=.fields #[.ref l2,.int 0 0] }
abbrev zq3(t1 t2:Bool)(h:Heap)(l1 l2:Addr):Heap:=(zq2 t1 t2 h l1 l2).push { cls:=.type "tuple",data:=.seq #[.ref h.objs.size,.ref (zq1 t1 h l1).objs.size] }
abbrev zq4(t1 t2:Bool)(h:Heap)(l1 l2:Addr):Heap:=(zq3 t1 t2 h l1 l2).push { cls:=.type "tuple",data:=.seq #[.none,.none] }
abbrev zq5(t1 t2:Bool)(h:Heap)(l1 l2:Addr):Heap:=(zq4 t1 t2 h l1 l2).push { cls:=.type "zip",data:=.fields #[.none,.bool false,.bool false,.ref (zq2 t1 t2 h l1 l2).objs.size,.ref (zq3 t1 t2 h l1 l2).objs.size] }
theorem xO{prog:Program}{w:World}{A:Around}{E:fF}{s:Shared}{t:Bool}{l:Addr}{xs:Array Value}{Q:fF}(hl:SSeq t s.heap l xs)
  (hQ:Q (.ref s.heap.objs.size) { s with heap:=zq1 t s.heap l }):wpAny (model prog w) A (pyIter (.ref l)) Q E s:=by
 cases t
 ·exact wpAny_pyIter_list hl hQ
 ·exact wpAny_pyIter_tuple hl hQ
theorem aDb(t1 t2:Bool)(l1 l2:Addr)(xs ys:Array Value) :
  Meets (Builtin.«zip.__new__» ⟨[.type "zip",.ref l1,.ref l2],[]⟩) (λ_ R s=>SSeq t1 s.heap l1 xs/\SSeq t2 s.heap l2 ys/\R (.ok (.ret (.ref (zq4 t1 t2 s.heap l1 l2).objs.size))) { s with heap:=zq5 t1 t2 s.heap l1 l2 }):=
 .of_wp fun prog w A R s h=>by
  obtain⟨hp,g,d,tk,os⟩:=s
  obtain⟨D6,Cg,h⟩:=h
  have D4:=sub_zip
  have hL1:SSeq t1 (Shared.heap ⟨hp,g,d,tk,os⟩) l1 xs:=D6
  have hL2:SSeq t2 (Shared.heap ⟨zq1 t1 hp l1,g,d,tk,os⟩) l2 ys:=Cg.to λo e=>aD _ e
  wp_walk using xO hL1,xO hL2
  exact⟨_,rfl,h⟩
theorem aCj{prog:Program}{w:World}{A:Around}{E:fF}{s:Shared}{t1 t2:Bool}{l1 l2:Addr}{xs ys:Array Value}{Q:fF}(D6:SSeq t1 s.heap l1 xs)(Cg:SSeq t2 s.heap l2 ys)
  (h:∀ h',IsZip h' (s.heap.objs.size + 4) (s.heap.objs.size + 2) (s.heap.objs.size + 3) .none→IsPair h' (s.heap.objs.size + 2) (.ref s.heap.objs.size) (.ref (s.heap.objs.size + 1)) →
   IsPair h' (s.heap.objs.size+3) .none .none->SIter t1 h' s.heap.objs.size l1 0->SIter t2 h' (s.heap.objs.size+1) l2 0->(∀c o,s.heap.get? c=some o->h'.get? c=some o)->Q (.ref (s.heap.objs.size+4)) { s with heap:=h' }) :
  wpAny (model prog w) A (call (.type "zip") [.ref l1,.ref l2]) Q E s:=by
 refine callType_new F.called_zip (by decide) (F.typeCall_zip_2 _ _) (F.newCall_zip_2 _ _) (λobj=>F.args_object_init_3 obj _ _) F.entry_zip_new (aDb t1 t2 l1 l2 xs ys) ⟨D6,Cg,?_⟩
 have z1:(zq1 t1 s.heap l1).objs.size=s.heap.objs.size+1:=gO ..
 have z2:(zq2 t1 t2 s.heap l1 l2).objs.size=s.heap.objs.size+2:=by rw[gO,z1]
 have z3:(zq3 t1 t2 s.heap l1 l2).objs.size=s.heap.objs.size+3:=by rw[gO,z2]
 have z4:(zq4 t1 t2 s.heap l1 l2).objs.size=s.heap.objs.size+4:=by rw[gO,z3]
 have g5:(zq5 t1 t2 s.heap l1 l2).get? (zq4 t1 t2 s.heap l1 l2).objs.size=some _:=aY _ rfl
 have g4:(zq5 t1 t2 s.heap l1 l2).get? (zq3 t1 t2 s.heap l1 l2).objs.size=some _:=aD _ (aY _ rfl)
 have g3:(zq5 t1 t2 s.heap l1 l2).get? (zq2 t1 t2 s.heap l1 l2).objs.size=some _:=aD _ (aD _ (aY _ rfl))
 have g2:(zq5 t1 t2 s.heap l1 l2).get? (zq1 t1 s.heap l1).objs.size=some _:=aD _ (aD _ (aD _ (aY _ rfl)))
 have g1:(zq5 t1 t2 s.heap l1 l2).get? s.heap.objs.size=some _:=aD _ (aD _ (aD _ (aD _ (aY _ rfl))))
 show _/\_
 rw[z2,z3,z4]at g5;rw[z1,z2]at g3;rw[z3]at g4;rw[z1]at g2;rw[z4]
 refine⟨⟨_,g5,rfl⟩,h _ g5 g3 g4 ?_ ?_ λc o x=>aD _ (aD _ (aD _ (aD _ (aD _ x))))⟩
 ·cases t1<;>exact⟨_,g1,rfl,rfl⟩
 ·cases t2<;>exact⟨_,g2,rfl,rfl⟩
section
variable{prog:Program}{w:World}{A:Around}{R:Result->Shared->Prop}{I:Addr}{fp wr:List Addr}{n:Nat}{P:Nat->Value->Prop}{St:Nat->Heap->Prop}
theorem aBn(kw:List (Str×Value))(W:Walks prog w A.in1 I fp wr n P St)(bt:Nat->Nat->Bool)(Go:CmpOf prog w A.in1 .Gt P bt)(S:Addr)(Er:S∉fp) :
  ∀(k j:Nat) (s:Shared) (vb:Value) (c:Nat),n-(j+1)=k->j+1<=n->St (j+1) s.heap->P (argBest bt j) vb->s.heap.get? S=some { cls:=.type "list",dict:=none,data:=.seq #[vb,vb] c,slots:= #[] } ->
  (∀v h' tk,P (argBest bt (n-1)) v->(∀b o,b∉wr->b≠S->s.heap.get? b=some o->h'.get? b=some o)->R (.ok (.ret v)) { s with heap:=h',toks:=tk }) ->
  codeAny (model prog w) A (.builtin "max.loop" ⟨[.ref I,.none,.ref S],kw⟩) R s:=by
 have I0:S∉wr:=λh=>Er (W.sub _ h)
 have Cp:(toString "max" ++ toString ".loop" : String) = "max.loop":=by decide
 intro k
 induction k with
 |zero =>
  intro j s vb c hk hj Cu Fb hS hR
  have Gk:j+1=n:=by lia
  refine codeAny_builtin F.entry_max_loop ?_;rw[Around.under_plainId F.plain_max_loop _]
  show wpAny _ A.in1 (seqItems? (.ref S) >>= _) _ _ s;refine wpAny_bind (wpAny_seqItems hS rfl ?_)
  show wpAny _ A.in1 (tryCatch (pyNext (.ref I)) _ >>= _) _ _ s;refine wpAny_bind (wpAny_tryCatch (W.done s _ _ (Gk ▸ Cu) λh' tk Au=>?_))
  have F4:=Au S _ I0 hS
  show wpAny _ A.in1 (updateSeq S (λ_=>#[]) >>= _) _ _ _;refine wpAny_bind ?_;refine wpAny_updateSeq F4 rfl (wpAny_bind (wpAny_letGo (wpAny_pure ?_)))
  exact hR vb _ tk (by rw[<-Gk];exact Fb) λb o Fa Dd e=>(bO _ _ (Ne.symm Dd)).trans (Au b o Fa e)
 |succ k ih =>
  intro j s vb c hk hj Cu Fb hS hR
  have Bf:j+1<n:=by lia
  refine codeAny_builtin F.entry_max_loop ?_;rw[Around.under_plainId F.plain_max_loop _]
  show wpAny _ A.in1 (seqItems? (.ref S) >>= _) _ _ s;refine wpAny_bind (wpAny_seqItems hS rfl ?_)
  show wpAny _ A.in1 (tryCatch (pyNext (.ref I)) _ >>= _) _ _ s;refine wpAny_bind (wpAny_tryCatch (W.item (j+1) s _ _ Bf Cu λv h' tk hP Fd Au=>?_))
  have F4:=Au S _ I0 hS
  show wpAny _ A.in1 (tryCatch (holding [v,v] (richCompare .Gt v vb >>= _)) _ >>= _) _ _ _;refine wpAny_bind (wpAny_tryCatch (wpAny_holding (wpAny_bind (Go (j+1) (argBest bt j) v vb _ _ _ hP Fb ?_))))
  refine wpAny_bind (wpAny_holding (wpAny_truthy_bool ?_));refine wpAny_bind (wpAny_letGo (wpAny_pure ?_))
  cases hb:bt (j+1) (argBest bt j)with
  |true =>
   simp only[if_true];refine wpAny_bind ?_;refine wpAny_updateSeq F4 rfl (wpAny_bind (wpAny_letGo ?_));rw[Cp]
   refine wpAny_pure ⟨plainId_quiet F.plain_max_loop _,ih (j+1) _ v _ (by lia) Bf (W.frame _ _ _ Fd λb Iy o e=>?_) (by simp only[argBest,hb,if_true];exact hP) (dD _ F4 rfl) λv' Dp tk'' Gr Dm=>?_⟩
   ·exact(bO _ _ (λh:S=b=>Er (by rw[h];exact Iy))).trans e
   ·exact hR v' Dp tk'' Gr λb o Fa Dd e=>Dm b o Fa Dd ((bO _ _ (Ne.symm Dd)).trans (Au b o Fa e))
  |false =>
   simp only[cK,if_false];refine wpAny_bind (wpAny_letGo ?_);rw[Cp]
   refine wpAny_pure ⟨plainId_quiet F.plain_max_loop _,ih (j+1) _ vb c (by lia) Bf Fd (by simp only[argBest,hb,cK,if_false];exact Fb) F4 λv' Dp tk'' Gr Dm=>?_⟩
   exact hR v' Dp tk'' Gr λb o Fa Dd e=>Dm b o Fa Dd (Au b o Fa e)
theorem f8(kw:List (Str×Value))(W:Walks prog w A.in1 I fp wr n P St)(bt:Nat->Nat->Bool)(Go:CmpOf prog w A.in1 .Gt P bt)(S:Addr)(Er:S∉fp)(hn:0<n){s:Shared}{c:Nat}(Cu:St 0 s.heap)
  (hS:s.heap.get? S=some { cls:=.type "list",dict:=none,data:=.seq #[] c,slots:= #[] })
  (hR:∀v h' tk,P (argBest bt (n-1)) v->(∀b o,b∉wr->b≠S->s.heap.get? b=some o->h'.get? b=some o)->R (.ok (.ret v)) { s with heap:=h',toks:=tk }) :
  codeAny (model prog w) A (.builtin "max.loop" ⟨[.ref I,.none,.ref S],kw⟩) R s:=by
 have I0:S∉wr:=λh=>Er (W.sub _ h)
 have Cp:(toString "max" ++ toString ".loop" : String) = "max.loop":=by decide
 refine codeAny_builtin F.entry_max_loop ?_;rw[Around.under_plainId F.plain_max_loop _]
 show wpAny _ A.in1 (seqItems? (.ref S) >>= _) _ _ s;refine wpAny_bind (wpAny_seqItems hS rfl ?_)
 show wpAny _ A.in1 (tryCatch (pyNext (.ref I)) _ >>= _) _ _ s;refine wpAny_bind (wpAny_tryCatch (W.item 0 s _ _ hn Cu λv h' tk hP Fd Au=>?_))
 have F4:=Au S _ I0 hS
 show wpAny _ A.in1 (updateSeq S (λ_=>#[v,v]) >>= _) _ _ _;refine wpAny_bind ?_;refine wpAny_updateSeq F4 rfl ?_;rw[Cp]
 refine wpAny_pure ⟨plainId_quiet F.plain_max_loop _,aBn kw W bt Go S Er _ 0 _ v _ rfl hn (W.frame _ _ _ Fd λb Iy o e=>?_) hP (dD _ F4 rfl) λv' Dp tk'' Gr Dm=>?_⟩
 ·exact(bO _ _ (λh:S=b=>Er (by rw[h];exact Iy))).trans e
 ·exact hR v' Dp tk'' Gr λb o Fa Dd e=>Dm b o Fa Dd ((bO _ _ (Ne.symm Dd)).trans (Au b o Fa e))
theorem aBm{d:Value}{nm:Str}(W:Walks prog w A.in1 I fp wr 0 P St)(S:Addr)(Er:S∉fp){s:Shared}{c:Nat}(Cu:St 0 s.heap)
  (hS:s.heap.get? S=some { cls:=.type "list",dict:=none,data:=.seq #[] c,slots:= #[] })
  (hR:∀h' tk,(∀b o,b∉wr->s.heap.get? b=some o->h'.get? b=some o)->R (.ok (.ret d)) { s with heap:=h',toks:=tk }) :
  codeAny (model prog w) A (.builtin "max.loop" ⟨[.ref I,.none,.ref S],[(nm,d)]⟩) R s:=by
 have I0:S∉wr:=λh=>Er (W.sub _ h)
 refine codeAny_builtin F.entry_max_loop ?_;rw[Around.under_plainId F.plain_max_loop _]
 show wpAny _ A.in1 (seqItems? (.ref S) >>= _) _ _ s;refine wpAny_bind (wpAny_seqItems hS rfl ?_)
 show wpAny _ A.in1 (tryCatch (pyNext (.ref I)) _ >>= _) _ _ s;refine wpAny_bind (wpAny_tryCatch (W.done s _ _ Cu λh' tk Au=>?_))
 refine wpAny_bind (wpAny_rule (wpAny_pure ?_))
 exact hR h' tk Au
end
theorem aCv(a d:Value):argsOk "max" ⟨[a],[(Str.ofString "default",d)]⟩:=by unfold argsOk;kernel_rfl
def Sq(t:Bool)(K:eC)(H:Hp)(a:Addr)(xs:List V):Prop:=if t=true then SqT K H a xs else SqL K H a xs
theorem Inv.sseq{X:Cx}{Aa:fG}{σ:St}{H:Hp}{s:Shared}{t:Bool}{a:Addr}{xs:List V}(I:Inv X Aa σ H s)(h:Sq t X.K H a xs):∃its:List Value,Vals xs its/\SSeq t s.heap a its.toArray/\xs.length<=sizeLine:=by
 cases t
 ·obtain ⟨its,r,p,z⟩:=I.list h
  exact⟨its,r,p.isList,z⟩
 ·obtain ⟨its,r,p,z⟩:=I.tuple h
  exact⟨its,r,p,z⟩
theorem Inv.sseq_inj{X:Cx}{Aa:fG}{σ:St}{H:Hp}{s:Shared}{t:Bool}{a:Addr}{xs ys:List V}(I:Inv X Aa σ H s)(h:Sq t X.K H a xs)(h':Sq t X.K H a ys):xs=ys:=by
 cases t
 ·exact I.list_inj h h'
 ·exact I.tuple_inj h h'
def Itz(t1 t2:Bool)(K:eC)(a b:Addr):It:=
  ⟨fun i H => ∃ xs ys x y,Sq t1 K H a xs∧Sq t2 K H b ys∧xs[i]? = some x∧ys[i]? = some y,
   λi H v H'=>∃p x y,v=.ref p/\H p=none/\H'=upd H p (.tup [x,y])/\∀xs ys,Sq t1 K H a xs->Sq t2 K H b ys->xs[i]? = some x/\ys[i]? = some y,
   λi H=>∃xs ys,Sq t1 K H a xs/\Sq t2 K H b ys/\(xs.length<=i\/ys.length<=i)⟩
section
variable{X:Cx}{Aa:fG}{σ:St}{H:Hp}{s:Shared}
theorem Inv.turnedL{ch:List Addr}{h':Heap}{t':Nat}(I:Inv X Aa σ H s)(hf:∀b∈ch,lN X Aa H b)(k:∀b o,b∉ch->s.heap.get? b=some o->h'.get? b=some o):Inv X Aa σ H { s with heap:=h',toks:=t' }:=by
 have nch:∀b u,H b=some u->b∉ch:=λb u e z=>by rw[(hf b z).1]at e;cases e
 refine I.step (g':=s.gens) (d':=s.drawn) (ch:=ch) (λb hb=>⟨(hf b hb).2.2.2.1,(hf b hb).2.1,(hf b hb).2.2.2.2.1,(hf b hb).2.2.2.2.2⟩) (λb o _ _ hc e _=>k b o hc e) (λb o _ _ hc e _=>⟨o.slots,k b o hc e⟩) (λ_ _ _ _ n=>n)
  (λb o hc e=>⟨o,k b o hc e⟩) (λ_ _ e=>e) (λ_ _ _ e=>e) (λb ps e=>⟨#[],by rw[e];simp⟩) (λm hm=>?_) (λb u e=>?_) I.bare
 ·obtain ⟨o,es,ep,ho,r⟩:=hm
  exact⟨o,es,ep,k _ o (λz=>(hf _ z).2.1 rfl) ho,r⟩
 ·refine (I.hok b u e).stay (fun c v hc q=>k c v ?_ q) (fun _ q=>q) fun _ _ q=>q
  rcases hc with z | z
  ·rw[z];exact nch b u e
  ·exact nch c _ z
theorem Inv.turnedT{ch:List Addr}{h':Heap}{t':Nat}{T:Addr}{xs:List V}{its:List Value}(I:Inv X Aa σ H s)(hf:∀b∈ch,lN X Aa H b)(k:∀b o,b∉ch->s.heap.get? b=some o->h'.get? b=some o)
  (hT:s.heap.objs.size<=T) (r:Vals xs its) (hz:xs.length<=sizeLine) (e:IsTup h' T its.toArray):Inv X Aa σ (upd H T (.tup xs)) { s with heap:=h',toks:=t' }:=by
 have nT:H T=none:=I.hok.fresh hT
 have nch:∀b u,H b=some u->b∉ch:=λb u e z=>by rw[(hf b z).1]at e;cases e
 have neT:∀b o,s.heap.get? b=some o->b≠T:=λb o e z=>absurd (bM (aR e) (by rw[z];exact hT)) (dH _)
 refine I.step (g':=s.gens) (d':=s.drawn) (ch:=ch) (λb hb=>⟨(hf b hb).2.2.2.1,(hf b hb).2.1,(hf b hb).2.2.2.2.1,(hf b hb).2.2.2.2.2⟩) (λb o _ _ hc e _=>k b o hc e) (λb o _ _ hc e _=>⟨o.slots,k b o hc e⟩)
  (λb o _ e n=>by rw[fB (neT b o e)];exact n) (λb o hc e=>⟨o,k b o hc e⟩) (λb ys q=>by rw[fB (zU q nT)];exact q) (λb o u q=>by rw[fB (zU q nT)];exact q)
  (λb ps q=>⟨#[],by rw[fB (zU q nT),q];simp⟩) (λm hm=>?_) (λb u q=>?_) I.bare
 ·obtain ⟨o,es,ep,ho,rr⟩:=hm
  exact⟨o,es,ep,k _ o (λz=>(hf _ z).2.1 rfl) ho,rr⟩
 ·by_cases hb:b=T
  ·subst hb
   rw[cA]at q
   cases q
   exact⟨hz,its,r,e⟩
  ·rw [fB hb] at q
   refine(I.hok b u q).stay (λc v hc z=>k c v ?_ z) (λc z=>by rw[fB (zU z nT)];exact z) λc ys z=>by rw[fB (zU z nT)];exact z
   rcases hc with z | z
   ·rw[z];exact nch b u q
   ·exact nch c _ z
end
theorem aDw{P:Program}{w:World}{K:eC}{es:List Expr}{kk:Nat}{tpos:Pos}{t1 t2:Bool}{a b z TI TO i1 i2:Addr}(D:ZipApart z TI TO i1 i2 a b) :
  Turn P w K (.Tuple es kk tpos) (Itz t1 t2 K a b) [z,TI,TO,i1,i2] z (λi h=>IsZip h z TI TO .none/\IsPair h TI (.ref i1) (.ref i2)/\(∃u v,IsPair h TO u v)/\SIter t1 h i1 a i/\SIter t2 h i2 b i)where
 mem:=by simp
 obj:=λi h st c hb=>by
  obtain⟨hz,Cw,⟨u,v,C1⟩,h1,h2⟩:=st
  simp only[aE,bI,or_false]at hb
  rcases hb with rfl | rfl | rfl | rfl | rfl
  ·exact⟨_,hz,λv e=>nomatch e⟩
  ·exact⟨_,Cw,λv e=>nomatch e⟩
  ·exact⟨_,C1,λv e=>nomatch e⟩
  ·exact h1.obj
  ·exact h2.obj
 keep:=λi h h' st k=>by
  obtain⟨hz,Cw,⟨u,v,C1⟩,h1,h2⟩:=st
  exact⟨k z (by simp) _ hz,k TI (by simp) _ Cw,⟨u,v,k TO (by simp) _ C1⟩,h1.to λo e=>k i1 (by simp) o e,h2.to λo e=>k i2 (by simp) o e⟩
 item:=by
  intro X hP hw hK hc i Aa s σ H E I hf st hg
  subst hP hw hK
  obtain⟨xs,ys,x,y,q1,q2,e1,e2⟩:=hg
  obtain⟨its1,r1,p1,z1⟩:=I.sseq q1
  obtain⟨its2,r2,p2,z2⟩:=I.sseq q2
  obtain⟨u1,Ls,Jy⟩:=r1.get e1
  obtain⟨u2,eu2,ru2⟩:=r2.get e2
  obtain⟨hz,Cw,⟨u,v,C1⟩,h1,h2⟩:=st
  have K8:∀c∈[z,TO,i1,i2],lN X Aa H c:=λc hc=>hf c (by simp only[aE,bI,or_false]at hc ⊢;rcases hc with rfl | rfl | rfl | rfl<;>simp)
  have lt:∀{c o},s.heap.get? c=some o->s.heap.objs.size≠c:=λe=>iI (aR e)
  refine xN D hz Cw C1 h1 h2 p1 p2 (x:=u1) (y:=u2) (by simpa using Ls) (by simpa using eu2) λh' a1 a2 a3 a4 a5 a6 hk=>?_
  refine⟨_,rfl,wpAny_letOwnedTupleGo_zip a1 λDp b1 b2=>?_⟩
  have b2':Heap.SameBut z h' Dp:=b2
  have kk:∀c o,c∉[z,TO,i1,i2]->s.heap.get? c=some o->Dp.get? c=some o:=λc o hc e=>by
   simp only[aE,bI,or_false,not_or]at hc
   exact b2'.extBut _ _ hc.1 (hk c o hc.1 hc.2.1 hc.2.2.1 hc.2.2.2 e)
  have tT:Dp.get? s.heap.objs.size=some { cls:=.type "tuple",data:=.seq #[u1,u2] }:=b2'.extBut _ _ (lt hz) a5
  have nT:H s.heap.objs.size=none:=I.hok.fresh (aP _)
  have I':Inv X Aa σ (upd H s.heap.objs.size (.tup [x,y])) { s with heap:=Dp }:=I.turnedT (t':=s.toks) (its:=[u1,u2]) K8 kk (aP _) (.cons Jy (.cons ru2 .nil)) (by show 2<=sizeLine;decide) ⟨_,tT,rfl,_,rfl⟩
  refine⟨.ref s.heap.objs.size,upd H s.heap.objs.size (.tup [x,y]),I',rfl,
   ⟨_,x,y,rfl,nT,rfl,λxs' ys' w1 w2=>⟨by rw[I.sseq_inj w1 q1];exact e1,by rw[I.sseq_inj w2 q2];exact e2⟩⟩,⟨b1,b2'.extBut _ _ D.TIz (hk _ _ D.TIz D.TITO D.TIi1 D.TIi2 Cw),⟨_,_,b2'.extBut _ _ D.TOz a2⟩,a3.to λo e=>b2'.extBut _ _ D.i1z e,a4.to λo e=>b2'.extBut _ _ D.i2z e⟩,λc hc=>?_⟩
  obtain⟨o,eo,_⟩:∃o,s.heap.get? c=some o/\True:=by
   simp only[aE,bI,or_false]at hc
   rcases hc with rfl | rfl | rfl | rfl | rfl
   ·exact⟨_,hz,trivial⟩
   ·exact⟨_,Cw,trivial⟩
   ·exact⟨_,C1,trivial⟩
   ·obtain⟨o,e,_⟩:=h1.obj;exact⟨o,e,trivial⟩
   ·obtain⟨o,e,_⟩:=h2.obj;exact⟨o,e,trivial⟩
  rw[fB (Ne.symm (lt eo))]
  exact(hf c hc).1
 done:=by
  intro X hP hw hK hc i Aa s σ H E I hf st hg
  subst hP hw hK
  obtain⟨xs,ys,q1,q2,e⟩:=hg
  obtain⟨its1,r1,p1,z1⟩:=I.sseq q1
  obtain⟨its2,r2,p2,z2⟩:=I.sseq q2
  obtain⟨hz,Cw,⟨u,v,C1⟩,h1,h2⟩:=st
  have K8:∀c∈[z,TO,i1,i2],lN X Aa H c:=λc hc=>hf c (by simp only[aE,bI,or_false]at hc ⊢;rcases hc with rfl | rfl | rfl | rfl<;>simp)
  have l1:=r1.length
  have l2:=r2.length
  refine uR (I.ok.hd hc) D hz Cw C1 h1 h2 p1 p2 ?_ λh' hk=>⟨rfl,I.turnedL (t':=s.toks) K8 λc o hc e=>?_⟩
  ·rcases e with e | e
   ·exact .inl (by simp;lia)
   ·exact .inr (by simp;lia)
  ·simp only [aE,bI,or_false,not_or] at hc
   exact hk c o hc.1 hc.2.1 hc.2.2.1 hc.2.2.2 e
 self:=λ_ _ _ _ _ st h=>wpAny_pyIter_zip st.1 h
theorem aRy:bootBuiltins "zip" = some (.type "zip"):=by decide +kernel
def aZg(t1 t2:Bool)(K:eC)(ta:TA):TI:=λσ H R=>ta σ H λvs H1=>∃a b,vs=[.ref a,.ref b]/\(∃xs,Sq t1 K H1 a xs)/\(∃ys,Sq t2 K H1 b ys)/\R (Itz t1 t2 K a b) H1
theorem d6{X:Cx}{ea eb:Expr}{ta:TA}{p pos:Pos}{es:List Expr}{kk:Nat}{tpos:Pos}{t1 t2:Bool}(hg:Gl X "zip")(hm:X.mg "zip" = none)(ha:PA X [ea,eb] ta)(hs:starEach [ea,eb] X.env=[(false,eval ea X.env),(false,eval eb X.env)]:=by rfl)(C5:starEach [eb] X.env=[(false,eval eb X.env)]:=by rfl) :
  PI X (.Tuple es kk tpos) (.Call (.Name "zip" p) [ea,eb] [] pos) (aZg t1 t2 X.K ta):=by
 intro Aa s σ H R I h
 refine Call_ (hm_ I hg hm aRy (fC (eO (ha pos Aa s σ H _ I h) λus s1 ⟨vs,H1,I1,r1,q1⟩=>?_) (by rw[hs,C5]) (by rw[C5];rfl)))
 obtain⟨a,b,e,⟨xs,w1⟩,⟨ys,w2⟩,q⟩:=q1
 subst e
 obtain⟨u,v,rfl,ru,rv⟩:=r1.two
 cases ru
 cases rv
 obtain⟨its1,r1,p1,z1⟩:=I1.sseq w1
 obtain⟨its2,r2,p2,z2⟩:=I1.sseq w2
 have lt1:a<s1.heap.objs.size:=by cases t1<;>(obtain⟨_,e,_⟩:=p1;exact aR e)
 have lt2:b<s1.heap.objs.size:=by cases t2<;>(obtain⟨_,e,_⟩:=p2;exact aR e)
 refine aCj p1 p2 λh' hz Cw C1 hi1 hi2 hk=>wpAny_pyIter_zip hz ?_
 refine⟨_,_,_,_,H1,rfl,I1.kept (t':=s1.toks) hk,aDw (t1:=t1) (t2:=t2) (zipApart_new lt1 lt2),⟨hz,Cw,⟨_,_,C1⟩,hi1,hi2⟩,λc hc=>?_,q⟩
 have C7:s1.heap.objs.size<=c:=by
  simp only[aE,bI,or_false]at hc
  rcases hc with rfl | rfl | rfl | rfl | rfl<;>lia
 exact I1.fpOk C7 (I1.hok.fresh C7)
section
variable{X:Cx}
theorem aCm(hc:X.calm=true):CallR X (.builtin "max") (λxs H Q=>∃p ns,xs=[.ref p]/\SqL X.K H p (ns.map V.int)/\ns≠[]/\∀M,M∈ns->(∀a∈ns,a<=M)->Q (.int M) H):=by
 intro Aa s σ H xs us Q I r h
 obtain⟨p,ns,rfl,hq,Bt,q⟩:=h
 obtain⟨u,rfl,rx⟩:=iB r
 cases rx
 obtain⟨its,r',pl,hz⟩:=I.list hq
 have hi:=qG r'
 obtain⟨zs,e⟩:=hi.allInts.items
 have C0:ns=zs.toList.map (·.1):=by rw[<-hi.numsOf,<-nums_intItems,<-e]
 have hsz:0<zs.size:=by
  have h3:=List.length_pos_iff.mpr Bt
  rw[C0,aC,Array.length_toList]at h3
  exact h3
 have pl':=pl.isList
 rw[e]at pl'
 refine max_intList (I.ok.hd hc) pl' hsz λv h' tk hv hk=>?_
 obtain⟨t,rfl⟩:=intItems_at hv
 obtain⟨h1,h2⟩:=argBest_gt (numAt zs) (zs.size-1)
 refine⟨.int _,H,I.kept hk,⟨t,rfl⟩,q _ ?_ λa ha=>?_⟩
 ·rw [C0,numAt_eq]
  exact getD_mem (by rw[aC,Array.length_toList];lia)
 ·rw [C0] at ha
  obtain⟨j,hj,rfl⟩:=mem_getD ha
  rw[aC,Array.length_toList]at hj
  rw[<-numAt_eq]
  exact h2 j (by lia)
def aIm(X:Cx)(f:Value)(ks:List Str)(r:List V->List V->Hp->VK->Prop):Prop:=
 ∀(Aa:fG) (s:Shared) (σ:St) (H:Hp) (xs zs:List V) (us ws:List Value) (Q:VK),Inv X Aa σ H s->Vals xs us->Vals zs ws->r xs zs H Q ->
  wpAny (model X.prog X.w) X.A (call f us (ks.zip ws)) (EP X Aa σ Q) X.xe s
def aYi(r:List V->List V->Hp->VK->Prop)(t tk:TA):TE:=λσ H Q=>t σ H λvs H1=>tk σ H1 λzs H2=>r vs zs H2 Q
theorem aBc{x:Str}{p pos:Pos}{e:Expr}{es:List Expr}{kws:List Keyword}{t tk:TA}{id:String}{ks:List Str}{r:List V->List V->Hp->VK->Prop}(hc:aIm X (.builtin id) ks r)(hg:Gl X x)(hm:X.mg x=none)(hv:bootBuiltins x=some (.builtin id))
  (ha:PA X (e::es) t) (Kw:PK X kws tk) (El:(backToKw pos (keywordEach kws X.env)).filterMap (·.1)=ks:=by rfl) (hn:x ≠ "__name__":=by decide) (Bs:(x == ("__debug__" : Str))=false:=by decide)
  (he:backTo pos (starEach (e::es) X.env)=(false,eval e X.env)::backTo pos (starEach es X.env):=by rfl) (Ay:(backTo pos (starEach (e::es) X.env)).any (·.1)=false:=by rfl)
  (Ar:(backToKw pos (keywordEach kws X.env)).all (·.1.isSome)=true:=by rfl) (Ky:(backToKw pos (keywordEach kws X.env)).any (·.1.isNone)=false:=by rfl):PE X (.Call (.Name x p) (e::es) kws pos) (aYi r t tk):=by
 intro Aa s σ H Q I h
 refine wpAny_Call_Name_kw (hm_ I hg hm hv ?_ hn Bs)
 refine PyProof.Rows.callWith_kw (eO (ha pos Aa s σ H _ I h) λus s1 ⟨vs,H1,I1,r1,q1⟩=>eO (Kw pos Aa s1 σ H1 _ I1 q1) λws s2 ⟨zs,H2,I2,r2,q2⟩=>?_) he Ay Ar Ky
 rw[El]
 exact hc Aa s2 σ H2 vs zs us ws Q I2 r1 r2 q2
theorem aCn(hc:X.calm=true):aIm X (.builtin "max") ["default"] (λxs zs H Q=>∃p ns d,xs=[.ref p]/\zs=[.int d]/\SqL X.K H p (ns.map V.int)/\(ns=[]->Q (.int d) H)/\(∀M,M∈ns->(∀a∈ns,a<=M)->Q (.int M) H)):=by
 intro Aa s σ H xs zs us ws Q I r rz h
 obtain⟨p,ns,d,rfl,rfl,hq,q0,q⟩:=h
 obtain⟨u,rfl,rx⟩:=iB r
 cases rx
 obtain⟨v,rfl,td,rfl⟩:=iB rz
 obtain⟨its,r',pl,hz⟩:=I.list hq
 have hi:=qG r'
 obtain⟨ys,e⟩:=hi.allInts.items
 have C0:ns=ys.toList.map (·.1):=by rw[<-hi.numsOf,<-nums_intItems,<-e]
 have pl':=pl.isList
 rw[e]at pl'
 have Cp:(toString "max" ++ toString ".loop" : String) = "max.loop":=by decide
 have hh:X.A.handled=none:=I.ok.hd hc
 refine kmk_tree PySem.F.kind_max PySem.F.plain_max PySem.F.entry_max (aCv _ _) ?_
 show wpAny _ X.A.in1 (Builtin.Builtins.bindParams "max" ["key","default"] 0 ⟨[],[(Str.ofString "default",.int d td)]⟩ >>= _) _ _ s
 refine wpAny_bind (wpAny_of_eq (show Builtin.Builtins.bindParams "max" ["key","default"] 0 ⟨[],[(Str.ofString "default",.int d td)]⟩=pure [none,some (.int d td)]from rfl) ?_)
 refine wpAny_bind (wpAny_pure ?_)
 refine wpAny_bind (iter_intList pl' λs2 e2 st Hc hlI=>?_)
 subst e2
 refine wpAny_bind (wpAny_newObj_type ?_)
 have W:=Walks.list (prog:=X.prog) (w:=X.w) (A:=X.A.in1) hh s.heap.objs.size p hlI (intItems ys)
 rw[Cp]
 have old:∀b o,s.heap.get? b=some o->b≠s.heap.objs.size:=λb o e=>cC (aR e)
 refine wpAny_pure ⟨plainId_quiet PySem.F.plain_max_loop _,?_⟩
 have Er:(s.heap.push { cls:=.type "list_iterator",data:=.fields #[.ref p,.int 0 0] }).objs.size∉[s.heap.objs.size,p]:=λhm=>dH _ (Hc _ hm)
 have st':=W.frame 0 _ ((s.heap.push { cls:=.type "list_iterator",data:=.fields #[.ref p,.int 0 0] }).push { cls:=.type "list",dict:=none,data:=.seq ([]:List Value).toArray }) st λb _ o e=>aD _ e
 by_cases hn:0<ys.size
 ·refine f8 _ W (fun i j=>decide (numAt ys i > numAt ys j)) (CmpOf.ints_gt (numAt ys) (fun _ _=>intItems_at)) _ Er (by simpa [intItems] using hn) st' (aY _ rfl) fun v h' tk hP hk => ?_
  have hv:(intItems ys)[argBest (λi j=>decide (numAt ys i>numAt ys j)) (ys.size-1)]? = some v:=by simpa [intItems]using hP
  obtain⟨t,rfl⟩:=intItems_at hv
  obtain⟨h1,h2⟩:=argBest_gt (numAt ys) (ys.size-1)
  refine⟨.int _,H,I.kept λb o e=>hk b o (by simpa using old b o e) ?_ (aD _ (aD _ e)),⟨t,rfl⟩,q _ ?_ λa ha=>?_⟩
  ·have:=aR e
   rw[gO]
   exact cC (Nat.lt_succ_of_lt this)
  ·rw [C0,numAt_eq]
   exact getD_mem (by rw[aC,Array.length_toList];lia)
  ·rw [C0] at ha
   obtain⟨j,hj,rfl⟩:=mem_getD ha
   rw[aC,Array.length_toList]at hj
   rw[<-numAt_eq]
   exact h2 j (by lia)
 ·have e0:(intItems ys).size=0:=by rw [intItems,Array.size_map]; lia
  rw[e0]at W
  refine aBm W _ Er st' (aY _ rfl) λh' tk hk=>?_
  refine⟨.int d,H,I.kept λb o e=>hk b o (by simpa using old b o e) (aD _ (aD _ e)),⟨td,rfl⟩,q0 ?_⟩
  rw[C0]
  have:ys.toList.length=0:=by rw[Array.length_toList];lia
  rw[List.eq_nil_of_length_eq_zero this]
  rfl
theorem aFp(hu:X.A.units<cLine):OpR X (compareOp .Eq) (λx y H Q=>∃p b xs,x=.ref p/\y=.ref b/\SqL X.K H p xs/\SqL X.K H b []/\Q (.bl xs.isEmpty) H):=by
 intro Aa s σ H x y v u Q I rx ry h
 obtain⟨p,b,xs,rfl,rfl,h1,h2,q⟩:=h
 cases rx
 cases ry
 obtain⟨its,r1,p1,_⟩:=I.list h1
 obtain⟨its2,r2,p2,_⟩:=I.list h2
 cases r2
 cases r1 with
 |nil=>exact PySem.SeqAt.eq_listAt (e:=λ_=>true) p1.isList p2.isList rfl hu (λj a1=>absurd a1 (by simp)) ⟨.bl true,H,I,rfl,q⟩
 |cons ra rb=>exact PySem.SeqAt.eq_list_lengthsAt p1.isList p2.isList (by simp) hu ⟨.bl false,H,I,rfl,q⟩
theorem xR(hu:X.A.units<cLine):OpR X (compareOp .NotEq) (λx y H Q=>∃p b xs,x=.ref p/\y=.ref b/\SqL X.K H p xs/\SqL X.K H b []/\Q (.bl (!xs.isEmpty)) H):=by
 intro Aa s σ H x y v u Q I rx ry h
 obtain⟨p,b,xs,rfl,rfl,h1,h2,q⟩:=h
 cases rx
 cases ry
 obtain⟨its,r1,p1,_⟩:=I.list h1
 obtain⟨its2,r2,p2,_⟩:=I.list h2
 cases r2
 cases r1 with
 |nil=>exact PySem.SeqAt.RcNeAt.lists (e:=λ_=>true) p1.isList p2.isList rfl hu (λj a1=>absurd a1 (by simp)) _ _ _ _ ⟨.bl false,H,I,rfl,q⟩
 |cons ra rb=>exact PySem.SeqAt.RcNeAt.lists_lengths p1.isList p2.isList (by simp) hu _ _ _ _ ⟨.bl true,H,I,rfl,q⟩
theorem b7:∀{ns:List String} {its:List Value},Vals (ns.map V.ty) its->its=ns.map Value.type
 | [],_,h=>by cases h;rfl
 |m::ms,_,h=>by
  cases h with
  |cons ra rb =>
   rw[aL,<-b7 rb]
   exact congrArg (· :: _) (show _=Value.type m from ra)
theorem wF:CallR X (.builtin "isinstance") (λxs H Q=>∃(x:V) (p:Addr) (t:Value) (b:Bool) (ns:List String),xs=[x,.ref p]/\TyOf X.K H x t/\H p=some (.tup (ns.map V.ty))/\PySem.W.kitAny X.K t (ns.map Value.type)=some b/\Q (.bl b) H):=by
 intro Aa s σ H xs us Q I r h
 obtain⟨x,p,t,b,ns,rfl,ty,hp,e,q⟩:=h
 obtain⟨u,w',rfl,r1,r2⟩:=pE r
 cases r2
 obtain⟨_,its,rv,o,h1,h2,n,h3⟩:=(show ObjOk X.prog X.w H s.heap p (.tup (ns.map V.ty))from I.hok p _ hp)
 have ei:=b7 rv
 subst ei
 obtain⟨cls,dd,data,sl⟩:=o
 dsimp only at h2 h3
 subst h2 h3
 have fin:∀tk,EP X Aa σ Q (.bool b) { s with toks:=tk }:=λtk=>⟨.bl b,H,I.tok _,rfl,q⟩
 cases ty with
 |non=>cases(show u=Value.none from r1);exact PySem.W.kia_tup PySem.W.kitx_none I.kIn True.intro h1 e (λz=>nomatch z) fin
 |bl y=>cases(show u=Value.bool y from r1);exact PySem.W.kia_tup PySem.W.kitx_bool I.kIn True.intro h1 e (λz=>nomatch z) fin
 |int i=>obtain⟨t,z⟩:=(show ∃t,u=Value.int i t from r1);cases z;exact PySem.W.kia_tup PySem.W.kitx_int I.kIn True.intro h1 e (λz=>nomatch z) fin
 |str y=>obtain⟨t,z⟩:=(show ∃t,u=Value.str y t from r1);cases z;exact PySem.W.kia_tup PySem.W.kitx_str I.kIn True.intro h1 e (λz=>nomatch z) fin
 |flt y=>obtain⟨t,z⟩:=(show ∃t,u=Value.float y t from r1);cases z;exact PySem.W.kia_tup PySem.W.kitx_float I.kIn True.intro h1 e (λz=>nomatch z) fin
 | @lst a xs ea =>
  cases(show u=Value.ref a from r1)
  obtain⟨_,_,n,_,g1⟩:=(show ObjOk X.prog X.w H s.heap a (.lst xs)from I.hok a _ ea)
  exact PySem.W.kia_tup PySem.W.kitx_list I.kIn ⟨_,g1,rfl⟩ h1 e (λz=>nomatch z) fin
 | @frz a ob xs ea =>
  cases(show u=Value.ref a from r1)
  obtain⟨_,_,_,n,_,g1⟩:=(show ObjOk X.prog X.w H s.heap a (.frz ob (.lst xs))from I.hok a _ ea)
  exact PySem.W.kia_tup PySem.W.kitx_list I.kIn ⟨_,g1,rfl⟩ h1 e (λz=>nomatch z) fin
 | @tup a xs ea =>
  cases(show u=Value.ref a from r1)
  obtain⟨_,_,_,p⟩:=(show ObjOk X.prog X.w H s.heap a (.tup xs)from I.hok a _ ea)
  obtain⟨o,g1,g2,_⟩:=p
  exact PySem.W.kia_tup PySem.W.kitx_tuple I.kIn ⟨o,g1,g2⟩ h1 e (λz=>nomatch z) fin
 | @dK a kvs ea =>
  cases(show u=Value.ref a from r1)
  obtain⟨o,es,ep,g1,g2,_⟩:=gq_ (show ObjOk X.prog X.w H s.heap a (.dK kvs)from I.hok a _ ea)
  exact PySem.W.kia_tup PySem.W.kitx_dict I.kIn ⟨o,g1,g2.1⟩ h1 e (λz=>nomatch z) fin
 | @dT a kvs ea =>
  cases(show u=Value.ref a from r1)
  obtain⟨_,_,xs,_,o,es,ep,g1,g2,_⟩:=(show ObjOk X.prog X.w H s.heap a (.dT kvs)from I.hok a _ ea)
  exact PySem.W.kia_tup PySem.W.kitx_dict I.kIn ⟨o,g1,g2.1⟩ h1 e (λz=>nomatch z) fin
 | @ins a C dx fs ea cl ha hn Jo hm =>
  cases(show u=Value.ref a from r1)
  obtain⟨mA,O,_⟩:=v7 I.hok ea
  obtain⟨od,J,_⟩:=O.look
  exact PySem.W.kia_tup (PySem.W.kitx_own (cl.get _) cl.hd ha hn Jo hm) I.kIn J h1 e (λz=>nomatch z) fin
theorem uJ:SlR X (λx lo hi H Q=>∃z,x=.str z/\z.length<=sizeLine/\Q (.str (Txt.slice z lo hi)) H):=by
 intro Aa s σ H x v vl vu lo hi sl Q I rx hs pl pu h
 obtain⟨z,rfl,hz,q⟩:=h
 obtain⟨t,rfl⟩:=rx
 refine⟨"str",_,PySem.F.slot_str_getitem.lookup,typeIs_str _ _ _,?_⟩
 obtain⟨o,h1,h2,h3⟩:=hs
 cases pl with
 |none =>
  cases pu with
  |none=>exact wpAny_getItem_str_slice (l:=none) (u:=none) (st:=none) ⟨o,h1,h2,h3⟩ rfl (post_val_or_str ⟨nzL (Txt.slice_le z _ _) hz,λt' k=>⟨.str _,H,I.tok _,⟨_,rfl⟩,q⟩⟩)
  |int j uj=>exact wpAny_getItem_str_slice (l:=none) (u:=some (j,uj)) (st:=none) ⟨o,h1,h2,h3⟩ rfl (post_val_or_str ⟨nzL (Txt.slice_le z _ _) hz,λt' k=>⟨.str _,H,I.tok _,⟨_,rfl⟩,q⟩⟩)
 |int i ui =>
  cases pu with
  |none=>exact wpAny_getItem_str_slice (l:=some (i,ui)) (u:=none) (st:=none) ⟨o,h1,h2,h3⟩ rfl (post_val_or_str ⟨nzL (Txt.slice_le z _ _) hz,λt' k=>⟨.str _,H,I.tok _,⟨_,rfl⟩,q⟩⟩)
  |int j uj=>exact wpAny_getItem_str_slice (l:=some (i,ui)) (u:=some (j,uj)) (st:=none) ⟨o,h1,h2,h3⟩ rfl (post_val_or_str ⟨nzL (Txt.slice_le z _ _) hz,λt' k=>⟨.str _,H,I.tok _,⟨_,rfl⟩,q⟩⟩)
theorem pQ:OpR X (binaryOp .Mult) (λx y H Q=>∃z n,x=.str z/\y=.int n/\z.length<=1000/\0<=n/\n<=1000/\Q (.str (Txt.mul z n)) H):=by
 intro Aa s σ H x y v u Q I rx ry h
 obtain⟨z,n,rfl,rfl,hz,h0,h1,q⟩:=h
 obtain⟨t,rfl⟩:=rx
 obtain⟨t',rfl⟩:=ry
 exact SB.mul (mulOk_of 1000 1000 hz (by lia) (by lia) (by decide) (by decide)) λt' k=>⟨.str _,H,I.tok _,⟨_,rfl⟩,q⟩
theorem strsAre_of{ys:List Str}:∀{us:List Value},Vals (ys.map V.str) us->StrsAre us ys:=by
 induction ys with
 |nil=>intro us r;rw[bL]at r;cases r;exact .nil
 |cons n ns ih =>
  intro us r
  rw[aL]at r
  cases r with
  |cons r1 r2 =>
   obtain⟨t,e⟩:=r1
   subst e
   exact .cons n t (ih r2)
theorem aKw:MtR X "str.join" (λx vs H Q=>∃z p ys,x=.str z/\vs=[.ref p]/\SqL X.K H p (ys.map V.str)/\(ys.map (·.length)).sum+ys.length*z.length<=16777216/\Q (.str (Txt.join z ys)) H):=by
 intro Aa s σ H x vs v us Q I rx rv h
 obtain⟨z,p,ys,rfl,rfl,hq,hok,q⟩:=h
 obtain⟨t,rfl⟩:=rx
 obtain⟨u,rfl,ru⟩:=rv.one
 cases ru
 obtain⟨its,r',pl,hz⟩:=I.list hq
 exact join_list pl.isList (by rw[List.toList_toArray];exact strsAre_of r') hok λt' k=>⟨.str _,H,I.tok _,⟨_,rfl⟩,q⟩
end
section
variable{prog:Program}{w:World}{A:Around}{E:fF}
theorem yW{it l:Addr}{items:Array Value}(Bt:l≠it):∀(n i:Nat) (s:Shared) (Q:List Value->Shared->Prop),s.heap.IsListIter it l i->s.heap.IsList l items->i+n<=items.size ->
  (∀h',h'.IsListIter it l (i+n)->Heap.SameBut it s.heap h'->Q ((items.toList.drop i).take n) { s with heap:=h' })->wpAny (model prog w) A (draw (.ref it) n) Q E s
 | 0,i,s,Q,B8,_,_,hQ=>by
  show wpAny _ _ (pure []) Q E s;exact wpAny_pure (by simpa using hQ s.heap B8 (Heap.SameBut.refl ..))
 |n+1,i,s,Q,B8,ht,C7,hQ=>by
  have Bf:i<items.size:=by lia
  show wpAny _ _ (pyNext (.ref it) >>= _) Q E s;refine wpAny_bind (wpAny_pyNext_list_item B8 ht (x:=items[i]) (by simp[Bf]) λh1 Gj Hz=>?_)
  refine wpAny_bind (wpAny_holding (yW Bt n (i+1) _ _ Gj (ht.extBut Hz.extBut Bt) (by lia) λh2 K0 C5=>wpAny_pure ?_))
  have hd:items.toList.drop i=items[i]::items.toList.drop (i+1):=by simp[List.drop_eq_getElem_cons,Bf]
  have z:=hQ h2 (by rw[show i+(n+1)=i+1+n by lia];exact K0) (Hz.trans C5)
  rw[hd,List.take_succ_cons]at z;exact z
theorem b6{s:Shared}{l:Addr}{items:Array Value}{Q:List Value->Shared->Prop}(hh:A.handled=none)(ht:s.heap.IsList l items)
  (hQ:∀h',Heap.ExtBut s.heap.objs.size s.heap h'->Q items.toList { s with heap:=h' }):wpAny (model prog w) A (unpackItems (.ref l) items.size none) Q E s:=by
 have Bf:l≠s.heap.objs.size:=by obtain⟨o,ho,_⟩:=ht;exact cC (aR ho)
 unfold unpackItems;refine wpAny_bind ?_;unfold notIterableAtAll
 refine wpAny_bind (wpAny_specialOf ht.typeIs PySem.F.slot_list_iter.lookup ?_);refine wpAny_pure ?_;simp only[cK,if_false]
 refine wpAny_bind (wpAny_holding (wpAny_pyIter_list ht ?_))
 refine wpAny_bind (wpAny_holding (yW Bf items.size 0 _ _ ⟨_,aY _ rfl,rfl,rfl⟩ (ht.push _) (by lia) λh1 Gj Hz=>?_))
 have Ar:List.take items.size (List.drop 0 items.toList)=items.toList:=by rw[cL];exact List.take_of_length_le (by simp)
 rw[Ar,if_neg (by simp)]
 have ht1:h1.IsList l items:=(ht.push _).extBut Hz.extBut Bf
 refine wpAny_bind (wpAny_holding (wpAny_pyNext_list_end hh Gj ht1 (by simp) λh2 Fk=>?_));simp only[Option.isSome_none,cK,if_false]
 exact wpAny_pure (hQ h2 λb o hb e=>Fk b o hb (Hz.extBut b o hb (aD _ e)))
end
def aLt(K:eC)(n:Nat)(t:TGs):TG:=λv σ H Q=>∃a xs,v=.ref a/\SqL K H a xs/\xs.length=n/\t xs σ H Q
theorem d7{X:Cx}{pos:Pos}{es:List Expr}{k:Nat}{t:TGs}{n:Nat}(hc:X.calm=true)(h:PGs X es t)(hn:(assignEach es X.env).length=n:=by rfl)(Cu:(assignEach es X.env).findIdx? (·.1)=none:=by rfl):PG X (.Tuple es k pos) (aLt X.K n t):=by
 intro Aa s σ H v u Q I r hw
 obtain⟨a,xs,e1,hq,hl,hw⟩:=hw
 subst e1
 cases r
 obtain⟨its,rv,ht,hz⟩:=I.list hq
 rw[assign_Tuple]
 refine wpAny_bind (wpAny_standAt ?_)
 unfold unpack
 have Ah:(assignEach es X.env).length=its.toArray.size:=by rw[bE,hn,<-hl,rv.length]
 rw[Ah,Cu]
 refine wpAny_bind (wpAny_holding (b6 (I.ok.hd hc) ht.isList λh' hx=>?_))
 have I1:Inv X Aa σ H { s with heap:=h' }:=I.kept (t':=s.toks) λb o e=>hx b o (cC (aR e)) e
 exact h Aa _ σ H xs _ Q I1 (by simpa using rv) hw
theorem uG{K:eC}{n k:Nat}{t:TGs}(h:aIl n t):Tgt n (aLt K k t):=λx σ H Q ⟨a,xs,e,hq,hl,q⟩=>⟨a,xs,e,hq,hl,h xs σ H Q q⟩
section
variable{X:Cx}(K:eC)(h:X.K=K:=by rfl)
include h
theorem aLe:IxR X (aOm K):=h ▸ aQs
theorem yC:IxR X (aEt K):=h ▸ dl_
theorem aEh:SlR X (aUg K):=h ▸ aJl
theorem oE{pos:Pos}{es:List Expr}{k:Nat}{t:TGs}{n:Nat}(hc:X.calm=true)(hh:PGs X es t)(hn:(assignEach es X.env).length=n:=by rfl)(Cu:(assignEach es X.env).findIdx? (·.1)=none:=by rfl):PG X (.Tuple es k pos) (aLr K n t):=h ▸ hl_ hc hh hn Cu
theorem uW{pos:Pos}{es:List Expr}{k:Nat}{t:TGs}{n:Nat}(hc:X.calm=true)(hh:PGs X es t)(hn:(assignEach es X.env).length=n:=by rfl)(Cu:(assignEach es X.env).findIdx? (·.1)=none:=by rfl):PG X (.Tuple es k pos) (aLt K n t):=h ▸ d7 hc hh hn Cu
end
def aYd(t:TS):TS:=λD σ H=>∃P:St->Hp->Prop,t { D with nx:=P } σ H/\∀σ' H',P σ' H'->D.nx σ' H'
theorem aFb{X:Cx}{st:Stmt}{t:TS}(h:PS X st t):PS X st (aYd t):=by
 intro Aa s σ H D I ⟨P,h1,h2⟩
 refine eO (h Aa s σ H _ I h1) λf s' q=>?_
 cases f with
 |next=>obtain⟨σ',H',I',q'⟩:=q;exact⟨σ',H',I',h2 _ _ q'⟩
 |brk=>exact q
 |cont=>exact q
 |ret u=>exact q
def aEr(K:eC):List V->Hp->VK->Prop:=λxs H Q=>∃p ns,xs=[.ref p]/\SqL K H p (ns.map V.int)/\ns≠[]/\∀M,M∈ns->(∀a∈ns,a<=M)->Q (.int M) H
theorem aCl{X:Cx}(hc:X.calm=true):CallR X (.builtin "max") (aEr X.K):=aCm hc
section
variable{K:eC}
theorem aGk{t a b:Value}{x y:Bool}(h1:PySem.W.kitOne K t a=some x)(h2:PySem.W.kitOne K t b=some y):PySem.W.kitAny K t [a,b]=some (x||y):=by
 unfold PySem.W.kitAny
 rw[h1]
 cases x with
 |true=>rfl
 |false =>
  show PySem.W.kitAny K t [b]=_
  unfold PySem.W.kitAny
  rw[h2]
  cases y<;>rfl
end
end L2
namespace Lf
open PySem
inductive Kd where
 |num (w m:Int)
 |row (k:Kd) (n:Int)
 |rcd (fs:List (Str×Kd))
 |cho (ks:List Kd)
def up(n m:Int):Int:=(n+m-1)/m*m
theorem aTt{n m:Int}(hm:0<m):up n m=n+m-1-(n+m-1)%m:=by
 have:=Int.mul_ediv_add_emod (n+m-1) m
 rw[Int.mul_comm]at this
 unfold up
 lia
theorem zK{n m:Int}(hm:0<m):n<=up n m/\up n m<n+m:=by
 have a:=eF (n+m-1) (Int.ne_of_gt hm)
 have b:=cW (n+m-1) hm
 rw[aTt hm]
 lia
theorem aDu{n m:Int}:up n m%m=0:=Int.mul_emod_left _ _
def upL(n m:Int):Int:=if n%m=0 then n else n+m-n%m
theorem pW{a b m:Int}(hm:0<m)(ha:a%m=0)(hb:b%m=0)(h1:a-b<m)(h2:b-a<m):a=b:=by
 have h:(a-b)%m=0:=by rw[Int.sub_emod,ha,hb];simp
 obtain⟨c,hc⟩:=Int.dvd_of_emod_eq_zero h
 by_cases c0:c=0
 ·subst c0;lia
 ·rcases Int.lt_or_gt_of_ne c0 with c1 | c1
  ·have:m * c≤m * (-1):=fZ (by lia) (by lia)
   lia
  ·have:m * 1≤m * c:=fZ (by lia) (by lia)
   lia
theorem aOb{n m:Int}(hm:0<m):upL n m=up n m:=by
 have a:=eF n (Int.ne_of_gt hm)
 have b:=cW n hm
 obtain⟨c,d⟩:=zK (n:=n) hm
 refine pW hm ?_ aDu ?_ ?_
 ·unfold upL
  split
  ·assumption
  ·have e:n + m - n % m=(n - n % m) + m:=by lia
   rw[e,Int.add_emod_right,Int.sub_emod]
   simp
 ·unfold upL;split<;>lia
 ·unfold upL;split<;>lia
def fE(d:Int)(l:List Int):Int:=l.foldr max d
theorem vG{d:Int}:∀{l:List Int} {a:Int},a∈l->a<=fE d l
 |b::r,a,h=>by
  show a<=max b (fE d r)
  rcases aE.mp h with rfl | h
  ·exact Int.le_max_left _ _
  ·exact Int.le_trans (vG h) (Int.le_max_right _ _)
theorem vF{d M:Int}{l:List Int}(hm:M∈l)(hd:d<=M)(hM:∀a∈l,a<=M):M=fE d l:=by
 refine Int.le_antisymm (vG hm) ?_
 clear hm
 induction l with
 |nil=>exact hd
 |cons b r ih =>
  show max b (fE d r)<=M
  exact Int.max_le.mpr ⟨hM b aA,ih λa ha=>hM a (aB _ ha)⟩
def ends(e:Int):List (Int×Int)->List Int
 | []=>[]
 |r::rs=>(up e r.2+r.1)::ends (up e r.2+r.1) rs
def dJ(e:Int):List (Int×Int)->Int
 | []=>e
 |r::rs=>dJ (up e r.2+r.1) rs
def plcs(e:Int):List (Int×Int)->List Int
 | []=>[]
 |r::rs=>up e r.2::plcs (up e r.2+r.1) rs
def Rms(rs:List (Int×Int)):Prop:=∀r∈rs,0<=r.1/\0<r.2
theorem hd_:∀{rs:List (Int×Int)} {e:Int},Rms rs->e<=dJ e rs
 | [],e,_=>iE e
 |r::rs,e,h=>by
  obtain⟨a,b⟩:=h r aA
  have:=hd_ (rs:=rs) (e:=up e r.2+r.1) λx hx=>h x (aB _ hx)
  have:=(zK (n:=e) b).1
  show e<=dJ (up e r.2+r.1) rs
  lia
theorem yU:∀{rs:List (Int×Int)} {e:Int},Rms rs->rs≠[]->dJ e rs∈ends e rs/\∀a∈ends e rs,a<=dJ e rs
 | [],_,_,h=>absurd rfl h
 | [r],e,h,_=>by
  refine⟨aA,λa ha=>?_⟩
  rcases aE.mp ha with rfl | ha
  ·exact iE _
  ·cases ha
 |r::s::rs,e,h,_=>by
  have ih:=yU (rs:=s::rs) (e:=up e r.2+r.1) (λx hx=>h x (aB _ hx)) (by simp)
  refine⟨aB _ ih.1,λa ha=>?_⟩
  rcases aE.mp ha with rfl | ha
  ·exact hd_ (rs:=s::rs) λx hx=>h x (aB _ hx)
  ·exact ih.2 a ha
theorem ij_:∀(rs:List (Int×Int)) (e:Int),(plcs e rs).length=rs.length
 | [],_=>rfl
 |r::rs,e=>by show(plcs _ rs).length+1=_;rw[ij_ rs];rfl
theorem sM:∀(rs:List (Int×Int)) (r:Int×Int) (e:Int),plcs e (rs++[r])=plcs e rs++[up (dJ e rs) r.2]
 | [],_,_=>rfl
 |s::rs,r,e=>by show up e s.2::plcs _ (rs++[r])=up e s.2::(plcs _ rs++_);rw[sM rs];rfl
theorem fc_:∀(rs:List (Int×Int)) (r:Int×Int) (e:Int),dJ e (rs++[r])=up (dJ e rs) r.2+r.1
 | [],_,_=>rfl
 |s::rs,r,e=>fc_ rs r _
theorem yT:∀(rs:List (Int×Int)) (e:Int),ends e rs=((plcs e rs).zip rs).map λp=>p.1+p.2.1
 | [],_=>rfl
 |r::rs,e=>by show _::ends _ rs=_::_;rw[yT rs];rfl
def xL(rs:List (Int×Int)):Int×Int:=(up (dJ 0 rs) (fE 1 (rs.map (·.2))),fE 1 (rs.map (·.2)))
def tH(rs:List (Int×Int)):Int×Int:=(up (up 1 (fE 1 (rs.map (·.2)))+fE 0 (rs.map (·.1))) (fE 1 (rs.map (·.2))),fE 1 (rs.map (·.2)))
mutual
def Kd.rm:Kd->Int×Int
 | .num w m=>(w,m)
 | .row k n=>(n*up k.rm.1 k.rm.2,k.rm.2)
 | .rcd fs=>xL (rmF fs)
 | .cho ks=>tH (rmK ks)
def rmF:List (Str×Kd)->List (Int×Int)
 | []=>[]
 |f::r=>f.2.rm::rmF r
def rmK:List Kd->List (Int×Int)
 | []=>[]
 |k::r=>k.rm::rmK r
end
mutual
def Kd.deep:Kd->Nat
 | .num _ _=>1
 | .row k _=>k.deep+1
 | .rcd fs=>cX fs+1
 | .cho ks=>dO ks+1
def cX:List (Str×Kd)->Nat
 | []=>0
 |f::r=>max f.2.deep (cX r)
def dO:List Kd->Nat
 | []=>0
 |k::r=>max k.deep (dO r)
end
mutual
def Kd.Ok:Kd->Prop
 | .num w m=>1<=w/\w<=8/\1<=m/\m<=8
 | .row k n=>k.Ok/\0<=n/\n<=100
 | .rcd fs=>okF fs/\fs.length<=10
 | .cho ks=>okK ks/\ks.length<=10
def okF:List (Str×Kd)->Prop
 | []=>True
 |f::r=>f.2.Ok/\okF r
def okK:List Kd->Prop
 | []=>True
 |k::r=>k.Ok/\okK r
end
theorem oJ{d M:Int}:∀{l:List Int},d<=M->(∀a∈l,a<=M)->fE d l<=M
 | [],hd,_=>hd
 |b::r,hd,h=>Int.max_le.mpr ⟨h b aA,oJ hd λa ha=>h a (aB _ ha)⟩
theorem qA{d:Int}:∀(l:List Int),d<=fE d l
 | []=>iE _
 |b::r=>Int.le_trans (qA r) (Int.le_max_right _ _)
def Bd(B:Int)(r:Int×Int):Prop:=0<=r.1/\r.1<=B/\1<=r.2/\r.2<=8
theorem du_{B:Int}:∀{rs:List (Int×Int)} {e:Int},0<=e->(∀r∈rs,Bd B r)->0<=dJ e rs/\dJ e rs<=e+(rs.length:Int)*(B+8)
 | [],e,h0,_=>⟨h0,by simp[dJ]⟩
 |r::rs,e,h0,h=>by
  obtain⟨a,b,c,d⟩:=h r aA
  obtain⟨u1,u2⟩:=zK (n:=e) (m:=r.2) (by lia)
  have ih:=du_ (B:=B) (rs:=rs) (e:=up e r.2+r.1) (by lia) λx hx=>h x (aB _ hx)
  refine⟨ih.1,?_⟩
  show dJ (up e r.2+r.1) rs<=_
  have e1:((r::rs).length:Int)*(B+8)=(rs.length:Int)*(B+8)+(B+8):=by
   rw[aJ]
   push_cast
   rw[Int.add_mul]
   lia
  rw[e1]
  lia
theorem nG{B:Int}{rs:List (Int×Int)}(h:∀r∈rs,Bd B r):1<=fE 1 (rs.map (·.2))/\fE 1 (rs.map (·.2))<=8:=
 ⟨qA _,oJ (by decide) λa ha=>by obtain⟨r,hr,rfl⟩:=cD.mp ha;exact(h r hr).2.2.2⟩
theorem aOk{B:Int}{rs:List (Int×Int)}(h:∀r∈rs,Bd B r)(hl:rs.length<=10)(hB:0<=B):Bd (1000*(B+8)) (xL rs):=by
 obtain⟨a,b⟩:=nG h
 obtain⟨c,d⟩:=du_ (e:=0) (by lia) h
 obtain⟨u1,u2⟩:=zK (n:=dJ 0 rs) (m:=fE 1 (rs.map (·.2))) (by lia)
 have:(rs.length:Int)*(B+8)<=10*(B+8):=bZ (by lia) (by lia)
 exact⟨by show 0<=up _ _;lia,by show up _ _<=_;lia,a,b⟩
theorem aRx{B:Int}{rs:List (Int×Int)}(h:∀r∈rs,Bd B r)(hB:0<=B):Bd (1000*(B+8)) (tH rs):=by
 obtain⟨a,b⟩:=nG h
 have c:0<=fE 0 (rs.map (·.1)):=qA _
 have d:fE 0 (rs.map (·.1))<=B:=oJ hB λz hz=>by obtain⟨r,hr,rfl⟩:=cD.mp hz;exact(h r hr).2.1
 obtain⟨u1,u2⟩:=zK (n:=1) (m:=fE 1 (rs.map (·.2))) (by lia)
 obtain⟨v1,v2⟩:=zK (n:=up 1 (fE 1 (rs.map (·.2)))+fE 0 (rs.map (·.1))) (m:=fE 1 (rs.map (·.2))) (by lia)
 exact⟨by show 0<=up _ _;lia,by show up _ _<=_;lia,a,b⟩
def bnd:Nat->Int
 | 0=>0
 |n+1=>1000*(bnd n+8)
theorem fr_:∀n,0<=bnd n
 | 0=>iE _
 |n+1=>by have:=fr_ n;show 0<=1000*(bnd n+8);lia
theorem gt_{n m:Nat}(h:n<=m):bnd n<=bnd m:=by
 induction m with
 |zero=>cases(Nat.le_zero.mp h);exact iE _
 |succ m ih =>
  by_cases e:n=m+1
  ·subst e;exact iE _
  ·have:=ih (by lia)
   have:=fr_ m
   show bnd n<=1000*(bnd m+8)
   lia
theorem Bd.mono{B C:Int}{r:Int×Int}(h:Bd B r)(hb:B<=C):Bd C r:=⟨h.1,Int.le_trans h.2.1 hb,h.2.2⟩
mutual
theorem Kd.bd:∀(k:Kd),k.Ok->Bd (bnd k.deep) k.rm
 | .num w m,h=>by
  obtain⟨a,b,c,d⟩:=h
  refine⟨by show 0<=w;lia,?_,c,d⟩
  show w<=1000*(0+8)
  lia
 | .row k n,h=>by
  obtain⟨hk,h0,h1⟩:=h
  obtain⟨a,b,c,d⟩:=Kd.bd k hk
  obtain⟨u1,u2⟩:=zK (n:=k.rm.1) (m:=k.rm.2) (by lia)
  refine⟨gN h0 (by lia),?_,c,d⟩
  have e1:n*up k.rm.1 k.rm.2<=100*up k.rm.1 k.rm.2:=bZ h1 (by lia)
  show n*up k.rm.1 k.rm.2<=1000*(bnd k.deep+8)
  lia
 | .rcd fs,h=>by
  refine aOk (rs:=rmF fs) (bdF fs h.1) ?_ (fr_ _)
  have:(rmF fs).length=fs.length:=aLd fs
  rw[this];exact h.2
 | .cho ks,h=>aRx (rs:=rmK ks) (bdK ks h.1) (fr_ _)
theorem bdF:∀(fs:List (Str×Kd)),okF fs->∀r∈rmF fs,Bd (bnd (cX fs)) r
 | [],_,_,h=>nomatch h
 |f::fs,h,r,hr=>by
  have A0:r∈f.2.rm::rmF fs:=hr
  rcases aE.mp A0 with rfl | A0
  ·exact(Kd.bd f.2 h.1).mono (gt_ (eE _ _))
  ·exact(bdF fs h.2 r A0).mono (gt_ (dQ _ _))
theorem bdK:∀(ks:List Kd),okK ks->∀r∈rmK ks,Bd (bnd (dO ks)) r
 | [],_,_,h=>nomatch h
 |k::ks,h,r,hr=>by
  have A0:r∈k.rm::rmK ks:=hr
  rcases aE.mp A0 with rfl | A0
  ·exact(Kd.bd k h.1).mono (gt_ (eE _ _))
  ·exact(bdK ks h.2 r A0).mono (gt_ (dQ _ _))
theorem aLd:∀(fs:List (Str×Kd)),(rmF fs).length=fs.length
 | []=>rfl
 |f::fs=>by show(rmF fs).length+1=_;rw[aLd fs];rfl
end
theorem aLc:∀(ks:List Kd),(rmK ks).length=ks.length
 | []=>rfl
 |f::fs=>by show(rmK fs).length+1=_;rw[aLc fs];rfl
inductive Dt where
 |int (i:Int)
 |str (x:Str)
 |bl (b:Bool)
 |tup (ds:List Dt)
 |lst (ds:List Dt)
mutual
def Kd.dt:Kd->Dt
 | .num w m=>.tup [.str "number",.int w,.int m]
 | .row k n=>.tup [.str "row",k.dt,.int n]
 | .rcd fs=>.tup [.str "record",.lst (dtF fs)]
 | .cho ks=>.tup [.str "choice",.lst (dtK ks)]
def dtF:List (Str×Kd)->List Dt
 | []=>[]
 |f::r=>.tup [.str f.1,f.2.dt]::dtF r
def dtK:List Kd->List Dt
 | []=>[]
 |k::r=>k.dt::dtK r
end
theorem Kd.deep_pos:∀k:Kd,1<=k.deep
 | .num _ _=>aP _
 | .row k _=>Nat.le_add_left 1 k.deep
 | .rcd fs=>Nat.le_add_left 1 (cX fs)
 | .cho ks=>Nat.le_add_left 1 (dO ks)
end Lf
namespace Lf
open PySem L2
mutual
def IsD(H:Hp):Dt->V->Prop
 | .int i,v=>v=.int i
 | .str x,v=>v=.str x
 | .bl b,v=>v=.bl b
 | .tup ds,v=>∃a vs,v=.ref a/\H a=some (.tup vs)/\aSn H ds vs
 | .lst ds,v=>∃a vs,v=.ref a/\H a=some (.lst vs)/\aSn H ds vs
def aSn(H:Hp):List Dt->List V->Prop
 | [],vs=>vs=[]
 |d::r,vs=>∃v vr,vs=v::vr/\IsD H d v/\aSn H r vr
end
theorem df_{H:Hp}{p:Addr}(h:H p=none)(o:HO):Same H (upd H p o):=λb u q=>by rw[fB (zU q h)];exact q
def yG(p:Addr)(H:Hp):Hp:=λb=>if b=p then none else H b
theorem fz_{p b:Addr}{H:Hp}(h:b≠p):yG p H b=H b:=if_neg h
theorem ir_{p b:Addr}{H:Hp}{o:HO}(h:yG p H b=some o):b≠p/\H b=some o:=by
 by_cases e:b=p
 ·subst e;rw[show yG b H b=none from if_pos rfl]at h;cases h
 ·rw[fz_ e]at h;exact⟨e,h⟩
theorem aBx{p:Addr}{H H':Hp}(e:Same H H'):Same (yG p H) (yG p H'):=λb o h=>by
 obtain⟨n,q⟩:=ir_ h
 rw[fz_ n]
 exact e b o q
abbrev SameX(p:Addr)(H H':Hp):Prop:=Same (yG p H) (yG p H')
theorem SameX.upd(p:Addr)(H:Hp)(o:HO):SameX p H (L2.upd H p o):=λb u h=>by
 obtain⟨n,q⟩:=ir_ h
 rw[fz_ n,fB n]
 exact q
theorem SameX.get{p b:Addr}{H H':Hp}{o:HO}(e:SameX p H H')(n:b≠p)(h:H b=some o):H' b=some o:=by
 have:=e b o (by rw[fz_ n];exact h)
 rw[fz_ n]at this
 exact this
theorem SameX.of{p:Addr}{H H':Hp}(e:Same H H'):SameX p H H':=aBx e
theorem aIi{α:Type}{xs:List α}{i:Int}(h0:0<=i)(h1:i<(xs.length:Int)):∃v,atI xs i=some v/\v∈xs:=by
 have hk:i.toNat<xs.length:=by lia
 have ek:((i.toNat:Nat):Int)=i:=by lia
 have q:atI xs ((i.toNat:Nat):Int)=some xs[i.toNat]:=ev_ (aM hk)
 rw[ek]at q
 exact⟨_,q,List.getElem_mem _⟩
theorem jE(n:Nat)(h:n<=1000):n<=sizeLine:=Nat.le_of_lt (sH h)
end Lf
namespace L2
open PySem PySem.Spec PyProof.Rows
def veq:Value->Value->Bool
 | .int i _,.int j _=>i == j
 | .str x _,.str y _=>x == y
 | .none,.none=>true
 | .bool a,.bool b=>a == b
 | .ref a,.ref b=>decide (a=b)
 |_,_=>false
section
variable{P:Program}{w:World}{H:Hp}{A:Around}{E:fF}{s:Shared}{k k':Key}{u v:Value}
theorem ie_{b:Addr}{x:Str}(ok:HOk P w H s.heap)(e:H b=some (.tup [.str x])):IsTupleKey (dA P w) s.heap [.inr x] b/\∃its,s.heap.IsTuple b its:=by
 obtain⟨_,its,r,o,h1,h2,n,h3⟩:=(show ObjOk P w H s.heap b (.tup [.str x])from ok b _ e)
 cases r with
 |cons h t =>
  cases t
  obtain⟨tk,rfl⟩:=h
  exact⟨⟨o,_,n,h1,h2,h3,.cons (in_ P w x tk) .nil⟩,⟨_,o,h1,h2,n,h3⟩⟩
theorem oN(ok:HOk P w H s.heap)(hu:A.units<cLine)(r:RelV (kV k) u)(t:gP H k):∃n,nE P w A E s u (khash P w k) n:=by
 cases k with
 |inl i=>obtain⟨t,rfl⟩:=r;exact⟨_,λQ q=>wpAny_pyHash_int q⟩
 |inr x=>obtain⟨t,rfl⟩:=r;exact⟨_,λQ q=>wpAny_pyHash_str q⟩
 |non =>
  cases r
  refine⟨s.toks+1,λQ q=>?_⟩
  show wpAny _ _ (pyHashByItsType .none) Q E s
  unfold pyHashByItsType
  refine wpAny_bind ?_
  rw[cRoomFor,if_neg (by rw[show [Value.none].any Value.onHeap=false from rfl];exact aG)]
  refine wpAny_pure (wpAny_bind (wpAny_specialOf (typeIs_none s) F.slot_NoneType_hash.lookup ?_))
  rw[if_neg (by rw[beq_builtin_none];exact aG)]
  refine wpAny_bind (wpAny_specialOf (typeIs_none s) F.slot_NoneType_hash.lookup ?_)
  show wpAny _ _ (callSpecialIfBoundUnlessNone? .none "__hash__" _ >>= _) Q E s
  refine wpAny_bind (wpAny_callSpecialIfBoundUnlessNone?_slot (typeIs_none s) F.slot_NoneType_hash (wpAny_call_entry F.slot_NoneType_hash (typeIs_none s) F.entry_NoneType_hash (show wpAny _ _ (do ret (<-mkInt 0xFCA86420)) _ _ s from wpAny_ret_mkInt ?_) (F.args_NoneType_hash_1 _)))
  exact wpAny_pure q
 |tru =>
  cases r
  refine⟨s.toks+1,λQ q=>?_⟩
  show wpAny _ _ (pyHashByItsType (.bool true)) Q E s
  unfold pyHashByItsType
  refine wpAny_bind ?_
  rw[cRoomFor,if_neg (by rw[show [Value.bool true].any Value.onHeap=false from rfl];exact aG)]
  refine wpAny_pure (wpAny_bind (wpAny_specialOf (PySem.typeIs_bool s true) F.slot_bool_hash.lookup ?_))
  rw[if_neg (by rw[beq_builtin_none];exact aG)]
  refine wpAny_bind (wpAny_specialOf (PySem.typeIs_bool s true) F.slot_bool_hash.lookup ?_)
  show wpAny _ _ (callSpecialIfBoundUnlessNone? (.bool true) "__hash__" _ >>= _) Q E s
  refine wpAny_bind (wpAny_callSpecialIfBoundUnlessNone?_slot (PySem.typeIs_bool s true) F.slot_bool_hash (wpAny_call_entry F.slot_bool_hash (PySem.typeIs_bool s true) F.entry_int_hash (show wpAny _ _ (do ret (<-mkInt (rawHash 1))) _ _ s from wpAny_ret_mkInt ?_) (F.args_int_hash_1 _)))
  exact wpAny_pure q
 |ref b x =>
  cases r
  exact⟨_,λQ q=>wpAny_pyHash_tuple hu (ie_ ok t).1 q⟩
theorem aVy(ok:HOk P w H s.heap)(hu:A.units<cLine)(r:RelV (kV k) u)(t:gP H k)(r':RelV (kV k') v)(t':gP H k')(nc:fW k k'=false):SeqAt.EqAt A s u v (veq u v):=by
 cases k with
 |inl i =>
  obtain⟨_,rfl⟩:=r
  cases k' with
  |inl j=>obtain⟨_,rfl⟩:=r';exact SeqAt.EqAt.int_int _ _ _ _
  |inr y=>obtain⟨_,rfl⟩:=r';exact SeqAt.EqAt.int_str _ _ _ _
  |non=>cases r';exact SeqAt.EqAt.int_none _ _
  |tru=>cases nc
  |ref c y=>cases r';exact SeqAt.EqAt.int_tuple _ _ (ie_ ok t').2.choose_spec hu
 |inr x =>
  obtain⟨_,rfl⟩:=r
  cases k' with
  |inl j=>obtain⟨_,rfl⟩:=r';exact SeqAt.EqAt.str_int _ _ _ _
  |inr y=>obtain⟨_,rfl⟩:=r';exact SeqAt.EqAt.str_str _ _ _ _
  |non=>cases r';exact SeqAt.EqAt.str_none _ _
  |tru=>cases r';exact SeqAt.EqAt.str_bool _ _ _
  |ref c y=>cases r';exact SeqAt.EqAt.str_tuple _ _ (ie_ ok t').2.choose_spec hu
 |non =>
  cases r
  cases k' with
  |inl j=>obtain⟨_,rfl⟩:=r';exact SeqAt.EqAt.none_int _ _
  |inr y=>obtain⟨_,rfl⟩:=r';exact SeqAt.EqAt.none_str _ _
  |non=>cases r';exact SeqAt.EqAt.same _
  |tru=>cases r';exact SeqAt.EqAt.none_bool _
  |ref c y=>cases r';exact SeqAt.EqAt.none_tuple (ie_ ok t').2.choose_spec hu
 |tru =>
  cases r
  cases k' with
  |inl j=>cases nc
  |inr y=>obtain⟨_,rfl⟩:=r';exact SeqAt.EqAt.bool_str _ _ _
  |non=>cases r';exact SeqAt.EqAt.bool_none _
  |tru=>cases r';exact SeqAt.EqAt.same _
  |ref c y=>cases r';exact SeqAt.EqAt.bool_tuple _ (ie_ ok t').2.choose_spec hu
 |ref b x =>
  cases r
  have z:=(ie_ ok t).2.choose_spec
  cases k' with
  |inl j=>obtain⟨_,rfl⟩:=r';exact SeqAt.EqAt.tuple_int _ _ z hu
  |inr y=>obtain⟨_,rfl⟩:=r';exact SeqAt.EqAt.tuple_str _ _ z hu
  |non=>cases r';exact SeqAt.EqAt.tuple_none z hu
  |tru=>cases r';exact SeqAt.EqAt.tuple_bool _ z hu
  |ref c y =>
   cases r'
   have:b=c:=by
    by_cases q:b=c/\x=y
    ·exact q.1
    ·rw[show fW (.ref b x) (.ref c y) = !decide (b=c/\x=y)from rfl,dzF q]at nc;cases nc
   subst this
   rw[show veq (.ref b) (.ref b)=true from dzT rfl]
   exact SeqAt.EqAt.same _
theorem pB(r:RelV (kV k) u)(t:gP H k)(r':RelV (kV k') v)(t':gP H k')(nc:fW k k'=false):veq u v=decide (k=k'):=by
 cases k<;>cases k'<;>first
  |(obtain⟨_,rfl⟩:=r;obtain⟨_,rfl⟩:=r';simp[veq])
  |(obtain⟨_,rfl⟩:=r;cases r';simp[veq])
  |(cases r;obtain⟨_,rfl⟩:=r';simp[veq])
  |(cases r;cases r';simp[veq])
  |skip
 ·rename_i a b _ _;by_cases h:a=b<;>simp[h]
 ·rename_i a b _ _;by_cases h:a=b<;>simp[h]
 ·intro e
  subst e
  have:=(show H _=some (.tup [.str _])from t).symm.trans (show H _=some (.tup [.str _])from t')
  cases this
  rfl
theorem xM{Q:Bool->Shared->Prop}(ok:HOk P w H s.heap)(r:RelV (kV k) u)(t:gP H k)(q:Q true s):wpAny (model P w) A (eqIsQuiet 8 u) Q E s:=by
 cases k with
 |ref b x=>cases r;exact wpAny_eqIsQuiet_tuple (ie_ ok t).1 q
 |inl i=>obtain⟨_,rfl⟩:=r;rw[eqIsQuiet_byValue 8 rfl];exact wpAny_pure q
 |inr i=>obtain⟨_,rfl⟩:=r;rw[eqIsQuiet_byValue 8 rfl];exact wpAny_pure q
 |non=>cases r;rw[eqIsQuiet_byValue 8 rfl];exact wpAny_pure q
 |tru=>cases r;rw[eqIsQuiet_byValue 8 rfl];exact wpAny_pure q
theorem aDs(r:RelV (kV k) u):veq u u=true:=by
 cases k with
 |inl i=>obtain⟨_,rfl⟩:=r;exact beq_self_eq_true _
 |inr i=>obtain⟨_,rfl⟩:=r;exact beq_self_eq_true _
 |non=>cases r;rfl
 |tru=>cases r;rfl
 |ref b x=>cases r;exact dzT rfl
theorem u3(r:RelV (kV k) u)(h:k.odd=true):isExactStrKey u=false:=by
 cases k with
 |inl i=>cases h
 |inr i=>cases h
 |non=>cases r;rfl
 |tru=>cases r;rfl
 |ref b x=>cases r;rfl
theorem Paired.nth{α β:Type}{R:α->β->Prop}:∀{l:List α} {m:List β} {i:Nat} {b:β},Paired R l m->m[i]? = some b->∃a,l[i]? = some a/\R a b
 |_,_,_,_,.nil,e=>by simp at e
 |_,_,0,_,.cons r _,e=>by simp at e;subst e;exact⟨_,rfl,r⟩
 |_,_,i+1,b,.cons _ t,e=>by
  obtain⟨u,h1,h2⟩:=Paired.nth (i:=i) t (by simpa using e)
  exact⟨u,by simpa using h1,h2⟩
theorem Paired.nth'{α β:Type}{R:α->β->Prop}:∀{l:List α} {m:List β} {i:Nat} {a:α},Paired R l m->l[i]? = some a->∃b,m[i]? = some b/\R a b
 |_,_,_,_,.nil,e=>by simp at e
 |_,_,0,_,.cons r _,e=>by simp at e;subst e;exact⟨_,rfl,r⟩
 |_,_,i+1,b,.cons _ t,e=>by
  obtain⟨u,h1,h2⟩:=Paired.nth' (i:=i) t (by simpa using e)
  exact⟨u,by simpa using h1,h2⟩
variable{kvs:List (Key×V)}{es:Array DictEntry}
theorem i8(rel:Paired (lK P w H) kvs es.toList){e:DictEntry}(he:e∈es):∃p∈kvs,lK P w H p e:=by
 obtain⟨i,hi,rfl⟩:=Array.mem_iff_getElem.mp he
 obtain⟨p,h1,h2⟩:=Paired.nth (i:=i) rel (by rw[Array.getElem?_toList];exact Array.getElem?_eq_getElem hi)
 exact⟨p,bB h1,h2⟩
theorem aCw{i j:Nat}{p q:Key×V}(ap:tV kvs)(hi:kvs[i]? = some p)(hj:kvs[j]? = some q)(e:p.1=q.1):i=j:=by
 obtain⟨Fj,rfl⟩:=aW.mp hi
 obtain⟨Mw,rfl⟩:=aW.mp hj
 have h:=List.pairwise_iff_getElem.mp ap
 rcases Nat.lt_trichotomy i j with z | z | z
 ·exact absurd e (h i j Fj Mw z).1
 ·exact z
 ·exact absurd e.symm (h j i Mw Fj z).1
theorem nY(ok:HOk P w H s.heap)(hu:A.units<cLine)(rel:Paired (lK P w H) kvs es.toList)(ap:tV kvs)(r:RelV (kV k) u)(t:gP H k)(nc:∀p∈kvs,fW p.1 k=false)(od:k.odd=true\/eI kvs=true) :
  Seek P w A E s es u (khash P w k) (λe=>veq e.key u)where
 eq:=λe he _ Q q=>by
  obtain⟨p,hp,h1,h2,h3,h4⟩:=i8 rel he
  exact aVy ok hu h2 h4 r t (nc p hp) _ _ _ _ q
 qu:=λQ q=>xM ok r t q
 qe:=λe he Q q=>by
  obtain⟨p,hp,h1,h2,h3,h4⟩:=i8 rel he
  exact xM ok h2 h4 q
 st:=λe he z=>by
  obtain⟨p,hp,h1,h2,h3,h4⟩:=i8 rel he
  have q:=pB h2 h4 r t (nc p hp)
  rw[z,aDs r]at q
  rw[h1,of_decide_eq_true q.symm]
 odd:=λz1 z2=>by
  rcases od with z | z
  ·rw[u3 r z]at z1;cases z1
  ·obtain ⟨p,hp,z⟩:=fD.mp z
   obtain⟨i,hi⟩:=List.getElem?_of_mem hp
   obtain⟨e,he,h1,h2,h3⟩:=Paired.nth' rel hi
   rw[Array.getElem?_toList]at he
   have q:=u3 h2 z
   rw[(Array.all_eq_true_iff_forall_mem.mp z2) e (Array.mem_of_getElem? he)]at q
   cases q
 one:=λi j e f he hf _ _ h1 h2=>by
  obtain⟨p,hp,a1,a2,a3,a4⟩:=Paired.nth (i:=i) rel (by rw[Array.getElem?_toList];exact he)
  obtain⟨q,hq,b1,b2,b3,b4⟩:=Paired.nth (i:=j) rel (by rw[Array.getElem?_toList];exact hf)
  rw[pB a2 a4 r t (nc p (bB hp))]at h1
  rw[pB b2 b4 r t (nc q (bB hq))]at h2
  exact aCw ap hp hq ((of_decide_eq_true h1).trans (of_decide_eq_true h2).symm)
theorem aRr{e:DictEntry}{k k':Key}{v:V}(h1:(dA P w).is k e.key=true)(h2:(dA P w).is k' e.key=true)(h3:e.hash=(dA P w).hash k')(h4:RelV v e.val):k.odd=false/\lK P w H (k,v) e:=by
 cases(dA P w).inj _ _ _ h1 h2
 rcases bt_ h1 with⟨i,t,rfl,z⟩ | ⟨x,t,rfl,z⟩
 ·exact⟨rfl,h3,⟨t,z⟩,h4,True.intro⟩
 ·exact⟨rfl,h3,⟨t,z⟩,h4,True.intro⟩
theorem x8:∀{es:List DictEntry} {vs:List (Key×Value)} {kvs:List (Key×V)},Pairs (dA P w) es vs->KV kvs vs->(∀e∈es,∃k,(dA P w).is k e.key=true/\e.hash=(dA P w).hash k)->eI kvs=false/\Paired (lK P w H) kvs es
 |_,_,_,.nil,r,_=>by cases r;exact⟨rfl,.nil⟩
 |_,_,_,.cons a b t,r,hk=>by
  cases r with
  | @cons p _ ps _ h r =>
   obtain⟨k',h1,h2⟩:=hk _ aA
   obtain⟨c1,c2⟩:=x8 t r λe he=>hk e (aB _ he)
   obtain⟨kk,v⟩:=p
   obtain⟨e1,e2⟩:=aRr (H:=H) (by rw[<-h.1]at a;exact a) h1 h2 (b ▸ h.2)
   exact⟨by unfold eI;rw[fQ,e1];exact c1,.cons e2 c2⟩
theorem aLz{h:Heap}{a:Addr}{vs:List (Key×Value)}(rel:KV kvs vs)(dd:h.DictOf (dA P w) a vs):eI kvs=false/\∃es ep,DAt h a es ep/\Paired (lK P w H) kvs es.toList:=by
 obtain⟨o,es,ep,h1,h2,h3,hk,hp,hn⟩:=dd
 obtain⟨c1,c2⟩:=x8 (H:=H) hp rel λe he=>hk e (Array.mem_toList_iff.mp he)
 exact⟨c1,es,ep,⟨o,h1,h2,h3⟩,c2⟩
theorem zE{k k':Key}(h:k.odd=false)(h':k'.odd=false):fW k k'=false:=by
 cases k<;>cases k'<;>first | rfl | exact Bool.noConfusion h | exact Bool.noConfusion h'
end
section
variable{κ:Type}[DecidableEq κ]
def jQ(kvs:List (κ×V))(k:κ):Option V:=(kvs.find? λkv=>decide (kv.1=k)).map (·.2)
def lL(kvs:List (κ×V))(k:κ)(v:V):List (κ×V):=
 if(kvs.any λkv=>decide (kv.1=k))=true then kvs.map (λkv=>if kv.1=k then(kv.1,v)else kv)else kvs++[(k,v)]
def qS(kvs:List (κ×V))(k:κ):List (κ×V):=kvs.filter λkv=>decide (kv.1≠k)
theorem pF{p:κ×V}{r:List (κ×V)}{k:κ}(e:p.1=k):jQ (p::r) k=some p.2:=by simp[jQ,gC,e]
theorem pG{p:κ×V}{r:List (κ×V)}{k:κ}(e:¬p.1=k):jQ (p::r) k=jQ r k:=by simp[jQ,gC,e]
theorem wR(k:κ):∀kvs:List (κ×V),(kvs.any λkv=>decide (kv.1=k))=(jQ kvs k).isSome
 | []=>rfl
 |p::r=>by
  rw[fQ]
  by_cases e:p.1=k
  ·simp only[pF e,dzT e,Bool.true_or,bS]
  ·rw[pG e,dzF e,Bool.false_or];exact wR k r
theorem io_(kvs:List (κ×V))(k:κ)(v:V):(lL kvs k v).length<=kvs.length+1:=by
 unfold lL
 split
 ·rw[aC];lia
 ·rw[aK,aJ,aV];lia
theorem RelO.isSome_eq{o:Option V}{u:Option Value}(r:RelO o u):o.isSome=u.isSome:=by
 cases o with
 |none=>cases u with
  |none=>rfl
  |some _=>exact(show False from r).elim
 |some _=>cases u with
  |none=>exact(show False from r).elim
  |some _=>rfl
theorem RelO.getD{o:Option V}{u:Option Value}{d:V}{d':Value}(r:RelO o u)(rd:RelV d d'):RelV (o.getD d) (u.getD d'):=by
 cases o with
 |none=>cases u with
  |none=>exact rd
  |some _=>exact(show False from r).elim
 |some _=>cases u with
  |none=>exact(show False from r).elim
  |some _=>exact r
theorem KV.val{kvs:List (κ×V)}{vs:List (κ×Value)}(r:KV kvs vs)(k:κ):RelO (jQ kvs k) (valueAt vs k):=by
 unfold KV at r
 induction r with
 |nil=>exact True.intro
 | @cons p q ps qs h t ih =>
  obtain⟨h1,h2⟩:=h
  by_cases e:p.1=k
  ·have e':q.1=k:=h1.symm.trans e
   have b:valueAt (q::qs) k=some q.2:=by simp[valueAt,gC,e']
   rw[pF e,b];exact h2
  ·have e':¬ q.1=k:=fun z=>e (h1.trans z)
   have b:valueAt (q::qs) k=valueAt qs k:=by simp[valueAt,gC,e']
   rw[pG e,b];exact ih
theorem KV.any{kvs:List (κ×V)}{vs:List (κ×Value)}(r:KV kvs vs)(k:κ):(kvs.any λkv=>decide (kv.1=k))=vs.any λkv=>decide (kv.1=k):=by
 unfold KV at r
 induction r with
 |nil=>rfl
 |cons h t ih=>rw[fQ,fQ,ih,h.1]
theorem KV.repl{kvs:List (κ×V)}{vs:List (κ×Value)}(r:KV kvs vs)(k:κ){y:V}{u:Value}(ry:RelV y u) :
  KV (kvs.map λkv=>if kv.1=k then(kv.1,y)else kv) (vs.map λkv=>if kv.1=k then(kv.1,u)else kv):=by
 unfold KV at r ⊢
 induction r with
 |nil=>exact .nil
 | @cons p q ps qs h t ih =>
  rw[aL,aL]
  refine .cons ?_ ih
  obtain⟨h1,h2⟩:=h
  by_cases e:p.1=k
  ·rw[if_pos e,if_pos (h1.symm.trans e)];exact⟨h1,ry⟩
  ·rw[if_neg e,if_neg (λz=>e (h1.trans z))];exact⟨h1,h2⟩
theorem KV.put{kvs:List (κ×V)}{vs:List (κ×Value)}(r:KV kvs vs)(k:κ){y:V}{u:Value}(ry:RelV y u):KV (lL kvs k y) (stored vs k u):=by
 unfold lL stored
 rw[r.any k]
 by_cases e:(vs.any λkv=>decide (kv.1=k))=true
 ·rw[if_pos e,if_pos e];exact r.repl k ry
 ·rw[if_neg e,if_neg e];exact Paired.snoc r ⟨rfl,ry⟩
theorem KV.drop{kvs:List (κ×V)}{vs:List (κ×Value)}(r:KV kvs vs)(k:κ):KV (qS kvs k) (without vs k):=by
 unfold KV at r ⊢
 unfold qS without
 induction r with
 |nil=>exact .nil
 | @cons p q ps qs h t ih =>
  obtain⟨h1,h2⟩:=h
  rw[List.filter_cons,List.filter_cons]
  by_cases e:p.1=k
  ·have a:¬ decide (p.1≠k)=true:=by simp [e]
   have b:¬decide (q.1≠k)=true:=by simp[h1.symm.trans e]
   rw[if_neg a,if_neg b];exact ih
  ·have e':¬ q.1=k:=fun z=>e (h1.trans z)
   have a:decide (p.1≠k)=true:=by simp[e]
   have b:decide (q.1≠k)=true:=by simp[e']
   rw[if_pos a,if_pos b];exact .cons ⟨h1,h2⟩ ih
theorem KV.keys{kvs:List (κ×V)}{vs:List (κ×Value)}(r:KV kvs vs):kvs.map (·.1)=vs.map (·.1):=by
 unfold KV at r
 induction r with
 |nil=>rfl
 |cons h t ih=>rw[aL,aL,ih,h.1]
theorem KV.length{kvs:List (κ×V)}{vs:List (κ×Value)}(r:KV kvs vs):kvs.length=vs.length:=Paired.length r
theorem aHj(kvs:List (κ×V))(k:κ):(qS kvs k).length<=kvs.length:=List.length_filter_le _ _
end
theorem sT{P:Program}{w:World}{k:Key}{u:Value}(o:k.odd=false)(r:RelV (kV k) u):(dA P w).is k u=true:=by
 cases k with
 |inl i=>obtain⟨t,e⟩:=(show ∃t,u=Value.int i t from r);subst e;exact xY P w i t
 |inr x=>obtain⟨t,e⟩:=(show ∃t,u=Value.str x t from r);subst e;exact in_ P w x t
 |non=>cases o
 |tru=>cases o
 |ref b x=>cases o
section
variable{P:Program}{w:World}{H:Hp}{h:Heap}{a:Addr}
theorem q9{u:HO}(ok:HOk P w H h)(e:Rd H a u):ObjOk P w H h a u:=e.ok ok
theorem yX{kvs:List (Key×V)}(ok:HOk P w H h)(e:Rd H a (.dK kvs))(o:eI kvs=false):kvs.length<=sizeLine/\(a == sysModules)=false/\∃vs,KV kvs vs/\h.DictOf (dA P w) a vs:=by
 rcases(show ObjOk P w H h a (.dK kvs)from q9 ok e)with⟨z,y,q | q⟩
 ·exact⟨z,y,q⟩
 ·exact absurd (o.symm.trans q.1) aG
theorem gr_{kvs:List (Key×V)}(ok:HOk P w H h)(e:Rd H a (.dK kvs)):kvs.length<=sizeLine/\(a == sysModules)=false/\tV kvs/\∃es ep,DAt h a es ep/\Paired (lK P w H) kvs es.toList:=by
 rcases(show ObjOk P w H h a (.dK kvs)from q9 ok e)with⟨z,y,⟨vs,q,dd⟩ | ⟨_,ap,q⟩⟩
 ·obtain ⟨o,es,ep,p,r⟩:=aLz (H:=H) q dd
  refine⟨z,y,?_,es,ep,p,r⟩
  have nd:(kvs.map (·.1)).Nodup:=by
   rw[q.keys]
   obtain⟨_,_,_,_,_,_,_,_,hn⟩:=dd
   exact hn
  refine List.Pairwise.imp_of_mem (λ{x y} hx hy h=>⟨h,?_⟩) (gJ.mp nd)
  have ev:=λx hx=>(Bool.not_eq_true _).mp λz=>absurd (o.symm.trans (fD.mpr ⟨x,hx,z⟩)) aG
  exact zE (ev x hx) (ev y hy)
 ·exact⟨z,y,ap,q⟩
theorem aHl{kvs:List (Key×V)}(ok:HOk P w H h)(e:H a=some (.dK kvs))(o:eI kvs=false):kvs.length<=sizeLine/\(a == sysModules)=false/\∃vs,KV kvs vs/\h.DictOf (dA P w) a vs:=yX ok (.inl e) o
end
def aQh(k:Key)(kvs:List (Key×V)):Prop:=(∀p∈kvs,fW p.1 k=false)/\(k.odd=true->eI kvs=true)
def DGet(H:Hp)(a:Addr)(y:V)(r:Option V):Prop:=∃kvs k,Rd H a (.dK kvs)/\y=kV k/\gP H k/\aQh k kvs/\r=jQ kvs k
def DPut(H:Hp)(a:Addr)(y v:V)(H':Hp):Prop:=∃kvs k,H a=some (.dK kvs)/\y=kV k/\gP H k/\kvs.length<sizeLine/\((k.odd=false/\eI kvs=false)\/((k.odd=true\/eI kvs=true)/\(∀p∈kvs,fW p.1 k=false)/\jQ kvs k=none))/\H'=upd H a (.dK (lL kvs k v))
theorem aDt{kvs:List (Key×V)}{k:Key}(h:jQ kvs k=none):∀p∈kvs,p.1≠k:=λp hp e=>by
 have:=List.find?_eq_none.mp (Option.map_eq_none_iff.mp h) p hp
 simp[e]at this
theorem vN{P:Program}{w:World}{H:Hp}{kvs:List (Key×V)}{k:Key}{u:Value}{es:Array DictEntry}(rel:Paired (lK P w H) kvs es.toList)(ap:tV kvs)(r:RelV (kV k) u)(t:gP H k)(nc:∀p∈kvs,fW p.1 k=false) :
  ∃o,Got es (khash P w k) (λe=>veq e.key u) o/\RelO (jQ kvs k) o:=by
 cases hv:jQ kvs k with
 |none =>
  refine⟨none,.inl ⟨rfl,λi e he hn=>?_⟩,True.intro⟩
  obtain⟨p,hp,a1,a2,a3,a4⟩:=Paired.nth (i:=i) rel (by rw[Array.getElem?_toList];exact he)
  show veq e.key u=false
  rw[pB a2 a4 r t (nc p (bB hp))]
  exact dzF (aDt hv p (bB hp))
 |some v =>
  obtain⟨p,hp,rfl⟩:=cQ.mp hv
  have hk:p.1=k:=by simpa using List.find?_some hp
  obtain⟨i,hi⟩:=List.getElem?_of_mem (List.mem_of_find?_eq_some hp)
  obtain⟨e,he,a1,a2,a3,a4⟩:=Paired.nth' rel hi
  rw[Array.getElem?_toList]at he
  refine⟨some e.val,.inr ⟨i,e,he,by rw[a1,hk],?_,rfl⟩,a3⟩
  show veq e.key u=true
  rw[pB a2 a4 r t (nc p (bB hi))]
  exact dzT hk
section
variable{X:Cx}{Aa:fG}{σ:St}{H:Hp}{s:Shared}{a:Addr}{y v:V}{u r:Value}{o:Option V}{A:Around}{E:fF}
theorem Inv.big(I:Inv X Aa σ H s):sysModules<s.heap.objs.size:=by
 have h:mainGlobals<s.heap.objs.size:=(I.mod.glob.keeps I.bk).lt
 exact Nat.lt_trans (by decide) h
theorem aCg{Q:fF}(hu:A.units+1<cLine)(I:Inv X Aa σ H s)(g:DGet H a y (some v))(ry:RelV y u)(h:∀w' s',Inv X Aa σ H s'->RelV v w'->Q w' s') :
  wpAny (model X.prog X.w) A (getItem (.ref a) u) Q E s:=by
 obtain⟨kvs,k,e,ey,t,⟨nc,od⟩,l⟩:=g
 subst ey
 by_cases o:eI kvs=true
 ·obtain ⟨z,hd,ap,es,ep,D,rel⟩:=gr_ I.hok e
  obtain⟨n,hh⟩:=oN (A:=A.in1) (E:=E) I.hok hu ry t
  obtain⟨o',g,ro⟩:=vN rel ap ry t nc
  rw[<-l]at ro
  obtain⟨w',rfl,rw'⟩:=RelO.some_of (v:=v) ro
  exact aGp D hh (nY I.hok hu rel ap ry t nc (.inr o)) g (h w' _ (I.tok _) rw')
 ·rw [Bool.not_eq_true] at o
  obtain⟨z,hd,vs,rel,dd⟩:=yX I.hok e o
  obtain⟨w',hw,rw'⟩:=RelO.some_of (v:=v) (o:=valueAt vs k) (by rw[l];exact rel.val k)
  exact wpAny_getItem_of (sT (by cases hk:k.odd with | false=>rfl | true=>exact absurd (o.symm.trans (od hk)) aG) ry) dd.mapOf hw (h w' _ (I.tok _) rw')
theorem aZs{Q:fF}(hu:A.units+1<cLine)(I:Inv X Aa σ H s)(g:DGet H a y o)(ry:RelV y u)(h:∀s',Inv X Aa σ H s'->Q (.bool (o.isSome)) s') :
  wpAny (model X.prog X.w) A (compareOp .In u (.ref a)) Q E s:=by
 obtain⟨kvs,k,e,ey,t,⟨nc,od⟩,l⟩:=g
 subst ey
 by_cases ho:eI kvs=true
 ·obtain ⟨z,hd,ap,es,ep,D,rel⟩:=gr_ I.hok e
  obtain⟨n,hh⟩:=oN (A:=A.in1) (E:=E) I.hok hu ry t
  obtain⟨o',g,ro⟩:=vN rel ap ry t nc
  refine aQy D hd hh (nY I.hok hu rel ap ry t nc (.inr ho)) g ?_
  rw[<-ro.isSome_eq,<-l]
  exact h _ (I.tok _)
 ·rw [Bool.not_eq_true] at ho
  obtain⟨z,hd,vs,rel,dd⟩:=yX I.hok e ho
  refine wpAny_in_of (sT (by cases hk:k.odd with | false=>rfl | true=>exact absurd (ho.symm.trans (od hk)) aG) ry) hd dd.mapOf ?_
  rw[<-(rel.val k).isSome_eq,<-l]
  exact h _ (I.tok _)
theorem aMc{Q:fF}(hu:A.units+1<cLine)(I:Inv X Aa σ H s)(g:DGet H a y o)(ry:RelV y u)(h:∀s',Inv X Aa σ H s'->Q (.bool (!o.isSome)) s') :
  wpAny (model X.prog X.w) A (compareOp .NotIn u (.ref a)) Q E s:=by
 obtain⟨kvs,k,e,ey,t,⟨nc,od⟩,l⟩:=g
 subst ey
 by_cases ho:eI kvs=true
 ·obtain ⟨z,hd,ap,es,ep,D,rel⟩:=gr_ I.hok e
  obtain⟨n,hh⟩:=oN (A:=A.in1) (E:=E) I.hok hu ry t
  obtain⟨o',g,ro⟩:=vN rel ap ry t nc
  refine aBk D hd hh (nY I.hok hu rel ap ry t nc (.inr ho)) g ?_
  rw[<-ro.isSome_eq,<-l]
  exact h _ (I.tok _)
 ·rw [Bool.not_eq_true] at ho
  obtain⟨z,hd,vs,rel,dd⟩:=yX I.hok e ho
  refine wpAny_notIn_of (sT (by cases hk:k.odd with | false=>rfl | true=>exact absurd (ho.symm.trans (od hk)) aG) ry) hd dd.mapOf ?_
  rw[<-(rel.val k).isSome_eq,<-l]
  exact h _ (I.tok _)
theorem oS{h':Heap}{t':Nat}{ob:HO}(I:Inv X Aa σ H s)(mu:Mut (H a))(hs:Heap.SameBut a s.heap h')(he:∃q,h'.get? a=some q)(new:ObjOk X.prog X.w (upd H a ob) h' a ob) :
  Inv X Aa σ (upd H a ob) { s with heap:=h',toks:=t' }:=
 I.write (x:=a) (e:=a) mu (.inl rfl) (λb q hb z=>(hs.2 b hb).trans z) he new
theorem i_{P:Program}{w:World}{H':Hp}{h':Heap}{kvs:List (Key×V)}{vs:List (Key×Value)}(z:kvs.length<=sizeLine)(hd:(a == sysModules)=false)(rel:KV kvs vs)(dd:h'.DictOf (dA P w) a vs) :
  ObjOk P w H' h' a (.dK kvs):=⟨z,hd,.inl ⟨vs,rel,dd⟩⟩
theorem aCf{H':Hp}{Q:Unit->Shared->Prop}(hu:A.units+1<cLine)(I:Inv X Aa σ H s)(g:DPut H a y v H')(ry:RelV y u)(rv:RelV v r)(h:∀s',Inv X Aa σ H' s'->Q () s') :
  wpAny (model X.prog X.w) A (setItem (.ref a) u r) Q E s:=by
 obtain⟨kvs,k,e,ey,t,l,od,eH⟩:=g
 subst ey eH
 have hl:(lL kvs k v).length<=sizeLine:=by have:=io_ kvs k v;omega
 rcases od with⟨o1,o2⟩ | ⟨od,nc,hv⟩
 ·obtain ⟨z,hd,vs,rel,dd⟩:=aHl I.hok e o2
  have hz:vs.length<=sizeLine:=by rw[<-rel.length];exact z
  refine wpAny_setItem_pairs (hsz:=hz) (sT o1 ry) dd λh' dd' hs=>h _ ?_
  have he:∃q,h'.get? a=some q:=let ⟨q,_,_,hq,_⟩:=dd';⟨q,hq⟩
  exact oS I (by rw[e];exact True.intro) hs he (i_ hl hd (rel.put k rv) dd')
 ·obtain ⟨z,hd,ap,es,ep,D,rel⟩:=gr_ I.hok (.inl e)
  obtain⟨n,hh⟩:=oN (A:=A.in1) (E:=E) I.hok hu ry t
  obtain⟨o',g,ro⟩:=vN rel ap ry t nc
  rw[hv]at ro
  cases RelO.none_of ro
  have A3:∀(i:Nat) e,es[i]? = some e->e.hash=khash X.prog X.w k->veq e.key u=false:=by
   rcases g with⟨_,g⟩ | ⟨_,_,_,_,_,g⟩
   ·exact g
   ·cases g
  have hp:lL kvs k v=kvs++[(k,v)]:=by
   unfold lL
   rw[if_neg (by rw[wR,hv];exact aG)]
  refine aJo D (by rw[<-Array.length_toList,<-Paired.length rel];exact z) hh (nY I.hok hu rel ap ry t nc od) A3 λh' D' hs=>h _ ?_
  obtain⟨ob,Ha,_⟩:=id D'
  refine oS I (by rw[e];exact True.intro) hs ⟨ob,Ha⟩ ⟨hl,hd,.inr ⟨?_,?_,_,_,D',?_⟩⟩
  ·rw [hp]
   unfold eI
   rw[List.any_append]
   rcases od with z | z
   ·rw[fQ,z,Bool.true_or,Bool.or_true]
   ·rw[show(kvs.any λkv=>kv.1.odd)=true from z,Bool.true_or]
  ·rw [hp]
   unfold tV
   rw[List.pairwise_append]
   exact⟨ap,List.pairwise_singleton _ _,λp hp q hq=>by rw[aF.mp hq];exact⟨aDt hv p hp,nc p hp⟩⟩
  ·rw [hp,Array.toList_push]
   refine Paired.snoc (Paired.mapP rel λp q z=>⟨z.1,z.2.1,z.2.2.1,?_⟩) ⟨rfl,ry,rv,?_⟩
   ·have:=z.2.2.2
    obtain⟨kk,vv⟩:=p
    cases kk<;>first | exact True.intro | exact(fB (u4 (show H _=some (.tup _)from this) e (λz=>nomatch z))).trans this
   ·cases k<;>first | exact True.intro | exact(fB (u4 (show H _=some (.tup _)from t) e (λz=>nomatch z))).trans t
end
section
variable{X:Cx}{Aa:fG}{σ:St}{H:Hp}{s:Shared}{a:Addr}{kvs:List (Key×V)}{k:Key}{u:Value}{A:Around}{E:fF}
theorem aWc{v:V}{more:List Value}{Q:fF}(I:Inv X Aa σ H s)(e:H a=some (.dK kvs))(o:eI kvs=false)(ko:k.odd=false)(ry:RelV (kV k) u)(l:jQ kvs k=some v)(hm:more=[]\/∃x,more=[x])
  (h:∀w' s',Inv X Aa σ (upd H a (.dK (qS kvs k))) s'->RelV v w'->Q w' s'):wpAny (model X.prog X.w) A (call (.builtin "dict.pop") (.ref a::u::more)) Q E s:=by
 obtain⟨z,hd,vs,rel,dd⟩:=aHl I.hok e o
 obtain⟨w',hw,rw'⟩:=RelO.some_of (v:=v) (o:=valueAt vs k) (by rw[<-l];exact rel.val k)
 have hp:(keyPart u).isSome=true:=by
  cases k with
  |inl i=>obtain⟨t,q⟩:=(show ∃t,u=Value.int i t from ry);subst q;rfl
  |inr x=>obtain⟨t,q⟩:=(show ∃t,u=Value.str x t from ry);subst q;rfl
  |non=>cases ko
  |tru=>cases ko
  |ref b x=>cases ko
 have ha:argsOk "dict.pop" ⟨.ref a::u::more,[]⟩:=by
  rcases hm with q | ⟨x,q⟩
  ·subst q;exact PySem.F.args_dict_pop_2 _ _
  ·subst q;exact PySem.F.args_dict_pop_3 _ _ _
 refine call_meetsIn PySem.F.slot_dict_pop dd.typeIs PySem.F.entry_dict_pop ha (meets_dict_pop_there (dA X.prog X.w) a (sT ko ry) more hm hp)
  ⟨vs,w',dd,by rw[<-rel.length];exact z,hw,λh' dd' hs=>h w' _ ?_ rw'⟩
 have he:∃q,h'.get? a=some q:=let ⟨q,_,_,hq,_⟩:=dd';⟨q,hq⟩
 exact oS I (by rw[e];exact True.intro) hs he (i_ (nzL (aHj kvs k) z) hd (rel.drop k) dd')
theorem aWd{Q:fF}(I:Inv X Aa σ H s)(e:Rd H a (.dK kvs))(h:∀t s',Inv X Aa σ H s'->Q (.int kvs.length t) s'):wpAny (model X.prog X.w) A (call (.builtin "len") [.ref a]) Q E s:=by
 obtain⟨z,hd,ap,es,ep,D,rel⟩:=gr_ I.hok e
 have hl:kvs.length=es.size:=by rw[<-Array.length_toList];exact Paired.length rel
 rw[hl]at h
 exact aLa hd D (by rw[sizeLine_eq]at z;omega) λt t'=>h t _ (I.tok _)
end
def aSl(i:Expr):Prop:=∀ov iv,subscripted i false ov iv=operate [ov,iv] (getItem ov iv)
theorem aJh{prog:Program}{w:World}{A:Around}{E:fF}{s:Shared}{env:Env}{value slice:Expr}{pos:Pos}{T id:String}{Q:fF}
  (hl:typeLookup (.type T) "__getitem__" = pure (some (.builtin id))) (hs:aSl slice)
  (h:wpAny (model prog w) A (eval value env) (λo s₁=>wpAny (model prog w) A (eval slice env) (λi s₂=>s₂.TypeIs o T/\wpAny (model prog w) A (getItem o i) Q E s₂) E s₁) E s) :
  wpAny (model prog w) A (eval (.Subscript value slice pos) env) Q E s:=by
 refine Subscript_ (wpAny_mono h (λo s₁ h₁=>wpAny_mono h₁ (λi s₂ h₂=>?_) λ_ _ x=>x) λ_ _ x=>x)
 obtain⟨hT,h₂⟩:=h₂
 unfold subscriptTail
 refine wpAny_bind ?_
 rw[getitemInPython_of_ne hT.not_modules]
 refine wpAny_bind (wpAny_specialOf hT hl ?_)
 have fin:wpAny (model prog w) A (subscripted slice false o i) (λr s₃=>wpAny (model prog w) A (letTemporaryGo value o r >>= λ_=>pure r) Q E s₃) E s₂:=by
  rw[hs o i]
  exact wpAny_operating (wpAny_mono h₂ (λr s₃ h₃=>wpAny_bind (wpAny_letTemporaryGo (wpAny_pure h₃))) λ_ _ x=>x)
 first
  |exact wpAny_pure (wpAny_bind fin)
  |exact wpAny_bind (wpAny_pure (wpAny_bind fin))
  |exact wpAny_bind fin
theorem yZ{X:Cx}{Aa:fG}{σ:St}{H:Hp}{s:Shared}{a:Addr}{y:V}{o:Option V}(I:Inv X Aa σ H s)(g:DGet H a y o):s.TypeIs (.ref a) "dict":=by
 obtain⟨kvs,k,e,_⟩:=g
 obtain⟨o,_,_,h1,h2,_⟩:=gq_ (q9 I.hok e)
 exact⟨o,h1,h2.1⟩
def aUa(td ty:TE):TE:=λσ H Q=>td σ H λx H1=>ty σ H1 λy H2=>∃a v,x=.ref a/\DGet H2 a y (some v)/\Q v H2
def aYh(ty td:TE):TE:=λσ H Q=>ty σ H λy H1=>td σ H1 λx H2=>∃a o,x=.ref a/\DGet H2 a y o/\Q (.bl o.isSome) H2
def o0(ty td:TE):TE:=λσ H Q=>ty σ H λy H1=>td σ H1 λx H2=>∃a o,x=.ref a/\DGet H2 a y o/\Q (.bl (!o.isSome)) H2
def aEj(td ty tv:TE):TS:=λD σ H=>tv σ H λv H1=>td σ H1 λx H2=>ty σ H2 λy H3=>∃a H4,x=.ref a/\DPut H3 a y v H4/\D.nx σ H4
section
variable{X:Cx}{o i e value:Expr}{pos pos' tpos:Pos}{td ty tv:TE}
theorem aKc(hu:X.A.units+1<cLine)(ho:PE X o td)(hi:PE X i ty)(hs:aSl i):PE X (.Subscript o i pos) (aUa td ty):=by
 intro Aa s σ H Q I h
 refine aJh PySem.F.slot_dict_getitem.lookup hs (eO (ho Aa s σ H _ I h) λu s1 ⟨x,H1,I1,rx,q1⟩=>eO (hi Aa s1 σ H1 _ I1 q1) λiv s2 ⟨y,H2,I2,ry,a,v,ex,g,q2⟩=>?_)
 subst ex
 obtain rfl:u=Value.ref a:=rx
 exact⟨yZ I2 g,aCg hu I2 g ry λw' s3 I3 rw'=>⟨v,H2,I3,rw',q2⟩⟩
theorem aPb(hu:X.A.units+1<cLine)(hi:PE X i ty)(ho:PE X o td):PC X .In i o (aYh ty td):=by
 intro Aa s σ H Q I h
 refine eO (hi Aa s σ H _ I h) λiv s1 ⟨y,H1,I1,ry,q1⟩=>eO (ho Aa s1 σ H1 _ I1 q1) λu s2 ⟨x,H2,I2,rx,a,ov,ex,g,q2⟩=>?_
 subst ex
 obtain rfl:u=Value.ref a:=rx
 exact aZs hu I2 g ry λs3 I3=>⟨.bl ov.isSome,H2,I3,rfl,q2⟩
theorem aBd(hu:X.A.units+1<cLine)(hi:PE X i ty)(ho:PE X o td):PC X .NotIn i o (o0 ty td):=by
 intro Aa s σ H Q I h
 refine eO (hi Aa s σ H _ I h) λiv s1 ⟨y,H1,I1,ry,q1⟩=>eO (ho Aa s1 σ H1 _ I1 q1) λu s2 ⟨x,H2,I2,rx,a,ov,ex,g,q2⟩=>?_
 subst ex
 obtain rfl:u=Value.ref a:=rx
 exact aMc hu I2 g ry λs3 I3=>⟨.bl (!ov.isSome),H2,I3,rfl,q2⟩
theorem hb_(hu:X.A.units+1<cLine)(ho:PE X o td)(hi:PE X i ty)(hv:PE X value tv)(hs:swapsWith value (some (.Subscript o i pos')) pos.line X.env=pure false) :
  PS X (.Assign [.Subscript o i pos'] value pos) (aEj td ty tv):=by
 intro Aa s σ H D I h
 refine wpAny_Assign_Subscript (eO (hv Aa s σ H _ I h) λr s1 ⟨v,H1,I1,rv,q1⟩=>eO (ho Aa s1 σ H1 _ I1 q1) λu s2 ⟨x,H2,I2,rx,q2⟩=>eO (hi Aa s2 σ H2 _ I2 q2) λiv s3 ⟨y,H3,I3,ry,a,H4,ex,g,q3⟩=>?_) hs
 subst ex
 obtain rfl:u=Value.ref a:=rx
 exact aCf hu I3 g ry rv λs4 I4=>⟨σ,H4,I4,q3⟩
end
theorem yY{P:Program}{w:World}{H:Hp}(h:Heap)(hb:sysModules<h.objs.size):ObjOk P w H (h.push { cls:=.type "dict",data:=.dict #[] }) h.objs.size (.dK []):=
 ⟨eS _,beq_eq_false_iff_ne.mpr (Ne.symm (cC hb)),.inl ⟨[],.nil,Heap.DictOf.new h⟩⟩
def aOg:TE:=λ_ H Q=>∀p,H p=none->Q (.ref p) (upd H p (.dK []))
section
variable{X:Cx}{pos:Pos}
theorem aFf:PE X (.Dict [] [] pos) aOg:=λAa s σ H Q I h =>
 wpAny_Dict_empty ⟨.ref s.heap.objs.size,_,I.laid (a:=s.heap.objs.size) (o:=.dK []) (t':=s.toks) (λ_ _ q=>aD _ q) (aP _) (yY s.heap I.big),rfl,h _ (I.hok.fresh (aP _))⟩
end
def b_:List (TE×TE)->St->Hp->(List (V×V)->Hp->Prop)->Prop
 | [],_,H,Q=>Q [] H
 |(tk,tv)::r,σ,H,Q=>tk σ H λx H1=>tv σ H1 λy H2=>b_ r σ H2 λps H3=>Q ((x,y)::ps) H3
abbrev VV:List (V×V)->List (Value×Value)->Prop:=Paired λp q=>RelV p.1 q.1/\RelV p.2 q.2
def PPs(X:Cx)(pos:Pos)(keys:List (Option Expr))(values:List Expr)(trs:List (TE×TE)):Prop:=
 ∀(Aa:fG) (s:Shared) (σ:St) (H:Hp) (Q:List (V×V)->Hp->Prop),Inv X Aa σ H s->b_ trs σ H Q ->
  wpAny (model X.prog X.w) X.A (evalPairs (pairTrees keys values X.env pos)) (λvs s'=>∃ps H',Inv X Aa σ H' s'/\VV ps vs/\Q ps H') X.xe s
theorem aJt{X:Cx}{pos:Pos}:PPs X pos [] [] []:=λAa s σ H Q I h=>pairTrees_nil_walk ⟨[],H,I,.nil,h⟩
theorem aFc{X:Cx}{pos:Pos}{k v:Expr}{ks:List (Option Expr)}{vs:List Expr}{tk tv:TE}{trs:List (TE×TE)}(hk:PE X k tk)(hv:PE X v tv)(hr:PPs X pos ks vs trs) :
  PPs X pos (some k::ks) (v::vs) ((tk,tv)::trs):=λAa s σ H Q I h =>
 pairTrees_cons_walk (eO (hk Aa s σ H _ I h) λu s1 ⟨x,H1,I1,rx,q1⟩=>eO (hv Aa s1 σ H1 _ I1 q1) λw2 s2 ⟨y,H2,I2,ry,q2⟩ =>
  eO (hr Aa s2 σ H2 _ I2 q2) λws s3 ⟨ps,H3,I3,rel,q3⟩=>⟨(x,y)::ps,H3,I3,.cons ⟨rx,ry⟩ rel,q3⟩)
def pX(kvs more:List (Key×V)):List (Key×V):=more.foldl (λAb kv=>lL Ab kv.1 kv.2) kvs
theorem KV.merge:∀{more:List (Key×V)} {rs:List (Key×Value)} {kvs:List (Key×V)} {vs:List (Key×Value)},KV more rs->KV kvs vs->KV (pX kvs more) (merged vs rs):=by
 intro more rs kvs vs r
 unfold KV at r
 induction r generalizing kvs vs with
 |nil=>intro q;exact q
 | @cons p q ps qs h t ih =>
  intro r0
  have e:KV (lL kvs p.1 p.2) (stored vs q.1 q.2):=by
   have:=r0.put p.1 h.2
   rw[<-h.1];exact this
  exact ih e
theorem gl_:∀(more kvs:List (Key×V)),(pX kvs more).length<=kvs.length+more.length
 | [],kvs=>by show kvs.length<=kvs.length+0;lia
 |p::r,kvs=>by
  have h1:=gl_ r (lL kvs p.1 p.2)
  have h2:=io_ kvs p.1 p.2
  show(pX (lL kvs p.1 p.2) r).length<=_
  rw[aJ];lia
theorem qY{P:Program}{w:World}:∀{kvs:List (Key×V)} {ws:List (Value×Value)},eI kvs=false->VV (kvs.map λkv=>(kV kv.1,kv.2)) ws->∃rs,Carries (dA P w) ws rs/\KV kvs rs
 | [],_,_,r=>by rw[bL]at r;cases r;exact⟨[],True.intro,.nil⟩
 |p::kvs,_,ho,r=>by
  have Jq:p.1.odd=false/\eI kvs=false:=by simpa [eI]using ho
  rw[aL]at r
  cases r with
  | @cons a b as bs h t =>
   obtain⟨rs,c,q⟩:=qY (P:=P) (w:=w) Jq.2 t
   obtain⟨b1,b2⟩:=b
   exact⟨(p.1,b2)::rs,⟨sT Jq.1 h.1,rfl,c⟩,.cons ⟨rfl,h.2⟩ q⟩
def aTz(trs:List (TE×TE)):TE:=λσ H Q=>∀p,H p=none->b_ trs σ (upd H p (.dK [])) λps H2=>H2 p=some (.dK [])/\∃kvs:List (Key×V),ps=kvs.map (λkv=>(kV kv.1,kv.2))/\eI kvs=false/\kvs.length<=15/\Q (.ref p) (upd H2 p (.dK (pX [] kvs)))
theorem aKb{X:Cx}{pos:Pos}{keys:List (Option Expr)}{values:List Expr}{trs:List (TE×TE)}(h:PPs X pos keys values trs)(Ar:keys.all (·.isSome)=true)(hl:keys.length=values.length)(h0:keys≠[])
  (h15:keys.length<=15):PE X (.Dict keys values pos) (aTz trs):=by
 intro Aa s σ H Q I q
 have hn:=I.hok.fresh (aP s.heap.objs.size)
 have I1:=I.laid (a:=s.heap.objs.size) (o:=.dK []) (h':=s.heap.push { cls:=.type "dict",data:=.dict #[] }) (t':=s.toks) (λ_ _ q=>aD _ q) (aP _) (yY s.heap I.big)
 refine wpAny_Dict_walk (knd:=dA X.prog X.w) Ar hl h0 h15 (eO (h Aa _ σ _ _ I1 (q _ hn)) λws s2 ⟨ps,H2,I2,rel,e,kvs,ep,od,lk,q2⟩=>?_)
 subst ep
 obtain⟨rs,c,rk⟩:=qY (P:=X.prog) (w:=X.w) od rel
 obtain⟨z,hd,vs0,r0,dd⟩:=aHl I2.hok e rfl
 cases r0
 refine⟨rs,c,dd,λh' dd' hs=>⟨.ref s.heap.objs.size,_,?_,rfl,q2⟩⟩
 have hz:(pX [] kvs).length<=sizeLine:=by
  have h1:=gl_ kvs []
  rw[aV]at h1
  rw[sizeLine_eq];lia
 have he:∃q,h'.get? s.heap.objs.size=some q:=let ⟨q,_,_,hq,_⟩:=dd';⟨q,hq⟩
 exact oS I2 (by rw[e];exact True.intro) hs he (i_ hz hd (rk.merge .nil) dd')
structure M1(X:Cx)(o:Expr)(m:Str)(apos:Pos)(e:Expr)(cpos:Pos):Prop where
 base:attributeBase o m X.env (eval o X.env)=eval o X.env
 few:((backTo cpos (starEach [e] X.env)).all (λx=>!x.1)&&(backToKw cpos (keywordEach [] X.env)).all (λx=>x.1.isSome)
  && decide (([e]:List Expr).length+([]:List Keyword).length+(if([]:List Keyword).isEmpty then 0 else 1)<30))=true
 line:(apos.endLine == cpos.line)=true
 trees:backTo cpos (starEach [e] X.env)=[(false,eval e X.env)]
def IsD(H:Hp)(a:Addr):Prop:=∃kvs,Rd H a (.dK kvs)
theorem aQx{X:Cx}{Aa:fG}{σ:St}{H:Hp}{s:Shared}{a:Addr}(I:Inv X Aa σ H s)(d:IsD H a) :
  s.TypeIs (.ref a) "dict" /\ (∀b,Value.ref a=.ref b->∃ob,s.heap.get? b=some ob/\ob.dict=none)/\(a == sysModules)=false:=by
 obtain⟨kvs,e⟩:=d
 obtain⟨o,_,_,h1,h2,_⟩:=gq_ (q9 I.hok e)
 refine⟨⟨o,h1,h2.1⟩,λb q=>?_,(gr_ I.hok e).2.1⟩
 cases q
 exact⟨o,h1,h2.2.1⟩
def aEc(td ty:TE):TE:=λσ H Q=>td σ H λx H1=>∃a,x=.ref a/\IsD H1 a/\ty σ H1 λy H2=>∃kvs k v,H2 a=some (.dK kvs)/\eI kvs=false/\k.odd=false/\y=kV k/\jQ kvs k=some v/\Q v (upd H2 a (.dK (qS kvs k)))
section
variable{X:Cx}{o e f:Expr}{apos cpos:Pos}{td ty tx:TE}
theorem aFe(ho:PE X o td)(he:PE X e ty)(m:M1 X o "pop" apos e cpos):PE X (.Call (.Attribute o "pop" apos) [e] [] cpos) (aEc td ty):=by
 intro Aa s σ H Q I h
 refine wpAny_Call_method m.base m.few m.line PySem.F.plainAttrs_dict PySem.F.slot_dict_pop PySem.F.type_dict_pop (eO (ho Aa s σ H _ I h) λu s1 ⟨x,H1,I1,rx,a,ex,d,q1⟩=>?_)
 subst ex
 obtain rfl:u=Value.ref a:=rx
 obtain⟨t1,t2,_⟩:=aQx I1 d
 refine⟨t1,t2,?_⟩
 rw[m.trees]
 refine Calls.callWith_builtin rfl (Calls.evalArgs_plain (Calls.spliced_cons (eO (he Aa s1 σ H1 _ I1 q1) λiv s2 ⟨y,H2,I2,ry,kvs,k,v,ea,o1,o2,ey,l,q2⟩=>Calls.spliced_nil ?_)))
 subst ey
 exact aWc I2 ea o1 o2 ry l (.inl rfl) λw' s3 I3 rw'=>⟨v,_,I3,rw',q2⟩
end
theorem k4:bootBuiltins "all" = some (.builtin "all"):=by decide +kernel
theorem n9:∀{bs:List Bool} {us:List Value},Vals (bs.map V.bl) us->us=bs.map Value.bool
 | [],_,h=>by cases h;rfl
 |b::bs,_,h=>by
  cases h with
  |cons ra rb =>
   cases ra
   rw[n9 rb]
   rfl
theorem aAz:∀(bs:List Bool),(List.range bs.length).all (λi=>bs[i]?.getD false)=bs.all id:=by
 intro bs
 rw[Bool.eq_iff_iff,cO,cO]
 constructor
 ·intro h b hb
  obtain⟨i,hi,rfl⟩:=List.getElem_of_mem hb
  have:=h i (gL.mpr hi)
  rw[aM hi]at this
  exact this
 ·intro h i hi
  have Fj:=gL.mp hi
  rw[aM Fj]
  exact h _ (List.getElem_mem Fj)
section
variable{X:Cx}
def aEu(K:eC):List V->Hp->VK->Prop:=λxs H Q=>∃(p:Addr) (bs:List Bool),xs=[.ref p]/\SqL K H p (bs.map V.bl)/\Q (.bl (bs.all id)) H
theorem aCr(hc:X.calm=true):CallR X (.builtin "all") (aEu X.K):=by
 intro Aa s σ H xs us Q I r h
 obtain⟨p,bs,rfl,hq,q⟩:=h
 obtain⟨u,rfl,rx⟩:=iB r
 cases rx
 obtain⟨its,r',pl,hz⟩:=I.list hq
 have hi:=n9 r'
 subst hi
 have hh:X.A.in1.handled=none:=I.ok.hd hc
 have lt:p<s.heap.objs.size:=by obtain⟨_,e,_⟩:=pl.isList;exact aR e
 refine call_all_walk (wpAny_pyIter_list pl.isList ⟨_,_,_,_,_,_,λi=>bs[i]?.getD false,rfl,Walks.list hh s.heap.objs.size p (cC lt) (bs.map Value.bool).toArray,⟨⟨_,aY _ rfl,rfl,rfl⟩,?_⟩,?_,λh' tk hk=>?_⟩)
 ·obtain ⟨o,e,r⟩:=pl.isList
  exact⟨o,aD _ e,r⟩
 ·intro i v s' Q' E' hv hQ
  have Br:(bs.map Value.bool)[i]? = some v:=by simpa using hv
  rw[bX]at Br
  cases hb:bs[i]? with
  |none=>rw[hb]at Br;cases Br
  |some b =>
   rw[hb]at Br
   cases Br
   have M3:Q' (bs[i]?.getD false) s':=hQ
   rw[hb]at M3
   exact wpAny_truthy_bool M3
 ·have Au:∀ b o,s.heap.get? b=some o→h'.get? b=some o:=fun b o e=>hk b o (by simp; exact cC (aR e)) (aD _ e)
  refine⟨.bl _,H,I.kept Au,?_,q⟩
  show Value.bool _=Value.bool _
  rw[bE,aC,aAz]
end
def Ite(K:eC)(a:Addr):It:=
  ⟨fun i H => ∃ xs x,SqL K H a xs∧xs[i]? = some x,
   λi H v H'=>∃p x,v=.ref p/\H p=none/\H'=upd H p (.tup [.int (i:Int),x])/\∀xs,SqL K H a xs->xs[i]? = some x,
   λi H=>∃xs,SqL K H a xs/\xs.length<=i⟩
theorem aAs{P:Program}{w:World}{K:eC}{es:List Expr}{kk:Nat}{tpos:Pos}{a e it:Addr}(Bt:e≠it) :
  Turn P w K (.Tuple es kk tpos) (Ite K a) [e,it] e (λi h=>(∃old,IsEnum h e it (i:Int) old)/\h.IsListIter it a i)where
 mem:=by simp
 obj:=λi h st c hb=>by
  obtain⟨⟨old,he⟩,h1⟩:=st
  simp only[aE,bI,or_false]at hb
  rcases hb with rfl | rfl
  ·exact⟨_,he,λv e=>nomatch e⟩
  ·obtain⟨o,e,_,d⟩:=h1;exact⟨o,e,λv z=>by rw[d]at z;cases z⟩
 keep:=λi h h' st k=>by
  obtain⟨⟨old,he⟩,o,a,r⟩:=st
  exact⟨⟨old,k e (by simp) _ he⟩,⟨o,k it (by simp) o a,r⟩⟩
 item:=by
  intro X hP hw hK hc i Aa s σ H E I hf st hg
  subst hP hw hK
  obtain⟨xs,x,q1,e1⟩:=hg
  obtain⟨its1,r1,p1,z1⟩:=I.list q1
  obtain⟨u1,Ls,Jy⟩:=r1.get e1
  obtain⟨⟨old,he⟩,h1⟩:=st
  have lt:∀{c o},s.heap.get? c=some o->s.heap.objs.size≠c:=λe=>iI (aR e)
  refine wpAny_pyNext_enum_item he h1 p1.isList (x:=u1) (by simpa using Ls) Bt λh' a1 a2 a3 a4 hk=>?_
  refine⟨_,rfl,wpAny_letOwnedTupleGo_enum a1 λDp b1 b2=>?_⟩
  have b2':Heap.SameBut e h' Dp:=b2
  have kk:∀c o,c∉[e,it]->s.heap.get? c=some o->Dp.get? c=some o:=λc o hc e=>by
   simp only[aE,bI,or_false,not_or]at hc
   exact b2'.extBut _ _ hc.1 (hk c o hc.1 hc.2 e)
  have tT:Dp.get? s.heap.objs.size=some { cls:=.type "tuple",data:=.seq #[.int i s.toks,u1] }:=b2'.extBut _ _ (lt he) a3
  have nT:H s.heap.objs.size=none:=I.hok.fresh (aP _)
  have I':Inv X Aa σ (upd H s.heap.objs.size (.tup [.int (i:Int),x])) { s with heap:=Dp,toks:=s.toks+1 }:=I.turnedT (t':=s.toks+1) (its:=[.int i s.toks,u1]) hf kk (aP _) (.cons ⟨_,rfl⟩ (.cons Jy .nil)) (by show 2<=sizeLine;decide) ⟨_,tT,rfl,_,rfl⟩
  obtain⟨o2,Jq,r2⟩:=a2
  refine⟨.ref s.heap.objs.size,upd H s.heap.objs.size (.tup [.int (i:Int),x]),I',rfl,⟨_,x,rfl,nT,rfl,λxs' w1=>by rw[I.list_inj w1 q1];exact e1⟩,⟨⟨_,b1⟩,⟨o2,b2'.extBut _ _ (Ne.symm Bt) Jq,r2⟩⟩,λc hc=>?_⟩
  obtain⟨o,eo⟩:∃o,s.heap.get? c=some o:=by
   simp only[aE,bI,or_false]at hc
   rcases hc with rfl | rfl
   ·exact⟨_,he⟩
   ·obtain⟨o,e,_⟩:=h1;exact⟨o,e⟩
  rw[fB (Ne.symm (lt eo))]
  exact(hf c hc).1
 done:=by
  intro X hP hw hK hc i Aa s σ H E I hf st hg
  subst hP hw hK
  obtain⟨xs,q1,e⟩:=hg
  obtain⟨its1,r1,p1,z1⟩:=I.list q1
  obtain⟨⟨old,he⟩,h1⟩:=st
  have l1:=r1.length
  refine wpAny_pyNext_enum_end (I.ok.hd hc) he h1 p1.isList (by simp;lia) λh' hk=>⟨rfl,I.turnedL (t':=s.toks) hf λc o hc e=>?_⟩
  simp only[aE,bI,or_false,not_or]at hc
  exact hk c o hc.2 e
 self:=λ_ _ _ _ _ st h=>by
  obtain⟨⟨old,he⟩,_⟩:=st
  exact wpAny_pyIter_enum he h
theorem wG:bootBuiltins "enumerate" = some (.type "enumerate"):=by decide +kernel
def aVf(K:eC)(ta:TA):TI:=λσ H R=>ta σ H λvs H1=>∃a,vs=[.ref a]/\(∃xs,SqL K H1 a xs)/\R (Ite K a) H1
theorem aJy{X:Cx}{ea:Expr}{ta:TA}{p pos:Pos}{es:List Expr}{kk:Nat}{tpos:Pos}(hg:Gl X "enumerate")(hm:X.mg "enumerate" = none)(ha:PA X [ea] ta)(hs:starEach [ea] X.env=[(false,eval ea X.env)]:=by rfl) :
  PI X (.Tuple es kk tpos) (.Call (.Name "enumerate" p) [ea] [] pos) (aVf X.K ta):=by
 intro Aa s σ H R I h
 refine Call_ (hm_ I hg hm wG (fC (eO (ha pos Aa s σ H _ I h) λus s1 ⟨vs,H1,I1,r1,q1⟩=>?_) hs rfl))
 obtain⟨a,e,⟨xs,w1⟩,q⟩:=q1
 subst e
 obtain⟨u,rfl,ru⟩:=iB r1
 cases ru
 obtain⟨its1,r2,p1,z1⟩:=I1.list w1
 refine call_enumerate_list p1.isList λh' he hi hsz hk=>wpAny_pyIter_enum he ?_
 refine⟨_,_,_,_,H1,rfl,I1.kept (t':=s1.toks) hk,aAs (a:=a) (e:=s1.heap.objs.size+1) (it:=s1.heap.objs.size) (Nat.succ_ne_self _),⟨⟨_,he⟩,hi⟩,λc hc=>?_,q⟩
 have C7:s1.heap.objs.size<=c:=by
  simp only[aE,bI,or_false]at hc
  rcases hc with rfl | rfl<;>lia
 exact I1.fpOk C7 (I1.hok.fresh C7)
end L2
namespace Lf
open PySem L2
end Lf
namespace L2
open PySem PySem.Spec PyProof.Rows
section
variable{X:Cx}
theorem aCs:bootBuiltins "sorted" = some (.builtin "sorted"):=by decide +kernel
end
end L2
namespace Lf
open PySem PySem.W PyProof.Rows
section
variable{lt:Nat->Nat->Bool}
structure Ord(lt:Nat->Nat->Bool):Prop where
 tr:∀i j k,lt j i=false->lt k j=false->lt k i=false
 asy:∀i j,lt i j=true->lt j i=false
theorem Ord.rf(o:Ord lt)(i:Nat):lt i i=false:=by
 cases h:lt i i with
 |false=>rfl
 |true=>have:=o.asy i i h;rw[h]at this;exact this
abbrev gk(p:Array Nat)(k:Nat):Nat:=p.getD k 0
def Srt(lt:Nat->Nat->Bool)(p:Array Nat)(n:Nat):Prop:=∀i j,i<=j->j<n->lt (gk p j) (gk p i)=false
def Dec(lt:Nat->Nat->Bool)(p:Array Nat)(n:Nat):Prop:=∀i j,i<=j->j<n->lt (gk p i) (gk p j)=false
theorem Srt.step(o:Ord lt){p:Array Nat}{n:Nat}(h1:1<=n)(h:Srt lt p n)(hn:lt (gk p n) (gk p (n-1))=false):Srt lt p (n+1):=by
 intro i j K1 hj
 by_cases c:j=n
 ·subst c
  by_cases d:i=j
  ·subst d;exact o.rf _
  ·exact o.tr _ _ _ (h i (j-1) (by lia) (by lia)) hn
 ·exact h i j K1 (by lia)
theorem Dec.step(o:Ord lt){p:Array Nat}{n:Nat}(h1:1<=n)(h:Dec lt p n)(hn:lt (gk p (n-1)) (gk p n)=false):Dec lt p (n+1):=by
 intro i j K1 hj
 by_cases c:j=n
 ·subst c
  by_cases d:i=j
  ·subst d;exact o.rf _
  ·exact o.tr _ _ _ hn (h i (j-1) (by lia) (by lia))
 ·exact h i j K1 (by lia)
def Blw(n:Nat)(p:Array Nat):Prop:=0<n/\∀x∈p.toList,x<n
theorem Blw.at{n:Nat}{p:Array Nat}(h:Blw n p)(k:Nat):p.getD k 0<n:=by
 rw[Array.getD_eq_getD_getElem?]
 cases e:p[k]? with
 |none=>exact h.1
 |some x =>
  refine h.2 x ?_
  rw[<-Array.getElem?_toList]at e
  exact bB e
end
end Lf
namespace L2
open PySem PySem.Spec PyProof.Rows PySem.W
section
variable{prog:Program}{w:World}{A:Around}{E:fF}{s:Shared}
abbrev TI2:=Addr×List Int
def t0:TI2:=(0,[])
end
end L2
namespace Lf
open PySem
theorem a_{m:Int}(h:1<=m):up 1 m=m:=by
 obtain⟨a,b⟩:=zK (n:=1) (m:=m) (by lia)
 exact pW (by lia) aDu (Int.emod_self) (by lia) (by lia)
end Lf
namespace Lf
end Lf
namespace Lf
open PySem
end Lf
namespace Lf
inductive Vd where
 |num (n:Int)
 |row (vs:List Vd)
 |rcd (vs:List Vd)
 |cho (k:Nat) (v:Vd)
def aUs:Nat->Int->List Int
 | 0,_=>[]
 |w+1,n=>n%256::aUs w (n/256)
def lay(l:List Int)(p:Nat)(some:List Int):List Int:=l.mapIdx λi b=>if p<=i/\i<p+some.length then some.getD (i-p) 0 else b
def aGf(f:Vd->List Int)(step:Nat):Nat->List Vd->List Int->List Int
 |_,[],l=>l
 |j,v::r,l=>aGf f step (j+1) r (lay l (j*step) (f v))
mutual
def Kd.byt:Kd->Vd->List Int
 | .num w _,.num n=>aUs w.toNat n
 | .row k n,.row vs=>aGf k.byt (up k.rm.1 k.rm.2).toNat 0 vs (List.replicate (n*up k.rm.1 k.rm.2).toNat 0)
 | .rcd fs,.rcd vs=>aWj (plcs 0 (rmF fs)) fs vs (List.replicate (xL (rmF fs)).1.toNat 0)
 | .cho ks,.cho k v=>lay ((List.replicate (tH (rmK ks)).1.toNat (0:Int)).set 0 (k:Int)) (up 1 (tH (rmK ks)).2).toNat (aWi ks k v)
 |_,_=>[]
def aWj:List Int->List (PySem.Str×Kd)->List Vd->List Int->List Int
 |p::ps,f::r,v::vs,l=>aWj ps r vs (lay l p.toNat (f.2.byt v))
 |_,_,_,l=>l
def aWi:List Kd->Nat->Vd->List Int
 | [],_,_=>[]
 |k::_,0,v=>k.byt v
 |_::r,j+1,v=>aWi r j v
end
mutual
def Kd.Val:Kd->Vd->Prop
 | .num w _,.num n=>0<=n/\n<256^w.toNat
 | .row k n,.row vs=>(vs.length:Int)=n/\∀v∈vs,k.Val v
 | .rcd fs,.rcd vs=>iR fs vs
 | .cho ks,.cho k v=>uD ks k v
 |_,_=>False
def iR:List (PySem.Str×Kd)->List Vd->Prop
 | [],[]=>True
 |f::r,v::vs=>f.2.Val v/\iR r vs
 |_,_=>False
def uD:List Kd->Nat->Vd->Prop
 | [],_,_=>False
 |k::_,0,v=>k.Val v
 |_::r,j+1,v=>uD r j v
end
end Lf
namespace Lf
def nth(t:Nat)(l:List Vd):Vd:=l.getD (t%l.length) (.num 0)
end Lf
namespace Lf
end Lf
namespace L2
open PySem PySem.Spec PyProof.Rows
section
variable{X:Cx}{Aa:fG}{σ:St}{H:Hp}{s:Shared}{a:Addr}
theorem Inv.other{u u':HO}(I:Inv X Aa σ H s)(e:H a=some u)(n1:∀y,u ≠ .own y)(n2:∀xs,u ≠ .tup xs)(n3:∀ps,u ≠ .tbl ps)(n4:∀o v,X.H₀ a≠some (.frz o v))(hok:ObjOk X.prog X.w (upd H a u') s.heap a u'):Inv X Aa σ (upd H a u') s:=by
 have ne:∀{b:Addr},H b=none->b≠a:=λh z=>by rw[z,e]at h;cases h
 refine⟨I.ok,I.os,I.bare,⟨I.base.keep,I.base.slot,λb o h1 h2 h3=>?_,I.base.there,λb xs h=>?_,λb o v h=>?_,λb ps h=>?_⟩,I.loc,I.cell,?_,λx c h=>?_,λp hp=>?_,λb v h=>?_,I.len⟩
 ·have:=I.base.free b o h1 h2 h3
  rw[fB (ne this)];exact this
 ·have:=I.base.tups b xs h
  rw[fB (λz=>by rw[z,e]at this;exact n2 _ (ozI this))];exact this
 ·have:=I.base.frzs b o v h
  rw[fB (λz=>n4 o v (by rw[<-z];exact h))];exact this
 ·obtain ⟨m,q⟩:=I.base.tbls b ps h
  exact⟨m,by rw[fB (λz=>by rw[z,e]at q;exact n3 _ (ozI q))];exact q⟩
 ·rw[fB (ne I.free)];exact I.free
 ·rw[fB (ne (I.freeC x c h))];exact I.freeC x c h
 ·obtain ⟨p1,p2,p3⟩:=I.pin p hp
  exact⟨p1,by rw[fB (ne p2)];exact p2,p3⟩
 ·by_cases hb:b=a
  ·subst hb
   rw[cA]at h
   cases h
   exact hok
  ·rw [fB hb] at h
   refine(I.hok b v h).stay (λ_ _ _ q=>q) (λc q=>?_) λc xs q=>?_
   ·rw[fB (λz=>by rw[z,e]at q;exact n1 _ (ozI q))];exact q
   ·rw[fB (λz=>by rw[z,e]at q;exact n2 _ (ozI q))];exact q
theorem aHk{P:Program}{w:World}{H H':Hp}{h:Heap}{a:Addr}{kvs:List (Key×V)}(x:ObjOk P w H h a (.dK kvs))(ht:∀b xs,H b=some (.tup xs)->H' b=some (.tup xs)):ObjOk P w H' h a (.dK kvs):=by
 obtain⟨z,y,q | ⟨od,ap,es,ep,D,r⟩⟩:=x
 ·exact⟨z,y,.inl q⟩
 ·refine ⟨z,y,.inr ⟨od,ap,es,ep,D,Paired.mapP r fun p q u=>⟨u.1,u.2.1,u.2.2.1,?_⟩⟩⟩
  obtain⟨kk,v⟩:=p
  have:=u.2.2.2
  cases kk<;>first | exact True.intro | exact ht _ _ this
theorem Inv.freeze{kvs:List (Key×V)}(I:Inv X Aa σ H s)(e:H a=some (.dK kvs)):∃o,Inv X Aa σ (upd H a (.frz o (.dK kvs))) s:=by
 have x:=I.hok a _ e
 obtain⟨o,es,ep,h1,h2⟩:=gq_ x
 refine⟨o,I.other e (λ_ z=>by cases z) (λ_ z=>by cases z) (λ_ z=>by cases z) (λo v z=>?_) ⟨h1,aHk x λb xs q=>by rw[fB (u4 q e λz=>nomatch z)];exact q⟩⟩
 have:=I.base.frzs a o v z
 rw[e]at this;cases this
theorem Inv.thaw{o:Obj}{kvs:List (Key×V)}(I:Inv X Aa σ H s)(e:H a=some (.frz o (.dK kvs)))(n:∀o v,X.H₀ a≠some (.frz o v)):Inv X Aa σ (upd H a (.dK kvs)) s:=
 I.other e (λ_ z=>by cases z) (λ_ z=>by cases z) (λ_ z=>by cases z) n (aHk (I.hok a _ e).2 λb xs q=>by rw[fB (u4 q e λz=>nomatch z)];exact q)
end
def aYg(H0:Hp)(t:TE):TE:=λσ H Q=>∃a kvs,H a=some (.dK kvs)/\(∀o v,H0 a≠some (.frz o v))/\∀o,t σ (upd H a (.frz o (.dK kvs))) λv H'=>H' a=some (.frz o (.dK kvs))/\Q v (upd H' a (.dK kvs))
theorem aOx{X:Cx}{e:Expr}{t:TE}(h:PE X e t):PE X e (aYg X.H₀ t):=by
 intro Aa s σ H Q I ⟨a,kvs,ha,hn,q⟩
 obtain⟨o,I1⟩:=I.freeze ha
 refine eO (h Aa s σ _ _ I1 (q o)) λu s1 ⟨v,H1,I2,r,e1,q1⟩=>⟨v,_,I2.thaw e1 hn,r,q1⟩
def aYk(H0:Hp)(t:TS):TS:=λD σ H=>∃a kvs,H a=some (.dK kvs)/\(∀o v,H0 a≠some (.frz o v))/\∀o,
 t ⟨λσ' H'=>H' a=some (.frz o (.dK kvs))/\D.nx σ' (upd H' a (.dK kvs)),λv H'=>H' a=some (.frz o (.dK kvs))/\D.rt v (upd H' a (.dK kvs)),λσ' H'=>H' a=some (.frz o (.dK kvs))/\D.bk σ' (upd H' a (.dK kvs)),λσ' H'=>H' a=some (.frz o (.dK kvs))/\D.ct σ' (upd H' a (.dK kvs))⟩ σ (upd H a (.frz o (.dK kvs)))
theorem aOr{X:Cx}{st:Stmt}{t:TS}(h:PS X st t):PS X st (aYk X.H₀ t):=by
 intro Aa s σ H D I ⟨a,kvs,ha,hn,q⟩
 obtain⟨o,I1⟩:=I.freeze ha
 refine eO (h Aa s σ _ _ I1 (q o)) λf s1 h1=>?_
 cases f with
 |next=>obtain⟨σ',H',I2,e1,q1⟩:=h1;exact⟨σ',_,I2.thaw e1 hn,q1⟩
 |brk=>obtain⟨σ',H',I2,e1,q1⟩:=h1;exact⟨σ',_,I2.thaw e1 hn,q1⟩
 |cont=>obtain⟨σ',H',I2,e1,q1⟩:=h1;exact⟨σ',_,I2.thaw e1 hn,q1⟩
 |ret u=>obtain⟨v,σ',H',I2,r,e1,q1⟩:=h1;exact⟨v,σ',_,I2.thaw e1 hn,r,q1⟩
def Itd(a:Addr)(o:Obj)(kvs:List (Key×V)):It:=
 ⟨λi H=>H a=some (.frz o (.dK kvs))/\i<kvs.length,λi H x H'=>H'=H/\∃kv,kvs[i]? = some kv/\x=kV kv.1/\gP H kv.1,λi H=>H a=some (.frz o (.dK kvs))/\kvs.length<=i⟩
theorem aUx{P:Program}{w:World}{k:Key}{u:Value}(h:(dA P w).is k u=true):RelV (kV k) u:=by
 rcases bt_ h with⟨i,t,rfl,z⟩ | ⟨x,t,rfl,z⟩
 ·exact⟨t,z⟩
 ·exact⟨t,z⟩
theorem KV.at'{kvs:List (Key×V)}{vs:List (Key×Value)}(r:KV kvs vs):∀{i:Nat} {kv:Key×V},kvs[i]? = some kv->∃u,vs[i]? = some (kv.1,u):=by
 induction r with
 |nil=>intro i kv h;simp at h
 | @cons p q ps qs hq t ih =>
  intro i kv h
  cases i with
  |zero=>simp at h;subst h;exact⟨q.2,by simp[hq.1]⟩
  |succ i=>obtain⟨u,e⟩:=ih (i:=i) (by simpa using h);exact⟨u,by simpa using e⟩
theorem yK{X:Cx}{Aa:fG}{σ:St}{H:Hp}{s:Shared}{a:Addr}{o:Obj}{kvs:List (Key×V)}{es:Array DictEntry}{ep:Nat}(I:Inv X Aa σ H s)(e:H a=some (.frz o (.dK kvs)))(hd:o.data=.dict es ep) :
  (a == sysModules)=false/\DAt s.heap a es ep/\Paired (lK X.prog X.w H) kvs es.toList:=by
 obtain⟨h0,_⟩:=(show ObjOk X.prog X.w H s.heap a (.frz o (.dK kvs))from I.hok a _ e)
 obtain⟨_,y,_,es',ep',⟨o',h1,h2,h3⟩,r⟩:=gr_ I.hok (.inr ⟨o,e⟩)
 rw[h0]at h1
 cases h1
 rw[hd]at h3
 cases h3
 exact⟨y,⟨o,h0,h2,hd⟩,r⟩
theorem aAr{P:Program}{w:World}{K:eC}{tg:Expr}(a it:Addr)(Bt:a≠it)(o:Obj)(kvs:List (Key×V))(es:Array DictEntry)(ep:Nat)(hd:o.data=.dict es ep):Turn P w K tg (Itd a o kvs) [it] it (λi h=>h.IsKeyIter it a i kvs.length ep)where
 mem:=by simp
 obj:=λi h st b hb=>by
  have e:b=it:=by simpa using hb
  subst e
  obtain⟨o,e,c,d⟩:=st
  exact⟨o,e,λv z=>by rw[d]at z;cases z⟩
 keep:=λi h h' st k=>st.at λo e=>k it (by simp) o e
 item:=by
  intro X hP hw hK hc i Aa s σ H E I hf st hg
  subst hP hw hK
  obtain⟨ha,hi⟩:=hg
  obtain⟨y,D,r⟩:=yK I ha hd
  obtain⟨f0,f1,f2,f3,f4,f5⟩:=hf it (by simp)
  have hl:kvs.length=es.size:=by rw[<-Array.length_toList];exact Paired.length r
  rw[hl]at st
  refine ho_ (λz=>absurd hi (by omega)) st D (λkey h' hk st' sb=>?_) λ_ z=>absurd hi (by omega)
  have I1:Inv X Aa σ H { s with heap:=h' }:=I.turned (t':=s.toks) (λb o hb e=>(sb.2 b hb).trans e) f0 f1 f3 f4 f5
  rw[<-hl]at st'
  obtain⟨o',e,c,d⟩:=id st'
  obtain⟨p,hp,rk⟩:=Paired.nth (i:=i) r (by rw[Array.getElem?_toList];exact hk)
  rw[aM hi]at hp
  cases hp
  exact⟨key.key,rfl,w4 (s:={ s with heap:=h' }) e c d (by decide) ⟨kV kvs[i].1,H,I1,rk.2.1,⟨rfl,_,aM hi,rfl,rk.2.2.2⟩,st',λb hb=>(hf b hb).1⟩⟩
 done:=by
  intro X hP hw hK hc i Aa s σ H E I hf st hg
  subst hP hw hK
  obtain⟨ha,hi⟩:=hg
  obtain⟨y,D,r⟩:=yK I ha hd
  obtain⟨f0,f1,f2,f3,f4,f5⟩:=hf it (by simp)
  have hl:kvs.length=es.size:=by rw[<-Array.length_toList];exact Paired.length r
  rw[hl]at st
  exact ho_ (λ_=>I.ok.hd hc) st D (λkey _ hk=>absurd (Array.getElem?_eq_some_iff.mp hk).1 (by omega)) λh' _ eb=>⟨rfl,I.turned (t':=s.toks) (λb o hb e=>eb b o hb e) f0 f1 f3 f4 f5⟩
 self:=λ_ _ _ _ _ st h=>wpAny_pyIter_keyiter st h
def yF(tl:TE):TI:=λσ H R=>tl σ H λx H1=>∃a o kvs,x=.ref a/\H1 a=some (.frz o (.dK kvs))/\R (Itd a o kvs) H1
theorem oD{X:Cx}{tg l:Expr}{tl:TE}(hl:PE X l tl):PI X tg l (yF tl):=by
 intro Aa s σ H R I h
 refine eO (hl Aa s σ H _ I h) λv s1 ⟨x,H1,I1,r1,q1⟩=>?_
 obtain⟨a,o,kvs,e,ha,q⟩:=q1
 subst e
 cases r1
 obtain⟨h0,_⟩:=(show ObjOk X.prog X.w H1 s1.heap a (.frz o (.dK kvs))from I1.hok a _ ha)
 obtain⟨_,y,_,es,ep,⟨o',h1,h2,h3⟩,r⟩:=gr_ I1.hok (.inr ⟨o,ha⟩)
 rw[h0]at h1
 cases h1
 have hl:kvs.length=es.size:=by rw[<-Array.length_toList];exact Paired.length r
 refine yD y ⟨o,h0,h2,h3⟩ ?_
 refine⟨s1.heap.objs.size,[s1.heap.objs.size],_,_,H1,rfl,I1.kept (t':=s1.toks) λb o e=>aD _ e,aAr a _ (cC (aR h0)) o kvs es ep h3,⟨_,aY _ rfl,rfl,by rw[hl];rfl⟩,λb hb=>?_,q⟩
 have e:b=s1.heap.objs.size:=by simpa using hb
 subst e
 exact I1.fpOk (aP _) (I1.hok.fresh (aP _))
section
variable{X:Cx}
theorem gn_(a:Int)(t:Tok){prog:Program}{w:World}{A:Around}{E:fF}{s:Shared}{Q:fF}(h:∀t',Q (.int (Builtin.Int.intBits a) t') { s with toks:=s.toks+1 }) :
  wpAny (model prog w) A (call (.builtin "int.bit_length") [.int a t]) Q E s:=by
 refine wpAny_call_entry F.slot_int_bit_length (typeIs_int s a t) F.entry_int_bit_length ?_ (F.args_int_bit_length_1 _)
 unfold Builtin.«int.bit_length»
 obtain⟨hp,g,d,tk,os⟩:=s
 wp_walk
 exact⟨_,rfl,h _⟩
def aNb:V->List V->Hp->VK->Prop:=λx vs H Q=>∃i:Int,x=.int i/\vs=[]/\Q (.int (Builtin.Int.intBits i)) H
theorem rM:MtR X "int.bit_length" aNb:=by
 intro Aa s σ H x vs v us Q I rx rv h
 obtain⟨i,rfl,rfl,q⟩:=h
 obtain⟨t,rfl⟩:=rx
 cases rv
 exact gn_ i t λt'=>⟨.int _,H,I.tok _,⟨_,rfl⟩,q⟩
end
end L2
namespace L2
open PySem PySem.W PySem.Spec PyProof.Rows PySem.Calls
theorem qB{α β:Type}[BEq α][LawfulBEq α]{a:α}{b:β}:∀{l:List (α×β)},l.lookup a=some b->(a,b)∈l
 | [],h=>by simp at h
 |(c,d)::r,h=>by
  by_cases e:a=c
  ·subst e;simp at h;subst h;exact aA
  ·rw [cJ,beq_eq_false_iff_ne.mpr e] at h
   exact aB _ (qB h)
theorem aMl(h:Heap):(aMm h).In h:=λa o e=>by
 obtain⟨b,_,hb⟩:=List.mem_filterMap.mp (qB e)
 obtain⟨o',h1,h2⟩:=cQ.mp hb
 cases h2
 exact h1
def exHook{α:Type}(f:Frag->α)(v:α):Hook where
 α:=α
 obs:=λs=>f (aMm s.heap)
 val:=λ_=>v
 says:=λ_ h=>∃K:Frag,K.In h/\f K=v
 of:=λ_ s e=>⟨aMm s.heap,aMl _,e⟩
 keeps:=λ_ _ _ e g=>by
  obtain⟨K,k,e⟩:=e
  exact⟨K,λa o q=>g _ _ (k a o q),e⟩
theorem aCt:∀w:World,((boot_heap w.params).isNs mainGlobals&&(Array.mk []:Array GenState).size == 0,(boot_heap w.params).objs.size,(boot_heap w.params).nsMap mainGlobals "__annotations__")=(true,11,some (.ref 6)):=λw=>by kernel_rfl
theorem aBp{p q:Program}{loose:List Str}{Xt:Shared->Bool}{α:Type}{Yf:Frag->α}{v:α}{N:Nat}{g0:Bool}(hN:Nat.ble 600 N=true)(e:opening p=plainProg p.main.scope.names)(f:∀s,fenceModules? p s=some s)
  (all:∀w:World,onceSeen topRun treeTable importedModules (λm s=>openSeen q loose m Xt g0 s) p N Yf w=λ_=>some (true,openGood q loose,v)) :
  LeftO p q loose Xt (exHook Yf v).obs (exHook Yf v).val N g0:=λw=>by
 obtain⟨⟨h,gs,d,k,os⟩,e1,e'⟩:=cQ.mp (boot_open e hN f w)
 obtain⟨rfl,rfl,rfl,rfl⟩:h=boot_heap w.params/\gs=Array.mk []/\d=boot_drawn/\k=boot_toks:=by simpa using e'
 obtain⟨z1,z2,z3⟩:_/\_/\_:=by simpa only[Prod.mk.injEq]using aCt w
 obtain⟨s₁,r,r2⟩:=cQ.mp (congrFun (all w) os)
 obtain⟨l1,l2,l3⟩:_/\_/\_:=by simpa only[Prod.mk.injEq]using r2
 have t:topFrom treeTable p w N ⟨boot_heap w.params,Array.mk [],boot_drawn,boot_toks,os⟩=some s₁:=by
  unfold topFrom
  dsimp only
  rw[z1,z2,z3]
  show(topRun treeTable p w 11 (some (.ref 6)) N _ (topStub p)).bind _=_
  rw[r]
  show(match staticsOk (importedModules p.main.body) (boot_heap w.params) s₁.heap&&namesBound p s₁.heap&&gensDone s₁&&laidKept (boot_heap w.params) s₁.heap with | true=>_ | false=>_)=_
  rw[l1]
 unfold openEnds
 rw[e1]
 show(topFrom treeTable p w N _).map _=_
 rw[t]
 exact congrArg some (Prod.ext l2 l3)
theorem walk_ex{l:PySem.W.OpenLaw}{n k:Nat}{q:Program}{loose:List Str}{XP:(Str->Option Value)->Heap->Prop}{α:Type}{f:Frag->α}{v:α}{d:DefRec}{CX:CXT}{sp:PySem.W.Frag->Sp}{x:Str}
  (hn:l.most=some n) (Ko:n<=sizeLine) (Ld:d.params.defaults=[]) (hr:Room k callerA)
  (F:∀ (w:World) (K:Frag) (mg:kW) (fa:Addr) (h:Heap),f K=v→K.In h→h.Ns mainGlobals mg→mg d.name=some (.ref fa) →
   ∃fd:FuncData,(∀(s:Shared) (u:Value),BindsTo s fd ⟨[u],[]⟩ [(x,u)]) /\
    ∀base:Heap,K.In base->base.Ns mainGlobals mg->FnOk l.prog w K mg base CX k fa fd [x] (sp K))
  (D5:∀(K:eC) (H:Hp) (a:Addr) (ns:List Int),ns.length<=n->aSk H->SqL K H a (ns.map V.int)->sp K [.ref a] H (λv _=>v=.bl true) λ_ _ _=>False)
  (Lp:∀(H:Hp) (s:Shared) (e:Value) (s':Shared),CX [] H s (λ_ _ _=>False) e s'->False) :
  PySem.W.WalkO q loose XP (exHook f v).says l.row.toRowW d [] (λf vs=>PySem.call f vs):=by
 refine Att.attach_call hn Ld λw s₀ s₁ mg mb fa o pm cd doc a vs ns G Y ho hd Ea Ks Gf Em Ah hg=>?_
 obtain⟨K,KX,hK⟩:=Y
 obtain⟨fd,hb,hF⟩:=F w K mg fa _ hK KX G.T.g Ks
 exact aGh KX G.T.g G.T.b G.T.builtins G.T.nolimit hg Gf Em (nzL Ah Ko) hr hF hb (λH hO hS=>D5 K H a ns Ah hO hS) λH e s'=>Lp H s₁ e s'
theorem jL{K:Frag}{s:Stmt}(h:vD K (gA s)=vW s):∃f fd,nsIn K mainGlobals (gA s)=some (some (.ref f))/\Fun K (gA s) (gA s) s f fd:=by
 unfold vD at h
 cases e:nsIn K mainGlobals (gA s)with
 |none=>rw[e]at h;cases h
 |some o =>
  cases o with
  |none=>rw[e]at h;cases h
  |some v =>
   cases v with
   |ref f =>
    rw[e]at h
    dsimp only at h
    cases e2:K.lookup f with
    |none=>rw[e2]at h;cases h
    |some ob =>
     obtain⟨oc,od,da,sl⟩:=ob
     rw[e2]at h
     cases da with
     |func fd =>
      obtain⟨nm,qn,pa,bo,sc,gl,cl,df,kw,dc,pm,an,cd,ct,bl⟩:=fd
      simp only[vW,Option.some.injEq,Prod.mk.injEq]at h
      obtain⟨⟨rfl,rfl,rfl,rfl,rfl⟩,⟨rfl,rfl,rfl,rfl⟩,h3⟩:=h
      refine⟨f,_,rfl,⟨oc,od,kw,dc,pm,an,cd,ct,sl,rfl,e2,h3⟩,?_⟩
      unfold keepIn
      dsimp only
      rw[e2]
     |_=>cases h
   |_=>rw[e]at h;cases h
theorem xU{K:Frag}{n:Str}(h:pT K n=true):nsIn K mainGlobals n=some none:=by
 unfold pT at h
 split at h
 ·assumption
 ·cases h
theorem aIk:∀{v:Value} {x:V},aMn v=some x->RelV x v
 | .none,x,h=>by cases h;rfl
 | .bool b,x,h=>by cases h;rfl
 | .int i t,x,h=>by cases h;exact⟨t,rfl⟩
 | .str i t,x,h=>by cases h;exact⟨t,rfl⟩
 | .bytes i t,x,h=>by cases h;exact⟨t,rfl⟩
 | .float i t,x,h=>by cases h;exact⟨t,rfl⟩
 | .ref a,x,h=>by cases h;rfl
 | .type n,x,h=>by cases h;rfl
 | .builtin _,x,h=>by cases h
theorem sO{K:Frag}{n:Str}{x:V}(h:vC K n=some x):∃v,nsIn K mainGlobals n=some (some v)/\RelV x v:=by
 unfold vC at h
 split at h
 ·exact⟨_,by assumption,aIk h⟩
 ·cases h
section
variable{K:Frag}{x qual:Str}{st:Stmt}{f:Addr}{p1 p2 p3 p4 p5 p6:Str}
abbrev BA(x qual:Str)(st:Stmt)(us:List Value)(r:List (Str×Value)):Prop:=∀(kV doc pm:Value) (an:Option Addr) (Af ct:Value),bindArgs (PySem.W.fnOf x qual (oR st) (gR st) (aO st) .none kV doc pm an Af ct) ⟨us,[]⟩=pure r
theorem gH(F:Fun K x qual st f fd)(h:∀a,BA x qual st [a] [(p1,a)]):Binds K fd [p1] []:=F.binds λ_ _ _ _ _ _ us hl=>by
 match us,hl with
 | [a],_=>exact h a _ _ _ _ _ _
theorem fU(F:Fun K x qual st f fd)(h:∀a b,BA x qual st [a,b] [(p1,a),(p2,b)]):Binds K fd [p1,p2] []:=F.binds λ_ _ _ _ _ _ us hl=>by
 match us,hl with
 | [a,b],_=>exact h a b _ _ _ _ _ _
theorem nA(F:Fun K x qual st f fd)(h:∀a b c,BA x qual st [a,b,c] [(p1,a),(p2,b),(p3,c)]):Binds K fd [p1,p2,p3] []:=F.binds λ_ _ _ _ _ _ us hl=>by
 match us,hl with
 | [a,b,c],_=>exact h a b c _ _ _ _ _ _
end
theorem i0{K:Frag}(h:bltNs.map (pT K)=List.replicate 17 true){n:Str}(i:Nat)(hi:i<17)(e:bltNs[i]? = some n):nsIn K mainGlobals n=some none:=by
 refine xU ?_
 have:=congrArg (λl=>l[i]?) h
 simp only[bX,e,Option.map_some,iD,hi,if_true,Option.some.injEq]at this
 exact this
end L2
namespace Lf
open PySem L2
def All2{α β:Type}(g:α->β->Prop):List α->List β->Prop
 | [],ys=>ys=[]
 |x::xs,ys=>∃y yr,ys=y::yr/\g x y/\All2 g xs yr
section
variable{α β:Type}{g h:α->β->Prop}
theorem All2.nil:All2 g [] []:=rfl
theorem All2.imp(i:∀v x,g v x->h v x):∀{vs:List α} {xs:List β},All2 g vs xs->All2 h vs xs
 | [],_,e=>e
 |_::_,_,⟨x,xr,e,a,b⟩=>⟨x,xr,e,i _ _ a,All2.imp i b⟩
theorem All2.len:∀{vs:List α} {xs:List β},All2 g vs xs->xs.length=vs.length
 | [],_,e=>by rw[show _=[]from e];rfl
 |_::_,_,⟨x,xr,e,a,b⟩=>by rw[e,aJ,aJ,All2.len b]
theorem All2.get:∀{vs:List α} {xs:List β} {i:Nat} {x:β},All2 g vs xs->xs[i]? = some x->∃v,vs[i]? = some v/\g v x
 | [],_,_,_,e,h=>by rw[show _=[]from e]at h;simp at h
 |v::vs,_,0,x,⟨y,yr,e,a,b⟩,h=>by rw[e]at h;cases(ozI h);exact⟨v,rfl,a⟩
 |v::vs,_,i+1,x,⟨y,yr,e,a,b⟩,h=>by
  rw[e]at h
  obtain⟨u,hu,hg⟩:=All2.get (i:=i) b (by simpa using h)
  exact⟨u,by simpa using hu,hg⟩
theorem All2.at:∀{vs:List α} {xs:List β} {i:Nat} {v:α},All2 g vs xs->vs[i]? = some v->∃x,xs[i]? = some x/\g v x
 | [],_,_,_,e,h=>by simp at h
 |v::vs,_,0,w,⟨y,yr,e,a,b⟩,h=>by rw[e];cases(ozI h);exact⟨y,rfl,a⟩
 |v::vs,_,i+1,w,⟨y,yr,e,a,b⟩,h=>by
  rw[e]
  obtain⟨u,hu,hg⟩:=All2.at (i:=i) b (by simpa using h)
  exact⟨u,by simpa using hu,hg⟩
theorem All2.app{us:List α}{ys:List β}(hu:All2 g us ys):∀{vs:List α} {xs:List β},All2 g vs xs->All2 g (vs++us) (xs++ys)
 | [],_,e=>by rw[show _=[]from e];exact hu
 |_::_,_,⟨y,yr,e,a,b⟩=>by rw[e];exact⟨y,yr++ys,rfl,a,All2.app hu b⟩
theorem All2.one{v:α}{x:β}(hg:g v x):All2 g [v] [x]:=⟨x,[],rfl,hg,rfl⟩
theorem All2.snoc{v:α}{x:β}(hg:g v x){vs:List α}{xs:List β}(h:All2 g vs xs):All2 g (vs++[v]) (xs++[x]):=All2.app (All2.one hg) h
theorem All2.take:∀(n:Nat) {vs:List α} {xs:List β},All2 g vs xs->All2 g (vs.take n) (xs.take n)
 | 0,_,_,_=>by simp only[List.take_zero];rfl
 |n+1,[],_,e=>by rw[show _=[]from e];rfl
 |n+1,_::_,_,⟨y,yr,e,a,b⟩=>by rw[e];exact⟨y,yr.take n,rfl,a,All2.take n b⟩
theorem All2.drop:∀(n:Nat) {vs:List α} {xs:List β},All2 g vs xs->All2 g (vs.drop n) (xs.drop n)
 | 0,_,_,h=>h
 |n+1,[],_,e=>by rw[show _=[]from e];rfl
 |n+1,_::_,_,⟨y,yr,e,a,b⟩=>by rw[e];exact All2.drop n b
theorem All2.set{v:α}{x:β}(hg:g v x):∀(i:Nat) {vs:List α} {xs:List β},All2 g vs xs->All2 g (vs.set i v) (xs.set i x)
 |_,[],_,e=>by rw[show _=[]from e];rfl
 | 0,_::_,_,⟨y,yr,e,a,b⟩=>by rw[e];exact⟨x,yr,rfl,hg,b⟩
 |i+1,_::_,_,⟨y,yr,e,a,b⟩=>by rw[e];exact⟨y,yr.set i x,rfl,a,All2.set hg i b⟩
end
inductive Dx where
 |non | bl (b:Bool) | int (i:Int) | str (x:Str) | tup (l:List Dx) | lst (l:List Dx) | dic (l:List (Key×Dx)) | scr (K:eC) (ns:List Int)
 |ins (C:Addr) (fs:List (Str×Dx)) | exc (c:Value) | pin (b:Addr) (x:Str)
def yP(a:Addr)(c:Value):Heap->Prop:=λh=>∃o vs,h.get? a=some o/\o.cls=c/\o.data=.fields vs/\o.dict=none
mutual
def IsX(H:Hp):Dx->V->Prop
 | .non,v=>v=.non
 | .bl b,v=>v=.bl b
 | .int i,v=>v=.int i
 | .str x,v=>v=.str x
 | .tup ds,v=>∃a vs,v=.ref a/\H a=some (.tup vs)/\IsXs H ds vs
 | .lst ds,v=>∃a vs,v=.ref a/\H a=some (.lst vs)/\IsXs H ds vs
 | .dic ks,v=>∃a ws,v=.ref a/\Rd H a (.dK ws)/\IsXk H ks ws
 | .scr K ns,v=>∃a,v=.ref a/\SqL K H a (ns.map V.int)
 | .ins C fs,v=>∃a dx ws,v=.ref a/\H a=some (.ins C dx ws)/\IsXf H fs ws
 | .exc c,v=>∃a,v=.ref a/\H a=some (.ext (yP a c))
 | .pin b x,v=>v=.ref b/\H b=some (.tup [.str x])
def IsXs(H:Hp):List Dx->List V->Prop
 | [],vs=>vs=[]
 |d::r,vs=>∃v vr,vs=v::vr/\IsX H d v/\IsXs H r vr
def IsXk(H:Hp):List (Key×Dx)->List (Key×V)->Prop
 | [],ws=>ws=[]
 |k::r,ws=>∃w wr,ws=w::wr/\(k.1=w.1/\IsX H k.2 w.2/\gP H k.1)/\IsXk H r wr
def IsXf(H:Hp):List (Str×Dx)->List (Str×V)->Prop
 | [],ws=>ws=[]
 |k::r,ws=>∃w wr,ws=w::wr/\(k.1=w.1/\IsX H k.2 w.2)/\IsXf H r wr
end
theorem IsXs.all{H:Hp}:∀{ds:List Dx} {vs:List V},IsXs H ds vs↔All2 (IsX H) ds vs
 | [],vs=>by simp only[IsXs,All2]
 |d::r,vs=>by
  simp only[IsXs,All2]
  constructor
  ·rintro⟨v,vr,e,a,b⟩;exact⟨v,vr,e,a,IsXs.all.mp b⟩
  ·rintro⟨v,vr,e,a,b⟩;exact⟨v,vr,e,a,IsXs.all.mpr b⟩
abbrev KvX(H:Hp)(k:Key×Dx)(w:Key×V):Prop:=k.1=w.1/\IsX H k.2 w.2/\gP H k.1
theorem IsXk.all{H:Hp}:∀{ds:List (Key×Dx)} {vs:List (Key×V)},IsXk H ds vs↔All2 (KvX H) ds vs
 | [],vs=>by simp only[IsXk,All2]
 |d::r,vs=>by
  simp only[IsXk,All2]
  constructor
  ·rintro⟨v,vr,e,a,b⟩;exact⟨v,vr,e,a,IsXk.all.mp b⟩
  ·rintro⟨v,vr,e,a,b⟩;exact⟨v,vr,e,a,IsXk.all.mpr b⟩
abbrev FvX(H:Hp)(k:Str×Dx)(w:Str×V):Prop:=k.1=w.1/\IsX H k.2 w.2
theorem IsXf.all{H:Hp}:∀{ds:List (Str×Dx)} {vs:List (Str×V)},IsXf H ds vs↔All2 (FvX H) ds vs
 | [],vs=>by simp only[IsXf,All2]
 |d::r,vs=>by
  simp only[IsXf,All2]
  constructor
  ·rintro⟨v,vr,e,a,b⟩;exact⟨v,vr,e,a,IsXf.all.mp b⟩
  ·rintro⟨v,vr,e,a,b⟩;exact⟨v,vr,e,a,IsXf.all.mpr b⟩
def SameF(H H':Hp):Prop:=∀b o,H b=some o->H' b=some o\/∃ob ws,(o=.dK ws/\H' b=some (.frz ob (.dK ws)))\/(o=.frz ob (.dK ws)/\H' b=some (.dK ws))
theorem SameF.of{H H':Hp}(e:Same H H'):SameF H H':=λb o h=>.inl (e _ _ h)
theorem SameF.tup{H H':Hp}(e:SameF H H'){a:Addr}{vs:List V}(h:H a=some (.tup vs)):H' a=some (.tup vs):=by
 rcases e _ _ h with q | ⟨ob,ws,q | q⟩
 ·exact q
 ·cases q.1
 ·cases q.1
theorem SameF.keyT{H H':Hp}(e:SameF H H'){k:Key}(h:gP H k):gP H' k:=by
 cases k<;>first | exact True.intro | exact e.tup h
theorem SameF.lst{H H':Hp}(e:SameF H H'){a:Addr}{vs:List V}(h:H a=some (.lst vs)):H' a=some (.lst vs):=by
 rcases e _ _ h with q | ⟨ob,ws,q | q⟩
 ·exact q
 ·cases q.1
 ·cases q.1
theorem SameF.dic{H H':Hp}(e:SameF H H'){a:Addr}{ws:List (Key×V)}(h:Rd H a (.dK ws)):Rd H' a (.dK ws):=by
 rcases h with h | ⟨o,h⟩
 ·rcases e _ _ h with q | ⟨ob,ws,q | q⟩
  ·exact .inl q
  ·obtain⟨q1,q2⟩:=q;cases q1;exact .inr ⟨_,q2⟩
  ·cases q.1
 ·rcases e _ _ h with q | ⟨ob,ws,q | q⟩
  ·exact .inr ⟨_,q⟩
  ·cases q.1
  ·obtain⟨q1,q2⟩:=q;cases q1;exact .inl q2
theorem SameF.ins{H H':Hp}(e:SameF H H'){a C dx:Addr}{ws:List (Str×V)}(h:H a=some (.ins C dx ws)):H' a=some (.ins C dx ws):=by
 rcases e _ _ h with q | ⟨ob,ws,q | q⟩
 ·exact q
 ·cases q.1
 ·cases q.1
theorem SameF.ext{H H':Hp}(e:SameF H H'){a:Addr}{φ:Heap->Prop}(h:H a=some (.ext φ)):H' a=some (.ext φ):=by
 rcases e _ _ h with q | ⟨ob,ws,q | q⟩
 ·exact q
 ·cases q.1
 ·cases q.1
theorem SameF.sq{H H':Hp}(e:SameF H H'){K:eC}{a:Addr}{xs:List V}(h:SqL K H a xs):SqL K H' a xs:=by
 rcases h with(h | ⟨o,h⟩) | h
 ·exact .inl (.inl (e.lst h))
 ·rcases e _ _ h with q | ⟨ob,ws,q | q⟩
  ·exact .inl (.inr ⟨o,q⟩)
  ·cases q.1
  ·cases q.1
 ·exact .inr h
mutual
theorem IsX.sameF{H H':Hp}(e:SameF H H'):∀(d:Dx) (v:V),IsX H d v->IsX H' d v
 | .non,v,h=>by simpa only[IsX]using h
 | .bl _,v,h=>by simpa only[IsX]using h
 | .int _,v,h=>by simpa only[IsX]using h
 | .str _,v,h=>by simpa only[IsX]using h
 | .tup ds,v,h=>by
  simp only[IsX]at h ⊢
  obtain⟨a,vs,h1,h2,h3⟩:=h
  exact⟨a,vs,h1,e.tup h2,IsXs.sameF e ds vs h3⟩
 | .lst ds,v,h=>by
  simp only[IsX]at h ⊢
  obtain⟨a,vs,h1,h2,h3⟩:=h
  exact⟨a,vs,h1,e.lst h2,IsXs.sameF e ds vs h3⟩
 | .dic ks,v,h=>by
  simp only[IsX]at h ⊢
  obtain⟨a,ws,h1,h2,h3⟩:=h
  exact⟨a,ws,h1,e.dic h2,IsXk.sameF e ks ws h3⟩
 | .scr K ns,v,h=>by
  simp only[IsX]at h ⊢
  obtain⟨a,h1,h2⟩:=h
  exact⟨a,h1,e.sq h2⟩
 | .ins C fs,v,h=>by
  simp only[IsX]at h ⊢
  obtain⟨a,dx,ws,h1,h2,h3⟩:=h
  exact⟨a,dx,ws,h1,e.ins h2,IsXf.sameF e fs ws h3⟩
 | .exc c,v,h=>by
  simp only[IsX]at h ⊢
  obtain⟨a,h1,h2⟩:=h
  exact⟨a,h1,e.ext h2⟩
 | .pin b x,v,h=>by
  simp only[IsX]at h ⊢
  exact⟨h.1,e.tup h.2⟩
theorem IsXs.sameF{H H':Hp}(e:SameF H H'):∀(ds:List Dx) (vs:List V),IsXs H ds vs->IsXs H' ds vs
 | [],vs,h=>by simpa only[IsXs]using h
 |d::r,vs,h=>by
  simp only[IsXs]at h ⊢
  obtain⟨v,vr,h1,h2,h3⟩:=h
  exact⟨v,vr,h1,IsX.sameF e d v h2,IsXs.sameF e r vr h3⟩
theorem IsXk.sameF{H H':Hp}(e:SameF H H'):∀(ds:List (Key×Dx)) (ws:List (Key×V)),IsXk H ds ws->IsXk H' ds ws
 | [],vs,h=>by simpa only[IsXk]using h
 |d::r,vs,h=>by
  simp only[IsXk]at h ⊢
  obtain⟨v,vr,h1,h2,h3⟩:=h
  exact⟨v,vr,h1,⟨h2.1,IsX.sameF e d.2 v.2 h2.2.1,e.keyT h2.2.2⟩,IsXk.sameF e r vr h3⟩
theorem IsXf.sameF{H H':Hp}(e:SameF H H'):∀(ds:List (Str×Dx)) (ws:List (Str×V)),IsXf H ds ws->IsXf H' ds ws
 | [],vs,h=>by simpa only[IsXf]using h
 |d::r,vs,h=>by
  simp only[IsXf]at h ⊢
  obtain⟨v,vr,h1,h2,h3⟩:=h
  exact⟨v,vr,h1,⟨h2.1,IsX.sameF e d.2 v.2 h2.2⟩,IsXf.sameF e r vr h3⟩
end
theorem IsX.toF{H H':Hp}{d:Dx}{v:V}(h:IsX H d v)(e:SameF H H'):IsX H' d v:=IsX.sameF e d v h
theorem IsX.to{H H':Hp}{d:Dx}{v:V}(h:IsX H d v)(e:Same H H'):IsX H' d v:=IsX.sameF (.of e) d v h
theorem IsX.int_eq{H:Hp}{i:Int}{v:V}(h:IsX H (.int i) v):v=.int i:=by simpa only[IsX]using h
theorem IsX.bl_eq{H:Hp}{i:Bool}{v:V}(h:IsX H (.bl i) v):v=.bl i:=by simpa only[IsX]using h
theorem IsX.str_eq{H:Hp}{i:Str}{v:V}(h:IsX H (.str i) v):v=.str i:=by simpa only[IsX]using h
theorem IsX.non_eq{H:Hp}{v:V}(h:IsX H .non v):v=.non:=by simpa only[IsX]using h
theorem IsX.tup_eq{H:Hp}{l:List Dx}{v:V}(h:IsX H (.tup l) v):∃a vs,v=.ref a/\H a=some (.tup vs)/\All2 (IsX H) l vs:=by
 simp only[IsX]at h
 obtain⟨a,vs,h1,h2,h3⟩:=h
 exact⟨a,vs,h1,h2,IsXs.all.mp h3⟩
theorem IsX.lst_eq{H:Hp}{l:List Dx}{v:V}(h:IsX H (.lst l) v):∃a vs,v=.ref a/\H a=some (.lst vs)/\All2 (IsX H) l vs:=by
 simp only[IsX]at h
 obtain⟨a,vs,h1,h2,h3⟩:=h
 exact⟨a,vs,h1,h2,IsXs.all.mp h3⟩
theorem IsX.dic_eq{H:Hp}{l:List (Key×Dx)}{v:V}(h:IsX H (.dic l) v):∃a ws,v=.ref a/\Rd H a (.dK ws)/\All2 (KvX H) l ws:=by
 simp only[IsX]at h
 obtain⟨a,vs,h1,h2,h3⟩:=h
 exact⟨a,vs,h1,h2,IsXk.all.mp h3⟩
theorem IsX.scr_eq{H:Hp}{K:eC}{ns:List Int}{v:V}(h:IsX H (.scr K ns) v):∃a,v=.ref a/\SqL K H a (ns.map V.int):=by simpa only[IsX]using h
theorem IsX.of_scr{H:Hp}{K:eC}{ns:List Int}{a:Addr}(h:SqL K H a (ns.map V.int)):IsX H (.scr K ns) (.ref a):=by simp only[IsX];exact⟨a,rfl,h⟩
theorem IsX.ins_eq{H:Hp}{C:Addr}{fs:List (Str×Dx)}{v:V}(h:IsX H (.ins C fs) v):∃a dx ws,v=.ref a/\H a=some (.ins C dx ws)/\All2 (FvX H) fs ws:=by
 simp only[IsX]at h
 obtain⟨a,dx,ws,h1,h2,h3⟩:=h
 exact⟨a,dx,ws,h1,h2,IsXf.all.mp h3⟩
theorem IsX.exc_eq{H:Hp}{c:Value}{v:V}(h:IsX H (.exc c) v):∃a,v=.ref a/\H a=some (.ext (yP a c)):=by simpa only[IsX]using h
theorem IsX.of_ins{H:Hp}{C a dx:Addr}{fs:List (Str×Dx)}{ws:List (Str×V)}(h:H a=some (.ins C dx ws))(h':All2 (FvX H) fs ws):IsX H (.ins C fs) (.ref a):=by simp only[IsX];exact⟨a,dx,ws,rfl,h,IsXf.all.mpr h'⟩
theorem IsX.of_exc{H:Hp}{c:Value}{a:Addr}(h:H a=some (.ext (yP a c))):IsX H (.exc c) (.ref a):=by simp only[IsX];exact⟨a,rfl,h⟩
theorem IsX.pin_eq{H:Hp}{b:Addr}{x:Str}{v:V}(h:IsX H (.pin b x) v):v=.ref b/\H b=some (.tup [.str x]):=by simpa only[IsX]using h
theorem IsX.of_pin{H:Hp}{b:Addr}{x:Str}(h:H b=some (.tup [.str x])):IsX H (.pin b x) (.ref b):=by simp only[IsX];exact⟨trivial,h⟩
theorem IsX.of_int{H:Hp}(i:Int):IsX H (.int i) (.int i):=by simp only[IsX]
theorem IsX.of_bl{H:Hp}(i:Bool):IsX H (.bl i) (.bl i):=by simp only[IsX]
theorem IsX.of_str{H:Hp}(i:Str):IsX H (.str i) (.str i):=by simp only[IsX]
theorem IsX.of_non{H:Hp}:IsX H .non .non:=by simp only[IsX]
theorem IsX.of_tup{H:Hp}{l:List Dx}{a:Addr}{vs:List V}(h:H a=some (.tup vs))(h':All2 (IsX H) l vs):IsX H (.tup l) (.ref a):=by simp only[IsX];exact⟨a,vs,rfl,h,IsXs.all.mpr h'⟩
theorem IsX.of_lst{H:Hp}{l:List Dx}{a:Addr}{vs:List V}(h:H a=some (.lst vs))(h':All2 (IsX H) l vs):IsX H (.lst l) (.ref a):=by simp only[IsX];exact⟨a,vs,rfl,h,IsXs.all.mpr h'⟩
theorem IsX.of_dic{H:Hp}{l:List (Key×Dx)}{a:Addr}{vs:List (Key×V)}(h:Rd H a (.dK vs))(h':All2 (KvX H) l vs):IsX H (.dic l) (.ref a):=by simp only[IsX];exact⟨a,vs,rfl,h,IsXk.all.mpr h'⟩
inductive Ow where
 |tr (d:Dx) | ol (a:Addr) (l:List Ow) | od (a:Addr) (l:List (Key×Ow)) | oi (C a dx:Addr) (l:List (Str×Ow)) | ot (l:List Ow)
mutual
def Ow.d:Ow->Dx
 | .tr d=>d
 | .ol _ l=>.lst (aBf l)
 | .od _ l=>.dic (aFm l)
 | .oi C _ _ l=>.ins C (aFn l)
 | .ot l=>.tup (aBf l)
def aBf:List Ow->List Dx
 | []=>[]
 |o::r=>o.d::aBf r
def aFm:List (Key×Ow)->List (Key×Dx)
 | []=>[]
 |o::r=>(o.1,o.2.d)::aFm r
def aFn:List (Str×Ow)->List (Str×Dx)
 | []=>[]
 |o::r=>(o.1,o.2.d)::aFn r
end
mutual
def Ow.fp:Ow->List Addr
 | .tr _=>[]
 | .ol a l=>a::rL l
 | .od a l=>a::uZ l
 | .oi _ a dx l=>a::dx::vA l
 | .ot l=>rL l
def rL:List Ow->List Addr
 | []=>[]
 |o::r=>o.fp++rL r
def uZ:List (Key×Ow)->List Addr
 | []=>[]
 |o::r=>o.2.fp++uZ r
def vA:List (Str×Ow)->List Addr
 | []=>[]
 |o::r=>o.2.fp++vA r
end
mutual
def OwOk(G H:Hp):Ow->V->Prop
 | .tr d,v=>IsX G d v
 | .ol a l,v=>v=.ref a/\∃vs,H a=some (.lst vs)/\OwOks G H l vs
 | .od a l,v=>v=.ref a/\∃ws,H a=some (.dK ws)/\OwOkk G H l ws
 | .oi C a dx l,v=>v=.ref a/\∃ws,H a=some (.ins C dx ws)/\H dx=some (.own a)/\OwOkf G H l ws
 | .ot l,v=>∃a vs,v=.ref a/\G a=some (.tup vs)/\OwOks G H l vs
def OwOks(G H:Hp):List Ow->List V->Prop
 | [],vs=>vs=[]
 |o::r,vs=>∃v vr,vs=v::vr/\OwOk G H o v/\OwOks G H r vr
def OwOkk(G H:Hp):List (Key×Ow)->List (Key×V)->Prop
 | [],vs=>vs=[]
 |o::r,vs=>∃v vr,vs=v::vr/\(o.1=v.1/\OwOk G H o.2 v.2/\gP G o.1)/\OwOkk G H r vr
def OwOkf(G H:Hp):List (Str×Ow)->List (Str×V)->Prop
 | [],vs=>vs=[]
 |o::r,vs=>∃v vr,vs=v::vr/\(o.1=v.1/\OwOk G H o.2 v.2)/\OwOkf G H r vr
end
section
variable{G G' H H':Hp}
mutual
theorem OwOk.mono(e:SameF G G'):∀(o:Ow) (v:V),(∀b∈o.fp,H' b=H b)->OwOk G H o v->OwOk G' H' o v
 | .tr d,v,_,h=>by simp only[OwOk]at h ⊢;exact h.toF e
 | .ol a l,v,k,h=>by
  simp only[OwOk,Ow.fp]at h k ⊢
  obtain⟨h1,vs,h2,h3⟩:=h
  exact⟨h1,vs,by rw[k a aA];exact h2,OwOks.mono e l vs (λb hb=>k b (aB _ hb)) h3⟩
 | .od a l,v,k,h=>by
  simp only[OwOk,Ow.fp]at h k ⊢
  obtain⟨h1,vs,h2,h3⟩:=h
  exact⟨h1,vs,by rw[k a aA];exact h2,OwOkk.mono e l vs (λb hb=>k b (aB _ hb)) h3⟩
 | .oi C a dx l,v,k,h=>by
  simp only[OwOk,Ow.fp]at h k ⊢
  obtain⟨h1,vs,h2,h4,h3⟩:=h
  exact⟨h1,vs,by rw[k a aA];exact h2,by rw[k dx (aB _ aA)];exact h4,OwOkf.mono e l vs (λb hb=>k b (aB _ (aB _ hb))) h3⟩
 | .ot l,v,k,h=>by
  simp only[OwOk,Ow.fp]at h k ⊢
  obtain⟨a,vs,h1,h2,h3⟩:=h
  exact⟨a,vs,h1,e.tup h2,OwOks.mono e l vs k h3⟩
theorem OwOks.mono(e:SameF G G'):∀(l:List Ow) (vs:List V),(∀b∈rL l,H' b=H b)->OwOks G H l vs->OwOks G' H' l vs
 | [],vs,_,h=>by simpa only[OwOks]using h
 |o::r,vs,k,h=>by
  simp only[OwOks,rL]at h k ⊢
  obtain⟨v,vr,h1,h2,h3⟩:=h
  exact⟨v,vr,h1,OwOk.mono e o v (λb hb=>k b (bF _ hb)) h2,OwOks.mono e r vr (λb hb=>k b (aI _ hb)) h3⟩
theorem OwOkk.mono(e:SameF G G'):∀(l:List (Key×Ow)) (vs:List (Key×V)),(∀b∈uZ l,H' b=H b)->OwOkk G H l vs->OwOkk G' H' l vs
 | [],vs,_,h=>by simpa only[OwOkk]using h
 |o::r,vs,k,h=>by
  simp only[OwOkk,uZ]at h k ⊢
  obtain⟨v,vr,h1,h2,h3⟩:=h
  exact⟨v,vr,h1,⟨h2.1,OwOk.mono e o.2 v.2 (λb hb=>k b (bF _ hb)) h2.2.1,e.keyT h2.2.2⟩,OwOkk.mono e r vr (λb hb=>k b (aI _ hb)) h3⟩
theorem OwOkf.mono(e:SameF G G'):∀(l:List (Str×Ow)) (vs:List (Str×V)),(∀b∈vA l,H' b=H b)->OwOkf G H l vs->OwOkf G' H' l vs
 | [],vs,_,h=>by simpa only[OwOkf]using h
 |o::r,vs,k,h=>by
  simp only[OwOkf,vA]at h k ⊢
  obtain⟨v,vr,h1,h2,h3⟩:=h
  exact⟨v,vr,h1,⟨h2.1,OwOk.mono e o.2 v.2 (λb hb=>k b (bF _ hb)) h2.2⟩,OwOkf.mono e r vr (λb hb=>k b (aI _ hb)) h3⟩
end
def aMp(H:Hp)(b:Addr):Prop:=∃o,H b=some o/\(∀ob u,o ≠ .frz ob u)/\∀vs,o ≠ .tup vs
mutual
theorem OwOk.there:∀(o:Ow) (v:V),OwOk G H o v->∀b∈o.fp,aMp H b
 | .tr d,v,_,b,hb=>by simp only[Ow.fp]at hb;cases hb
 | .ol a l,v,h,b,hb=>by
  simp only[OwOk,Ow.fp]at h hb
  obtain⟨h1,vs,h2,h3⟩:=h
  rcases aE.mp hb with rfl | hb
  ·exact⟨_,h2,(λ_ _ z=>nomatch z),λ_ z=>nomatch z⟩
  ·exact OwOks.there l vs h3 b hb
 | .od a l,v,h,b,hb=>by
  simp only[OwOk,Ow.fp]at h hb
  obtain⟨h1,vs,h2,h3⟩:=h
  rcases aE.mp hb with rfl | hb
  ·exact⟨_,h2,(λ_ _ z=>nomatch z),λ_ z=>nomatch z⟩
  ·exact OwOkk.there l vs h3 b hb
 | .oi C a dx l,v,h,b,hb=>by
  simp only[OwOk,Ow.fp]at h hb
  obtain⟨h1,vs,h2,h4,h3⟩:=h
  rcases aE.mp hb with rfl | hb
  ·exact⟨_,h2,(λ_ _ z=>nomatch z),λ_ z=>nomatch z⟩
  ·rcases aE.mp hb with rfl | hb
   ·exact⟨_,h4,(λ_ _ z=>nomatch z),λ_ z=>nomatch z⟩
   ·exact OwOkf.there l vs h3 b hb
 | .ot l,v,h,b,hb=>by
  simp only[OwOk,Ow.fp]at h hb
  obtain⟨a,vs,h1,h2,h3⟩:=h
  exact OwOks.there l vs h3 b hb
theorem OwOks.there:∀(l:List Ow) (vs:List V),OwOks G H l vs->∀b∈rL l,aMp H b
 | [],vs,_,b,hb=>by simp only[rL]at hb;cases hb
 |o::r,vs,h,b,hb=>by
  simp only[OwOks,rL]at h hb
  obtain⟨v,vr,h1,h2,h3⟩:=h
  rcases bK.mp hb with hb | hb
  ·exact OwOk.there o v h2 b hb
  ·exact OwOks.there r vr h3 b hb
theorem OwOkk.there:∀(l:List (Key×Ow)) (vs:List (Key×V)),OwOkk G H l vs->∀b∈uZ l,aMp H b
 | [],vs,_,b,hb=>by simp only[uZ]at hb;cases hb
 |o::r,vs,h,b,hb=>by
  simp only[OwOkk,uZ]at h hb
  obtain⟨v,vr,h1,h2,h3⟩:=h
  rcases bK.mp hb with hb | hb
  ·exact OwOk.there o.2 v.2 h2.2.1 b hb
  ·exact OwOkk.there r vr h3 b hb
theorem OwOkf.there:∀(l:List (Str×Ow)) (vs:List (Str×V)),OwOkf G H l vs->∀b∈vA l,aMp H b
 | [],vs,_,b,hb=>by simp only[vA]at hb;cases hb
 |o::r,vs,h,b,hb=>by
  simp only[OwOkf,vA]at h hb
  obtain⟨v,vr,h1,h2,h3⟩:=h
  rcases bK.mp hb with hb | hb
  ·exact OwOk.there o.2 v.2 h2.2 b hb
  ·exact OwOkf.there r vr h3 b hb
end
mutual
theorem OwOk.tree(e:SameF G G'):∀(o:Ow) (v:V),(∀b∈o.fp,G' b=H b)->OwOk G H o v->IsX G' o.d v
 | .tr d,v,_,h=>by simp only[OwOk,Ow.d]at h ⊢;exact h.toF e
 | .ol a l,v,k,h=>by
  simp only[OwOk,Ow.fp,Ow.d]at h k ⊢
  obtain⟨h1,vs,h2,h3⟩:=h
  subst h1
  exact IsX.of_lst (by rw[k a aA];exact h2) (OwOks.tree e l vs (λb hb=>k b (aB _ hb)) h3)
 | .od a l,v,k,h=>by
  simp only[OwOk,Ow.fp,Ow.d]at h k ⊢
  obtain⟨h1,vs,h2,h3⟩:=h
  subst h1
  exact IsX.of_dic (.inl (by rw[k a aA];exact h2)) (OwOkk.tree e l vs (λb hb=>k b (aB _ hb)) h3)
 | .oi C a dx l,v,k,h=>by
  simp only[OwOk,Ow.fp,Ow.d]at h k ⊢
  obtain⟨h1,vs,h2,h4,h3⟩:=h
  subst h1
  exact IsX.of_ins (by rw[k a aA];exact h2) (OwOkf.tree e l vs (λb hb=>k b (aB _ (aB _ hb))) h3)
 | .ot l,v,k,h=>by
  simp only[OwOk,Ow.fp,Ow.d]at h k ⊢
  obtain⟨a,vs,h1,h2,h3⟩:=h
  subst h1
  exact IsX.of_tup (e.tup h2) (OwOks.tree e l vs k h3)
theorem OwOks.tree(e:SameF G G'):∀(l:List Ow) (vs:List V),(∀b∈rL l,G' b=H b)->OwOks G H l vs->All2 (IsX G') (aBf l) vs
 | [],vs,_,h=>by simpa only[OwOks,aBf,All2]using h
 |o::r,vs,k,h=>by
  simp only[OwOks,rL,aBf]at h k ⊢
  obtain⟨v,vr,h1,h2,h3⟩:=h
  exact⟨v,vr,h1,OwOk.tree e o v (λb hb=>k b (bF _ hb)) h2,OwOks.tree e r vr (λb hb=>k b (aI _ hb)) h3⟩
theorem OwOkk.tree(e:SameF G G'):∀(l:List (Key×Ow)) (vs:List (Key×V)),(∀b∈uZ l,G' b=H b)->OwOkk G H l vs->All2 (KvX G') (aFm l) vs
 | [],vs,_,h=>by simpa only[OwOkk,aFm,All2]using h
 |o::r,vs,k,h=>by
  simp only[OwOkk,uZ,aFm]at h k ⊢
  obtain⟨v,vr,h1,h2,h3⟩:=h
  exact⟨v,vr,h1,⟨h2.1,OwOk.tree e o.2 v.2 (λb hb=>k b (bF _ hb)) h2.2.1,e.keyT h2.2.2⟩,OwOkk.tree e r vr (λb hb=>k b (aI _ hb)) h3⟩
theorem OwOkf.tree(e:SameF G G'):∀(l:List (Str×Ow)) (vs:List (Str×V)),(∀b∈vA l,G' b=H b)->OwOkf G H l vs->All2 (FvX G') (aFn l) vs
 | [],vs,_,h=>by simpa only[OwOkf,aFn,All2]using h
 |o::r,vs,k,h=>by
  simp only[OwOkf,vA,aFn]at h k ⊢
  obtain⟨v,vr,h1,h2,h3⟩:=h
  exact⟨v,vr,h1,⟨h2.1,OwOk.tree e o.2 v.2 (λb hb=>k b (bF _ hb)) h2.2⟩,OwOkf.tree e r vr (λb hb=>k b (aI _ hb)) h3⟩
end
end
inductive Sv where
 |tr (d:Dx) | ol (l:List Dx) | od (l:List (Key×Dx)) | ow (o:Ow)
def Sv.d:Sv->Dx
 | .tr d=>d
 | .ol l=>.lst l
 | .od l=>.dic l
 | .ow o=>o.d
inductive Sl where
 |un | v (s:Sv) | bw (l:List Dx) | bo (o:Ow) | pn (v:V) | ba (a:Addr) (l:List Dx)
abbrev vT(d:Dx):Sl:=.v (.tr d)
abbrev Rw:=Sl×Option V
def iN:Rw->List Addr
 |(.v (.ol _),some (.ref a))=>[a]
 |(.v (.od _),some (.ref a))=>[a]
 |(.bw _,some (.ref a))=>[a]
 |(.v (.ow o),_)=>o.fp
 |(.bo o,_)=>o.fp
 |(.ba a _,_)=>[a]
 |_=>[]
def cB(P:List Rw):List Addr:=P.flatMap iN
def hid(O:List Addr)(H:Hp):Hp:=λb=>if b∈O then none else H b
theorem bH{O:List Addr}{H:Hp}{b:Addr}{o:HO}:hid O H b=some o↔b∉O/\H b=some o:=by
 unfold hid
 by_cases h:b∈O
 ·rw[if_pos h];simp[h]
 ·rw[if_neg h];simp[h]
theorem qH{O:List Addr}{H H':Hp}(e:Same H H'):Same (hid O H) (hid O H'):=λb o h=>bH.mpr ⟨(bH.mp h).1,e _ _ (bH.mp h).2⟩
theorem nM{O O':List Addr}{H:Hp}(e:∀a∈O',a∈O):Same (hid O H) (hid O' H):=λb o h=>bH.mpr ⟨λz=>(bH.mp h).1 (e _ z),(bH.mp h).2⟩
theorem v9{O:List Addr}{H:Hp}:Same (hid O H) H:=λb o h=>(bH.mp h).2
def nf:Option HO->Option HO
 |some (.frz _ _)=>none
 |o=>o
theorem oI{x:Option HO}{o:HO}(h:nf x=some o):x=some o:=by
 unfold nf at h
 split at h
 ·cases h
 ·exact h
theorem vE{x y:Option HO}{o:HO}(h:nf x=some o)(e:∀o,x=some o->y=some o):nf y=some o:=by
 have hx:=oI h
 rw[hx]at h
 rw[e o hx]
 exact h
def ext(Hs H0 H:Hp):Hp:=λb=>match H0 b with | none=>nf (H b) | some _=>Hs b
theorem oV{Hs H0 H:Hp}{b:Addr}(h:H0 b=none):ext Hs H0 H b=nf (H b):=by unfold ext;rw[h]
theorem nJ{Hs H0 H:Hp}{b:Addr}{o:HO}(h:H0 b=some o):ext Hs H0 H b=Hs b:=by unfold ext;rw[h]
theorem gp_{Hs H0 H H':Hp}(e:Same H H'):Same (ext Hs H0 H) (ext Hs H0 H'):=λb o h=>by
 cases q:H0 b with
 |none=>rw[oV q]at h ⊢;exact vE h (e b)
 |some u=>rw[nJ q]at h ⊢;exact h
def RowOk(O:List Addr)(G H:Hp):Rw->Prop
 |(.un,_)=>True
 |(.pn w,v)=>v=some w
 |(.v (.tr d),v)=>∃x,v=some x/\IsX (hid O G) d x
 |(.v (.ol l),v)=>∃a vs,v=some (.ref a)/\H a=some (.lst vs)/\All2 (IsX (hid O G)) l vs
 |(.v (.od l),v)=>∃a ws,v=some (.ref a)/\H a=some (.dK ws)/\All2 (KvX (hid O G)) l ws
 |(.bw l,v)=>∃a vs,v=some (.ref a)/\H a=some (.lst vs)/\All2 (IsX (hid O G)) l vs
 |(.v (.ow o),v)=>∃x,v=some x/\OwOk (hid O G) H o x
 |(.bo o,v)=>∃x,v=some x/\OwOk (hid O G) H o x
 |(.ba a l,v)=>v=some (.ref a)/\∃vs,H a=some (.lst vs)/\All2 (IsX (hid O G)) l vs
theorem KvX.toF{H H':Hp}{k:Key×Dx}{w:Key×V}(h:KvX H k w)(e:SameF H H'):KvX H' k w:=⟨h.1,h.2.1.toF e,e.keyT h.2.2⟩
theorem KvX.to{H H':Hp}{k:Key×Dx}{w:Key×V}(h:KvX H k w)(e:Same H H'):KvX H' k w:=⟨h.1,h.2.1.to e,(SameF.of e).keyT h.2.2⟩
theorem RowOk.mono{O O':List Addr}{G G' H H':Hp}{r:Rw}(h:RowOk O G H r)(e:SameF (hid O G) (hid O' G'))(ho:∀a∈iN r,H' a=H a):RowOk O' G' H' r:=by
 match r,h,ho with
 |(.un,_),_,_=>trivial
 |(.pn w,v),h,_=>exact h
 |(.v (.tr d),v),⟨x,h1,h2⟩,_=>exact⟨x,h1,h2.toF e⟩
 |(.v (.ol l),v),⟨a,vs,h1,h2,h3⟩,ho =>
  subst h1
  exact⟨a,vs,rfl,by rw[ho a (aF.mpr rfl)];exact h2,h3.imp λ_ _ z=>z.toF e⟩
 |(.v (.od l),v),⟨a,vs,h1,h2,h3⟩,ho =>
  subst h1
  exact⟨a,vs,rfl,by rw[ho a (aF.mpr rfl)];exact h2,h3.imp λ_ _ z=>z.toF e⟩
 |(.bw l,v),⟨a,vs,h1,h2,h3⟩,ho =>
  subst h1
  exact⟨a,vs,rfl,by rw[ho a (aF.mpr rfl)];exact h2,h3.imp λ_ _ z=>z.toF e⟩
 |(.v (.ow o),v),⟨x,h1,h2⟩,ho=>exact⟨x,h1,OwOk.mono e o x ho h2⟩
 |(.bo o,v),⟨x,h1,h2⟩,ho=>exact⟨x,h1,OwOk.mono e o x ho h2⟩
 |(.ba a l,v),⟨h1,vs,h2,h3⟩,ho=>exact⟨h1,vs,by rw[ho a (aF.mpr rfl)];exact h2,h3.imp λ_ _ z=>z.toF e⟩
structure Fm where
 H0:Hp
 Hs:Hp
 B:List Addr
 sub:Same Hs H0
 nb:∀b∈B,Hs b=none
 ib:∀b∈B,∃o,H0 b=some o
abbrev Fm.vis(F:Fm)(H:Hp):Hp:=ext F.Hs F.H0 H
def FrOk(F:Fm)(r:Rw)(a:Addr):Prop:=match r.1 with
 | .bw _=>a∈F.B
 | .bo _=>a∈F.B\/F.H0 a=none
 | .ba _ _=>a∈F.B
 |_=>F.H0 a=none
theorem FrOk.or{F:Fm}{r:Rw}{a:Addr}(h:FrOk F r a):a∈F.B\/F.H0 a=none:=by
 unfold FrOk at h
 split at h
 ·exact .inl h
 ·exact h
 ·exact .inl h
 ·exact .inr h
structure Rep(F:Fm)(P:List Rw)(H:Hp):Prop where
 nd:(cB P).Nodup
 ok:∀r∈P,RowOk (cB P) (F.vis H) H r
 fr:∀r∈P,∀a∈iN r,FrOk F r a
 kp:∀b o,F.H0 b=some o->b∉F.B->H b=some o
 lv:∀b∈F.B,∃o,H b=some o
section
variable{F:Fm}{P P':List Rw}{H H':Hp}{r r':Rw}{d:Dx}{v:V}{a p:Addr}{l l':List Dx}{vs vs':List V}{k k':List (Key×Dx)}{ws ws':List (Key×V)}{s:Sv}{x:Option V}
theorem ci_:cB (r::P)=iN r++cB P:=by
 unfold cB
 rw[List.flatMap_cons]
theorem mE(h:iN r=[a]):cB (r::P)=a::cB P:=by rw[ci_,h];rfl
theorem dz_(h:iN r=[]):cB (r::P)=cB P:=by rw[ci_,h];rfl
theorem aBe(h:P.Perm P'):(cB P).Perm (cB P'):=h.flatMap_right _
theorem Rep.vis(R:Rep F P H):Same (F.vis H) H:=λb o h=>by
 cases q:F.H0 b with
 |none=>exact oI ((oV q).symm.trans h)
 |some u =>
  have h:=(nJ q).symm.trans h
  have:=F.sub _ _ h
  exact R.kp b o this λz=>by rw[F.nb b z]at h;cases h
theorem Rep.hv(R:Rep F P H){O:List Addr}:Same (hid O (F.vis H)) H:=λb o h=>R.vis b o (bH.mp h).2
theorem Rep.fresh(R:Rep F P H)(hp:H p=none):F.H0 p=none:=by
 cases q:F.H0 p with
 |none=>rfl
 |some o =>
  by_cases hB:p∈F.B
  ·obtain⟨u,hu⟩:=R.lv p hB;rw[hp]at hu;cases hu
  ·rw[R.kp p o q hB]at hp;cases hp
theorem Rep.perm(R:Rep F P H)(h:P.Perm P'):Rep F P' H:=by
 have hp:(cB P).Perm (cB P'):=aBe h
 exact⟨hp.nodup_iff.mp R.nd,λr hr=>(R.ok r (h.mem_iff.mpr hr)).mono (.of (nM λa ha=>hp.mem_iff.mpr ha)) λ_ _=>rfl,λr hr=>R.fr r (h.mem_iff.mpr hr),R.kp,R.lv⟩
theorem Rep.tail(R:Rep F (r::P) H):Rep F P H:=by
 have hs:∀a∈cB P,a∈cB (r::P):=λa ha=>by rw[ci_];exact aI _ ha
 refine⟨?_,λx hx=>(R.ok x (aB _ hx)).mono (.of (nM hs)) λ_ _=>rfl,λx hx=>R.fr x (aB _ hx),R.kp,R.lv⟩
 have:=R.nd
 rw[ci_]at this
 exact(dY.mp this).2.1
theorem ea_(h:r∈P)(e:a∈iN r):a∈cB P:=List.mem_flatMap.mpr ⟨r,h,e⟩
theorem aUt{α:Type}{x:α}{l:List α}(h:l=[x]):x∈l:=by rw[h];exact aF.mpr rfl
theorem eq1{α:Type}{x y:α}{l:List α}(h:l=[x])(hy:y∈l):y=x:=by rw[h]at hy;exact aF.mp hy
theorem Rep.own_in(R:Rep F P H)(h:a∈cB P):∃o,H a=some o:=by
 obtain⟨⟨sl,v⟩,hr,e⟩:=List.mem_flatMap.mp h
 have t:=R.ok (sl,v) hr
 cases sl with
 |v s =>
  cases s with
  |tr d=>exact absurd (show a∈([]:List Addr)from e) bI
  |ol l =>
   obtain⟨c,vs,h1,h2,_⟩:=t
   cases h1
   rw[aF.mp (show a∈[c]from e)]
   exact⟨_,h2⟩
  |od l =>
   obtain⟨c,vs,h1,h2,_⟩:=t
   cases h1
   rw[aF.mp (show a∈[c]from e)]
   exact⟨_,h2⟩
  |ow o =>
   obtain⟨x,h1,h2⟩:=t
   obtain⟨u,hu,_⟩:=OwOk.there o x h2 a e
   exact⟨u,hu⟩
 |bw l =>
  obtain⟨c,vs,h1,h2,_⟩:=t
  cases h1
  rw[aF.mp (show a∈[c]from e)]
  exact⟨_,h2⟩
 |bo o =>
  obtain⟨x,h1,h2⟩:=t
  obtain⟨u,hu,_⟩:=OwOk.there o x h2 a e
  exact⟨u,hu⟩
 |ba c l =>
  obtain⟨_,vs,h2,_⟩:=t
  rw[aF.mp (show a∈[c]from e)]
  exact⟨_,h2⟩
 |un=>exact absurd (show a∈([]:List Addr)from e) bI
 |pn _=>exact absurd (show a∈([]:List Addr)from e) bI
theorem Rep.not_own(R:Rep F P H)(hp:H p=none):p∉cB P:=λz=>by
 obtain⟨o,ho⟩:=R.own_in z
 rw[hp]at ho
 cases ho
theorem Rep.grow(R:Rep F P H)(e:Same H H'):Rep F P H':=by
 refine⟨R.nd,λr hr=>(R.ok r hr).mono (.of (qH (gp_ e))) λa ha=>?_,R.fr,λb o h1 h2=>e _ _ (R.kp b o h1 h2),λb hb=>?_⟩
 ·obtain ⟨o,ho⟩:=R.own_in (ea_ hr ha)
  rw[ho,e _ _ ho]
 ·obtain ⟨o,ho⟩:=R.lv b hb
  exact⟨o,e _ _ ho⟩
theorem Rep.cons0(R:Rep F P H)(ho:iN r=[])(h:RowOk (cB P) (F.vis H) H r):Rep F (r::P) H:=by
 refine⟨by rw[dz_ ho];exact R.nd,λx hx=>?_,λx hx a ha=>?_,R.kp,R.lv⟩
 ·rw [dz_ ho]
  rcases aE.mp hx with rfl | hx
  ·exact h
  ·exact R.ok x hx
 ·rcases aE.mp hx with rfl | hx
  ·rw[ho]at ha;cases ha
  ·exact R.fr x hx a ha
theorem Rep.add(R:Rep F P H)(h:IsX (hid (cB P) (F.vis H)) d v):Rep F ((vT d,some v)::P) H:=R.cons0 rfl ⟨v,rfl,h⟩
theorem Rep.addU(R:Rep F P H):Rep F ((.un,x)::P) H:=R.cons0 rfl trivial
theorem Rep.head(R:Rep F ((.v s,x)::P) H):∃v,x=some v/\IsX (hid (cB P) (F.vis H)) s.d v:=by
 have h:=R.ok _ aA
 have hs:∀a∈cB P,a∈cB ((.v s,x)::P):=λa ha=>by rw[ci_];exact aI _ ha
 have hn:=R.nd
 have hf:=R.fr _ aA
 match s,h with
 | .tr d,⟨v,h1,h2⟩=>exact⟨v,h1,h2.to (nM hs)⟩
 | .ol l,⟨a,vs,h1,h2,h3⟩ =>
  subst h1
  have q:F.H0 a=none:=hf a (aF.mpr rfl)
  rw[mE (a:=a) rfl]at hn
  exact⟨.ref a,rfl,IsX.of_lst (vs:=vs) (bH.mpr ⟨(cN.mp hn).1,(oV q).trans (by rw[h2];rfl)⟩) (h3.imp λ_ _ z=>z.to (nM hs))⟩
 | .od l,⟨a,vs,h1,h2,h3⟩ =>
  subst h1
  have q:F.H0 a=none:=hf a (aF.mpr rfl)
  rw[mE (a:=a) rfl]at hn
  exact⟨.ref a,rfl,IsX.of_dic (vs:=vs) (.inl (bH.mpr ⟨(cN.mp hn).1,(oV q).trans (by rw[h2];rfl)⟩)) (h3.imp λ_ _ z=>z.to (nM hs))⟩
 | .ow o,⟨v,h1,h2⟩ =>
  refine⟨v,h1,OwOk.tree (.of (nM hs)) o v (λb hb=>?_) h2⟩
  have q:F.H0 b=none:=hf b hb
  obtain⟨u,hu,Cq,_⟩:=OwOk.there o v h2 b hb
  rw[ci_]at hn
  have hb2:b∉cB P:=λz=>(dY.mp hn).2.2 b hb b z rfl
  rw[hu]
  refine bH.mpr ⟨hb2,(oV q).trans ?_⟩
  rw[hu]
  unfold nf
  split
  ·rename_i e;cases e;exact absurd rfl (Cq _ _)
  ·rfl
theorem Rep.frz(R:Rep F ((.v s,x)::P) H):Rep F ((vT s.d,x)::P) H:=by
 obtain⟨v,rfl,h⟩:=R.head
 exact R.tail.add h
theorem vK{O:List Addr}{Hs H0:Hp}(hp:H p=none){o:HO}(hq:H0 p=none):Same (hid O (ext Hs H0 H)) (hid (p::O) (ext Hs H0 (upd H p o))):=λb u hb=>by
 have An:=bH.mp hb
 have F3:b≠p:=λz=>by have:=oI ((oV hq).symm.trans (z ▸ An.2));rw[hp]at this;cases this
 refine bH.mpr ⟨λz=>(aE.mp z).elim F3 An.1,?_⟩
 cases q:H0 b with
 |none=>exact(oV q).trans ((congrArg nf (fB F3)).trans ((oV q).symm.trans An.2))
 |some w=>exact(nJ q).trans ((nJ q).symm.trans An.2)
theorem Rep.new_own(R:Rep F P H)(hp:H p=none){o:HO}(hA:iN (.v s,some (.ref p))=[p])(h:RowOk (p::cB P) (F.vis (upd H p o)) (upd H p o) (.v s,some (.ref p))):Rep F ((.v s,some (.ref p))::P) (upd H p o):=by
 have A3:=R.not_own hp
 have hq:=R.fresh hp
 refine⟨by rw[mE hA];exact cN.mpr ⟨A3,R.nd⟩,λr hr=>?_,λr hr a ha=>?_,λb o h1 h2=>?_,λb hb=>?_⟩
 ·rw [mE hA]
  rcases aE.mp hr with rfl | hr
  ·exact h
  ·exact(R.ok r hr).mono (.of (vK hp hq)) λa ha=>fB λz=>A3 (z ▸ ea_ hr ha)
 ·rcases aE.mp hr with rfl | hr
  ·cases eq1 hA ha;exact hq
  ·exact R.fr r hr a ha
 ·have:=R.kp b o h1 h2
  rw[fB λz=>by rw[z,hp]at this;cases this]
  exact this
 ·obtain ⟨u,hu⟩:=R.lv b hb
  exact⟨u,by rw[fB λz=>by rw[z,hp]at hu;cases hu];exact hu⟩
theorem Rep.newL(R:Rep F P H)(hp:H p=none)(h:All2 (IsX (hid (cB P) (F.vis H))) l vs):Rep F ((.v (.ol l),some (.ref p))::P) (upd H p (.lst vs)):=
 R.new_own hp rfl ⟨p,vs,rfl,cA,h.imp λ_ _ z=>z.to (vK hp (R.fresh hp))⟩
theorem Rep.newD(R:Rep F P H)(hp:H p=none)(h:All2 (KvX (hid (cB P) (F.vis H))) k ws):Rep F ((.v (.od k),some (.ref p))::P) (upd H p (.dK ws)):=
 R.new_own hp rfl ⟨p,ws,rfl,cA,h.imp λ_ _ z=>z.to (vK hp (R.fresh hp))⟩
theorem Rep.newT(R:Rep F P H)(hp:H p=none)(h:All2 (IsX (hid (cB P) (F.vis H))) l vs):Rep F ((vT (.tup l),some (.ref p))::P) (upd H p (.tup vs)):=by
 have e:Same H (upd H p (.tup vs)):=df_ hp _
 exact(R.grow e).add (IsX.of_tup (vs:=vs) (bH.mpr ⟨R.not_own hp,(oV (R.fresh hp)).trans (by rw[cA];rfl)⟩) (h.imp λ_ _ z=>z.to (qH (gp_ e))))
theorem vJ{O:List Addr}{o:HO}{Hs H0:Hp}:Same (hid (a::O) (ext Hs H0 H)) (hid (a::O) (ext Hs H0 (upd H a o))):=λb u hb=>by
 have An:=bH.mp hb
 have Iz:b≠a:=λz=>An.1 (by rw[z];exact aA)
 refine bH.mpr ⟨An.1,?_⟩
 cases q:H0 b with
 |none=>exact(oV q).trans ((congrArg nf (fB Iz)).trans ((oV q).symm.trans An.2))
 |some w=>exact(nJ q).trans ((nJ q).symm.trans An.2)
theorem Rep.put{o:HO}(R:Rep F (r::P) H)(hA:iN r=[a])(Gs:iN r'=[a])(hF:FrOk F r a->FrOk F r' a)(h:RowOk (a::cB P) (F.vis (upd H a o)) (upd H a o) r'):Rep F (r'::P) (upd H a o):=by
 have hn:=R.nd
 rw[mE hA]at hn
 have Ig:=(cN.mp hn).1
 have R1:=R.ok
 rw[mE hA]at R1
 have Cv:=R.fr r aA a (aUt hA)
 refine⟨by rw[mE Gs];exact hn,λx hx=>?_,λx hx b hb=>?_,λb u h1 h2=>?_,λb hb=>?_⟩
 ·rw [mE Gs]
  rcases aE.mp hx with rfl | hx
  ·exact h
  ·exact(R1 x (aB _ hx)).mono (.of vJ) λb hb=>fB λz=>Ig (z ▸ ea_ hx hb)
 ·rcases aE.mp hx with rfl | hx
  ·cases eq1 Gs hb;exact hF Cv
  ·exact R.fr x (aB _ hx) b hb
 ·have hb:=R.kp b u h1 h2
  by_cases z:b=a
  ·subst z
   rcases Cv.or with Cv | Cv
   ·exact absurd Cv h2
   ·rw[Cv]at h1;cases h1
  ·rw[fB z];exact hb
 ·by_cases z:b=a
  ·subst z;exact⟨o,cA⟩
  ·rw[fB z];exact R.lv b hb
theorem Rep.putD(R:Rep F ((.v (.od k),some (.ref a))::P) H)(h:All2 (KvX (hid (a::cB P) (F.vis H))) k' ws'):Rep F ((.v (.od k'),some (.ref a))::P) (upd H a (.dK ws')):=
 R.put (a:=a) rfl rfl id ⟨a,ws',rfl,cA,h.imp λ_ _ z=>z.to vJ⟩
theorem Rep.atL(R:Rep F ((.v (.ol l),x)::P) H):∃a vs,x=some (.ref a)/\H a=some (.lst vs)/\All2 (IsX (hid (a::cB P) (F.vis H))) l vs:=by
 obtain⟨a,vs,h1,h2,h3⟩:=R.ok _ aA
 subst h1
 exact⟨a,vs,rfl,h2,by rw[<-mE (a:=a) (r:=(.v (.ol l),some (.ref a))) rfl];exact h3⟩
theorem Rep.atB(R:Rep F ((.bw l,x)::P) H):∃a vs,x=some (.ref a)/\H a=some (.lst vs)/\All2 (IsX (hid (a::cB P) (F.vis H))) l vs:=by
 obtain⟨a,vs,h1,h2,h3⟩:=R.ok _ aA
 subst h1
 exact⟨a,vs,rfl,h2,by rw[<-mE (a:=a) (r:=(.bw l,some (.ref a))) rfl];exact h3⟩
theorem Rep.atD(R:Rep F ((.v (.od k),x)::P) H):∃a ws,x=some (.ref a)/\H a=some (.dK ws)/\All2 (KvX (hid (a::cB P) (F.vis H))) k ws:=by
 obtain⟨a,vs,h1,h2,h3⟩:=R.ok _ aA
 subst h1
 exact⟨a,vs,rfl,h2,by rw[<-mE (a:=a) (r:=(.v (.od k),some (.ref a))) rfl];exact h3⟩
theorem Rep.atT(R:Rep F ((vT d,x)::P) H):∃v,x=some v/\IsX (hid (cB P) (F.vis H)) d v:=R.head
end
section
variable{ρ:List Sl}{σ:St}{i:Nat}{s s':Sl}{v v':Option V}
theorem aNp(h1:ρ[i]? = some s)(h2:σ[i]? = some v):(ρ.zip σ)[i]? = some (s,v):=(gX (z:=(s,v))).mpr ⟨h1,h2⟩
theorem aNc{α:Type}:∀(l:List α) (i:Nat) (h:i<l.length),l.Perm (l[i]::l.eraseIdx i)
 |x::l,0,_=>.refl _
 |x::l,i+1,h=>((aNc l i (by simpa using h)).cons x).trans (.swap _ _ _)
theorem aEy{α:Type}{l:List α}{x:α}{i:Nat}(h:l[i]? = some x):l.Perm (x::l.eraseIdx i):=by
 obtain⟨hi,e⟩:=aW.mp h
 subst e
 exact aNc l i hi
theorem fg_(h1:ρ[i]? = some s)(h2:σ[i]? = some v):(ρ.zip σ).Perm ((s,v)::(ρ.zip σ).eraseIdx i):=aEy (aNp h1 h2)
theorem m5:∀{ρ:List Sl} {σ:St} (i:Nat),(ρ.set i s).zip (σ.set i v)=(ρ.zip σ).set i (s,v)
 | [],_,_=>by simp
 |_::_,[],_=>by simp
 |a::ρ,b::σ,0=>rfl
 |a::ρ,b::σ,i+1=>by simp only[aZ,List.zip_cons_cons];rw[m5 i]
theorem nP(hl:ρ.length=σ.length)(h:i<ρ.length):((ρ.set i s).zip (σ.set i v)).Perm ((s,v)::(ρ.zip σ).eraseIdx i):=by
 rw[m5]
 have hi:i<(ρ.zip σ).length:=by rw[hZ];lia
 have:=aEy (l:=(ρ.zip σ).set i (s,v)) (x:=(s,v)) (i:=i) (by rw[iJ hi])
 rwa [List.eraseIdx_set_eq]at this
theorem aEi(h:σ[i]? = some v):σ.set i v=σ:=by
 obtain⟨hi,e⟩:=aW.mp h
 subst e
 exact iW hi
theorem de_(hl:ρ.length=σ.length)(h:i<ρ.length)(h2:σ[i]? = some v):((ρ.set i s).zip σ).Perm ((s,v)::(ρ.zip σ).eraseIdx i):=by
 have:=nP (s:=s) (v:=v) hl h
 rwa [aEi h2]at this
end
end Lf
namespace L2
open PySem
theorem PE.weak{X:Cx}{e:Expr}{t u:TE}(h:PE X e t)(w:∀σ H Q,u σ H Q->t σ H Q):PE X e u:=λAa s σ H Q I q=>h Aa s σ H Q I (w σ H Q q)
theorem PT.weak{X:Cx}{e:Expr}{t u:TT}(h:PT X e t)(w:∀σ H Q,u σ H Q->t σ H Q):PT X e u:=λAa s σ H Q I q=>h Aa s σ H Q I (w σ H Q q)
theorem PW.weak{X:Cx}{e:Expr}{t u:TT}(h:PW X e t)(w:∀σ H Q,u σ H Q->t σ H Q):PW X e u:=λwh Aa s σ H Q I q=>h wh Aa s σ H Q I (w σ H Q q)
theorem PA.weak{X:Cx}{e:List Expr}{t u:TA}(h:PA X e t)(w:∀σ H Q,u σ H Q->t σ H Q):PA X e u:=λpos Aa s σ H Q I q=>h pos Aa s σ H Q I (w σ H Q q)
theorem PE.or{X:Cx}{e:Expr}{t u:TE}(h:PE X e t)(h':PE X e u):PE X e (λσ H Q=>t σ H Q\/u σ H Q):=λAa s σ H Q I q=>q.elim (h Aa s σ H Q I) (h' Aa s σ H Q I)
end L2
namespace Lf
open PySem L2
abbrev En:=List Sl
abbrev XT:=En->(Sv->En->Prop)->Prop
abbrev XC:=En->(Bool->En->Prop)->Prop
abbrev XA:=En->(List Sv->En->Prop)->Prop
structure EOk(F:Fm)(ρ:En)(σ:St)(fr:List Rw)(H:Hp):Prop where
 len:ρ.length=σ.length
 rep:Rep F (ρ.zip σ++fr) H
def tX(F:Fm)(t:XT):TE:=λσ H Q=>∃ρ fr Qx,EOk F ρ σ fr H/\t ρ Qx/\∀v s H' ρ',EOk F ρ' σ ((.v s,some v)::fr) H'->Qx s ρ'->Q v H'
def tXc(F:Fm)(t:XC):TT:=λσ H Q=>∃ρ fr Qx,EOk F ρ σ fr H/\t ρ Qx/\∀b H' ρ',EOk F ρ' σ fr H'->Qx b ρ'->Q b H'
def aDy(ss:List Sv)(vs:List V):List Rw:=(ss.zip vs).map λp=>(.v p.1,some p.2)
def tXa(F:Fm)(t:XA):TA:=λσ H Q=>∃ρ fr Qx,EOk F ρ σ fr H/\t ρ Qx/\∀vs ss H' ρ',ss.length=vs.length->EOk F ρ' σ (aDy ss vs++fr) H'->Qx ss ρ'->Q vs H'
abbrev ExT:=Value->Prop
abbrev dZ:ExT:=λ_=>False
def aSm(F:Fm)(H:Hp):Prop:=∀b o,F.H0 b=some o->b∉F.B->H b=some o
def Air(nw:Addr->Prop)(h':Heap)(H:Hp)(ea:Addr)(cls:Value):Prop:=nw ea/\H ea=none/\∃oe vs,h'.get? ea=some oe/\oe.cls=cls/\oe.data=.fields vs/\oe.dict=none/\1<vs.size /\
 (vs[1]? = some .none\/∃T oT ts,vs[1]? = some (.ref T)/\T≠ea/\nw T/\H T=none/\h'.get? T=some oT/\oT.data=.fields ts/\3<ts.size)
def CXe(P:Program)(w:World):CXT:=λouter H s E e s'=>∃(ea:Addr) (cls:Value) (H':Hp),e=.ref ea/\s'.os=s.os/\PyProof.Rows.AllBare s'.gens/\Un (frs outer) [] H H' s.heap s'.heap/\HOk P w H' s'.heap/\Air (λb=>s.heap.get? b=none) s'.heap H' ea cls/\E cls none H'
abbrev NwX(X:Cx)(Aa:fG):Addr->Prop:=λb=>(X.s₀.heap.get? b=none\/b∈X.ex)/\∀p∈X.pn++Aa,p.1≠b
class OkF(X:Cx)(Ex:ExT)(F:Fm):Prop where
 pass1:∀(Aa:fG) (σ:St) (H:Hp) (s':Shared) (ea:Addr) (cls:Value),Inv X Aa σ H s'->Air (NwX X Aa) s'.heap H ea cls->Ex cls->aSm F H->X.xe (.ref ea) s'
instance{X:Cx}{F:Fm}:OkF X dZ F:=⟨λ_ _ _ _ _ _ _ _ h _=>h.elim⟩
def XE(X:Cx)(Ex:ExT)(e:Expr)(t:XT):Prop:=∀F,[OkF X Ex F]->PE X e (tX F t)
def XTe(X:Cx)(Ex:ExT)(e:Expr)(t:XC):Prop:=∀F,[OkF X Ex F]->PT X e (tXc F t)
def XW(X:Cx)(Ex:ExT)(e:Expr)(t:XC):Prop:=∀F,[OkF X Ex F]->PW X e (tXc F t)
def XAs(X:Cx)(Ex:ExT)(es:List Expr)(t:XA):Prop:=∀F,[OkF X Ex F]->PA X es (tXa F t)
section
variable{F:Fm}{ρ ρ':En}{σ:St}{fr P:List Rw}{H H':Hp}{s:Sv}{v x y:V}{a b:Dx}
theorem EOk.grow(E:EOk F ρ σ fr H)(e:Same H H'):EOk F ρ σ fr H':=⟨E.len,E.rep.grow e⟩
theorem mO{α:Type}{x:α}{A B:List α}:(A++x::B).Perm (x::(A++B)):=List.perm_middle
theorem EOk.front{r:Rw}(E:EOk F ρ σ (r::fr) H):Rep F (r::(ρ.zip σ++fr)) H:=E.rep.perm mO
theorem EOk.back{r:Rw}(hl:ρ.length=σ.length)(R:Rep F (r::(ρ.zip σ++fr)) H):EOk F ρ σ (r::fr) H:=⟨hl,R.perm mO.symm⟩
theorem EOk.drop{r:Rw}(E:EOk F ρ σ (r::fr) H):EOk F ρ σ fr H:=⟨E.len,E.front.tail⟩
theorem EOk.one(E:EOk F ρ σ ((.v s,some v)::fr) H):Rep F (ρ.zip σ++fr) H/\IsX (hid (cB (ρ.zip σ++fr)) (F.vis H)) s.d v:=by
 obtain⟨v',e,h⟩:=E.front.head
 cases e
 exact⟨E.front.tail,h⟩
theorem EOk.two{s1 s2:Sv}{v1 v2:V}(E:EOk F ρ σ ((.v s2,some v2)::(.v s1,some v1)::fr) H) :
  Rep F (ρ.zip σ++fr) H/\IsX (hid (cB (ρ.zip σ++fr)) (F.vis H)) s1.d v1/\IsX (hid (cB (ρ.zip σ++fr)) (F.vis H)) s2.d v2:=by
 obtain⟨R1,h1⟩:=E.drop.one
 obtain⟨R2,h2⟩:=E.one
 refine⟨R1,h1,h2.to (nM λc hc=>?_)⟩
 have:(cB ((.v s1,some v1)::(ρ.zip σ++fr))).Perm (cB (ρ.zip σ++(.v s1,some v1)::fr)):=mO.symm.flatMap_right _
 refine this.mem_iff.mp ?_
 rw[ci_]
 exact aI _ hc
end
def cV(i:Nat):XT:=λρ Q=>match ρ[i]? with
 |some (.v s)=>Q (.tr s.d) (ρ.set i (.v (.tr s.d)))
 |_=>False
def pA(i:Nat):XT:=λρ Q=>match ρ[i]? with
 |some (.v s)=>Q s (ρ.set i .un)
 |_=>False
theorem aLp{ρ:En}{σ:St}{i:Nat}{s:Sl}(hl:ρ.length=σ.length)(h:ρ[i]? = some s):∃v,σ[i]? = some v:=by
 have:=(aW.mp h).1
 exact⟨_,aM (by lia)⟩
section
variable{X:Cx}{Ex:ExT}{i:Nat}{x:Str}{pos:Pos}
theorem dh_{F:Fm}{ρ:En}{σ:St}{fr:List Rw}{H:Hp}{s:Sl}(E:EOk F ρ σ fr H)(h:ρ[i]? = some s):∃v,σ[i]? = some v/\i<ρ.length/\Rep F ((s,v)::((ρ.zip σ).eraseIdx i++fr)) H:=by
 obtain⟨v,hv⟩:=aLp E.len h
 exact⟨v,hv,(aW.mp h).1,E.rep.perm ((fg_ h hv).append_right fr)⟩
theorem oQ{F:Fm}{ρ:En}{σ:St}{fr:List Rw}{H:Hp}{s:Sl}{v:Option V}(hl:ρ.length=σ.length)(hi:i<ρ.length)(hv:σ[i]? = some v)(R:Rep F ((s,v)::((ρ.zip σ).eraseIdx i++fr)) H):EOk F (ρ.set i s) σ fr H:=
 ⟨by rw[bD];exact hl,R.perm ((de_ hl hi hv).append_right fr).symm⟩
theorem bP(h:PE X (.Name x pos) (gU i)):XE X Ex (.Name x pos) (cV i):=λF=>h.weak λσ H Q=>by
 rintro⟨ρ,fr,Qx,E,t,k⟩
 unfold cV at t
 split at t
 ·rename_i s hs
  obtain⟨v,hv,hi,R⟩:=dh_ E hs
  obtain⟨w,rfl,hx⟩:=R.head
  refine⟨w,hv,k w _ H _ ?_ t⟩
  have R2:=R.frz
  have R3:Rep F ((vT s.d,some w)::(vT s.d,some w)::((ρ.zip σ).eraseIdx i++fr)) H:=R2.add hx
  exact EOk.back (by rw[bD];exact E.len) (R3.perm (((de_ E.len hi hv).append_right fr).symm.cons _))
 ·exact t.elim
theorem dk_(h:PE X (.Name x pos) (gU i)):XE X Ex (.Name x pos) (pA i):=λF=>h.weak λσ H Q=>by
 rintro⟨ρ,fr,Qx,E,t,k⟩
 unfold pA at t
 split at t
 ·rename_i s hs
  obtain⟨v,hv,hi,R⟩:=dh_ E hs
  obtain⟨w,rfl,hx⟩:=R.head
  refine⟨w,hv,k w _ H _ ?_ t⟩
  have R3:Rep F ((.v s,some w)::(.un,some w)::((ρ.zip σ).eraseIdx i++fr)) H:=(R.addU (x:=some w)).perm (.swap _ _ _)
  exact EOk.back (by rw[bD];exact E.len) (R3.perm (((de_ E.len hi hv).append_right fr).symm.cons _))
 ·exact t.elim
end
def xC(d:Dx):XT:=λρ Q=>Q (.tr d) ρ
theorem aDh{X:Cx}{Ex:ExT}{e:Expr}{v:V}(h:PE X e (tC v))(d:Dx)(hd:∀H,IsX H d v):XE X Ex e (xC d):=λF=>h.weak λσ H Q=>by
 rintro⟨ρ,fr,Qx,E,t,k⟩
 exact k v _ H ρ (EOk.back E.len (E.rep.add (hd _))) t
section
variable{X:Cx}{Ex:ExT}
theorem dC{i j pos}:XE X Ex (.Constant (.int i) j pos) (xC (.int i)):=aDh iY _ λ_=>IsX.of_int _
theorem wM{b j pos}:XE X Ex (.Constant (.bool b) j pos) (xC (.bl b)):=aDh aUl _ λ_=>IsX.of_bl _
theorem ib_{j pos}:XE X Ex (.Constant .none j pos) (xC .non):=aDh aOw _ λ_=>IsX.of_non
theorem kZ{x j pos}:XE X Ex (.Constant (.str x) j pos) (xC (.str x)):=aDh gh_ _ λ_=>IsX.of_str _
end
abbrev G2:=Dx->Dx->(Sv->Prop)->Prop
def OpX(r:R2)(g:G2):Prop:=∀(F:Fm) (P:List Rw) (H:Hp) (a b:Dx) (x y:V) (Q:VK) (Qx:Sv->Prop),Rep F P H->IsX (hid (cB P) (F.vis H)) a x->IsX (hid (cB P) (F.vis H)) b y->g a b Qx ->
 (∀v s H',Rep F ((.v s,some v)::P) H'->Qx s->Q v H')->r x y H Q
def xOp(g:G2)(ta tb:XT):XT:=λρ Q=>ta ρ λa ρ1=>tb ρ1 λb ρ2=>g a.d b.d λs=>Q s ρ2
theorem nF{F:Fm}{r:R2}{g:G2}{ta tb:XT}(hx:OpX r g):∀σ H Q,tX F (xOp g ta tb) σ H Q->tOp r (tX F ta) (tX F tb) σ H Q:=by
 rintro σ H Q ⟨ρ,fr,Qx,E,t,k⟩
 refine⟨ρ,fr,_,E,t,λv s H' ρ' E' t'=>?_⟩
 refine⟨ρ',_,_,E',t',λw s2 H2 ρ2 E2 t2=>?_⟩
 obtain⟨R,h1,h2⟩:=E2.two
 exact hx F _ H2 s.d s2.d v w Q (λz=>Qx z ρ2) R h1 h2 t2 λv' s' H' R' q=>k v' s' H' ρ2 (EOk.back E2.len R') q
def xB(t:XT):XC:=λρ Q=>t ρ λs ρ'=>match s with
 | .tr (.bl b)=>Q b ρ'
 |_=>False
theorem nV{F:Fm}{t:TE}{u:XT}(h:∀σ H Q,tX F u σ H Q->t σ H Q):∀σ H Q,tXc F (xB u) σ H Q->aEb t σ H Q:=by
 rintro σ H Q ⟨ρ,fr,Qx,E,t,k⟩
 refine h _ _ _ ⟨ρ,fr,_,E,t,λv s H' ρ' E' q=>?_⟩
 split at q
 ·rename_i b
  obtain⟨_,hx⟩:=E'.one
  cases hx.bl_eq
  exact⟨b,rfl,k b H' ρ' E'.drop q⟩
 ·exact q.elim
section
variable{X:Cx}{Ex:ExT}{a b c e:Expr}{pos:Pos}{r r':R2}{g g':G2}{ta tb tc:XT}
theorem rX{op:Operator}(ho:OpR X (binaryOp op) r)(hx:OpX r g)(ha:XE X Ex a ta)(hb:XE X Ex b tb):XE X Ex (.BinOp a op b pos) (xOp g ta tb):=λF=>(nH ho (ha F) (hb F)).weak (nF hx)
theorem i9{op:CmpOp}(ho:OpR X (compareOp op) r)(hx:OpX r g)(ha:XE X Ex a ta)(hb:XE X Ex b tb)(hm:behindInMarks op b=false):XE X Ex (.Compare a [op] [b] pos) (xOp g ta tb):=λF=>(aKd ho (ha F) (hb F) hm).weak (nF hx)
theorem iH{op:CmpOp}(ho:OpR X (compareOp op) r)(hx:OpX r g)(ha:XE X Ex a ta)(hb:XE X Ex b tb)(hm:behindInMarks op b=false):XTe X Ex (.Compare a [op] [b] pos) (xB (xOp g ta tb)):=λF=>(ha_ ho (ha F) (hb F) hm).weak (nV (nF hx))
theorem mX{t:XT}(h:XE X Ex e t)(he:∀whole,isTrue e X.env whole=(do let v <-whole;standAt e.pos;holding [v] (truthy v)):=by intro _;rfl):XTe X Ex e (xB t):=λF=>(aOo (h F) he).weak (nV λ_ _ _ z=>z)
def aOa(t u:XC):XC:=λρ Q=>t ρ λc ρ1=>if c=true then u ρ1 Q else Q false ρ1
def xOr(t u:XC):XC:=λρ Q=>t ρ λc ρ1=>if c=true then Q true ρ1 else u ρ1 Q
def lQ(t:XC):XC:=λρ Q=>t ρ λc ρ1=>Q (!c) ρ1
theorem m6{t:XC}(h:XTe X Ex a t):XW X Ex (.BoolOp .And [a] pos) t:=λF=>r_ (h F)
theorem x_{t:XC}(h:XTe X Ex a t):XW X Ex (.BoolOp .Or [a] pos) t:=λF=>aOn (h F)
theorem aDd{t u:XC}{rest:List Expr}(h:XTe X Ex a t)(h':XW X Ex (.BoolOp .And (b::rest) pos) u):XW X Ex (.BoolOp .And (a::b::rest) pos) (aOa t u):=λF=>(aEv (h F) (h' F)).weak λσ H Q=>by
 rintro⟨ρ,fr,Qx,E,t,k⟩
 refine⟨ρ,fr,_,E,t,λc H' ρ' E' q=>?_⟩
 cases c with
 |true=>exact⟨ρ',fr,Qx,E',q,k⟩
 |false=>exact k false H' ρ' E' q
theorem w5{t u:XC}{rest:List Expr}(h:XTe X Ex a t)(h':XW X Ex (.BoolOp .Or (b::rest) pos) u):XW X Ex (.BoolOp .Or (a::b::rest) pos) (xOr t u):=λF=>(aUj (h F) (h' F)).weak λσ H Q=>by
 rintro⟨ρ,fr,Qx,E,t,k⟩
 refine⟨ρ,fr,_,E,t,λc H' ρ' E' q=>?_⟩
 cases c with
 |true=>exact k true H' ρ' E' q
 |false=>exact⟨ρ',fr,Qx,E',q,k⟩
theorem wB{t:XC}(h:XTe X Ex a t):XTe X Ex (.UnaryOp .Not a pos) (lQ t):=λF=>(aOp (h F)).weak λσ H Q=>by
 rintro⟨ρ,fr,Qx,E,t,k⟩
 exact⟨ρ,fr,_,E,t,λc H' ρ' E' q=>k (!c) H' ρ' E' q⟩
theorem XW.pt{t:XC}(h:XW X Ex e t):XTe X Ex e t:=λF=>(h F).pt
def lB(t u:XT):XT:=λρ Q=>xB t ρ λc ρ1=>if c=true then u ρ1 Q else Q (.tr (.bl false)) ρ1
def rY(t:XT):XT:=λρ Q=>xB t ρ λc ρ1=>Q (.tr (.bl (!c))) ρ1
theorem gb_{op}{t:XT}(h:XE X Ex a t):XE X Ex (.BoolOp op [a] pos) t:=λF=>aOu (h F)
theorem ey_{t u:XT}{rest:List Expr}(h:XE X Ex a t)(h':XE X Ex (.BoolOp .And (b::rest) pos) u):XE X Ex (.BoolOp .And (a::b::rest) pos) (lB t u):=λF=>(aPa (h F) (h' F)).weak λσ H Q=>by
 rintro⟨ρ,fr,Qx,E,t,k⟩
 refine⟨ρ,fr,_,E,t,λv s H' ρ' E' q=>?_⟩
 split at q
 ·rename_i c
  obtain⟨_,hx⟩:=E'.one
  cases hx.bl_eq
  refine⟨c,rfl,?_⟩
  cases c with
  |true=>exact⟨ρ',fr,Qx,E'.drop,q,k⟩
  |false=>exact k _ _ H' ρ' (EOk.back E'.len (E'.drop.rep.add (IsX.of_bl _))) q
 ·exact q.elim
theorem zW{t:XT}(h:XE X Ex a t):XE X Ex (.UnaryOp .Not a pos) (rY t):=λF=>(aOv (h F)).weak λσ H Q=>by
 rintro⟨ρ,fr,Qx,E,t,k⟩
 refine⟨ρ,fr,_,E,t,λv s H' ρ' E' q=>?_⟩
 split at q
 ·rename_i c
  obtain⟨_,hx⟩:=E'.one
  cases hx.bl_eq
  exact⟨c,rfl,k _ _ H' ρ' (EOk.back E'.len (E'.drop.rep.add (IsX.of_bl _))) q⟩
 ·exact q.elim
end
def eG:XA:=λρ Q=>Q [] ρ
def cE(t:XT)(u:XA):XA:=λρ Q=>t ρ λs ρ1=>u ρ1 λss ρ2=>Q (s::ss) ρ2
section
variable{X:Cx}{Ex:ExT}{e:Expr}{es:List Expr}{t:XT}{u:XA}{pos:Pos}
theorem cI:XAs X Ex [] eG:=λF=>(lZ (X:=X)).weak λσ H Q=>by
 rintro⟨ρ,fr,Qx,E,t,k⟩
 exact k [] [] H ρ rfl E t
theorem bJ(h:XE X Ex e t)(h':XAs X Ex es u)(he:starEach (e::es) X.env=(false,eval e X.env)::starEach es X.env:=by rfl):XAs X Ex (e::es) (cE t u):=λF=>(hX (h F) (h' F) he).weak λσ H Q=>by
 rintro⟨ρ,fr,Qx,E,t,k⟩
 refine⟨ρ,fr,_,E,t,λv s H' ρ' E' q=>⟨ρ',_,_,E',q,λvs ss H2 ρ2 hl E2 q2=>?_⟩⟩
 refine k (v::vs) (s::ss) H2 ρ2 (by rw[aJ,aJ,hl]) ⟨E2.len,E2.rep.perm ?_⟩ q2
 exact List.Perm.append_left _ List.perm_middle
theorem EOk.many{F:Fm}{ρ:En}{σ:St}{fr:List Rw}{H:Hp}:∀{ss:List Sv} {vs:List V},ss.length=vs.length->EOk F ρ σ (aDy ss vs++fr) H->Rep F (ρ.zip σ++fr) H/\All2 (IsX (hid (cB (ρ.zip σ++fr)) (F.vis H))) (ss.map Sv.d) vs
 | [],[],_,E=>⟨E.rep,rfl⟩
 | [],_::_,h,_=>by simp at h
 |_::_,[],h,_=>by simp at h
 |s::ss,v::vs,h,E=>by
  have E':EOk F ρ σ ((.v s,some v)::(aDy ss vs++fr)) H:=E
  obtain⟨R,hs⟩:=EOk.many (ss:=ss) (vs:=vs) (by simpa using h) E'.drop
  obtain⟨_,hx⟩:=E'.one
  refine⟨R,v,vs,rfl,hx.to (nM λc hc=>?_),hs⟩
  have:cB (ρ.zip σ++(aDy ss vs++fr))=cB (ρ.zip σ)++(cB (aDy ss vs)++cB fr):=by unfold cB;rw[List.flatMap_append,List.flatMap_append]
  rw[this]
  have h2:cB (ρ.zip σ++fr)=cB (ρ.zip σ)++cB fr:=by unfold cB;rw[List.flatMap_append]
  rw[h2]at hc
  rcases bK.mp hc with hc | hc
  ·exact bF _ hc
  ·exact aI _ (aI _ hc)
def aDj(u:XA):XT:=λρ Q=>u ρ λss ρ'=>ss.length<=1000000/\Q (.tr (.tup (ss.map Sv.d))) ρ'
def iQ(u:XA):XT:=λρ Q=>u ρ λss ρ'=>ss.length<=1000000/\Q (.ol (ss.map Sv.d)) ρ'
theorem gW:(1000000:Nat)<sizeLine:=by rw[sizeLine_eq];decide
theorem x9{j:Nat}(h:XAs X Ex es u):XE X Ex (.Tuple es j pos) (aDj u):=λF=>(uX (h F)).weak λσ H Q=>by
 rintro⟨ρ,fr,Qx,E,t,k⟩
 refine⟨ρ,fr,_,E,t,λvs ss H2 ρ2 hl E2 q2=>⟨by have:=gW;lia,λp hp=>?_⟩⟩
 obtain⟨R,hs⟩:=E2.many hl
 exact k _ _ _ ρ2 (EOk.back E2.len (R.newT hp hs)) q2.2
theorem lH(h:XAs X Ex es u):XE X Ex (.List es pos) (iQ u):=λF=>(uY (h F)).weak λσ H Q=>by
 rintro⟨ρ,fr,Qx,E,t,k⟩
 refine⟨ρ,fr,_,E,t,λvs ss H2 ρ2 hl E2 q2=>⟨by have:=gW;lia,λp hp=>?_⟩⟩
 obtain⟨R,hs⟩:=E2.many hl
 exact k _ _ _ ρ2 (EOk.back E2.len (R.newL hp hs)) q2.2
end
def gI(f:Int->Int->Dx):G2
 | .int i,.int j,Q=>Q (.tr (f i j))
 |_,_,_=>False
def gIC(C:Int->Int->Prop)(f:Int->Int->Dx):G2
 | .int i,.int j,Q=>C i j/\Q (.tr (f i j))
 |_,_,_=>False
theorem xQ{f:Int->Int->V}{fd:Int->Int->Dx}(h:∀H i j,IsX H (fd i j) (f i j)):OpX (rI0 f) (gI fd):=by
 intro F P H a b x y Q Qx R ha hb g k
 unfold gI at g
 split at g
 ·cases ha.int_eq; cases hb.int_eq
  exact⟨_,_,rfl,rfl,k _ _ H (R.add (h _ _ _)) g⟩
 ·exact g.elim
theorem d8{C:Int->Int->Prop}{f:Int->Int->V}{fd:Int->Int->Dx}(h:∀H i j,IsX H (fd i j) (f i j)):OpX (rI C f) (gIC C fd):=by
 intro F P H a b x y Q Qx R ha hb g k
 unfold gIC at g
 split at g
 ·cases ha.int_eq; cases hb.int_eq
  exact⟨_,_,rfl,rfl,g.1,k _ _ H (R.add (h _ _ _)) g.2⟩
 ·exact g.elim
abbrev aUd:G2:=gI λi j=>.int (i-j)
abbrev aVw:G2:=gIC aNo λi j=>.int (i/j)
abbrev aYo:G2:=gIC (λ_ j=>0<j) λi j=>.int (i%j)
abbrev aYn:G2:=gIC aSp λi j=>.int (i^j.toNat)
abbrev ltX:G2:=gI λi j=>.bl (decide (i<j))
abbrev leX:G2:=gI λi j=>.bl (decide (i<=j))
abbrev gtX:G2:=gI λi j=>.bl (decide (j<i))
abbrev geX:G2:=gI λi j=>.bl (decide (j<=i))
theorem oi{f:Int->Int->Int}:∀H i j,IsX H (.int (f i j)) (.int (f i j)):=λ_ _ _=>IsX.of_int _
theorem ob{f:Int->Int->Bool}:∀H i j,IsX H (.bl (f i j)) (.bl (f i j)):=λ_ _ _=>IsX.of_bl _
def rV:G2
 | .int i,.int j,Q=>Q (.tr (.int (i+j)))
 | .str i,.str j,Q=>i.length+j.length<=1000000/\Q (.tr (.str (i++j)))
 | .lst l,.lst m,Q=>l.length+m.length<=1000000/\Q (.ol (l++m))
 |_,_,_=>False
def aBl:G2
 | .int i,.int j,Q=>CMulB i j/\Q (.tr (.int (i*j)))
 | .lst l,.int j,Q=>(j<=1000000 /\ -1000000<=j/\l.length*j.toNat<=1000000)/\Q (.ol (List.replicate j.toNat l).flatten)
 | .str z,.int j,Q=>(z.length<=1000/\0<=j/\j<=1000)/\Q (.tr (.str (Txt.mul z j)))
 |_,_,_=>False
section
variable{X:Cx}{Ex:ExT}{a b e:Expr}{pos:Pos}{ta tb:XT}
theorem kG(ha:XE X Ex a ta)(hb:XE X Ex b tb):XE X Ex (.BinOp a .Add b pos) (xOp rV ta tb):=rX (jD.or (jC.or aPj)) (by
 intro F P H a b x y Q Qx R ha hb g k
 unfold rV at g
 split at g
 ·cases ha.int_eq; cases hb.int_eq
  exact .inl ⟨_,_,rfl,rfl,k _ _ H (R.add (IsX.of_int _)) g⟩
 ·cases ha.str_eq; cases hb.str_eq
  exact .inr (.inl ⟨_,_,rfl,rfl,by have:=gW;lia,k _ _ H (R.add (IsX.of_str _)) g.2⟩)
 ·obtain ⟨p,vs,rfl,h1,h2⟩:=ha.lst_eq
  obtain⟨q,ws,rfl,h3,h4⟩:=hb.lst_eq
  refine .inr (.inr ⟨p,q,vs,ws,rfl,rfl,R.hv _ _ h1,R.hv _ _ h3,by rw[h2.len,h4.len];have:=gW;lia,λl hl=>k _ _ _ (R.newL hl (All2.app h4 h2)) g.2⟩)
 ·exact g.elim) ha hb
theorem tS{α β:Type}{g:α->β->Prop}{l:List α}{m:List β}(h:All2 g l m):∀n,All2 g (List.replicate n l).flatten (List.replicate n m).flatten
 | 0=>rfl
 |n+1=>by rw[aU,aU,eX,eX];exact All2.app (tS h n) h
theorem zS(ha:XE X Ex a ta)(hb:XE X Ex b tb):XE X Ex (.BinOp a .Mult b pos) (xOp aBl ta tb):=rX (jB.or (aPg.or pQ)) (by
 intro F P H a b x y Q Qx R ha hb g k
 unfold aBl at g
 split at g
 ·cases ha.int_eq; cases hb.int_eq
  exact .inl ⟨_,_,rfl,rfl,g.1,k _ _ H (R.add (IsX.of_int _)) g.2⟩
 ·obtain ⟨p,vs,rfl,h1,h2⟩:=ha.lst_eq
  cases hb.int_eq
  obtain⟨⟨g1,g2,g3⟩,g4⟩:=g
  refine .inr (.inl ⟨p,_,vs,rfl,rfl,R.hv _ _ h1,by lia,by lia,by rw[h2.len];have:=gW;lia,λl hl=>k _ _ _ (R.newL hl (tS h2 _)) g4⟩)
 ·cases ha.str_eq; cases hb.int_eq
  exact .inr (.inr ⟨_,_,rfl,rfl,g.1.1,g.1.2.1,g.1.2.2,k _ _ H (R.add (IsX.of_str _)) g.2⟩)
 ·exact g.elim) ha hb
theorem hk_(ha:XE X Ex a ta)(hb:XE X Ex b tb):XE X Ex (.BinOp a .Sub b pos) (xOp aUd ta tb):=rX aPf (xQ oi) ha hb
theorem nQ(ha:XE X Ex a ta)(hb:XE X Ex b tb):XE X Ex (.BinOp a .FloorDiv b pos) (xOp aVw ta tb):=rX pS (d8 oi) ha hb
theorem ic_(ha:XE X Ex a ta)(hb:XE X Ex b tb):XE X Ex (.BinOp a .Mod b pos) (xOp aYo ta tb):=rX mK (d8 oi) ha hb
theorem aDg(ha:XE X Ex a ta)(hb:XE X Ex b tb):XE X Ex (.BinOp a .Pow b pos) (xOp aYn ta tb):=rX aPh (d8 oi) ha hb
end
theorem pP:OpX (rI0 λi j=>.bl (decide (i<j))) ltX:=xQ ob
theorem xP:OpX (rI0 λi j=>.bl (decide (i<=j))) leX:=xQ ob
theorem aFj:OpX (rI0 λi j=>.bl (decide (j<i))) gtX:=xQ ob
theorem aNd:OpX (rI0 λi j=>.bl (decide (j<=i))) geX:=xQ ob
def eqS:Dx->Dx->Option Bool
 | .int i,.int j=>some (decide (i=j))
 | .str i,.str j=>some (decide (i=j))
 | .bl i,.bl j=>some (decide (i=j))
 | .non,.non=>some true
 | .non,.int _=>some false | .int _,.non=>some false | .non,.bl _=>some false | .bl _,.non=>some false | .non,.str _=>some false | .str _,.non=>some false
 | .int _,.str _=>some false | .str _,.int _=>some false | .bl _,.str _=>some false | .str _,.bl _=>some false
 | .lst l,.lst []=>some l.isEmpty
 |_,_=>none
def eqX:G2:=λa b Q=>match eqS a b with
 |some c=>Q (.tr (.bl c))
 |none=>False
def neX:G2:=λa b Q=>match eqS a b with
 |some c=>Q (.tr (.bl (!c)))
 |none=>False
def scV:Dx->Option V
 | .int i=>some (.int i)
 | .str i=>some (.str i)
 | .bl i=>some (.bl i)
 | .non=>some .non
 |_=>none
theorem uL{H:Hp}{d:Dx}{x v:V}(h:IsX H d x)(e:scV d=some v):x=v:=by
 cases d<;>simp only[scV,Option.some.injEq]at e<;>first | (subst e;first | exact h.int_eq | exact h.str_eq | exact h.bl_eq | exact h.non_eq) | cases e
theorem yQ{a b:Dx}{c:Bool}(h:eqS a b=some c):(∃l,a=.lst l/\b=.lst []/\c=l.isEmpty)\/∃x y,scV a=some x/\scV b=some y/\aOi x y=true/\decide (x=y)=c:=by
 unfold eqS at h
 split at h<;>(try simp only[Option.some.injEq]at h)<;>first
  |(subst h;exact .inr ⟨_,_,rfl,rfl,rfl,by simp⟩)
  |(subst h;exact .inl ⟨_,rfl,rfl,rfl⟩)
  |cases h
section
variable{K:eC}
def aJn(K:eC)(n:Bool):R2:=λx y H Q=>∃p b xs,x=.ref p/\y=.ref b/\SqL K H p xs/\SqL K H b []/\Q (.bl (if n then !xs.isEmpty else xs.isEmpty)) H
theorem jH:OpX (λx y H Q=>rEq x y H Q\/aJn K false x y H Q) eqX:=by
 intro F P H a b x y Q Qx R ha hb g k
 unfold eqX at g
 split at g
 ·rename_i c hc
  rcases yQ hc with⟨l,rfl,rfl,rfl⟩ | ⟨u,w,h1,h2,h3,h4⟩
  ·obtain ⟨p,vs,rfl,q1,q2⟩:=ha.lst_eq
   obtain⟨p',vs',rfl,q3,q4⟩:=hb.lst_eq
   cases(show vs'=[]from q4)
   refine .inr ⟨p,p',vs,rfl,rfl,SqL.of (R.hv _ _ q1),SqL.of (R.hv _ _ q3),k _ (.tr (.bl l.isEmpty)) H (R.add ?_) g⟩
   have:vs.isEmpty=l.isEmpty:=by
    have:=q2.len
    cases vs<;>cases l<;>simp at this ⊢
   simp only[IsX,this];rfl
  ·cases uL ha h1; cases uL hb h2
   exact .inl ⟨h3,k _ _ H (R.add (by rw[h4];exact IsX.of_bl _)) g⟩
 ·exact g.elim
theorem lF:OpX (λx y H Q=>rNe x y H Q\/aJn K true x y H Q) neX:=by
 intro F P H a b x y Q Qx R ha hb g k
 unfold neX at g
 split at g
 ·rename_i c hc
  rcases yQ hc with⟨l,rfl,rfl,rfl⟩ | ⟨u,w,h1,h2,h3,h4⟩
  ·obtain ⟨p,vs,rfl,q1,q2⟩:=ha.lst_eq
   obtain⟨p',vs',rfl,q3,q4⟩:=hb.lst_eq
   cases(show vs'=[]from q4)
   refine .inr ⟨p,p',vs,rfl,rfl,SqL.of (R.hv _ _ q1),SqL.of (R.hv _ _ q3),k _ (.tr (.bl (!l.isEmpty))) H (R.add ?_) g⟩
   have:vs.isEmpty=l.isEmpty:=by
    have:=q2.len
    cases vs<;>cases l<;>simp at this ⊢
   simp only[IsX,this];rfl
  ·cases uL ha h1; cases uL hb h2
   exact .inl ⟨h3,k _ _ H (R.add (by rw[h4];exact IsX.of_bl _)) g⟩
 ·exact g.elim
end
section
variable{X:Cx}{Ex:ExT}(K:eC)(h:X.K=K)
theorem jJ(hu:X.A.units<cLine)(h:X.K=K:=by rfl):OpR X (compareOp .Eq) (λx y H Q=>rEq x y H Q\/aJn K false x y H Q):=by subst h;exact u0.or (aFp hu)
theorem ft_(hu:X.A.units<cLine)(h:X.K=K:=by rfl):OpR X (compareOp .NotEq) (λx y H Q=>rNe x y H Q\/aJn K true x y H Q):=by subst h;exact aUn.or (xR hu)
end
def aUy(neg:Bool):G2
 | .non,.non,Q=>Q (.tr (.bl !neg))
 |_,.non,Q=>Q (.tr (.bl neg))
 |_,_,_=>False
theorem aQv{H:Hp}{a:Dx}{x:V}(h:IsX H a x)(ha:a ≠ .non):¬x=.non:=by
 intro z
 subst z
 cases a with
 |non=>exact ha rfl
 |bl _=>cases h.bl_eq
 |int _=>cases h.int_eq
 |str _=>cases h.str_eq
 |tup _=>obtain⟨_,_,e,_⟩:=h.tup_eq;cases e
 |lst _=>obtain⟨_,_,e,_⟩:=h.lst_eq;cases e
 |dic _=>obtain⟨_,_,e,_⟩:=h.dic_eq;cases e
 |scr _ _=>obtain⟨_,e,_⟩:=h.scr_eq;cases e
 |ins _ _=>obtain⟨_,_,_,e,_⟩:=h.ins_eq;cases e
 |exc _=>obtain⟨_,e,_⟩:=h.exc_eq;cases e
 |pin _ _=>obtain⟨e,_⟩:=h.pin_eq;cases e
theorem aPd:OpX (λx y H Q=>y=.non/\Q (.bl (decide (x=.non))) H) (aUy false):=by
 intro F P H a b x y Q Qx R ha hb g k
 unfold aUy at g
 split at g
 ·cases ha.non_eq; cases hb.non_eq
  exact⟨rfl,k _ _ H (R.add (IsX.of_bl _)) g⟩
 ·rename_i Ig
  cases hb.non_eq
  exact⟨rfl,k _ _ H (R.add (by rw[dzF (aQv ha λz=>Ig z)];exact IsX.of_bl _)) g⟩
 ·exact g.elim
def ixX:G2
 | .lst l,.int i,Q=>(match atI l i with | some d=>Q (.tr d) | none=>False)
 | .tup l,.int i,Q=>(match atI l i with | some d=>Q (.tr d) | none=>False)
 | .str z,.int i,Q=>z.length<=1000000/\(match atI z.cps.toList i with | some c=>Q (.tr (.str ⟨#[c]⟩)) | none=>False)
 |_,_,_=>False
theorem rE{α β:Type}{g:α->β->Prop}{l:List α}{m:List β}{i:Int}{d:α}(h:All2 g l m)(e:atI l i=some d):∃v,atI m i=some v/\g d v:=by
 unfold atI at e ⊢
 rw[h.len]
 obtain⟨j,h1,h2⟩:=eW.mp e
 obtain⟨v,h3,h4⟩:=h.at h2
 exact⟨v,eW.mpr ⟨j,h1,h3⟩,h4⟩
theorem aUm{K:eC}:OpX (λx y H Q=>aEt K x y H Q\/aOm K x y H Q\/aUh x y H Q) ixX:=by
 intro F P H a b x y Q Qx R ha hb g k
 unfold ixX at g
 split at g
 ·obtain ⟨p,vs,rfl,h1,h2⟩:=ha.lst_eq
  cases hb.int_eq
  split at g
  ·rename_i d hd
   obtain⟨v,h3,h4⟩:=rE h2 hd
   exact .inl ⟨p,vs,_,v,rfl,rfl,SqL.of (R.hv _ _ h1),h3,k _ _ H (R.add h4) g⟩
  ·exact g.elim
 ·obtain ⟨p,vs,rfl,h1,h2⟩:=ha.tup_eq
  cases hb.int_eq
  split at g
  ·rename_i d hd
   obtain⟨v,h3,h4⟩:=rE h2 hd
   exact .inr (.inl ⟨p,vs,_,v,rfl,rfl,SqT.of (R.hv _ _ h1),h3,k _ _ H (R.add h4) g⟩)
  ·exact g.elim
 ·cases ha.str_eq; cases hb.int_eq
  obtain⟨g0,g⟩:=g
  split at g
  ·rename_i c hc
   exact .inr (.inr ⟨_,_,c,rfl,rfl,by have:=gW;lia,hc,k _ _ H (R.add (IsX.of_str _)) g⟩)
  ·exact g.elim
 ·exact g.elim
theorem IxR.or{X:Cx}{r r':R2}(h:IxR X r)(h':IxR X r'):IxR X (λx y H Q=>r x y H Q\/r' x y H Q):=λa b Aa s σ H x y v u Q I rx ry q hs=>q.elim (λq=>h a b Aa s σ H x y v u Q I rx ry q hs) λq=>h' a b Aa s σ H x y v u Q I rx ry q hs
theorem rC{X:Cx}{Ex:ExT}{a b:Expr}{pos:Pos}{ta tb:XT}(K:eC)(ha:XE X Ex a ta)(hb:XE X Ex b tb)(hs:mF b)(h:X.K=K:=by rfl):XE X Ex (.Subscript a b pos) (xOp ixX ta tb):=λF =>
 (yM (IxR.or (yC K h) (IxR.or (aLe K h) qE)) (ha F) (hb F) hs).weak (nF aUm)
def fA(l:List (Key×Dx))(k:Key):Option Dx:=(l.find? λp=>decide (p.1=k)).map (·.2)
theorem go_{G:Hp}{k:Key}:∀{l:List (Key×Dx)} {ws:List (Key×V)},All2 (KvX G) l ws->(fA l k=none/\jQ ws k=none)\/∃d v,fA l k=some d/\jQ ws k=some v/\IsX G d v
 | [],_,h=>by rw[show _=[]from h];exact .inl ⟨rfl,rfl⟩
 |p::l,_,⟨w,wr,e,⟨h1,h2,_⟩,h3⟩=>by
  rw[e]
  by_cases hk:p.1=k
  ·refine .inr ⟨p.2,w.2,?_,pF (h1 ▸ hk),h2⟩
   unfold fA
   rw[gC,dzT hk]
   rfl
  ·rw [pG (h1 ▸ hk)]
   have:fA (p::l) k=fA l k:=by unfold fA;rw[gC,dzF hk]
   rw[this]
   exact go_ h3
def kY:Dx->Option Key
 | .int i=>some (.inl i)
 | .str x=>some (.inr x)
 | .non=>some .non
 | .bl true=>some .tru
 | .pin b x=>some (.ref b x)
 |_=>none
theorem he_{H:Hp}{d:Dx}{x:V}{k:Key}(h:IsX H d x)(e:kY d=some k):x=kV k/\gP H k:=by
 cases d with
 |int i=>cases e;exact⟨h.int_eq,True.intro⟩
 |str i=>cases e;exact⟨h.str_eq,True.intro⟩
 |non=>cases e;exact⟨h.non_eq,True.intro⟩
 |bl b =>
  cases b with
  |true=>cases e;exact⟨h.bl_eq,True.intro⟩
  |false=>cases e
 |pin b x=>cases e;exact h.pin_eq
 |_=>cases e
def wZ(k:Key)(l:List (Key×Dx)):Bool:=match k with
 | .inr _=>true
 |k=>(l.all λp=>! fW p.1 k)&&(!k.odd||l.any λp=>p.1.odd)
theorem aCi{k:Key}{x:Str}:fW k (.inr x)=false:=by cases k<;>rfl
theorem p7{G:Hp}{k:Key}{l:List (Key×Dx)}{ws:List (Key×V)}(h:wZ k l=true)(hl:All2 (KvX G) l ws):aQh k ws:=by
 have eq:l.map (·.1)=ws.map (·.1):=by
  clear h
  induction l generalizing ws with
  |nil=>rw[show ws=[]from hl];rfl
  |cons p l ih=>obtain⟨w,wr,rfl,⟨h1,_⟩,h3⟩:=hl;rw[aL,aL,ih h3,h1]
 have mem:∀p∈ws,∃q∈l,q.1=p.1:=λp hp=>by
  have:=cG (f:=λx:Key×V=>x.1) hp
  rw[<-eq]at this
  exact cD.mp this
 by_cases hx:∃x,k=.inr x
 ·obtain ⟨x,rfl⟩:=hx
  exact⟨λp _=>aCi,λz=>by cases z⟩
 ·have h':((l.all fun p => ! fW p.1 k) && (!k.odd || l.any fun p=>p.1.odd))=true:=by
   cases k with
   |inr x=>exact absurd ⟨x,rfl⟩ hx
   |_=>exact h
  rw[bW]at h'
  refine⟨λp hp=>?_,λz=>?_⟩
  ·obtain ⟨q,hq,e⟩:=mem p hp
   have:=cO.mp h'.1 q hq
   rw[e]at this
   simpa using this
  ·have h2:=h'.2
   rw[z,fR,Bool.false_or]at h2
   obtain⟨q,hq,e⟩:=fD.mp h2
   have:=cG (f:=λx:Key×Dx=>x.1) hq
   rw[eq]at this
   obtain⟨p,hp,e2⟩:=cD.mp this
   exact fD.mpr ⟨p,hp,by rw[e2];exact e⟩
def dgX:G2:=λa b Q=>match a,kY b with
 | .dic l,some k=>(match fA l k with | some d=>wZ k l=true/\Q (.tr d) | none=>False)
 |_,_=>False
def vX(neg:Bool):G2:=λa b Q=>match kY a,b with
 |some k,.dic l=>wZ k l=true/\Q (.tr (.bl (if neg then !(fA l k).isSome else(fA l k).isSome)))
 |_,_=>False
theorem DGet.rd{H:Hp}{a:Addr}{kvs:List (Key×V)}{k:Key}(e:Rd H a (.dK kvs))(t:gP H k)(o:aQh k kvs):DGet H a (kV k) (jQ kvs k):=⟨kvs,k,e,rfl,t,o,rfl⟩
theorem ip_{F:Fm}{P:List Rw}{H:Hp}(R:Rep F P H){O:List Addr}{k:Key}(h:gP (hid O (F.vis H)) k):gP H k:=by
 cases k<;>first | exact True.intro | exact R.hv _ _ h
theorem xJ{F:Fm}{P:List Rw}{H:Hp}(R:Rep F P H){O:List Addr}{a:Addr}{u:HO}(h:Rd (hid O (F.vis H)) a u):Rd H a u:=by
 rcases h with h | ⟨o,h⟩
 ·exact .inl (R.hv _ _ h)
 ·exact .inr ⟨o,R.hv _ _ h⟩
theorem aKf:OpX (λx y H Q=>∃a v,x=.ref a/\DGet H a y (some v)/\Q v H) dgX:=by
 intro F P H a b x y Q Qx R ha hb g k
 unfold dgX at g
 split at g
 ·rename_i l kk hk
  obtain⟨p,ws,rfl,h1,h2⟩:=ha.dic_eq
  obtain⟨rfl,kt⟩:=he_ hb hk
  split at g
  ·rename_i d hd
   rcases go_ (k:=kk) h2 with⟨z,_⟩ | ⟨d',v,z1,z2,z3⟩
   ·rw[z]at hd;cases hd
   ·rw [z1] at hd; cases hd
    exact⟨p,v,rfl,by rw[<-z2];exact DGet.rd (xJ R h1) (ip_ R kt) (p7 g.1 h2),k _ _ H (R.add z3) g.2⟩
  ·exact g.elim
 ·exact g.elim
theorem aFk(neg:Bool):OpX (λy x H Q=>∃a o,x=.ref a/\DGet H a y o/\Q (.bl (if neg then !o.isSome else o.isSome)) H) (vX neg):=by
 intro F P H a b x y Q Qx R ha hb g k
 unfold vX at g
 split at g
 ·rename_i kk l hk
  obtain⟨p,ws,rfl,h1,h2⟩:=hb.dic_eq
  obtain⟨rfl,kt⟩:=he_ ha hk
  refine⟨p,_,rfl,DGet.rd (k:=kk) (xJ R h1) (ip_ R kt) (p7 g.1 h2),k _ _ H (R.add ?_) g.2⟩
  rcases go_ (k:=kk) h2 with⟨z1,z2⟩ | ⟨d',v,z1,z2,z3⟩
  ·rw[z1,z2];simp only[IsX];rfl
  ·rw[z1,z2];simp only[IsX];rfl
 ·exact g.elim
section
variable{X:Cx}{Ex:ExT}{a b o i:Expr}{pos:Pos}{ta tb:XT}
theorem eg_(hu:X.A.units+1<cLine)(ha:XE X Ex o ta)(hb:XE X Ex i tb)(hs:aSl i):XE X Ex (.Subscript o i pos) (xOp dgX ta tb):=λF=>(aKc hu (ha F) (hb F) hs).weak λσ H Q h=>nF aKf σ H Q h
theorem aNw(hu:X.A.units+1<cLine)(ha:XE X Ex i ta)(hb:XE X Ex o tb)(hm:behindInMarks .In o=false):XE X Ex (.Compare i [.In] [o] pos) (xOp (vX false) ta tb):=λF=>(aOy (aPb hu (ha F) (hb F)) hm).weak λσ H Q h=>nF (aFk false) σ H Q h
theorem rW(hu:X.A.units+1<cLine)(ha:XE X Ex i ta)(hb:XE X Ex o tb)(hm:behindInMarks .NotIn o=false):XTe X Ex (.Compare i [.NotIn] [o] pos) (xB (xOp (vX true) ta tb)):=λF=>(aOq (aBd hu (ha F) (hb F)) hm).weak (nV (t:=o0 (tX F ta) (tX F tb)) λσ H Q h=>nF (aFk true) σ H Q h)
def aDm:XT:=λρ Q=>Q (.od []) ρ
theorem id_:XE X Ex (.Dict [] [] pos) aDm:=λF=>(aFf (X:=X)).weak λσ H Q=>by
 rintro⟨ρ,fr,Qx,E,t,k⟩
 exact λp hp=>k _ _ _ ρ (EOk.back E.len (E.rep.newD hp All2.nil)) t
end
abbrev GC:=List Dx->(Sv->Prop)->Prop
def gZ(r:List V->Hp->VK->Prop)(g:GC):Prop:=∀(F:Fm) (P:List Rw) (H:Hp) (ds:List Dx) (xs:List V) (Q:VK) (Qx:Sv->Prop),Rep F P H->All2 (IsX (hid (cB P) (F.vis H))) ds xs->g ds Qx ->
 (∀v s H',Rep F ((.v s,some v)::P) H'->Qx s->Q v H')->r xs H Q
def dM(g:GC)(u:XA):XT:=λρ Q=>u ρ λss ρ'=>g (ss.map Sv.d) λs=>Q s ρ'
theorem aMw{F:Fm}{r:List V->Hp->VK->Prop}{g:GC}{u:XA}(hx:gZ r g):∀σ H Q,tX F (dM g u) σ H Q->tCB r (tXa F u) σ H Q:=by
 rintro σ H Q ⟨ρ,fr,Qx,E,t,k⟩
 refine⟨ρ,fr,_,E,t,λvs ss H2 ρ2 hl E2 q2=>?_⟩
 obtain⟨R,hs⟩:=E2.many hl
 exact hx F _ H2 _ vs Q (λs=>Qx s ρ2) R hs q2 λv s H' R' q=>k v s H' ρ2 (EOk.back E2.len R') q
section
variable{X:Cx}{Ex:ExT}{e:Expr}{es:List Expr}{x:Str}{p pos:Pos}{r:List V->Hp->VK->Prop}{g:GC}{u:XA}{id T:String}
theorem lO(hc:CallR X (.builtin id) r)(hx:gZ r g)(hg:Gl X x)(hm:X.mg x=none)(hv:bootBuiltins x=some (.builtin id))(ha:XAs X Ex (e::es) u)(hn:x ≠ "__name__":=by decide)(Bs:(x == ("__debug__" : Str))=false:=by decide)
  (he:starEach (e::es) X.env=(false,eval e X.env)::starEach es X.env:=by rfl) (Ay:(backTo pos (starEach es X.env)).any (·.1)=false:=by rfl):XE X Ex (.Call (.Name x p) (e::es) [] pos) (dM g u):=λF=>(fo_ hc hg hm hv (ha F) hn Bs he Ay).weak (aMw hx)
theorem ej_(hc:CallR X (.type T) r)(hx:gZ r g)(hg:Gl X x)(hm:X.mg x=none)(hv:bootBuiltins x=some (.type T))(ha:XAs X Ex (e::es) u)(hn:x ≠ "__name__":=by decide)(Bs:(x == ("__debug__" : Str))=false:=by decide)
  (he:starEach (e::es) X.env=(false,eval e X.env)::starEach es X.env:=by rfl) (Ay:(backTo pos (starEach es X.env)).any (·.1)=false:=by rfl):XE X Ex (.Call (.Name x p) (e::es) [] pos) (dM g u):=λF=>(aBb hc hg hm hv (ha F) hn Bs he Ay).weak (aMw hx)
end
theorem vY{α β:Type}{g:α->β->Prop}{a:α}{xs:List β}(h:All2 g [a] xs):∃x,xs=[x]/\g a x:=by
 obtain⟨x,xr,rfl,h1,h2⟩:=h
 cases(show xr=[]from h2)
 exact⟨x,rfl,h1⟩
theorem k_{α β:Type}{g:α->β->Prop}{a b:α}{xs:List β}(h:All2 g [a,b] xs):∃x y,xs=[x,y]/\g a x/\g b y:=by
 obtain⟨x,xr,rfl,h1,h2⟩:=h
 obtain⟨y,rfl,h3⟩:=vY h2
 exact⟨x,y,rfl,h1,h3⟩
def lV:GC
 | [.lst l],Q=>Q (.tr (.int l.length))
 | [.tup l],Q=>Q (.tr (.int l.length))
 | [.str z],Q=>z.length<=1000000/\Q (.tr (.int z.length))
 | [.dic l],Q=>Q (.tr (.int l.length))
 |_,_=>False
abbrev aOl(K:eC):List V->Hp->VK->Prop:=λxs H Q=>(∃p ys,xs=[.ref p]/\(SqL K H p ys\/SqT K H p ys)/\Q (.int ys.length) H)\/(∃z,xs=[.str z]/\z.length<=sizeLine/\Q (.int z.length) H)\/(∃a kvs,xs=[V.ref a]/\Rd H a (.dK kvs)/\Q (.int kvs.length) H)
theorem rG{X:Cx}(K:eC)(h:X.K=K:=by rfl):CallR X (.builtin "len") (aOl K):=by
 subst h
 refine wE.or (lY.or ?_)
 intro Aa s σ H xs us Q I r h
 obtain⟨a,kvs,rfl,ha,q⟩:=h
 obtain⟨u,rfl,ru⟩:=iB r
 cases ru
 exact aWd I ha λt s' I'=>⟨.int kvs.length,H,I',⟨t,rfl⟩,q⟩
theorem tF{K:eC}:gZ (aOl K) lV:=by
 intro F P H ds xs Q Qx R hs g k
 unfold lV at g
 split at g
 ·obtain ⟨x,rfl,hx⟩:=vY hs
  obtain⟨a,vs,rfl,h1,h2⟩:=hx.lst_eq
  exact .inl ⟨a,vs,rfl,.inl (SqL.of (R.hv _ _ h1)),k _ _ H (R.add (by rw[h2.len];exact IsX.of_int _)) g⟩
 ·obtain ⟨x,rfl,hx⟩:=vY hs
  obtain⟨a,vs,rfl,h1,h2⟩:=hx.tup_eq
  exact .inl ⟨a,vs,rfl,.inr (SqT.of (R.hv _ _ h1)),k _ _ H (R.add (by rw[h2.len];exact IsX.of_int _)) g⟩
 ·obtain ⟨x,rfl,hx⟩:=vY hs
  cases hx.str_eq
  exact .inr (.inl ⟨_,rfl,by have:=gW;lia,k _ _ H (R.add (IsX.of_int _)) g.2⟩)
 ·obtain ⟨x,rfl,hx⟩:=vY hs
  obtain⟨a,vs,rfl,h1,h2⟩:=hx.dic_eq
  exact .inr (.inr ⟨a,vs,rfl,xJ R h1,k _ _ H (R.add (by rw[h2.len];exact IsX.of_int _)) g⟩)
 ·exact g.elim
def aGs:GC
 | [.int i],Q=>Q (.tr (.int i))
 | [.bl b],Q=>Q (.tr (.int (if b then 1 else 0)))
 |_,_=>False
theorem aHq:gZ (λxs H Q=>(∃i,xs=[.int i]/\Q (.int i) H)\/∃k,xs=[.bl k]/\Q (.int (if k then 1 else 0)) H) aGs:=by
 intro F P H ds xs Q Qx R hs g k
 unfold aGs at g
 split at g
 ·obtain ⟨x,rfl,hx⟩:=vY hs
  cases hx.int_eq
  exact .inl ⟨_,rfl,k _ _ H (R.add (IsX.of_int _)) g⟩
 ·obtain ⟨x,rfl,hx⟩:=vY hs
  cases hx.bl_eq
  exact .inr ⟨_,rfl,k _ _ H (R.add (IsX.of_int _)) g⟩
 ·exact g.elim
def aZz:GC
 | [.lst l],Q=>Q (.ol l)
 | [.tup l],Q=>Q (.ol l)
 |_,_=>False
def aDx:GC
 | [.lst l],Q=>Q (.tr (.tup l))
 | [.tup l],Q=>Q (.tr (.tup l))
 |_,_=>False
theorem ja_{X:Cx}(K:eC)(h:X.K=K:=by rfl):CallR X (.type "tuple") (λxs H Q=>∃p ys,xs=[.ref p]/\((SqL K H p ys/\∀l,H l=none->Q (.ref l) (upd H l (.tup ys)))\/(SqT K H p ys/\Q (.ref p) H))):=by subst h;exact rR
theorem zA{K:eC}:gZ (λxs H Q=>∃p ys,xs=[.ref p]/\((SqL K H p ys/\∀l,H l=none->Q (.ref l) (upd H l (.tup ys)))\/(SqT K H p ys/\Q (.ref p) H))) aDx:=by
 intro F P H ds xs Q Qx R hs g k
 unfold aDx at g
 split at g
 ·obtain ⟨x,rfl,hx⟩:=vY hs
  obtain⟨a,vs,rfl,h1,h2⟩:=hx.lst_eq
  exact⟨a,vs,rfl,.inl ⟨SqL.of (R.hv _ _ h1),λl hl=>k _ _ _ (R.newT hl h2) g⟩⟩
 ·obtain ⟨x,rfl,hx⟩:=vY hs
  obtain⟨a,vs,rfl,h1,h2⟩:=hx.tup_eq
  exact⟨a,vs,rfl,.inr ⟨SqT.of (R.hv _ _ h1),k _ _ H (R.add (IsX.of_tup h1 h2)) g⟩⟩
 ·exact g.elim
inductive Ty where
 |bool | int | str | tuple | list | dict
def Ty.nm:Ty->String
 | .bool => "bool" | .int => "int" | .str => "str" | .tuple => "tuple" | .list => "list" | .dict => "dict"
def tyN:Dx->String
 | .non => "NoneType" | .bl _ => "bool" | .int _ => "int" | .str _ => "str" | .tup _ => "tuple" | .lst _ => "list" | .dic _ => "dict" | .scr _ _ => "list" | .ins _ _ => "object" | .exc _ => "object" | .pin _ _ => "tuple"
def isT:Ty->Dx->Bool
 | .bool,.bl _=>true
 | .int,.int _=>true
 | .int,.bl _=>true
 | .str,.str _=>true
 | .tuple,.tup _=>true
 | .tuple,.pin _ _=>true
 | .list,.lst _=>true
 | .dict,.dic _=>true
 | .list,.scr _ _=>true
 |_,_=>false
def sP:Dx->Prop
 | .scr _ _=>False
 | .ins _ _=>False
 | .exc _=>False
 |_=>True
theorem vI{K:eC}{d:Dx}{n:Ty}(hd:sP d):PySem.W.kitOne K (.type (tyN d)) (.type n.nm)=some (isT n d):=by
 have h:∀T∈["NoneType","bool","int","str","tuple","list","dict"],∀n:Ty,PySem.W.kitOne K (.type T) (.type n.nm)=some (T == n.nm||(n.nm == "int" && T == "bool")):=by
  intro T hT n
  simp only[aE,bI,or_false]at hT
  rcases hT with rfl | rfl | rfl | rfl | rfl | rfl | rfl<;>cases n<;>first
   |exact aGj _
   |exact aQm (by decide +kernel) (by decide +kernel) (by decide +kernel)
 rw[h _ (by cases d<;>first | exact hd.elim | simp[tyN]) n]
 cases d<;>cases n<;>first | rfl | exact hd.elim
theorem aBv{X:Cx}{Aa:fG}{σ:St}{H:Hp}{s:Shared}{A:Around}{E:fF}{Q:fF}{b:Bool}{c:Value}{d:Dx}{x:V}{u:Value}(I:Inv X Aa σ H s)(rx:RelV x u)(hx:IsX H d x)(hd:sP d)(e:PySem.W.kitOne X.K (.type (tyN d)) c=some b)(h:∀tk,Q (.bool b) { s with toks:=tk }) :
  wpAny (model X.prog X.w) A (call (.builtin "isinstance") [u,c]) Q E s:=by
 cases d with
 |non=>cases hx.non_eq;exact dj_ I rx .non e h
 |bl _=>cases hx.bl_eq;exact dj_ I rx (.bl _) e h
 |int _=>cases hx.int_eq;exact dj_ I rx (.int _) e h
 |str _=>cases hx.str_eq;exact dj_ I rx (.str _) e h
 |tup _=>obtain⟨a,vs,rfl,h1,_⟩:=hx.tup_eq;exact dj_ I rx (.tup h1) e h
 |lst _=>obtain⟨a,vs,rfl,h1,_⟩:=hx.lst_eq;exact dj_ I rx (.lst h1) e h
 |dic _ =>
  obtain⟨a,vs,rfl,h1,_⟩:=hx.dic_eq
  rcases h1 with h1 | ⟨ob,h1⟩
  ·exact dj_ I rx (.dK h1) e h
  ·cases (show u=Value.ref a from rx)
   obtain⟨o,es,ep,h1,h2,_⟩:=gq_ (show ObjOk X.prog X.w H s.heap a (.frz ob (.dK vs))from I.hok a _ h1).2
   exact PySem.W.kia_one PySem.W.kitx_dict I.kIn ⟨o,h1,h2.1⟩ e (λz=>nomatch z) h
 |scr _ _=>exact hd.elim
 |ins _ _=>exact hd.elim
 |exc _=>exact hd.elim
 |pin b x=>obtain⟨rfl,h1⟩:=hx.pin_eq;exact dj_ I rx (.tup h1) e h
theorem aHy{X:Cx}(n:Ty):CallR X (.builtin "isinstance") (λxs H Q=>∃x d,xs=[x,.ty n.nm]/\IsX H d x/\sP d/\Q (.bl (isT n d)) H):=by
 intro Aa s σ H xs us Q I r h
 obtain⟨x,d,rfl,hx,hd,q⟩:=h
 obtain⟨u,w',rfl,r1,r2⟩:=pE r
 cases(show w'=Value.type n.nm from r2)
 exact aBv I r1 hx hd (vI hd) (λtk=>⟨.bl _,H,I.tok _,rfl,q⟩)
def xIs(n:Ty)(t:XT):XT:=λρ Q=>t ρ λs ρ'=>match s.d with
 | .scr _ _=>False
 | .ins _ _=>False
 | .exc _=>False
 |d=>Q (.tr (.bl (isT n d))) ρ'
theorem oW{X:Cx}{Ex:ExT}{e:Expr}{t:XT}{nm:Str}{p q pos:Pos}(n:Ty)(hm:X.mg "isinstance" = none)(h:XE X Ex e t)(hT:PE X (.Name nm q) (tC (.ty n.nm)))(hg:Gl X "isinstance":=by rfl)
  (he:starEach [e,.Name nm q] X.env=(false,eval e X.env)::starEach [.Name nm q] X.env:=by rfl) (Fk:starEach [.Name nm q] X.env=(false,eval (.Name nm q) X.env)::starEach [] X.env:=by rfl) (Ay:(backTo pos (starEach [.Name nm q] X.env)).any (·.1)=false:=by rfl):XE X Ex (.Call (.Name "isinstance" p) [e,.Name nm q] [] pos) (xIs n t):=λF =>
 (fo_ (aHy n) hg hm dr_ (hX (h F) (hX hT lZ Fk) he) (by decide) (by decide) he Ay).weak fun σ H Q=>by
  rintro⟨ρ,fr,Qx,E,t,k⟩
  refine⟨ρ,fr,_,E,t,λv s H' ρ' E' q=>?_⟩
  obtain⟨R,hx⟩:=E'.one
  generalize hd:s.d=d at q hx
  cases d with
  |scr _ _=>exact q.elim
  |ins _ _=>exact q.elim
  |exc _=>exact q.elim
  |_=>exact⟨v,_,rfl,hx.to R.hv,trivial,k _ _ H' ρ' (EOk.back E'.len (R.add (IsX.of_bl _))) q⟩
def Cal(P:Program)(w:World)(K:eC)(mg:kW)(base:Heap)(j:Nat)(x:Str)(ps:List Str)(sp:Sp):Prop:=∃f fd,FnOk P w K mg base CX0 j f fd ps sp/\Binds K fd ps []/\PySem.W.keepIn K (.ref f)=true/\mg x=some (.ref f)
theorem aFi{X:Cx}{j:Nat}{x:Str}{ps:List Str}{sp:Sp}{e:Expr}{es:List Expr}{t:TA}{p pos:Pos}(C:Cal X.prog X.w X.K X.mg X.base j x ps sp)(hr:Room j X.A)(ha:PA X (e::es) t)(hg:Gl X x:=by rfl)(Bs:(x == ("__debug__" : Str))=false:=by decide)
  (he:starEach (e::es) X.env=(false,eval e X.env)::starEach es X.env:=by rfl) (Ay:(backTo pos (starEach es X.env)).any (·.1)=false:=by rfl):PE X (.Call (.Name x p) (e::es) [] pos) (aMv sp [] E0 t):=by
 obtain⟨f,fd,G,b,k,m⟩:=C
 exact et_ G hr hg m k b .nil lU ha Bs he Ay
def aAm(Hs H H':Hp):Sv->V->Prop
 | .tr d,v=>IsX (ext Hs H H') d v
 | .ol l,v=>∃a vs,v=.ref a/\H a=none/\H' a=some (.lst vs)/\All2 (IsX (hid [a] (ext Hs H H'))) l vs
 | .od l,v=>∃a ws,v=.ref a/\H a=none/\H' a=some (.dK ws)/\All2 (KvX (hid [a] (ext Hs H H'))) l ws
 | .ow o,v=>o.fp.Nodup/\(∀a∈o.fp,H a=none)/\OwOk (hid o.fp (ext Hs H H')) H' o v
def spX(g:GC):Sp:=λvs H Q _=>∃Hs ds Qx,Same Hs H/\All2 (IsX Hs) ds vs/\g ds Qx/\∀s v H',Same H H'->aAm Hs H H' s v->Qx s->Q v H'
section
variable{F:Fm}{P:List Rw}{H H':Hp}{a:Addr}{s:Sv}{v:V}
theorem vV(R:Rep F P H)(e:Same H H'):Same (ext (hid (cB P) (F.vis H)) H H') (hid (cB P) (F.vis H')):=λb o hb=>by
 cases q:H b with
 |none =>
  rw[oV q]at hb
  exact bH.mpr ⟨R.not_own q,(oV (R.fresh q)).trans hb⟩
 |some u =>
  rw[nJ q]at hb
  exact qH (gp_ e) _ _ hb
theorem Rep.adopt(R:Rep F P H)(e:Same H H')(ha:H a=none)(hA:iN (.v s,some (.ref a))=[a])(h:RowOk (a::cB P) (F.vis H') H' (.v s,some (.ref a))):Rep F ((.v s,some (.ref a))::P) H':=by
 have A3:=R.not_own ha
 have hq:=R.fresh ha
 have R':=R.grow e
 refine⟨by rw[mE hA];exact cN.mpr ⟨A3,R.nd⟩,λr hr=>?_,λr hr b hb=>?_,R'.kp,R'.lv⟩
 ·rw [mE hA]
  rcases aE.mp hr with rfl | hr
  ·exact h
  ·refine (R.ok r hr).mono (.of fun b o hb => ?_) fun b hb => ?_
   ·have An:=bH.mp hb
    have Iz:b≠a:=λz=>by have:=R.vis _ _ An.2;rw[z,ha]at this;cases this
    exact bH.mpr ⟨λz=>(aE.mp z).elim Iz An.1,gp_ e _ _ An.2⟩
   ·obtain ⟨o,ho⟩:=R.own_in (ea_ hr hb)
    rw[ho,e _ _ ho]
 ·rcases aE.mp hr with rfl | hr
  ·cases eq1 hA hb;exact hq
  ·exact R.fr r hr b hb
theorem Rep.adoptW{o:Ow}(R:Rep F P H)(e:Same H H')(hn:o.fp.Nodup)(ha:∀a∈o.fp,H a=none)(h:OwOk (hid (o.fp++cB P) (F.vis H')) H' o v):Rep F ((.v (.ow o),some v)::P) H':=by
 have R':=R.grow e
 have hO:cB ((.v (.ow o),some v)::P)=o.fp++cB P:=ci_
 have Lc:∀a∈o.fp,a∉cB P:=λa h1=>R.not_own (ha a h1)
 refine⟨?_,λr hr=>?_,λr hr b hb=>?_,R'.kp,R'.lv⟩
 ·rw [hO]
  exact dY.mpr ⟨hn,R.nd,λa h1 b h2 z=>Lc a h1 (z ▸ h2)⟩
 ·rw [hO]
  rcases aE.mp hr with rfl | hr
  ·exact⟨v,rfl,h⟩
  ·refine (R.ok r hr).mono (.of fun b u hb => ?_) fun b hb => ?_
   ·have An:=bH.mp hb
    refine bH.mpr ⟨λz=>(bK.mp z).elim (λz=>?_) An.1,gp_ e _ _ An.2⟩
    have:=R.vis _ _ An.2;rw[ha b z]at this;cases this
   ·obtain ⟨u,hu⟩:=R.own_in (ea_ hr hb)
    rw[hu,e _ _ hu]
 ·rcases aE.mp hr with rfl | hr
  ·exact R.fresh (ha b hb)
  ·exact R.fr r hr b hb
theorem yN(R:Rep F P H)(e:Same H H')(ha:H a=none):Same (hid [a] (ext (hid (cB P) (F.vis H)) H H')) (hid (a::cB P) (F.vis H')):=λb o hb=>by
 have An:=bH.mp hb
 have:=bH.mp (vV R e _ _ An.2)
 exact bH.mpr ⟨λz=>(aE.mp z).elim (λz=>An.1 (by rw[z];exact aA)) this.1,this.2⟩
theorem Rep.res(R:Rep F P H)(e:Same H H')(h:aAm (hid (cB P) (F.vis H)) H H' s v):Rep F ((.v s,some v)::P) H':=by
 match s,h with
 | .tr d,h=>exact(R.grow e).add (IsX.to h (vV R e))
 | .ol l,⟨a,vs,h1,h2,h3,h4⟩ =>
  subst h1
  exact R.adopt e h2 rfl ⟨a,vs,rfl,h3,h4.imp λ_ _ z=>z.to (yN R e h2)⟩
 | .od l,⟨a,vs,h1,h2,h3,h4⟩ =>
  subst h1
  exact R.adopt e h2 rfl ⟨a,vs,rfl,h3,h4.imp λ_ _ z=>z.to (yN R e h2)⟩
 | .ow o,⟨h1,h2,h3⟩ =>
  refine R.adoptW e h1 h2 (OwOk.mono (.of λb u hb=>?_) o v (λ_ _=>rfl) h3)
  have An:=bH.mp hb
  have:=bH.mp (vV R e _ _ An.2)
  exact bH.mpr ⟨λz=>(bK.mp z).elim An.1 this.1,this.2⟩
end
theorem fY{X:Cx}{Ex:ExT}{j:Nat}{x:Str}{ps:List Str}{g:GC}{e:Expr}{es:List Expr}{u:XA}{p pos:Pos}(C:Cal X.prog X.w X.K X.mg X.base j x ps (spX g))(hr:Room j X.A)(ha:XAs X Ex (e::es) u)(hg:Gl X x:=by rfl)(Bs:(x == ("__debug__" : Str))=false:=by decide)
  (he:starEach (e::es) X.env=(false,eval e X.env)::starEach es X.env:=by rfl) (Ay:(backTo pos (starEach es X.env)).any (·.1)=false:=by rfl):XE X Ex (.Call (.Name x p) (e::es) [] pos) (dM g u):=λF=>(aFi C hr (ha F) hg Bs he Ay).weak λσ H Q=>by
 rintro⟨ρ,fr,Qx,E,t,k⟩
 refine⟨ρ,fr,_,E,t,λvs ss H2 ρ2 hl E2 q2=>?_⟩
 obtain⟨R,hs⟩:=E2.many hl
 rw[cH]
 exact⟨_,_,_,R.hv,hs,q2,λs v H' e hr q=>k v s H' ρ2 (EOk.back E2.len (R.res e hr)) q⟩
abbrev GB:=List Dx->List Dx->(Dx->List Dx->Prop)->Prop
def spB(g:GB):Sp:=λvs H Q _=>∃p ws l vr Hs ds Qx,vs=.ref p::vr/\H p=some (.lst ws)/\Same Hs H/\Hs p=none/\All2 (IsX Hs) l ws/\All2 (IsX Hs) ds vr/\g l ds Qx /\
 ∀d v l' ws' H',SameX p H H'->H' p=some (.lst ws')->All2 (IsX (hid [p] (ext Hs H H'))) l' ws'->IsX (ext Hs H H') d v->Qx d l'->Q v H'
def lM:Sl->Option (List Dx×(List Dx->Sl))
 | .bw l=>some (l,.bw)
 | .ba a l=>some (l,.ba a)
 | .v (.ol l)=>some (l,λl'=>.v (.ol l'))
 |_=>none
def iM(g:GB)(i:Nat)(u:XA):XT:=λρ Q=>((ρ[i]?).bind lM).isSome=true/\u ρ λss ρ'=>match (ρ'[i]?).bind lM with
 |some (l,f)=>g l (ss.map Sv.d) λd l'=>Q (.tr d) (ρ'.set i (f l'))
 |none=>False
section
variable{F:Fm}{P:List Rw}{H H':Hp}{a p:Addr}{s:Sv}{v:V}{r r':Rw}
theorem Rep.called(R:Rep F (r::P) H)(hA:iN r=[p])(Gs:iN r'=[p])(hF:FrOk F r p->FrOk F r' p)(e:SameX p H H')(hp:∃o,H' p=some o)(h:RowOk (p::cB P) (F.vis H') H' r'):Rep F (r'::P) H':=by
 have hn:=R.nd
 rw[mE hA]at hn
 have Ig:=(cN.mp hn).1
 have R1:=R.ok
 rw[mE hA]at R1
 have Cv:=R.fr r aA p (aUt hA)
 have ev:Same (hid (p::cB P) (F.vis H)) (hid (p::cB P) (F.vis H')):=λb o hb=>by
  have An:=bH.mp hb
  have F3:b≠p:=λz=>An.1 (by rw[z];exact aA)
  refine bH.mpr ⟨An.1,?_⟩
  cases q:F.H0 b with
  |none=>exact(oV q).trans (vE ((oV q).symm.trans An.2) λo h=>e.get F3 h)
  |some u=>exact(nJ q).trans ((nJ q).symm.trans An.2)
 refine⟨by rw[mE Gs];exact hn,λx hx=>?_,λx hx b hb=>?_,λb u h1 h2=>?_,λb hb=>?_⟩
 ·rw [mE Gs]
  rcases aE.mp hx with rfl | hx
  ·exact h
  ·refine (R1 x (aB _ hx)).mono (.of ev) fun b hb => ?_
   have F3:b≠p:=λz=>Ig (z ▸ ea_ hx hb)
   obtain⟨o,ho⟩:=R.own_in (ea_ (aB _ hx) hb)
   rw[ho,e.get F3 ho]
 ·rcases aE.mp hx with rfl | hx
  ·cases eq1 Gs hb;exact hF Cv
  ·exact R.fr x (aB _ hx) b hb
 ·have hb:=R.kp b u h1 h2
  by_cases z:b=p
  ·subst z
   rcases Cv.or with Cv | Cv
   ·exact absurd Cv h2
   ·rw[Cv]at h1;cases h1
  ·exact e.get z hb
 ·by_cases z:b=p
  ·subst z;exact hp
  ·obtain ⟨o,ho⟩:=R.lv b hb
   exact⟨o,e.get z ho⟩
theorem i7(R:Rep F (r::P) H)(hA:iN r=[p])(e:SameX p H H'):Same (ext (hid (cB (r::P)) (F.vis H)) H H') (hid (cB (r::P)) (F.vis H')):=λb o hb=>by
 have hpo:p∈cB (r::P):=by rw[mE hA];exact aA
 cases q:H b with
 |none =>
  rw[oV q]at hb
  exact bH.mpr ⟨R.not_own q,(oV (R.fresh q)).trans hb⟩
 |some u =>
  rw[nJ q]at hb
  have An:=bH.mp hb
  have F3:b≠p:=λz=>An.1 (by rw[z];exact hpo)
  refine bH.mpr ⟨An.1,?_⟩
  cases q:F.H0 b with
  |none=>exact(oV q).trans (vE ((oV q).symm.trans An.2) λo h=>e.get F3 h)
  |some u=>exact(nJ q).trans ((nJ q).symm.trans An.2)
end
theorem qC{sl:Sl}{x:Option V}{l:List Dx}{f:List Dx->Sl}{F:Fm}{P:List Rw}{H:Hp}(h:lM sl=some (l,f))(R:Rep F ((sl,x)::P) H):∃p ws,x=some (.ref p)/\H p=some (.lst ws)/\iN (sl,some (.ref p))=[p]/\All2 (IsX (hid (p::cB P) (F.vis H))) l ws /\
  ∀l',iN (f l',some (.ref p))=[p]/\(FrOk F (sl,some (.ref p)) p->FrOk F (f l',some (.ref p)) p)/\∀{O:List Addr} {G H':Hp} {ws':List V},H' p=some (.lst ws')->All2 (IsX (hid O G)) l' ws'->RowOk O G H' (f l',some (.ref p)):=by
 match sl,h with
 | .bw l,h =>
  cases h
  obtain⟨p,ws,h1,h2,h3⟩:=R.atB
  exact⟨p,ws,h1,h2,rfl,h3,λl'=>⟨rfl,id,λa b=>⟨p,_,rfl,a,b⟩⟩⟩
 | .v (.ol l),h =>
  cases h
  obtain⟨p,ws,h1,h2,h3⟩:=R.atL
  exact⟨p,ws,h1,h2,rfl,h3,λl'=>⟨rfl,id,λa b=>⟨p,_,rfl,a,b⟩⟩⟩
 | .ba a l,h =>
  cases h
  obtain⟨h1,ws,h2,h3⟩:=R.ok _ aA
  subst h1
  exact⟨a,ws,rfl,h2,rfl,by rw[<-mE (a:=a) (r:=(.ba a l,some (.ref a))) rfl];exact h3,λl'=>⟨rfl,id,λa b=>⟨rfl,_,a,b⟩⟩⟩
theorem iV{X:Cx}{Ex:ExT}{j i:Nat}{x:Str}{ps:List Str}{g:GB}{e:Expr}{es:List Expr}{u:XA}{p pos:Pos}(C:Cal X.prog X.w X.K X.mg X.base j x ps (spB g))(hr:Room j X.A)(hv:PE X e (gU i))(ha:XAs X Ex es u)(hg:Gl X x:=by rfl)(Bs:(x == ("__debug__" : Str))=false:=by decide)
  (he:starEach (e::es) X.env=(false,eval e X.env)::starEach es X.env:=by rfl) (Ay:(backTo pos (starEach es X.env)).any (·.1)=false:=by rfl):XE X Ex (.Call (.Name x p) (e::es) [] pos) (iM g i u):=λF=>(aFi C hr (hX hv (ha F) he) hg Bs he Ay).weak λσ H Q=>by
 rintro⟨ρ,fr,Qx,E,⟨t0,t⟩,k⟩
 obtain⟨⟨l0,f0⟩,h0⟩:=eP.mp t0
 obtain⟨sl0,h1,h2⟩:=eW.mp h0
 obtain⟨v,hv,hi,R0⟩:=dh_ E h1
 obtain⟨p,_,rfl,_⟩:=qC h2 R0
 refine⟨.ref p,hv,ρ,fr,_,E,t,λvs ss H2 ρ2 hl E2 q2=>?_⟩
 obtain⟨R,hs⟩:=E2.many hl
 split at q2
 ·rename_i l f hb
  obtain⟨sl,h3,h4⟩:=eW.mp hb
  have E3:EOk F ρ2 σ fr H2:=⟨E2.len,R⟩
  obtain⟨v',Br,Fj,R2⟩:=dh_ E3 h3
  rw[hv]at Br
  cases Br
  obtain⟨p',ws,ep,h5,h6,h7,h8⟩:=qC h4 R2
  cases ep
  rw[cH]
  have hO:(cB (ρ2.zip σ++fr)).Perm (cB ((sl,some (V.ref p))::((ρ2.zip σ).eraseIdx i++fr))):=((fg_ h3 hv).append_right fr).flatMap_right _
  have hOm:∀a∈cB ((sl,some (V.ref p))::((ρ2.zip σ).eraseIdx i++fr)),a∈cB (ρ2.zip σ++fr):=λa ha=>hO.mem_iff.mpr ha
  refine⟨p,ws,l,vs,hid (cB ((sl,some (V.ref p))::((ρ2.zip σ).eraseIdx i++fr))) (F.vis H2),_,_,rfl,h5,R2.hv,?_,?_,hs.imp λ_ _ z=>z.to (nM hOm),q2,λd w l' ws' H' e hp Ee hd q=>?_⟩
  ·unfold hid
   rw[if_pos (by rw[mE h6];exact aA)]
  ·rw [mE h6]
   exact h7
  ·obtain ⟨k1,k2,k3⟩:=h8 l'
   have ev:=i7 R2 h6 e
   have R3:=R2.called h6 k1 k2 e ⟨_,hp⟩ (k3 hp (Ee.imp λ_ _ z=>z.to λb o hb=>by
    have An:=bH.mp hb
    have:=ev _ _ An.2
    rw[mE h6]at this
    exact this))
   refine k w (.tr d) H' _ (EOk.back (by rw[bD];exact E2.len) ?_) q
   have R4:=R3.add (d:=d) (v:=w) (hd.to λb o hb=>by
    have:=ev _ _ hb
    rw[mE h6]at this
    rw[mE k1]
    exact this)
   exact R4.perm (((de_ E2.len Fj hv).append_right fr).symm.cons _)
 ·exact q2.elim
end Lf
variable{X:L2.Cx}{Ex:Lf.ExT}
namespace L2
open PySem
theorem PI.weak{X:Cx}{tg e:Expr}{t u:TI}(h:PI X tg e t)(w:∀σ H Q,u σ H Q->t σ H Q):PI X tg e u:=λAa s σ H Q I q=>h Aa s σ H Q I (w σ H Q q)
theorem PCs.weak{X:Cx}{e:List Expr}{t u:TT}(h:PCs X e t)(w:∀σ H Q,u σ H Q->t σ H Q):PCs X e u:=λAa s σ H Q I q=>h Aa s σ H Q I (w σ H Q q)
end L2
namespace Lf
open PySem L2
abbrev XI:=En->(List Dx->En->Prop)->Prop
structure ItX(F:Fm)(J:It)(row:List Rw)(ds:List Dx):Prop where
 go:∀P H i d,Rep F (row++P) H->ds[i]? = some d->J.go i H
 stop:∀P H i,Rep F (row++P) H->ds.length<=i->J.stop i H
 yld:∀P H i d x H',Rep F (row++P) H->ds[i]? = some d->J.yld i H x H'->Rep F ((vT d,some x)::(row++P)) H'
def tXi(F:Fm)(t:XI):TI:=λσ H R=>∃ρ fr Qx,EOk F ρ σ fr H/\t ρ Qx/\∀J H' ρ' row ds,EOk F ρ' σ (row++fr) H'->ItX F J row ds->Qx ds ρ'->R J H'
def XIt(X:Cx)(Ex:ExT)(tg iter:Expr)(t:XI):Prop:=∀F,[OkF X Ex F]->PI X tg iter (tXi F t)
def xiL(t:XT):XI:=λρ Q=>t ρ λs ρ'=>match s.d with
 | .lst l=>Q l ρ'
 |_=>False
def xiT(t:XT):XI:=λρ Q=>t ρ λs ρ'=>match s.d with
 | .tup l=>Q l ρ'
 |_=>False
theorem aGn{F:Fm}{K:eC}{a:Addr}{l:List Dx}:ItX F (Itl K a) [(vT (.lst l),some (.ref a))] l where
 go:=λP H i d R hd=>by
  obtain⟨v,e,h⟩:=R.atT;cases e
  obtain⟨_,vs,e,h1,h2⟩:=h.lst_eq;cases e
  obtain⟨x,h3,_⟩:=h2.at hd
  exact⟨vs,x,SqL.of (R.hv _ _ h1),h3⟩
 stop:=λP H i R hi=>by
  obtain⟨v,e,h⟩:=R.atT;cases e
  obtain⟨_,vs,e,h1,h2⟩:=h.lst_eq;cases e
  exact⟨vs,SqL.of (R.hv _ _ h1),by rw[h2.len];exact hi⟩
 yld:=λP H i d x H' R hd q=>by
  obtain⟨rfl,q⟩:=q
  obtain⟨v,e,h⟩:=R.atT;cases e
  obtain⟨_,vs,e,h1,h2⟩:=h.lst_eq;cases e
  obtain⟨y,h3,h4⟩:=h2.at hd
  rw[q vs (SqL.of (R.hv _ _ h1))]at h3
  cases h3
  exact R.add h4
theorem aLg{F:Fm}{K:eC}{a:Addr}{l:List Dx}:ItX F (Itt K a) [(vT (.tup l),some (.ref a))] l where
 go:=λP H i d R hd=>by
  obtain⟨v,e,h⟩:=R.atT;cases e
  obtain⟨_,vs,e,h1,h2⟩:=h.tup_eq;cases e
  obtain⟨x,h3,_⟩:=h2.at hd
  exact⟨vs,x,SqT.of (R.hv _ _ h1),h3⟩
 stop:=λP H i R hi=>by
  obtain⟨v,e,h⟩:=R.atT;cases e
  obtain⟨_,vs,e,h1,h2⟩:=h.tup_eq;cases e
  exact⟨vs,SqT.of (R.hv _ _ h1),by rw[h2.len];exact hi⟩
 yld:=λP H i d x H' R hd q=>by
  obtain⟨rfl,q⟩:=q
  obtain⟨v,e,h⟩:=R.atT;cases e
  obtain⟨_,vs,e,h1,h2⟩:=h.tup_eq;cases e
  obtain⟨y,h3,h4⟩:=h2.at hd
  rw[q vs (SqT.of (R.hv _ _ h1))]at h3
  cases h3
  exact R.add h4
section
variable{tg l a b:Expr}{t:XT}{u:XA}{p pos:Pos}
theorem tJ(h:XE X Ex l t):XIt X Ex tg l (xiL t):=λF=>(aJx (h F)).weak λσ H R=>by
 rintro⟨ρ,fr,Qx,E,t,k⟩
 refine⟨ρ,fr,_,E,t,λv s H' ρ' E' q=>?_⟩
 split at q
 ·rename_i m hm
  have R1:=E'.front.frz
  rw[hm]at R1
  obtain⟨v',e,h⟩:=R1.atT;cases e
  obtain⟨c,vs,rfl,h1,h2⟩:=h.lst_eq
  exact⟨c,rfl,⟨vs,SqL.of (R1.hv _ _ h1)⟩,k _ H' ρ' [(vT (.lst m),some (.ref c))] m (EOk.back E'.len R1) aGn q⟩
 ·exact q.elim
theorem aNt(h:XE X Ex l t):XIt X Ex tg l (xiT t):=λF=>(aOs (h F)).weak λσ H R=>by
 rintro⟨ρ,fr,Qx,E,t,k⟩
 refine⟨ρ,fr,_,E,t,λv s H' ρ' E' q=>?_⟩
 split at q
 ·rename_i m hm
  have R1:=E'.front.frz
  rw[hm]at R1
  obtain⟨v',e,h⟩:=R1.atT;cases e
  obtain⟨c,vs,rfl,h1,h2⟩:=h.tup_eq
  exact⟨c,rfl,⟨vs,SqT.of (R1.hv _ _ h1)⟩,k _ H' ρ' [(vT (.tup m),some (.ref c))] m (EOk.back E'.len R1) aLg q⟩
 ·exact q.elim
def xI(lo:Int)(n:Nat):List Dx:=(List.range n).map λk:Nat=>.int (lo+(k:Int))
theorem uN{lo:Int}{n i:Nat}{d:Dx}(h:(xI lo n)[i]? = some d):i<n/\d=.int (lo+i):=by
 unfold xI at h
 rw[bX]at h
 obtain⟨k,h1,h2⟩:=cQ.mp h
 obtain⟨h3,h4⟩:=aW.mp h1
 rw[List.getElem_range]at h4
 rw[dB]at h3
 subst h4
 exact⟨h3,h2.symm⟩
theorem aBu{F:Fm}{lo:Int}{n:Nat}:ItX F (Itr lo n) [] (xI lo n)where
 go:=λP H i d R hd=>(uN hd).1
 stop:=λP H i R hi=>by unfold xI at hi;rw[aC,dB]at hi;exact hi
 yld:=λP H i d x H' R hd q=>by
  obtain⟨rfl,rfl⟩:=q
  rw[(uN hd).2]
  exact R.add (IsX.of_int _)
def aIx(u:XA):XI:=λρ Q=>u ρ λss ρ'=>match ss.map Sv.d with
 | [.int j]=>(-(2^62)<=j/\j<2^62)/\Q (xI 0 j.toNat) ρ'
 |_=>False
theorem dv_(hm:X.mg "range" = none)(ha:XAs X Ex [a] u)(hg:Gl X "range":=by rfl)(hs:starEach [a] X.env=[(false,eval a X.env)]:=by rfl):XIt X Ex tg (.Call (.Name "range" p) [a] [] pos) (aIx u):=λF=>(ik_ hg hm (ha F) hs).weak λσ H R=>by
 rintro⟨ρ,fr,Qx,E,t,k⟩
 refine⟨ρ,fr,_,E,t,λvs ss H2 ρ2 hl E2 q=>?_⟩
 obtain⟨R,hs⟩:=E2.many hl
 split at q
 ·rename_i j hj
  rw[hj]at hs
  obtain⟨x,rfl,hx⟩:=vY hs
  cases hx.int_eq
  exact⟨j,rfl,q.1.1,q.1.2,k _ H2 ρ2 [] _ ⟨E2.len,R⟩ aBu q.2⟩
 ·exact q.elim
def hU(l m:List Dx):List Dx:=List.zipWith (λa b=>.tup [a,b]) l m
def xiZ(u:XA):XI:=λρ Q=>u ρ λss ρ'=>match ss.map Sv.d with
 | [.lst l,.lst m]=>Q (hU l m) ρ'
 |_=>False
def yS(l:List Dx):List Dx:=hU (xI 0 l.length) l
def xiE(u:XA):XI:=λρ Q=>u ρ λss ρ'=>match ss.map Sv.d with
 | [.lst l]=>Q (yS l) ρ'
 |_=>False
theorem gw_{l m:List Dx}{i:Nat}{d:Dx}(h:(hU l m)[i]? = some d):∃a b,l[i]? = some a/\m[i]? = some b/\d=.tup [a,b]:=by
 unfold hU at h
 rw[List.getElem?_zipWith]at h
 cases e1:l[i]? with
 |none=>rw[e1]at h;cases h
 |some a =>
  cases e2:m[i]? with
  |none=>rw[e1,e2]at h;cases h
  |some b=>rw[e1,e2]at h;exact⟨a,b,rfl,rfl,(ozI h).symm⟩
theorem v6{F:Fm}{K:eC}{a b:Addr}{l m:List Dx}:ItX F (Itz false false K a b) [(vT (.lst l),some (.ref a)),(vT (.lst m),some (.ref b))] (hU l m)where
 go:=λP H i d R hd=>by
  obtain⟨v,e,h⟩:=R.atT;cases e
  obtain⟨_,vs,e,h1,h2⟩:=h.lst_eq;cases e
  obtain⟨v,e,h'⟩:=R.tail.atT;cases e
  obtain⟨_,ws,e,h3,h4⟩:=h'.lst_eq;cases e
  obtain⟨c,c',e1,e2,_⟩:=gw_ hd
  obtain⟨x,h5,_⟩:=h2.at e1
  obtain⟨y,h6,_⟩:=h4.at e2
  exact⟨vs,ws,x,y,SqL.of (R.hv _ _ h1),SqL.of (R.hv _ _ h3),h5,h6⟩
 stop:=λP H i R hi=>by
  obtain⟨v,e,h⟩:=R.atT;cases e
  obtain⟨_,vs,e,h1,h2⟩:=h.lst_eq;cases e
  obtain⟨v,e,h'⟩:=R.tail.atT;cases e
  obtain⟨_,ws,e,h3,h4⟩:=h'.lst_eq;cases e
  refine⟨vs,ws,SqL.of (R.hv _ _ h1),SqL.of (R.hv _ _ h3),?_⟩
  unfold hU at hi
  rw[List.length_zipWith]at hi
  rw[h2.len,h4.len]
  lia
 yld:=λP H i d x H' R hd q=>by
  obtain⟨p,x,y,rfl,hp,rfl,q⟩:=q
  obtain⟨v,e,h⟩:=R.atT;cases e
  obtain⟨_,vs,e,h1,h2⟩:=h.lst_eq;cases e
  obtain⟨v,e,h'⟩:=R.tail.atT;cases e
  obtain⟨_,ws,e,h3,h4⟩:=h'.lst_eq;cases e
  obtain⟨c,c',e1,e2,rfl⟩:=gw_ hd
  obtain⟨x',h5,h7⟩:=h2.at e1
  obtain⟨y',h6,h8⟩:=h4.at e2
  obtain⟨q1,q2⟩:=q vs ws (SqL.of (R.hv _ _ h1)) (SqL.of (R.hv _ _ h3))
  rw[q1]at h5;cases h5
  rw[q2]at h6;cases h6
  exact R.newT hp ⟨_,_,rfl,h7,_,_,rfl,h8,rfl⟩
theorem aGo{F:Fm}{K:eC}{a:Addr}{l:List Dx}:ItX F (Ite K a) [(vT (.lst l),some (.ref a))] (yS l)where
 go:=λP H i d R hd=>by
  obtain⟨v,e,h⟩:=R.atT;cases e
  obtain⟨_,vs,e,h1,h2⟩:=h.lst_eq;cases e
  obtain⟨c,c',e1,e2,_⟩:=gw_ hd
  obtain⟨y,h6,_⟩:=h2.at e2
  exact⟨vs,y,SqL.of (R.hv _ _ h1),h6⟩
 stop:=λP H i R hi=>by
  obtain⟨v,e,h⟩:=R.atT;cases e
  obtain⟨_,vs,e,h1,h2⟩:=h.lst_eq;cases e
  refine⟨vs,SqL.of (R.hv _ _ h1),?_⟩
  unfold yS hU xI at hi
  rw[List.length_zipWith,aC,dB]at hi
  rw[h2.len]
  lia
 yld:=λP H i d x H' R hd q=>by
  obtain⟨p,x,rfl,hp,rfl,q⟩:=q
  obtain⟨v,e,h⟩:=R.atT;cases e
  obtain⟨_,vs,e,h1,h2⟩:=h.lst_eq;cases e
  obtain⟨c,c',e1,e2,rfl⟩:=gw_ hd
  obtain⟨y',h6,h8⟩:=h2.at e2
  rw[q vs (SqL.of (R.hv _ _ h1))]at h6;cases h6
  rw[(uN e1).2]
  exact R.newT hp ⟨_,_,rfl,by rw[show(0:Int)+(i:Int)=i from Int.zero_add _];exact IsX.of_int _,_,_,rfl,h8,rfl⟩
theorem zV{es:List Expr}{kk:Nat}{tpos:Pos}(hm:X.mg "zip" = none)(ha:XAs X Ex [a,b] u)(hg:Gl X "zip":=by rfl)(hs:starEach [a,b] X.env=[(false,eval a X.env),(false,eval b X.env)]:=by rfl)(C5:starEach [b] X.env=[(false,eval b X.env)]:=by rfl) :
  XIt X Ex (.Tuple es kk tpos) (.Call (.Name "zip" p) [a,b] [] pos) (xiZ u):=λF=>(d6 (t1:=false) (t2:=false) hg hm (ha F) hs C5).weak λσ H R=>by
 rintro⟨ρ,fr,Qx,E,t,k⟩
 refine⟨ρ,fr,_,E,t,λvs ss H2 ρ2 hl E2 q=>?_⟩
 obtain⟨R,hs⟩:=E2.many hl
 split at q
 ·rename_i l m hj
  rw[hj]at hs
  obtain⟨x,y,rfl,hx,hy⟩:=k_ hs
  obtain⟨c,cs,rfl,h1,_⟩:=hx.lst_eq
  obtain⟨d,ds,rfl,h3,_⟩:=hy.lst_eq
  have R1:=(R.add hy).add (d:=.lst l) (v:=.ref c) hx
  exact⟨c,d,rfl,⟨cs,SqL.of (R.hv _ _ h1)⟩,⟨ds,SqL.of (R.hv _ _ h3)⟩,k _ H2 ρ2 [(vT (.lst l),some (.ref c)),(vT (.lst m),some (.ref d))] _ ⟨E2.len,R1.perm ((mO.symm.cons _).trans mO.symm)⟩ v6 q⟩
 ·exact q.elim
theorem m8{es:List Expr}{kk:Nat}{tpos:Pos}(hm:X.mg "enumerate" = none)(ha:XAs X Ex [a] u)(hg:Gl X "enumerate":=by rfl)(hs:starEach [a] X.env=[(false,eval a X.env)]:=by rfl) :
  XIt X Ex (.Tuple es kk tpos) (.Call (.Name "enumerate" p) [a] [] pos) (xiE u):=λF=>(aJy hg hm (ha F) hs).weak λσ H R=>by
 rintro⟨ρ,fr,Qx,E,t,k⟩
 refine⟨ρ,fr,_,E,t,λvs ss H2 ρ2 hl E2 q=>?_⟩
 obtain⟨R,hs⟩:=E2.many hl
 split at q
 ·rename_i l hj
  rw[hj]at hs
  obtain⟨x,rfl,hx⟩:=vY hs
  obtain⟨c,cs,rfl,h1,_⟩:=hx.lst_eq
  exact⟨c,rfl,⟨cs,SqL.of (R.hv _ _ h1)⟩,k _ H2 ρ2 [(vT (.lst l),some (.ref c))] _ (EOk.back E2.len (R.add hx)) aGo q⟩
 ·exact q.elim
end
abbrev XG:=Dx->En->(En->Prop)->Prop
def GX(n:Nat)(g:TG)(gx:XG):Prop:=∀(F:Fm) (ρ:En) (σ:St) (fr:List Rw) (H:Hp) (d:Dx) (x:V) (Q:St->Hp->Prop) (Qx:En->Prop),EOk F ρ σ ((vT d,some x)::fr) H->gx d ρ Qx ->
 (∀σ' H' ρ',EOk F ρ' σ' fr H'->σ'.length=σ.length->(∀i,n<=i->σ'[i]? = σ[i]?)->Qx ρ'->Q σ' H')->g x σ H Q
def gxN(i:Nat):XG:=λd ρ Q=>Q (ρ.set i (vT d))
theorem hg_{F:Fm}{ρ:En}{σ:St}{fr:List Rw}{H:Hp}{s:Sv}{x:V}{i:Nat}(E:EOk F ρ σ ((.v s,some x)::fr) H):EOk F (ρ.set i (.v s)) (σ.set i (some x)) fr H:=by
 by_cases hi:i<ρ.length
 ·refine ⟨by rw [bD,bD]; exact E.len,?_⟩
  have hz:=aEy (l:=ρ.zip σ) (i:=i) (aM (by rw[hZ];have:=E.len;lia))
  have R:=E.front.perm ((hz.append_right fr).cons _)
  exact(R.perm (.swap _ _ _)).tail.perm ((nP E.len hi).append_right fr).symm
 ·rw [cU (by lia),cU (by have:=E.len; lia)]
  exact E.drop
theorem nK{n i:Nat}(h:i<n):GX n (jF i) (gxN i):=λF ρ σ fr H d x Q Qx E g k=>k _ H _ (hg_ E) (bD) (λj hj=>dR (by lia)) g
@[reducible] def aLh:List Nat->TGs
 | []=>aLs
 |i::is=>w6 (jF i) (aLh is)
def gxs:List Nat->List Dx->En->(En->Prop)->Prop
 | [],[],ρ,Q=>Q ρ
 |i::is,d::ds,ρ,Q=>gxs is ds (ρ.set i (.v (.tr d))) Q
 |_,_,_,_=>False
def gxT(is:List Nat):XG:=λd ρ Q=>match d with
 | .tup ds=>gxs is ds ρ Q
 |_=>False
def gxL(is:List Nat):XG:=λd ρ Q=>match d with
 | .lst ds=>gxs is ds ρ Q
 |_=>False
theorem g9{n:Nat}{F:Fm}{fr:List Rw}{H:Hp}{Q:St->Hp->Prop}{Qx:En->Prop}:∀{is:List Nat} {ds:List Dx} {xs:List V} {ρ:En} {σ:St},(∀i∈is,i<n)->EOk F ρ σ fr H->All2 (IsX (hid (cB (ρ.zip σ++fr)) (F.vis H))) ds xs->gxs is ds ρ Qx ->
  (∀σ' ρ',EOk F ρ' σ' fr H->σ'.length=σ.length->(∀i,n<=i->σ'[i]? = σ[i]?)->Qx ρ'->Q σ' H)->aLh is xs σ H Q
 | [],[],xs,ρ,σ,_,E,ha,g,k=>⟨ha,k σ ρ E rfl (λ_ _=>rfl) g⟩
 |i::is,d::ds,xs,ρ,σ,hi,E,⟨x,xr,e,h1,h2⟩,g,k=>by
  have E1:EOk F (ρ.set i (vT d)) (σ.set i (some x)) fr H:=hg_ (EOk.back E.len (E.rep.add h1))
  refine⟨x,xr,e,g9 (λj hj=>hi j (aB _ hj)) E1 (h2.imp λa b z=>z.to (nM λc hc=>?_)) g λσ' ρ' E' hl hs q=>k σ' ρ' E' (hl.trans bD) (λj hj=>(hs j hj).trans (dR (by have:=hi i aA;lia))) q⟩
  by_cases Bf:i<ρ.length
  ·have hp:=((nP (s:=.v (.tr d)) (v:=some x) E.len Bf).append_right fr).flatMap_right iN
   have hz:=((aEy (l:=ρ.zip σ) (i:=i) (aM (by rw[hZ];have:=E.len;lia))).append_right fr).flatMap_right iN
   refine hz.mem_iff.mpr ?_
   have:=hp.mem_iff.mp hc
   rw[bA,List.flatMap_cons]at this
   rw[bA,List.flatMap_cons]
   rcases bK.mp this with z | z
   ·cases z
   ·exact aI _ z
  ·rw [cU (by lia),cU (by have:=E.len; lia)] at hc
   exact hc
 | [],_::_,_,_,_,_,_,_,g,_=>g.elim
 |_::_,[],_,_,_,_,_,_,g,_=>g.elim
theorem vM{Q:En->Prop}:∀{is:List Nat} {ds:List Dx} {ρ:En},gxs is ds ρ Q->ds.length=is.length
 | [],[],_,_=>rfl
 |i::is,d::ds,ρ,g=>congrArg (· + 1) (vM (is:=is) (ds:=ds) (ρ:=ρ.set i (.v (.tr d))) g)
 | [],_::_,_,g=>g.elim
 |_::_,[],_,g=>g.elim
theorem fd_{K:eC}{n m:Nat}{is:List Nat}(hm:is.length=m)(h:∀i∈is,i<n):GX n (aLr K m (aLh is)) (gxT is):=λF ρ σ fr H d x Q Qx E g k=>by
 unfold gxT at g
 split at g
 ·obtain ⟨R,hx⟩:=E.one
  obtain⟨a,vs,rfl,h1,h2⟩:=hx.tup_eq
  exact⟨a,vs,rfl,SqT.of (R.hv _ _ h1),by rw[h2.len,vM g,hm],g9 h E.drop h2 g λσ' ρ' E' hl hs q=>k σ' H ρ' E' hl hs q⟩
 ·exact g.elim
theorem qI{K:eC}{n m:Nat}{is:List Nat}(hm:is.length=m)(h:∀i∈is,i<n):GX n (aLt K m (aLh is)) (gxL is):=λF ρ σ fr H d x Q Qx E g k=>by
 unfold gxL at g
 split at g
 ·obtain ⟨R,hx⟩:=E.one
  obtain⟨a,vs,rfl,h1,h2⟩:=hx.lst_eq
  exact⟨a,vs,rfl,SqL.of (R.hv _ _ h1),by rw[h2.len,vM g,hm],g9 h E.drop h2 g λσ' ρ' E' hl hs q=>k σ' H ρ' E' hl hs q⟩
 ·exact g.elim
def lP:XC:=λρ Q=>Q true ρ
def XCs(X:Cx)(Ex:ExT)(ifs:List Expr)(t:XC):Prop:=∀F,[OkF X Ex F]->PCs X ifs (tXc F t)
theorem rF{X:Cx}{Ex:ExT}:XCs X Ex [] lP:=λF=>(t9 (X:=X)).weak λσ H Q=>by
 rintro⟨ρ,fr,Qx,E,t,k⟩
 exact k true H ρ E t
theorem nR{c:Expr}{t:XC}(h:XTe X Ex c t):XCs X Ex [c] t:=λF=>aKe (h F)
def dG(n:Nat)(gx:XG)(tc:XC)(te:XT)(Q:List Dx->List Sl->Prop):List Dx->List Sl->List Dx->Prop
 | [],cs,Ab=>Q Ab cs
 |d::ds,cs,Ab=>gx d (List.replicate n .un++cs) λρ1=>tc ρ1 λb ρ2=>if b=true then te ρ2 λs ρ3=>dG n gx tc te Q ds (ρ3.drop n) (Ab++[s.d])else dG n gx tc te Q ds (ρ2.drop n) Ab
def cut:List Nat->En->En
 | [],ρ=>ρ
 |j::js,ρ=>cut js (ρ.set j .un)
def gB(outs:List Nat)(ρ:En):List Sl:=outs.map λj=>(ρ[j]?).getD .un
def back:List Nat->List Sl->En->En
 |j::js,c::cs,ρ=>back js cs (ρ.set j c)
 |_,_,ρ=>ρ
def iA(n:Nat)(outs:List Nat)(ti:XI)(gx:XG)(tc:XC)(te:XT):XT:=λρ Q=>ti ρ λds ρ1=>ds.length<=1000000/\dG n gx tc te (λAb cs=>Q (.ol Ab) (back outs cs ρ1)) ds (gB outs ρ1) []
theorem sw{α:Type}{A B C:List α}:(A++(B++C)).Perm (B++(A++C)):=by
 rw[<-bN,<-bN]
 exact List.perm_append_comm.append_right C
section
variable{F:Fm}{H:Hp}{σ:St}
abbrev kX(σ:St)(outs:List Nat):St:=outs.map λj=>(σ[j]?).join
theorem aHu{js:List Nat}{j:Nat}{s:Sl}{ρ:En}(h:j∉js):gB js (ρ.set j s)=gB js ρ:=by
 unfold gB
 refine List.map_congr_left λk hk=>?_
 rw[dR (λz=>h (by rw[z];exact hk))]
theorem oU:∀{js:List Nat} {ρ:En},(cut js ρ).length=ρ.length
 | [],_=>rfl
 |j::js,ρ=>(oU (js:=js)).trans bD
theorem aAc:∀{js:List Nat} {j:Nat} {s:Sl} {ρ:En},j∉js->cut js (ρ.set j s)=(cut js ρ).set j s
 | [],_,_,_,_=>rfl
 |k::js,j,s,ρ,h=>by
  show cut js ((ρ.set j s).set k .un)=(cut js (ρ.set k .un)).set j s
  rw[List.set_comm _ _ (λz=>h (by rw[z];exact aA)),aAc λz=>h (aB _ z)]
theorem s9:∀{outs:List Nat} {ρ:En} {T:List Rw},outs.Nodup->ρ.length=σ.length->Rep F (ρ.zip σ++T) H->Rep F ((gB outs ρ).zip (kX σ outs)++((cut outs ρ).zip σ++T)) H
 | [],_,_,_,_,R=>R
 |j::js,ρ,T,hn,hl,R=>by
  have Cq:=cN.mp hn
  have step:Rep F ((ρ.set j .un).zip σ++(((ρ[j]?).getD .un,(σ[j]?).join)::T)) H:=by
   by_cases hj:j<ρ.length
   ·have h1:ρ[j]? = some ρ[j]:=aM hj
    have h2:σ[j]? = some (σ[j]'(by lia)):=aM (by lia)
    have R1:=R.perm ((fg_ h1 h2).append_right T)
    have R2:=R1.addU (x:=σ[j]'(by lia))
    rw[h1,h2]
    refine R2.perm ?_
    refine(List.Perm.swap _ _ _).trans ?_
    exact(((de_ hl hj h2).append_right T).symm.cons _).trans mO.symm
   ·rw [cU (by lia),iX (by lia),iX (by lia)]
    exact(R.addU (x:=none)).perm mO.symm
  have:=s9 (outs:=js) Cq.2 (by rw[bD];exact hl) step
  rw[aHu Cq.1]at this
  show Rep F ((((ρ[j]?).getD .un,(σ[j]?).join)::(gB js ρ).zip (kX σ js))++((cut js (ρ.set j .un)).zip σ++T)) H
  refine this.perm ?_
  refine List.Perm.trans ?_ (List.Perm.refl _)
  rw[<-bN]
  exact mO.trans (by rw[bN];exact .refl _)
theorem aEx:∀{outs:List Nat} {cs:List Sl} {ρ:En} {T:List Rw},outs.Nodup->ρ.length=σ.length->cs.length=outs.length->Rep F (cs.zip (kX σ outs)++((cut outs ρ).zip σ++T)) H->Rep F ((back outs cs ρ).zip σ++T) H
 | [],[],_,_,_,_,_,R=>R
 | [],_::_,_,_,_,_,h,_=>by simp at h
 |_::_,[],_,_,_,_,h,_=>by simp at h
 |j::js,c::cs,ρ,T,hn,hl,hc,R=>by
  have Cq:=cN.mp hn
  refine aEx (outs:=js) (cs:=cs) (ρ:=ρ.set j c) Cq.2 (by rw[bD];exact hl) (by simpa using hc) ?_
  have R1:Rep F ((c,(σ[j]?).join)::(cs.zip (kX σ js)++((cut js (ρ.set j .un)).zip σ++T))) H:=R
  rw[aAc Cq.1]at R1 ⊢
  have Hg:(cut js ρ).length=σ.length:=oU.trans hl
  by_cases hj:j<ρ.length
  ·have Mv:j < (cut js ρ).length:=by rw [oU]; exact hj
   have h2:σ[j]? = some (σ[j]'(by lia)):=aM (by lia)
   rw[h2]at R1
   have p1:=((de_ (s:=.un) Hg Mv h2).append_right T)
   have p2:=((de_ (s:=c) Hg Mv h2).append_right T)
   have R2:=R1.perm ((List.Perm.append_left _ p1).cons _)
   have R3:=R2.perm ((mO.cons _).trans (.swap _ _ _))
   exact R3.tail.perm (mO.symm.trans (List.Perm.append_left _ p2.symm))
  ·have hz:(cut js ρ).length≤j:=by rw [oU]; lia
   rw[cU hz]at R1 ⊢
   exact R1.tail
theorem Rep.drops:∀{A P:List Rw},Rep F (A++P) H->Rep F P H
 | [],_,R=>R
 |_::_,_,R=>Rep.drops R.tail
theorem Rep.addUs{P:List Rw}(R:Rep F P H):∀n,Rep F (List.replicate n (.un,none)++P) H
 | 0=>R
 |n+1=>(Rep.addUs R n).addU
def nO(ds:List Dx)(xs:List V):List Rw:=(ds.zip xs).map λp=>(vT p.1,some p.2)
theorem Rep.accs:∀{ds:List Dx} {xs:List V} {P:List Rw},ds.length=xs.length->Rep F (nO ds xs++P) H->Rep F P H/\All2 (IsX (hid (cB P) (F.vis H))) ds xs
 | [],[],P,_,R=>⟨R,rfl⟩
 | [],_::_,_,h,_=>by simp at h
 |_::_,[],_,h,_=>by simp at h
 |d::ds,x::xs,P,h,R=>by
  obtain⟨v,e,hx⟩:=Rep.atT (show Rep F ((vT d,some x)::(nO ds xs++P)) H from R)
  cases e
  obtain⟨R1,h1⟩:=Rep.accs (ds:=ds) (xs:=xs) (by simpa using h) (Rep.tail (show Rep F ((vT d,some x)::(nO ds xs++P)) H from R))
  refine⟨R1,x,xs,rfl,hx.to (nM λc hc=>?_),h1⟩
  unfold cB
  rw[List.flatMap_append]
  exact aI _ hc
end
section
variable{dsc scope:Scope}{tgs N':List Str}{outs:List Nat}{tg iter elt:Expr}{ifs:List Expr}{pos:Pos}{ti:XI}{g:TG}{gx:XG}{tc:XC}{te:XT}
theorem iw_{F:Fm}{n:Nat}(Bj:GX n g gx)(A3:outs.Nodup){tcT:TT}{teT:TE}(htc:∀σ H Q,tXc F tc σ H Q->tcT σ H Q)(hte:∀σ H Q,tX F te σ H Q->teT σ H Q){σ:St}{H':Hp}{Q:VK}{Qx:Sv->En->Prop}{ρ':En}{fr row:List Rw}{ds:List Dx}{J:It}
  (k:∀v s H' ρ',EOk F ρ' σ ((.v s,some v)::fr) H'->Qx s ρ'->Q v H') (E':EOk F ρ' σ (row++fr) H') (hJ:ItX F J row ds) (q:ds.length<=1000000/\dG n gx tc te (λAb cs=>Qx (.ol Ab) (back outs cs ρ')) ds (gB outs ρ') []) :
  ∃W:Nat->Nat->List V->Hp->Prop,(∃m,W 0 m [] H')/\∀i m Ab H,W i m Ab H ->
  (J.stop i H/\Ab.length<=sizeLine/\∀l,H l=none->Q (.ref l) (upd H l (.lst Ab))) \/
  (J.go i H∧Ab.length < sizeLine∧∃ N:List V→Hp→Prop,(∀ acc' H',N acc' H'→∃ m',m' < m∧W (i + 1) m' acc' H')∧∀ x H',J.yld i H x H'→g x (jX n outs σ) H' fun σ2 H2=>tcT σ2 H2 fun b H3 =>
   if b=true then teT σ2 H3 λy H4=>N (Ab++[y]) H4 else N Ab H3):=by
 obtain⟨hd,q⟩:=q
 have zl:=gW
 refine⟨λi m Ab H=>m=ds.length-i/\i<=ds.length/\∃cs accD,cs.length=outs.length/\accD.length=Ab.length/\Ab.length<=i/\Rep F (cs.zip (kX σ outs)++(nO accD Ab++(row++((cut outs ρ').zip σ++fr)))) H /\
  dG n gx tc te (λAb cs=>Qx (.ol Ab) (back outs cs ρ')) (ds.drop i) cs accD,⟨ds.length,by simp,eS _,gB outs ρ',[],by simp[gB],rfl,aP _,?_,by simpa using q⟩,?_⟩
 ·have R:=s9 (outs:=outs) A3 E'.len E'.rep
  refine R.perm (List.Perm.append_left _ ?_)
  exact sw
 rintro i m Ab H3 ⟨rfl,hi,cs,accD,Hg,Ef,hai,R,hq⟩
 have C6:Rep F (row++(cs.zip (kX σ outs)++(nO accD Ab++((cut outs ρ').zip σ++fr)))) H3:=by
  exact R.perm ((List.Perm.append_left _ sw).trans sw)
 by_cases Bf:i<ds.length
 ·right
  have Iq:ds[i]? = some ds[i]:=aM Bf
  rw[List.drop_eq_getElem_cons Bf]at hq
  refine⟨hJ.go _ _ i _ C6 Iq,by lia,λacc' H4=>∃m',m'<ds.length-i/\(m'=ds.length-(i+1)/\i+1<=ds.length/\∃cs accD,cs.length=outs.length/\accD.length=acc'.length/\acc'.length<=i+1/\Rep F (cs.zip (kX σ outs)++(nO accD acc'++(row++((cut outs ρ').zip σ++fr)))) H4 /\
   dG n gx tc te (λAb cs=>Qx (.ol Ab) (back outs cs ρ')) (ds.drop (i+1)) cs accD),λacc' H4 h=>h,λx H4 hy=>?_⟩
  have R4:=hJ.yld _ _ i _ x H4 C6 Iq hy
  have J0:∀(cs:List Sl),cs.length=outs.length->(List.replicate n Sl.un++cs).zip (jX n outs σ)=List.replicate n (Sl.un,none)++cs.zip (kX σ outs):=λcs Ep=>by
   unfold jX
   rw[List.zip_append (by rw[bV,bV]),List.zip_replicate]
   simp
  have Ei:EOk F (List.replicate n .un++cs) (jX n outs σ) ((vT ds[i],some x)::(nO accD Ab++(row++((cut outs ρ').zip σ++fr)))) H4:=by
   refine⟨by rw[pO,aK,bV,Hg],?_⟩
   rw[J0 cs Hg,bN]
   refine Rep.addUs (R4.perm ?_) n
   exact((sw.trans (List.Perm.append_left _ sw)).cons _).trans mO.symm
  have fin:∀{ρ3:En} {σ2:St} {H5:Hp} {accD':List Dx} {acc':List V},σ2.length=(jX n outs σ).length->(∀j,n<=j->σ2[j]? = (jX n outs σ)[j]?)->EOk F ρ3 σ2 (nO accD' acc'++(row++((cut outs ρ').zip σ++fr))) H5->accD'.length=acc'.length->acc'.length<=i+1 ->
    dG n gx tc te (λAb cs=>Qx (.ol Ab) (back outs cs ρ')) (ds.drop (i+1)) (ρ3.drop n) accD' ->
    ∃m',m'<ds.length-i/\(m'=ds.length-(i+1)/\i+1<=ds.length/\∃cs accD,cs.length=outs.length/\accD.length=acc'.length/\acc'.length<=i+1/\Rep F (cs.zip (kX σ outs)++(nO accD acc'++(row++((cut outs ρ').zip σ++fr)))) H5 /\
     dG n gx tc te (λAb cs=>Qx (.ol Ab) (back outs cs ρ')) (ds.drop (i+1)) cs accD):=λ{ρ3 σ2 H5 accD' acc'} Cg C5 E3 h1 h2 h3=>by
   have Kv:ρ3.length=n+outs.length:=by rw[E3.len,Cg,pO]
   refine⟨ds.length-(i+1),by lia,rfl,Bf,ρ3.drop n,accD',by rw[List.length_drop,Kv];lia,h1,h2,?_,h3⟩
   have hv:σ2.drop n=kX σ outs:=by
    apply List.ext_getElem?
    intro j
    rw[List.getElem?_drop,C5 _ (Nat.le_add_right n j)]
    unfold jX
    rw[gM (by rw[bV];lia),bV,Nat.add_sub_cancel_left]
   have hz:ρ3.zip σ2=(ρ3.take n).zip (σ2.take n)++(ρ3.drop n).zip (σ2.drop n):=by
    rw[<-List.zip_append (by rw[gT,gT,E3.len]),List.take_append_drop,List.take_append_drop]
   have R5:=E3.rep
   rw[hz,hv,bN]at R5
   exact Rep.drops R5
  refine Bj F _ _ _ H4 _ x _ _ Ei hq λσ2 H5 ρ1 E1 Cg C5 q1=>htc _ _ _ ⟨ρ1,_,_,E1,q1,λb H6 ρ2 E2 q2=>?_⟩
  cases b with
  |false=>exact fin Cg C5 E2 Ef (by lia) q2
  |true =>
   refine hte _ _ _ ⟨ρ2,_,_,E2,q2,λy s H7 ρ3 E3 q3=>?_⟩
   refine fin (accD':=accD++[s.d]) (acc':=Ab++[y]) Cg C5 ⟨E3.len,?_⟩ (by rw[aK,aK,Ef];rfl) (by rw[aK];show Ab.length+1<=_;lia) q3
   have R7:=(EOk.front E3).frz
   have he:nO (accD++[s.d]) (Ab++[y])=nO accD Ab++[(vT s.d,some y)]:=by
    unfold nO
    rw[List.zip_append Ef,cP]
    rfl
   rw[he,bN]
   exact R7.perm (mO.symm.trans (List.Perm.append_left _ mO.symm))
 ·left
  have K3:i=ds.length:=by lia
  subst K3
  rw[List.drop_length]at hq
  refine⟨hJ.stop _ _ _ C6 (aP _),by lia,λl hl=>?_⟩
  have R1:=R.perm (sw.trans (List.Perm.append_left _ sw))
  obtain⟨R2,ha⟩:=R1.accs Ef
  have R3:Rep F (row++((.v (.ol accD),some (.ref l))::(cs.zip (kX σ outs)++((cut outs ρ').zip σ++fr)))) (upd H3 l (.lst Ab)):=(R2.newL hl ha).perm mO.symm
  have R4:Rep F (cs.zip (kX σ outs)++((cut outs ρ').zip σ++((.v (.ol accD),some (.ref l))::fr))) (upd H3 l (.lst Ab)):=R3.drops.perm (mO.symm.trans (List.Perm.append_left _ mO.symm))
  have hbl:∀{js:List Nat} {cs:List Sl} {ρ:En},(back js cs ρ).length=ρ.length:=by
   intro js
   induction js with
   |nil=>intro cs ρ;cases cs<;>rfl
   |cons j js ih=>intro cs ρ;cases cs with
    |nil=>rfl
    |cons c cs=>exact(ih (cs:=cs) (ρ:=ρ.set j c)).trans bD
  exact k _ (.ol accD) _ (back outs cs ρ') ⟨hbl.trans E'.len,aEx A3 E'.len Hg R4⟩ hq
theorem o4{F:Fm}{n:Nat}(Bj:GX n g gx)(A3:outs.Nodup):∀σ H Q,tX F (iA n outs ti gx tc te) σ H Q->sE n outs (tXi F ti) g (tXc F tc) (tX F te) σ H Q:=by
 rintro σ H Q ⟨ρ,fr,Qx,E,t,k⟩
 exact⟨ρ,fr,_,E,t,λJ H' ρ' row ds E' hJ q=>iw_ Bj A3 (λ_ _ _ z=>z) (λ_ _ _ z=>z) k E' hJ q⟩
end
end Lf
namespace L2
open PySem
theorem PS.weak{X:Cx}{e:Stmt}{t u:TS}(h:PS X e t)(w:∀D σ H,u D σ H->t D σ H):PS X e u:=λAa s σ H D I q=>h Aa s σ H D I (w D σ H q)
theorem PSs.weak{X:Cx}{e:List Stmt}{t u:TS}(h:PSs X e t)(w:∀D σ H,u D σ H->t D σ H):PSs X e u:=λAa s σ H D I q=>h Aa s σ H D I (w D σ H q)
end L2
namespace Lf
open PySem L2
theorem tI{dsc scope:Scope}{tgs N' N:List Str}{outs:List Nat}{tg iter elt:Expr}{ifs:List Expr}{pos:Pos}{ti:XI}{g:TG}{gx:XG}{tc:XC}{te:XT}(S:CompScope dsc scope N tgs outs N')(hi:XIt X Ex tg iter ti)(hg:∀cl C s H ex,PG (eB X N' scope cl C s H ex) tg g)(Bj:GX tgs.length g gx)(E7:Tgt tgs.length g)
  (Ep:∀cl C s H ex,XCs (eB X N' scope cl C s H ex) dZ ifs tc) (he:∀cl C s H ex,XE (eB X N' scope cl C s H ex) dZ elt te) (A3:outs.Nodup:=by decide) (F5:X.N=N:=by rfl) (Dj:X.env.scope=dsc:=by rfl) (hc:X.calm=true:=by rfl) (hs:∀x,foldedSetIterable iter X.env x=pure x:=by intro _;rfl) :
  XE X Ex (.ListComp elt [⟨tg,iter,ifs,0⟩] scope pos) (iA tgs.length outs ti gx tc te):=λF =>
 (oF S (hi F) hg E7 (λa b c d e=>Ep a b c d e F) (λa b c d e=>he a b c d e F) F5 Dj hc hs).weak (o4 Bj A3)
structure XD where
 nx:En->Prop
 rt:Sv->En->Prop
 bk:En->Prop
 ct:En->Prop
abbrev XS:=En->XD->Prop
structure DOk(F:Fm)(n:Nat)(fr:List Rw)(D:Ends)(d:XD):Prop where
 nx:∀σ' H' ρ',σ'.length=n->EOk F ρ' σ' fr H'->d.nx ρ'->D.nx σ' H'
 rt:∀v s σ' H' ρ',σ'.length=n->EOk F ρ' σ' ((.v s,some v)::fr) H'->d.rt s ρ'->D.rt v H'
 bk:∀σ' H' ρ',σ'.length=n->EOk F ρ' σ' fr H'->d.bk ρ'->D.bk σ' H'
 ct:∀σ' H' ρ',σ'.length=n->EOk F ρ' σ' fr H'->d.ct ρ'->D.ct σ' H'
def tXS(F:Fm)(G:XS):TS:=λD σ H=>∃ρ fr d,EOk F ρ σ fr H/\G ρ d/\DOk F σ.length fr D d
def XSt(X:Cx)(Ex:ExT)(st:Stmt)(G:XS):Prop:=∀F,[OkF X Ex F]->PS X st (tXS F G)
def XSs(X:Cx)(Ex:ExT)(st:List Stmt)(G:XS):Prop:=∀F,[OkF X Ex F]->PSs X st (tXS F G)
def eZ:XS:=λρ D=>D.nx ρ
def dU(G K:XS):XS:=λρ D=>G ρ { D with nx:=λρ'=>K ρ' D }
def iL(i:Nat)(t:XT):XS:=λρ D=>t ρ λs ρ'=>D.nx (ρ'.set i (.v s))
def aNz(t:XT)(gx:XG):XS:=λρ D=>t ρ λs ρ'=>gx s.d ρ' D.nx
def aJd(t:XT):XS:=λρ D=>t ρ λ_ ρ'=>D.nx ρ'
def hW(t:XT):XS:=λρ D=>t ρ λs ρ'=>D.rt s ρ'
def xIf(c:XC)(G K:XS):XS:=λρ D=>c ρ λb ρ'=>if b=true then G ρ' D else K ρ' D
def iP(gx:XG)(G:XS)(D:XD):List Dx->En->Prop
 | [],ρ=>D.nx ρ
 |d::ds,ρ=>gx d ρ λρ1=>G ρ1 { D with nx:=iP gx G D ds,ct:=iP gx G D ds,bk:=D.nx }
def mH(ti:XI)(gx:XG)(G:XS):XS:=λρ D=>ti ρ λds ρ'=>iP gx G D ds ρ'
section
variable{st:Stmt}{rest:List Stmt}{G K:XS}{e c tg iter:Expr}{t:XT}{tc:XC}{pos:Pos}{i:Nat}
theorem iF:XSs X Ex [] eZ:=λF=>(nZ (X:=X)).weak λD σ H=>by
 rintro⟨ρ,fr,d,E,q,k⟩
 exact k.nx σ H ρ rfl E q
theorem dP(h:XSt X Ex st G)(h':XSs X Ex rest K):XSs X Ex (st::rest) (dU G K):=λF=>(rT (h F) (h' F)).weak λD σ H=>by
 rintro⟨ρ,fr,d,E,q,k⟩
 exact⟨ρ,fr,_,E,q,⟨λσ' H' ρ' hl E' q'=>⟨ρ',fr,d,E',q',by rw[hl];exact k⟩,k.rt,k.bk,k.ct⟩⟩
theorem dX(h:XSt X Ex st G):XSs X Ex [st] G:=λF=>es_ (h F)
theorem aj_(h:∀F,[OkF X Ex F]->PS X st (wV (tX F t) (jF i))):XSt X Ex st (iL i t):=λF=>(h F).weak λD σ H=>by
 rintro⟨ρ,fr,d,E,q,k⟩
 exact⟨ρ,fr,_,E,q,λv s H' ρ' E' q'=>k.nx _ H' _ bD (hg_ E') q'⟩
theorem tW{n:Nat}{g:TG}{gx:XG}(Bj:GX n g gx)(h:∀F,[OkF X Ex F]->PS X st (wV (tX F t) g)):XSt X Ex st (aNz t gx):=λF=>(h F).weak λD σ H=>by
 rintro⟨ρ,fr,d,E,q,k⟩
 exact⟨ρ,fr,_,E,q,λv s H' ρ' E' q'=>Bj F ρ' σ fr H' s.d v _ _ (EOk.back E'.len E'.front.frz) q' λσ' H2 ρ2 E2 hl _ q2=>k.nx σ' H2 ρ2 hl E2 q2⟩
theorem hz_(he:XE X Ex e t)(hs:swapsWith e none pos.line X.env=pure false:=by rfl):XSt X Ex (.Expr e pos) (aJd t):=λF=>(oA (he F) hs).weak λD σ H=>by
 rintro⟨ρ,fr,d,E,q,k⟩
 exact⟨ρ,fr,_,E,q,λv s H' ρ' E' q'=>k.nx σ H' ρ' rfl E'.drop q'⟩
theorem fM(he:XE X Ex e t):XSt X Ex (.Return (some e) pos) (hW t):=λF=>(uT (he F)).weak λD σ H=>by
 rintro⟨ρ,fr,d,E,q,k⟩
 exact⟨ρ,fr,_,E,q,λv s H' ρ' E' q'=>k.rt v s σ H' ρ' rfl E' q'⟩
theorem gS{a b:List Stmt}(hc:XTe X Ex c tc)(ha:XSs X Ex a G)(hb:XSs X Ex b K):XSt X Ex (.If c a b pos) (xIf tc G K):=λF=>(s_ (hc F) (ha F) (hb F)).weak λD σ H=>by
 rintro⟨ρ,fr,d,E,q,k⟩
 refine⟨ρ,fr,_,E,q,λb H' ρ' E' q'=>?_⟩
 cases b with
 |true=>exact⟨ρ',fr,d,E',q',k⟩
 |false=>exact⟨ρ',fr,d,E',q',k⟩
theorem qL{F:Fm}{n:Nat}{g:TG}{gx:XG}(Bj:GX n g gx){tb:TS}(J5:∀D σ H,tXS F G D σ H->tb D σ H){D:Ends}{d:XD}{σ:St}{H':Hp}{ρ':En}{fr row:List Rw}{ds:List Dx}{J:It}(k:DOk F σ.length fr D d)(E':EOk F ρ' σ (row++fr) H')(hJ:ItX F J row ds)(q':iP gx G d ds ρ') :
  ∃W:Nat->Nat->St->Hp->Prop,(∃m,W 0 m σ H')/\∀i m σ H,W i m σ H ->
  (J.stop i H/\D.nx σ H)\/(J.go i H/\∃N:St->Hp->Prop,(∀σ' H',N σ' H'->∃m',m'<m/\W (i+1) m' σ' H')/\∀x H',J.yld i H x H'->g x σ H' λσ2 H2=>tb { D with nx:=N,ct:=N,bk:=D.nx } σ2 H2):=by
 refine⟨λi m σ1 H1=>m=ds.length-i/\i<=ds.length/\σ1.length=σ.length/\∃ρ1,EOk F ρ1 σ1 (row++fr) H1/\iP gx G d (ds.drop i) ρ1,⟨ds.length,by simp,eS _,rfl,ρ',E',by simpa using q'⟩,?_⟩
 rintro i m σ1 H1 ⟨rfl,hi,hl,ρ1,E1,q1⟩
 have C6:Rep F (row++(ρ1.zip σ1++fr)) H1:=E1.rep.perm sw
 by_cases Bf:i<ds.length
 ·right
  have Iq:ds[i]? = some ds[i]:=aM Bf
  rw[List.drop_eq_getElem_cons Bf]at q1
  refine⟨hJ.go _ _ i _ C6 Iq,λσ2 H2=>∃m',m'<ds.length-i/\(m'=ds.length-(i+1)/\i+1<=ds.length/\σ2.length=σ.length/\∃ρ1,EOk F ρ1 σ2 (row++fr) H2/\iP gx G d (ds.drop (i+1)) ρ1),λ_ _ h=>h,λx H2 hy=>?_⟩
  have R2:=hJ.yld _ _ i _ x H2 C6 Iq hy
  have E2:EOk F ρ1 σ1 ((vT ds[i],some x)::(row++fr)) H2:=⟨E1.len,R2.perm ((sw.cons _).trans mO.symm)⟩
  refine Bj F ρ1 σ1 _ H2 _ x _ _ E2 q1 λσ2 H3 ρ2 E3 Cg _ q2=>?_
  have nxt:∀σ' H' ρ',σ'.length=σ2.length->EOk F ρ' σ' (row++fr) H'->iP gx G d (ds.drop (i+1)) ρ'->∃m',m'<ds.length-i/\(m'=ds.length-(i+1)/\i+1<=ds.length/\σ'.length=σ.length/\∃ρ1,EOk F ρ1 σ' (row++fr) H'/\iP gx G d (ds.drop (i+1)) ρ1):=λσ' H' ρ' h1 h2 h3 =>
   ⟨ds.length-(i+1),by lia,rfl,Bf,by rw[h1,Cg,hl],ρ',h2,h3⟩
  have ends:∀{σ':St} {H':Hp} {ρ':En} {M8:List Rw},EOk F ρ' σ' (row++M8) H'->EOk F ρ' σ' M8 H':=λh=>⟨h.len,Rep.drops (A:=row) (h.rep.perm sw)⟩
  refine J5 _ _ _ ⟨ρ2,row++fr,_,E3,q2,⟨nxt,λv s σ' H' ρ' h1 h2 h3=>k.rt v s σ' H' ρ' (by rw[h1,Cg,hl]) ?_ h3,λσ' H' ρ' h1 h2 h3=>k.nx σ' H' ρ' (by rw[h1,Cg,hl]) (ends h2) h3,nxt⟩⟩
  exact ends ⟨h2.len,h2.rep.perm (List.Perm.append_left _ mO.symm)⟩
 ·left
  have K3:i=ds.length:=by lia
  subst K3
  rw[List.drop_length]at q1
  exact⟨hJ.stop _ _ _ C6 (aP _),k.nx σ1 H1 ρ1 hl ⟨E1.len,Rep.drops (A:=row) C6⟩ q1⟩
theorem aOf{F:Fm}{ti:XI}{n:Nat}{g:TG}{gx:XG}(Bj:GX n g gx):∀D σ H,tXS F (mH ti gx G) D σ H->aJf (tXi F ti) g (tXS F G) D σ H:=by
 rintro D σ H ⟨ρ,fr,d,E,q,k⟩
 exact⟨ρ,fr,_,E,q,λJ H' ρ' row ds E' hJ q'=>qL Bj (λ_ _ _ z=>z) k E' hJ q'⟩
theorem ex_{body:List Stmt}{ti:XI}{n:Nat}{g:TG}{gx:XG}(hp:PassesOwn (model X.prog X.w) X.A X.env X.xe)(hc:X.calm=true)(hi:XIt X Ex tg iter ti)(hg:PG X tg g)(Bj:GX n g gx)(hb:XSs X Ex body G)(hs:∀x,foldedSetIterable iter X.env x=pure x:=by intro _;rfl):XSt X Ex (.For tg iter body [] pos) (mH ti gx G):=λF =>
 (uU hp hc (hi F) hg (hb F) hs).weak (aOf Bj)
theorem i3(h:∀F,[OkF X Ex F]->PS X st (tXS F G)):XSt X Ex st G:=h
end
section
variable{F:Fm}{ρ:En}{σ:St}{fr:List Rw}{H:Hp}{i:Nat}
theorem gk_{l:List Dx}{f:List Dx->Sl}(E:EOk F ρ σ fr H)(h:(ρ[i]?).bind lM=some (l,f)):∃p ws,σ[i]? = some (some (.ref p))/\H p=some (.lst ws)/\All2 (IsX (hid (cB (ρ.zip σ++fr)) (F.vis H))) l ws /\
  ∀l' ws',All2 (IsX (hid (cB (ρ.zip σ++fr)) (F.vis H))) l' ws'->EOk F (ρ.set i (f l')) σ fr (upd H p (.lst ws')):=by
 obtain⟨sl,h3,h4⟩:=eW.mp h
 obtain⟨v,hv,hi,R⟩:=dh_ E h3
 obtain⟨p,ws,rfl,h5,h6,h7,h8⟩:=qC h4 R
 have hO:(cB (ρ.zip σ++fr)).Perm (cB ((sl,some (V.ref p))::((ρ.zip σ).eraseIdx i++fr))):=((fg_ h3 hv).append_right fr).flatMap_right _
 rw[mE h6]at hO
 refine⟨p,ws,hv,h5,h7.imp λ_ _ z=>z.to (nM λa ha=>hO.mem_iff.mp ha),λl' ws' Ee=>?_⟩
 obtain⟨k1,k2,k3⟩:=h8 l'
 exact oQ E.len hi hv (R.put h6 k1 k2 (k3 cA (Ee.imp λ_ _ z=>(z.to (nM λa ha=>hO.mem_iff.mpr ha)).to vJ)))
theorem ef_{l:List (Key×Dx)}(E:EOk F ρ σ fr H)(h:ρ[i]? = some (.v (.od l))):∃p ws,σ[i]? = some (some (.ref p))/\H p=some (.dK ws)/\All2 (KvX (hid (cB (ρ.zip σ++fr)) (F.vis H))) l ws /\
  ∀l' ws',All2 (KvX (hid (cB (ρ.zip σ++fr)) (F.vis H))) l' ws'->EOk F (ρ.set i (.v (.od l'))) σ fr (upd H p (.dK ws')):=by
 obtain⟨v,hv,hi,R⟩:=dh_ E h
 obtain⟨p,ws,rfl,h5,h7⟩:=R.atD
 have hO:(cB (ρ.zip σ++fr)).Perm (cB ((.v (.od l),some (V.ref p))::((ρ.zip σ).eraseIdx i++fr))):=((fg_ h hv).append_right fr).flatMap_right _
 rw[mE (a:=p) rfl]at hO
 refine⟨p,ws,hv,h5,h7.imp λ_ _ z=>z.to (nM λa ha=>hO.mem_iff.mp ha),λl' ws' Ee=>?_⟩
 exact oQ E.len hi hv (R.putD (Ee.imp λ_ _ z=>z.to (nM λa ha=>hO.mem_iff.mpr ha)))
theorem u9{l:List Dx}{f:List Dx->Sl}(E:EOk F ρ σ fr H)(h:(ρ[i]?).bind lM=some (l,f)):∃p ws,σ[i]? = some (some (.ref p))/\H p=some (.lst ws):=by
 obtain⟨p,ws,h1,h2,_⟩:=gk_ E h
 exact⟨p,ws,h1,h2⟩
end
def aXz(i:Nat)(t:XT):XS:=λρ D=>((ρ[i]?).bind lM).isSome=true/\t ρ λs ρ'=>match (ρ'[i]?).bind lM with
 |some (l,f)=>l.length<1000000/\D.nx (ρ'.set i (f (l++[s.d])))
 |none=>False
def bAi(i:Nat)(t:XT):XS:=λρ D=>((ρ[i]?).bind lM).isSome=true/\t ρ λs ρ'=>match (ρ'[i]?).bind lM,s.d with
 |some (l,f),.lst m=>l.length+m.length<=1000000/\D.nx (ρ'.set i (f (l++m)))
 |_,_=>False
def wP(i:Nat)(ti te:XT):XS:=λρ D=>te ρ λs ρ1=>((ρ1[i]?).bind lM).isSome=true/\ti ρ1 λk ρ2=>match (ρ2[i]?).bind lM,k.d with
 |some (l,f),.int j=>(match ixN l.length j with | some n=>D.nx (ρ2.set i (f (l.set n s.d))) | none=>False)
 |_,_=>False
def iT(l:List (Key×Dx))(k:Key)(d:Dx):List (Key×Dx):=if(l.any λkv=>decide (kv.1=k))=true then l.map (λkv=>if kv.1=k then(kv.1,d)else kv)else l++[(k,d)]
def pM(k:Key)(l:List (Key×Dx)):Bool:=(!k.odd && !l.any λp=>p.1.odd)||((k.odd||l.any λp=>p.1.odd)&&(l.all λp=>! fW p.1 k)&&(fA l k).isNone)
theorem oM{G:Hp}:∀{l:List (Key×Dx)} {ws:List (Key×V)},All2 (KvX G) l ws->l.map (·.1)=ws.map (·.1)
 | [],ws,h=>by rw[show ws=[]from h];rfl
 |p::l,_,⟨w,wr,e,⟨h1,_⟩,h3⟩=>by rw[e,aL,aL,oM h3,h1]
theorem aFx{G:Hp}{l:List (Key×Dx)}{ws:List (Key×V)}(h:All2 (KvX G) l ws):(l.any λp=>p.1.odd)=eI ws:=by
 have e1:(l.any λp=>p.1.odd)=(l.map (·.1)).any Key.odd:=by rw[List.any_map];rfl
 have e2:eI ws=(ws.map (·.1)).any Key.odd:=by unfold eI;rw[List.any_map];rfl
 rw[e1,e2,oM h]
theorem DPut.k{G H:Hp}{a:Addr}{l:List (Key×Dx)}{ws:List (Key×V)}{k:Key}{v:V}(e:H a=some (.dK ws))(hl:ws.length<sizeLine)(t:gP H k)(h:All2 (KvX G) l ws)(b:pM k l=true):DPut H a (kV k) v (upd H a (.dK (lL ws k v))):=by
 refine⟨ws,k,e,rfl,t,hl,?_,rfl⟩
 unfold pM at b
 rw[Bool.or_eq_true,bW,bW,bW,aFx h]at b
 rcases b with⟨b1,b2⟩ | ⟨⟨b1,b2⟩,b3⟩
 ·exact .inl ⟨by simpa using b1,by simpa using b2⟩
 ·refine .inr ⟨by simpa using b1,fun p hp => ?_,?_⟩
  ·have:=cG (f:=fun x:Key×V=>x.1) hp
   rw[<-oM h]at this
   obtain⟨q,hq,e⟩:=cD.mp this
   have:=cO.mp b2 q hq
   rw[show q.1=p.1 from e]at this
   simpa using this
  ·rcases go_ (k:=k) h with ⟨_,z⟩ | ⟨d,v,z,_⟩
   ·exact z
   ·rw[z]at b3;cases b3
def n5(i:Nat)(tk tv:XT):XS:=λρ D=>tv ρ λs ρ1=>(∃l,ρ1[i]? = some (.v (.od l)))/\tk ρ1 λk ρ2=>match ρ2[i]?,kY k.d with
 |some (.v (.od l)),some key=>l.length<1000000/\pM key l=true/\D.nx (ρ2.set i (.v (.od (iT l key s.d))))
 |_,_=>False
theorem pK{G:Hp}{l:List (Key×Dx)}{ws:List (Key×V)}{k:Key}{d:Dx}{v:V}(h:All2 (KvX G) l ws)(hd:IsX G d v)(kt:gP G k):All2 (KvX G) (iT l k d) (lL ws k v):=by
 have any:∀{l:List (Key×Dx)} {ws:List (Key×V)},All2 (KvX G) l ws->(l.any λkv=>decide (kv.1=k))=(ws.any λkv=>decide (kv.1=k)):=by
  intro l
  induction l with
  |nil=>intro ws h;rw[show ws=[]from h];rfl
  |cons p l ih =>
   intro ws h
   obtain⟨w,wr,rfl,⟨h1,_⟩,h3⟩:=h
   rw[fQ,fQ,ih h3,h1]
 have mp:∀{l:List (Key×Dx)} {ws:List (Key×V)},All2 (KvX G) l ws->All2 (KvX G) (l.map λkv=>if kv.1=k then(kv.1,d)else kv) (ws.map λkv=>if kv.1=k then(kv.1,v)else kv):=by
  intro l
  induction l with
  |nil=>intro ws h;rw[show ws=[]from h];rfl
  |cons p l ih =>
   intro ws h
   obtain⟨w,wr,rfl,⟨h1,h2⟩,h3⟩:=h
   refine⟨_,_,rfl,?_,ih h3⟩
   by_cases e:p.1=k
   ·show KvX G (if p.1=k then (p.1,d) else p) (if w.1=k then (w.1,v) else w)
    rw[if_pos e,if_pos (h1 ▸ e)];exact⟨h1,hd,e ▸ kt⟩
   ·show KvX G (if p.1=k then (p.1,d) else p) (if w.1=k then (w.1,v) else w)
    rw[if_neg e,if_neg (h1 ▸ e)];exact⟨h1,h2⟩
 unfold iT lL
 rw[any h]
 split
 ·exact mp h
 ·exact h.snoc ⟨rfl,hd,kt⟩
section
variable{st:Stmt}{i:Nat}{t ti te tk tv:XT}{F:Fm}{K:eC}
theorem aEe:∀D σ H,tXS F (aXz i t) D σ H->aMu (tBM K "list" q_ (gU i) (lD (tX F t) wS)) D σ H:=by
 rintro D σ H ⟨ρ,fr,d,E,⟨q0,q⟩,k⟩
 obtain⟨⟨l0,f0⟩,h0⟩:=eP.mp q0
 obtain⟨p,ws,hv,hp⟩:=u9 E h0
 refine⟨.ref p,hv,.inl ⟨rfl,ws,SqL.of hp⟩,ρ,fr,_,E,q,λy s H' ρ' E' q'=>?_⟩
 split at q'
 ·rename_i l f hb
  obtain⟨R,hx⟩:=E'.one
  obtain⟨p',ws',Br,B6,hl,Cl⟩:=gk_ E'.drop hb
  rw[hv]at Br
  cases Br
  exact⟨p,ws',y,rfl,rfl,B6,by rw[hl.len];have:=gW;lia,k.nx σ _ _ rfl (Cl _ _ (hl.snoc hx)) q'.2⟩
 ·exact q'.elim
theorem nW:∀D σ H,tXS F (wP i ti te) D σ H->wV (tX F te) (aVo (gU i) (tX F ti) aNa) D σ H:=by
 rintro D σ H ⟨ρ,fr,d,E,q,k⟩
 refine⟨ρ,fr,_,E,q,λy s H' ρ' E' q'=>?_⟩
 obtain⟨q0,q'⟩:=q'
 obtain⟨⟨l0,f0⟩,h0⟩:=eP.mp q0
 obtain⟨p,ws,hv,hp⟩:=u9 E' h0
 refine⟨.ref p,hv,ρ',_,_,E',q',λz s2 H2 ρ2 E2 q2=>?_⟩
 split at q2
 ·rename_i l f j hb hj
  obtain⟨R,Ey,Ck⟩:=E2.two
  rw[hj]at Ck
  cases Ck.int_eq
  obtain⟨p',ws',Br,B6,hl,Cl⟩:=gk_ (E2.drop.drop) hb
  rw[hv]at Br
  cases Br
  split at q2
  ·rename_i n hn
   exact⟨p,ws',j,n,rfl,rfl,B6,by rw[hl.len];exact hn,k.nx σ _ _ rfl (Cl _ _ (hl.set Ey n)) q2⟩
  ·exact q2.elim
 ·exact q2.elim
theorem nX:∀D σ H,tXS F (n5 i tk tv) D σ H->aEj (gU i) (tX F tk) (tX F tv) D σ H:=by
 rintro D σ H ⟨ρ,fr,d,E,q,k⟩
 refine⟨ρ,fr,_,E,q,λy s H' ρ' E' q'=>?_⟩
 obtain⟨⟨l0,h0⟩,q'⟩:=q'
 obtain⟨p,ws,hv,hp,_⟩:=ef_ E' h0
 refine⟨.ref p,hv,ρ',_,_,E',q',λz s2 H2 ρ2 E2 q2=>?_⟩
 split at q2
 ·rename_i l key hb hk
  obtain⟨R,Ey,Ck⟩:=E2.two
  obtain⟨p',ws',Br,B6,hl,Cl⟩:=ef_ (E2.drop.drop) hb
  rw[hv]at Br
  cases Br
  obtain⟨rfl,kt⟩:=he_ Ck hk
  exact⟨p,_,rfl,DPut.k B6 (by rw[hl.len];have:=gW;lia) (ip_ R kt) hl q2.2.1,k.nx σ _ _ rfl (Cl _ _ (pK hl Ey kt)) q2.2.2⟩
 ·exact q2.elim
end
def cY(N:List Str)(ds:List Dx):En:=ds.map (λd=>.v (.tr d))++List.replicate (N.length-ds.length) .un
abbrev aJm(Q:Sv->Prop):XD:=⟨λ_=>Q (.tr .non),λs _=>Q s,λ_=>False,λ_=>False⟩
theorem hr_{F:Fm}{H:Hp}(R0:Rep F [] H){m:Nat}:∀{ds:List Dx} {vs:List V},All2 (IsX (F.vis H)) ds vs->Rep F ((ds.map (λd=>Sl.v (.tr d))++List.replicate m Sl.un).zip (vs.map some++List.replicate m none)) H
 | [],_,h=>by
  rw[show _=[]from h]
  simp only[bL,aX]
  rw[List.zip_replicate,Nat.min_self]
  have:=R0.addUs m
  simpa using this
 |d::ds,_,⟨v,vr,e,h1,h2⟩=>by
  subst e
  have R:=hr_ (m:=m) R0 h2
  simp only[aL,bA,List.zip_cons_cons]
  refine R.add (h1.to λb o hb=>bH.mpr ⟨λz=>?_,hb⟩)
  obtain⟨r,hr,hb⟩:=List.mem_flatMap.mp z
  have:∀{ds:List Dx} {vs:List (Option V)} {r:Rw},r∈((ds.map (λd=>Sl.v (.tr d))++List.replicate m Sl.un).zip vs)->iN r=[]:=by
   intro ds vs r hr
   obtain⟨a,b⟩:=r
   have:=(List.of_mem_zip hr).1
   rcases bK.mp this with h | h
   ·obtain⟨d,_,rfl⟩:=cD.mp h;rfl
   ·rw[(List.mem_replicate.mp h).2];rfl
  rw[this hr]at hb
  cases hb
theorem uP{H Hs:Hp}{sub:Same Hs H}{nb:∀b∈([]:List Addr),Hs b=none}{ib:∀b∈([]:List Addr),∃o,H b=some o}{P:List Rw}{H':Hp}{s:Sv}{v:V}(R:Rep ⟨H,Hs,[],sub,nb,ib⟩ ((.v s,some v)::P) H'):Same H H'/\aAm Hs H H' s v:=by
 refine⟨λb o h=>R.kp b o h (by simp),?_⟩
 match s with
 | .tr d =>
  obtain⟨v',e,h⟩:=R.atT
  cases e
  exact h.to v9
 | .ol l =>
  obtain⟨a,vs,e,h1,h2⟩:=R.atL
  cases e
  exact⟨a,vs,rfl,R.fr _ aA a (aF.mpr rfl),h1,h2.imp λ_ _ z=>z.to (nM λc hc=>by rw[aF.mp hc];exact aA)⟩
 | .od l =>
  obtain⟨a,vs,e,h1,h2⟩:=R.atD
  cases e
  exact⟨a,vs,rfl,R.fr _ aA a (aF.mpr rfl),h1,h2.imp λ_ _ z=>z.to (nM λc hc=>by rw[aF.mp hc];exact aA)⟩
 | .ow o =>
  have hn:=R.nd
  rw[ci_]at hn
  obtain⟨x,e,h⟩:=R.ok _ aA
  cases e
  refine⟨(dY.mp hn).1,λa ha=>R.fr _ aA a ha,OwOk.mono (.of (nM λc hc=>?_)) o v (λ_ _=>rfl) h⟩
  rw[ci_]
  exact bF _ hc
theorem mG{x qual:Str}{st:Stmt}{f:Addr}{fd:FuncData}{N ps:List Str}{k:Nat}{g:GC}(Fn:Fun K x qual st f fd)(S:FnScope N ps (aO st))(Ah:∀ds Q,g ds Q->ds.length=ps.length)(hN:ps.length<=N.length)
  (Bb:∀ (Af:Value) (A:Around) (outer:List Env) (s:Shared) (H:Hp) (E:XK),Room k (A.deeper (PyProof.Rows.envOfC qual (aO st) s.heap.objs.size f Af)) →
   ∃G,XSs (lX CX0 P w K mg base N qual (aO st) f Af A outer s H E).nox dZ (gR st) G/\∀ds Q,g ds Q->G (cY N ds) (aJm Q)):FnOk P w K mg base CX0 (k+1) f fd ps (spX g):=by
 refine Fn.ok S (λvs H Q E h=>?_) (λAf A outer s H vs Q E hr h=>?_)
 ·obtain ⟨Hs,ds,Qx,h1,h2,h3,_⟩:=h
  rw[h2.len]
  exact Ah ds Qx h3
 obtain⟨Hs,ds,Qx,h1,h2,h3,h4⟩:=h
 obtain⟨G,hG,hq⟩:=Bb Af A outer s H E hr
 have hl:=Ah ds Qx h3
 refine⟨_,hG ⟨H,Hs,[],h1,by simp,by simp⟩,cY N ds,[],aJm Qx,⟨?_,?_⟩,hq ds Qx h3,⟨λσ' H' ρ' _ E' q=>?_,λv s σ' H' ρ' _ E' q=>?_,λ_ _ _ _ _ q=>q.elim,λ_ _ _ _ _ q=>q.elim⟩⟩
 ·unfold cY L2.start
  simp only[aK,aC,bV]
  rw[h2.len]
 ·rw [cH]
  have hv:(Fm.vis ⟨H,Hs,[],h1,by simp,by simp⟩ H)=ext Hs H H:=rfl
  have R0:Rep ⟨H,Hs,[],h1,by simp,by simp⟩ [] H:=⟨List.nodup_nil,λr hr=>by simp at hr,λr hr=>by simp at hr,λb o h _=>h,λb hb=>by simp at hb⟩
  unfold cY L2.start
  rw[h2.len]
  refine hr_ R0 (h2.imp λ_ _ z=>z.to λb o hb=>?_)
  cases q:H b with
  |none=>rw[h1 _ _ hb]at q;cases q
  |some u=>exact(nJ q).trans hb
 ·have R:=E'.rep.add (d:=.non) (v:=.non) IsX.of_non
  obtain⟨e1,e2⟩:=uP R
  exact h4 _ _ _ e1 e2 q
 ·obtain ⟨e1,e2⟩:=uP E'.front
  exact h4 _ _ _ e1 e2 q
end Lf
namespace L2
open PySem
def aMt(t:TE):TE:=λσ H Q=>∃a kvs,H a=some (.dK kvs)/\∀o,t σ (upd H a (.frz o (.dK kvs))) λv H'=>H' a=some (.frz o (.dK kvs))/\Q v (upd H' a (.dK kvs))
theorem aKa{X:Cx}{e:Expr}{t:TE}(h:PE X e t):PE X e (aMt t):=by
 intro Aa s σ H Q I ⟨a,kvs,ha,q⟩
 exact aOx h Aa s σ H Q I ⟨a,kvs,ha,λo v z=>(by have:=I.base.frzs a o v z;rw[ha]at this;cases this),q⟩
def aMy(t:TS):TS:=λD σ H=>∃a kvs,H a=some (.dK kvs)/\∀o,
 t ⟨λσ' H'=>H' a=some (.frz o (.dK kvs))/\D.nx σ' (upd H' a (.dK kvs)),λv H'=>H' a=some (.frz o (.dK kvs))/\D.rt v (upd H' a (.dK kvs)),λσ' H'=>H' a=some (.frz o (.dK kvs))/\D.bk σ' (upd H' a (.dK kvs)),λσ' H'=>H' a=some (.frz o (.dK kvs))/\D.ct σ' (upd H' a (.dK kvs))⟩ σ (upd H a (.frz o (.dK kvs)))
theorem aJs{X:Cx}{st:Stmt}{t:TS}(h:PS X st t):PS X st (aMy t):=by
 intro Aa s σ H D I ⟨a,kvs,ha,q⟩
 exact aOr h Aa s σ H D I ⟨a,kvs,ha,λo v z=>(by have:=I.base.frzs a o v z;rw[ha]at this;cases this),q⟩
theorem PS.or{X:Cx}{st:Stmt}{t u:TS}(h:PS X st t)(h':PS X st u):PS X st (λD σ H=>t D σ H\/u D σ H):=λAa s σ H D I q=>q.elim (h Aa s σ H D I) (h' Aa s σ H D I)
end L2
namespace Lf
open PySem L2
section
variable{F:Fm}{P:List Rw}{H H':Hp}{a:Addr}{kvs:List (Key×V)}{o:Obj}
theorem nem{b a:Addr}{B:List Addr}(h:b∈B)(h':a∉B):b≠a:=λz=>h' (by rw[<-z];exact h)
def Fm.fz(F:Fm)(a:Addr)(o:Obj)(kvs:List (Key×V))(ha:a∉F.B):Fm where
 H0:=upd F.H0 a (.frz o (.dK kvs))
 Hs:=upd F.Hs a (.frz o (.dK kvs))
 B:=F.B
 sub:=λb u h=>by
  by_cases e:b=a
  ·subst e;rw[cA]at h ⊢;exact h
  ·rw[fB e]at h ⊢;exact F.sub _ _ h
 nb:=λb hb=>by rw[fB (nem hb ha)];exact F.nb b hb
 ib:=λb hb=>by rw[fB (nem hb ha)];exact F.ib b hb
theorem aMs(h:F.vis H a=some (.dK kvs)):a∉F.B:=λhB=>by
 obtain⟨u,hu⟩:=F.ib a hB
 have:=(nJ hu).symm.trans h
 rw[F.nb a hB]at this
 cases this
theorem aDr{F:Fm}{ha:a∉F.B}{b:Addr}{H H':Hp}(hb:b≠a)(e:H' b=H b):(F.fz a o kvs ha).vis H' b=F.vis H b:=by
 have e1:(F.fz a o kvs ha).H0 b=F.H0 b:=fB hb
 have e2:(F.fz a o kvs ha).Hs b=F.Hs b:=fB hb
 show ext _ _ _ b=ext _ _ _ b
 unfold ext
 rw[e1,e2,e]
theorem Rep.fzD(R:Rep F P H)(hv:F.vis H a=some (.dK kvs))(A3:a∉cB P)(ha:a∉F.B):Rep (F.fz a o kvs ha) P (upd H a (.frz o (.dK kvs))):=by
 refine⟨R.nd,λr hr=>(R.ok r hr).mono (λb u hb=>?_) λb hb=>fB λz=>A3 (z ▸ ea_ hr hb),λr hr b hb=>?_,λb u h1 h2=>?_,λb hb=>?_⟩
 ·have An:=bH.mp hb
  by_cases e:b=a
  ·subst e
   rw[hv]at An
   cases An.2
   refine .inr ⟨o,kvs,.inl ⟨rfl,bH.mpr ⟨An.1,?_⟩⟩⟩
   exact(nJ (show(F.fz b o kvs ha).H0 b=some (.frz o (.dK kvs))from cA)).trans cA
  ·exact .inl (bH.mpr ⟨An.1,by rw[aDr e (fB e)];exact An.2⟩)
 ·have Iz:b≠a:=fun z=>A3 (z ▸ ea_ hr hb)
  have:=R.fr r hr b hb
  unfold FrOk at this ⊢
  split at this<;>simp_all [Fm.fz,fB]
 ·by_cases e:b=a
  ·subst e
   have:some (HO.frz o (.dK kvs))=some u:=cA.symm.trans h1
   rw[cA];exact this
  ·rw [fB e]
   exact R.kp b u ((fB e).symm.trans h1) h2
 ·obtain ⟨u,hu⟩:=R.lv b hb
  exact⟨u,by rw[fB (nem hb ha)];exact hu⟩
theorem Rep.thD{ha:a∉F.B}(R:Rep (F.fz a o kvs ha) P H)(hv:F.H0 a=none\/(F.H0 a=some (.dK kvs)/\F.Hs a=some (.dK kvs))):H a=some (.frz o (.dK kvs))/\Rep F P (upd H a (.dK kvs)):=by
 have hk:H a=some (.frz o (.dK kvs)):=R.kp a _ cA ha
 have A3:a∉cB P:=λz=>by
  obtain⟨r,hr,e⟩:=List.mem_flatMap.mp z
  have:=R.fr r hr a e
  rcases this.or with this | this
  ·exact ha this
  ·have h2:some (HO.frz o (.dK kvs))=none:=cA.symm.trans this
   cases h2
 refine⟨hk,R.nd,λr hr=>(R.ok r hr).mono (λb u hb=>?_) λb hb=>fB λz=>A3 (z ▸ ea_ hr hb),λr hr b hb=>?_,λb u h1 h2=>?_,λb hb=>?_⟩
 ·have An:=bH.mp hb
  by_cases e:b=a
  ·subst e
   have hu:(F.fz b o kvs ha).vis H b=some (.frz o (.dK kvs)):=(nJ (show(F.fz b o kvs ha).H0 b=some (.frz o (.dK kvs))from cA)).trans cA
   rw[hu]at An
   cases An.2
   refine .inr ⟨o,kvs,.inr ⟨rfl,bH.mpr ⟨An.1,?_⟩⟩⟩
   rcases hv with q | ⟨q1,q2⟩
   ·exact(oV q).trans (by rw[cA];rfl)
   ·exact(nJ q1).trans q2
  ·exact .inl (bH.mpr ⟨An.1,by rw[<-aDr (F:=F) (o:=o) (kvs:=kvs) (ha:=ha) e (fB (o:=.dK kvs) e).symm];exact An.2⟩)
 ·have Iz:b≠a:=fun z=>A3 (z ▸ ea_ hr hb)
  have:=R.fr r hr b hb
  unfold FrOk at this ⊢
  split at this<;>simp_all [Fm.fz,fB]
 ·by_cases e:b=a
  ·subst e
   rcases hv with q | ⟨q1,q2⟩
   ·rw[q]at h1;cases h1
   ·rw[q1]at h1;rw[cA];exact h1
  ·rw [fB e]
   exact R.kp b u ((fB e).trans h1) h2
 ·obtain ⟨u,hu⟩:=R.lv b hb
  exact⟨u,by rw[fB (nem hb ha)];exact hu⟩
end
def mQ:Key->Dx
 | .inl i=>.int i
 | .inr x=>.str x
 | .non=>.non
 | .tru=>.bl true
 | .ref b x=>.pin b x
theorem v0{H:Hp}(k:Key)(t:gP H k):IsX H (mQ k) (kV k):=by
 cases k with
 |ref b x=>exact IsX.of_pin t
 |inl i=>exact IsX.of_int _
 |inr x=>exact IsX.of_str _
 |non=>exact IsX.of_non
 |tru=>exact IsX.of_bl _
theorem aFl{F:Fm}{P:List Rw}{H:Hp}{b:Addr}(R:Rep F P H)(h:b∈cB P):∀vs,H b≠some (.tup vs):=by
 intro vs e
 obtain⟨r,hr,hb⟩:=List.mem_flatMap.mp h
 have ok:=R.ok r hr
 have fin:∀o:Ow,∀x,OwOk (hid (cB P) (F.vis H)) H o x->b∈o.fp->False:=λo x z hb=>by
  obtain⟨u,h1,_,h2⟩:=OwOk.there o x z b hb
  rw[e]at h1
  cases h1
  exact h2 _ rfl
 match r,ok,hb with
 |(.v (.ol l),some (.ref a)),⟨a',vs',h1,h2,_⟩,hb=>cases h1;rw[aF.mp hb]at e;rw[e]at h2;cases h2
 |(.v (.od l),some (.ref a)),⟨a',vs',h1,h2,_⟩,hb=>cases h1;rw[aF.mp hb]at e;rw[e]at h2;cases h2
 |(.bw l,some (.ref a)),⟨a',vs',h1,h2,_⟩,hb=>cases h1;rw[aF.mp hb]at e;rw[e]at h2;cases h2
 |(.v (.ow o),v),⟨x,_,h2⟩,hb=>exact fin o x h2 hb
 |(.bo o,v),⟨x,_,h2⟩,hb=>exact fin o x h2 hb
 |(.ba a l,v),⟨h1,vs',h2,_⟩,hb=>rw[aF.mp hb]at e;rw[e]at h2;cases h2
theorem aGl{F:Fm}{P:List Rw}{H:Hp}{k:Key}(R:Rep F P H)(t:gP H k)(hs:∀b x u,k=.ref b x->F.H0 b=some u->F.Hs b=some (.tup [.str x])):gP (hid (cB P) (F.vis H)) k:=by
 cases k with
 |ref b x =>
  have t':H b=some (.tup [.str x]):=t
  refine bH.mpr ⟨λz=>aFl R z _ t',?_⟩
  cases q:F.H0 b with
  |none=>exact(oV q).trans (by rw[t'];rfl)
  |some u=>exact(nJ q).trans (hs b x u rfl q)
 |_=>exact True.intro
def fS(l:List (Key×Dx)):List Dx:=l.map λp=>mQ p.1
theorem gm_{l:List (Key×Dx)}:(fS l).length=l.length:=aC _
theorem hv_{F:Fm}{a:Addr}{o:Obj}{kvs:List (Key×V)}{l:List (Key×Dx)}{G:Hp}(h:∀P H,Rep F P H->H a=some (.frz o (.dK kvs)))(hl:All2 (KvX G) l kvs)(hs:∀b x u,G b=some (.tup [.str x])->F.H0 b=some u->F.Hs b=some (.tup [.str x])):ItX F (Itd a o kvs) [] (fS l)where
 go:=λP H i d R hd=>⟨h _ _ R,by have:=(aW.mp hd).1;rw[gm_]at this;rw[hl.len];exact this⟩
 stop:=λP H i R hi=>⟨h _ _ R,by rw[gm_]at hi;rw[hl.len];exact hi⟩
 yld:=λP H i d x H' R hd q=>by
  obtain⟨rfl,kv,q1,rfl,kt⟩:=q
  obtain⟨p,h1,h2⟩:=hl.get q1
  unfold fS at hd
  rw[bX,h1]at hd
  cases hd
  show Rep F ((Sl.v (Sv.tr (mQ p.1)),some (kV kv.1))::([]++P)) H'
  have t:=h2.2.2
  rw[h2.1]at t ⊢
  exact R.add (v0 _ (aGl R kt λb x u e h0=>hs b x u (by rw[e]at t;exact t) h0))
def aEa(G:XS):TS:=λD σ H=>∃F,tXS F G D σ H
def tXe(t:XT):TE:=λσ H Q=>∃F,tX F t σ H Q
def aDz(t:XC):TT:=λσ H Q=>∃F,tXc F t σ H Q
theorem XSs.ex{X:Cx}{st:List Stmt}{G:XS}(h:XSs X dZ st G):PSs X st (aEa G):=λAa s σ H D I ⟨F,q⟩=>h F Aa s σ H D I q
theorem XE.ex{X:Cx}{e:Expr}{t:XT}(h:XE X dZ e t):PE X e (tXe t):=λAa s σ H D I ⟨F,q⟩=>h F Aa s σ H D I q
theorem XCs.ex{X:Cx}{e:List Expr}{t:XC}(h:XCs X dZ e t):PCs X e (aDz t):=λAa s σ H D I ⟨F,q⟩=>h F Aa s σ H D I q
def aDk(i:Nat)(gx:XG)(G:XS):XS:=λρ D=>match ρ[i]? with
 |some (.v s)=>(match s.d with | .dic l=>iP gx G D (fS l) (ρ.set i (.v (.tr s.d))) | _=>False)
 |_=>False
def zZ(i n:Nat)(outs:List Nat)(gx:XG)(tc:XC)(te:XT):XT:=λρ Q=>match ρ[i]? with
 |some (.v s)=>(match s.d with | .dic l=>l.length<=1000000/\dG n gx tc te (λAb cs=>Q (.ol Ab) (back outs cs (ρ.set i (.v (.tr s.d))))) (fS l) (gB outs (ρ.set i (.v (.tr s.d)))) [] | _=>False)
 |_=>False
theorem sJ{F:Fm}{ρ:En}{σ:St}{fr:List Rw}{H:Hp}{i:Nat}{s:Sv}{l:List (Key×Dx)}(E:EOk F ρ σ fr H)(h:ρ[i]? = some (.v s))(hs:s.d=.dic l) :
  ∃a ws,σ[i]? = some (some (.ref a))/\EOk F (ρ.set i (vT s.d)) σ fr H/\Rd (hid (cB ((ρ.set i (vT s.d)).zip σ++fr)) (F.vis H)) a (.dK ws)/\All2 (KvX (hid (cB ((ρ.set i (vT s.d)).zip σ++fr)) (F.vis H))) l ws:=by
 obtain⟨v,hv,hi,R⟩:=dh_ E h
 have R2:=R.frz
 have E2:=oQ E.len hi hv R2
 obtain⟨w,e,hx⟩:=R2.atT
 subst e
 rw[hs]at hx
 have hO:(cB ((ρ.set i (vT s.d)).zip σ++fr)).Perm (cB ((vT s.d,some w)::((ρ.zip σ).eraseIdx i++fr))):=((de_ E.len hi hv).append_right fr).flatMap_right _
 rw[dz_ rfl]at hO
 have Ck:=hx.to (nM λa ha=>hO.mem_iff.mp ha)
 obtain⟨a,ws,rfl,h1,h2⟩:=Ck.dic_eq
 exact⟨a,ws,hv,E2,h1,h2⟩
theorem aDq{F:Fm}{P:List Rw}{H:Hp}{a:Addr}{kvs:List (Key×V)}(R:Rep F P H)(h:F.vis H a=some (.dK kvs)):F.H0 a=none\/(F.H0 a=some (.dK kvs)/\F.Hs a=some (.dK kvs)):=by
 cases q:F.H0 a with
 |none=>exact .inl rfl
 |some u =>
  have h1:F.Hs a=some (.dK kvs):=(nJ q).symm.trans h
  have h2:=F.sub _ _ h1
  rw[q]at h2
  exact .inr ⟨h2,h1⟩
theorem aGu{F:Fm}{H:Hp}{a b:Addr}{o:Obj}{kvs:List (Key×V)}{x:Str}{u:HO}{hB:a∉F.B}(h0:F.vis H b=some (.tup [.str x]))(h2:F.vis H a=some (.dK kvs))(h1:(F.fz a o kvs hB).H0 b=some u):(F.fz a o kvs hB).Hs b=some (.tup [.str x]):=by
 have ne:b≠a:=λz=>by rw[z,h2]at h0;cases h0
 have M6:upd F.H0 a (.frz o (.dK kvs)) b=some u:=h1
 show upd F.Hs a (.frz o (.dK kvs)) b=_
 rw[fB ne]at M6 ⊢
 exact(nJ M6).symm.trans h0
theorem x4{F:Fm}{H:Hp}{a:Addr}{o:Obj}{kvs:List (Key×V)}(h:F.vis H a=some (.frz o (.dK kvs))):∀P H,Rep F P H->H a=some (.frz o (.dK kvs)):=λP H2 R=>by
 cases q:F.H0 a with
 |none =>
  have h1:=(oV q).symm.trans h
  rw[oI h1]at h1
  cases h1
 |some u =>
  have h1:F.Hs a=some (.frz o (.dK kvs)):=(nJ q).symm.trans h
  exact R.kp a _ (F.sub _ _ h1) λhB=>by rw[F.nb a hB]at h1;cases h1
section
variable{st:Stmt}{i n:Nat}{g:TG}{gx:XG}{G:XS}{outs:List Nat}{tc:XC}{te:XT}
theorem aRn(Bj:GX n g gx){F:Fm}:∀D σ H,tXS F (aDk i gx G) D σ H->aJf (yF (gU i)) g (aEa G) D σ H\/aMy (aJf (yF (gU i)) g (aEa G)) D σ H:=by
 rintro D σ H ⟨ρ,fr,d,E,q,k⟩
 unfold aDk at q
 split at q
 ·rename_i s hs
  split at q
  ·rename_i l hl
   obtain⟨a,ws,hv,E2,hr,hk⟩:=sJ E hs hl
   rw[hl]at E2 hr hk
   rw[<-hl]at E2
   rcases hr with hr | ⟨o,hr⟩
   ·have A0:=bH.mp hr
    have hB:=aMs A0.2
    have G8:=aDq E2.rep A0.2
    refine .inr ⟨a,ws,E2.rep.vis _ _ A0.2,λo=>⟨.ref a,hv,a,o,ws,rfl,cA,?_⟩⟩
    have E3:EOk (F.fz a o ws hB) (ρ.set i (vT s.d)) σ ([]++fr) (upd H a (.frz o (.dK ws))):=⟨E2.len,E2.rep.fzD A0.2 (by rw[hl];exact A0.1) hB⟩
    refine qL (F:=F.fz a o ws hB) Bj (tb:=aEa G) (λ_ _ _ z=>⟨_,z⟩) (d:=d) ⟨λσ' H' ρ' h1 h2 h3=>?_,λv s σ' H' ρ' h1 h2 h3=>?_,λσ' H' ρ' h1 h2 h3=>?_,λσ' H' ρ' h1 h2 h3=>?_⟩ E3 (hv_ (λP H R=>R.kp a _ cA hB) hk (λb x u h0 h1=>aGu (bH.mp h0).2 A0.2 h1)) q
    ·obtain⟨e1,e2⟩:=h2.rep.thD G8;exact⟨e1,k.nx σ' _ ρ' h1 ⟨h2.len,e2⟩ h3⟩
    ·obtain⟨e1,e2⟩:=h2.rep.thD G8;exact⟨e1,k.rt v s σ' _ ρ' h1 ⟨h2.len,e2⟩ h3⟩
    ·obtain⟨e1,e2⟩:=h2.rep.thD G8;exact⟨e1,k.bk σ' _ ρ' h1 ⟨h2.len,e2⟩ h3⟩
    ·obtain⟨e1,e2⟩:=h2.rep.thD G8;exact⟨e1,k.ct σ' _ ρ' h1 ⟨h2.len,e2⟩ h3⟩
   ·have A0:=bH.mp hr
    refine .inl ⟨.ref a,hv,a,o,ws,rfl,E2.rep.vis _ _ A0.2,?_⟩
    exact qL (F:=F) Bj (tb:=aEa G) (λ_ _ _ z=>⟨_,z⟩) k (row:=[]) E2 (hv_ (x4 A0.2) hk (λb x u h0 h1=>(nJ h1).symm.trans (bH.mp h0).2)) q
  ·exact q.elim
 ·exact q.elim
theorem aMf(Bj:GX n g gx)(A3:outs.Nodup){F:Fm}:∀σ H Q,tX F (zZ i n outs gx tc te) σ H Q->sE n outs (yF (gU i)) g (aDz tc) (tXe te) σ H Q\/aMt (sE n outs (yF (gU i)) g (aDz tc) (tXe te)) σ H Q:=by
 rintro σ H Q ⟨ρ,fr,Qx,E,q,k⟩
 unfold zZ at q
 split at q
 ·rename_i s hs
  split at q
  ·rename_i l hl
   obtain⟨a,ws,hv,E2,hr,hk⟩:=sJ E hs hl
   rw[hl]at E2 hr hk
   rw[<-hl]at E2
   have q':(fS l).length<=1000000/\_:=⟨by rw[gm_];exact q.1,q.2⟩
   rcases hr with hr | ⟨o,hr⟩
   ·have A0:=bH.mp hr
    have hB:=aMs A0.2
    have G8:=aDq E2.rep A0.2
    refine .inr ⟨a,ws,E2.rep.vis _ _ A0.2,λo=>⟨.ref a,hv,a,o,ws,rfl,cA,?_⟩⟩
    have E3:EOk (F.fz a o ws hB) (ρ.set i (vT s.d)) σ ([]++fr) (upd H a (.frz o (.dK ws))):=⟨E2.len,E2.rep.fzD A0.2 (by rw[hl];exact A0.1) hB⟩
    refine iw_ (F:=F.fz a o ws hB) (Q:=λv H'=>H' a=some (.frz o (.dK ws))/\Q v (upd H' a (.dK ws))) (tcT:=aDz tc) (teT:=tXe te) Bj A3 (λ_ _ _ z=>⟨_,z⟩) (λ_ _ _ z=>⟨_,z⟩) (λv s H' ρ' h2 h3=>?_) E3 (hv_ (λP H R=>R.kp a _ cA hB) hk (λb x u h0 h1=>aGu (bH.mp h0).2 A0.2 h1)) q'
    obtain⟨e1,e2⟩:=h2.rep.thD G8
    exact⟨e1,k v s _ ρ' ⟨h2.len,e2⟩ h3⟩
   ·have A0:=bH.mp hr
    refine .inl ⟨.ref a,hv,a,o,ws,rfl,E2.rep.vis _ _ A0.2,?_⟩
    exact iw_ (F:=F) (Q:=Q) (tcT:=aDz tc) (teT:=tXe te) Bj A3 (λ_ _ _ z=>⟨_,z⟩) (λ_ _ _ z=>⟨_,z⟩) k (row:=[]) E2 (hv_ (x4 A0.2) hk (λb x u h0 h1=>(nJ h1).symm.trans (bH.mp h0).2)) q'
  ·exact q.elim
 ·exact q.elim
theorem m7{x:Str}{px pos:Pos}{tg:Expr}{body:List Stmt}(hp:PassesOwn (model X.prog X.w) X.A X.env X.xe)(hc:X.calm=true)(hv:PE X (.Name x px) (gU i))(hg:PG X tg g)(Bj:GX n g gx)(hb:XSs X dZ body G)(hs:∀y,foldedSetIterable (.Name x px) X.env y=pure y:=by intro _;rfl):XSt X Ex (.For tg (.Name x px) body [] pos) (aDk i gx G):=λF =>
 (PS.or (uU hp hc (oD hv) hg hb.ex hs) (aJs (uU hp hc (oD hv) hg hb.ex hs))).weak (aRn Bj)
theorem oY{dsc scope:Scope}{tgs N' N:List Str}{x:Str}{px pos:Pos}{tg elt:Expr}{ifs:List Expr}(S:CompScope dsc scope N tgs outs N')(hv:PE X (.Name x px) (gU i))(hg:∀cl C s H ex,PG (eB X N' scope cl C s H ex) tg g)(Bj:GX tgs.length g gx)(E7:Tgt tgs.length g)
  (Ep:∀cl C s H ex,XCs (eB X N' scope cl C s H ex) dZ ifs tc) (he:∀cl C s H ex,XE (eB X N' scope cl C s H ex) dZ elt te) (A3:outs.Nodup:=by decide) (F5:X.N=N:=by rfl) (Dj:X.env.scope=dsc:=by rfl) (hc:X.calm=true:=by rfl) (hs:∀y,foldedSetIterable (.Name x px) X.env y=pure y:=by intro _;rfl) :
  XE X Ex (.ListComp elt [⟨tg,.Name x px,ifs,0⟩] scope pos) (zZ i tgs.length outs gx tc te):=λF =>
 (PE.or (oF S (oD hv) hg E7 (λa b c d e=>(Ep a b c d e).ex) (λa b c d e=>(he a b c d e).ex) F5 Dj hc hs) (aKa (oF S (oD hv) hg E7 (λa b c d e=>(Ep a b c d e).ex) (λa b c d e=>(he a b c d e).ex) F5 Dj hc hs))).weak (aMf Bj A3)
end
theorem aCp{X:Cx}(n m:Ty):CallR X (.builtin "isinstance") (λxs H Q=>∃x d p,xs=[x,.ref p]/\IsX H d x/\sP d/\H p=some (.tup [.ty n.nm,.ty m.nm])/\Q (.bl (isT n d||isT m d)) H):=by
 intro Aa s σ H xs us Q I r h
 obtain⟨x,d,p,rfl,hx,C0,hp,q⟩:=h
 have e:PySem.W.kitAny X.K (.type (tyN d)) ([n.nm,m.nm].map Value.type)=some (isT n d||isT m d):=aGk (vI C0) (vI C0)
 have gen:∀{t:Value},TyOf X.K H x t->t=.type (tyN d)->wpAny (model X.prog X.w) X.A (call (.builtin "isinstance") us) (EP X Aa σ Q) X.xe s:=λty et =>
  wF Aa s σ H _ us Q I r ⟨x,p,_,_,[n.nm,m.nm],rfl,ty,hp,by rw[et];exact e,q⟩
 cases d with
 |non=>cases hx.non_eq;exact gen .non rfl
 |bl _=>cases hx.bl_eq;exact gen (.bl _) rfl
 |int _=>cases hx.int_eq;exact gen (.int _) rfl
 |str _=>cases hx.str_eq;exact gen (.str _) rfl
 |tup _=>obtain⟨a,vs,rfl,h1,_⟩:=hx.tup_eq;exact gen (.tup h1) rfl
 |lst _=>obtain⟨a,vs,rfl,h1,_⟩:=hx.lst_eq;exact gen (.lst h1) rfl
 |dic _ =>
  obtain⟨a,vs,rfl,h1,_⟩:=hx.dic_eq
  rcases h1 with h1 | ⟨ob,h1⟩
  ·exact gen (.dK h1) rfl
  ·obtain ⟨u,w',rfl,r1,r2⟩:=pE r
   cases r2
   obtain⟨_,its,rv,o,h2,h3,n',h4⟩:=(show ObjOk X.prog X.w H s.heap p (.tup ([n.nm,m.nm].map V.ty))from I.hok p _ hp)
   have ei:=b7 rv
   subst ei
   obtain⟨cls,dd,data,sl⟩:=o
   dsimp only at h3 h4
   subst h3 h4
   have fin:∀tk,EP X Aa σ Q (.bool (isT n (.dic _)||isT m (.dic _))) { s with toks:=tk }:=λtk=>⟨.bl _,H,I.tok _,rfl,q⟩
   cases(show u=Value.ref a from r1)
   obtain⟨o,es,ep,g1,g2,_⟩:=gq_ (show ObjOk X.prog X.w H s.heap a (.frz ob (.dK vs))from I.hok a _ h1).2
   exact PySem.W.kia_tup PySem.W.kitx_dict I.kIn ⟨o,g1,g2.1⟩ h2 e (λz=>nomatch z) fin
 |scr _ _=>exact C0.elim
 |ins _ _=>exact C0.elim
 |exc _=>exact C0.elim
 |pin b x=>obtain⟨rfl,h1⟩:=hx.pin_eq;exact gen (.tup h1) rfl
def aXy(n m:Ty)(t:XT):XT:=λρ Q=>t ρ λs ρ'=>match s.d with
 | .scr _ _=>False
 | .ins _ _=>False
 | .exc _=>False
 |d=>Q (.tr (.bl (isT n d||isT m d))) ρ'
theorem oX{e:Expr}{t:XT}{nm F8:Str}{p q q2 q3 pos:Pos}{j:Nat}(n m:Ty)(hm:X.mg "isinstance" = none)(h:XE X Ex e t)(hT:PE X (.Tuple [.Name nm q,.Name F8 q2] j q3) (aTv (lD (tC (.ty n.nm)) (lD (tC (.ty m.nm)) wS))))(hg:Gl X "isinstance":=by rfl)
  (he:starEach [e,.Tuple [.Name nm q,.Name F8 q2] j q3] X.env=(false,eval e X.env)::starEach [.Tuple [.Name nm q,.Name F8 q2] j q3] X.env:=by rfl) (Fk:starEach [.Tuple [.Name nm q,.Name F8 q2] j q3] X.env=(false,eval (.Tuple [.Name nm q,.Name F8 q2] j q3) X.env)::starEach [] X.env:=by rfl)
  (Ay:(backTo pos (starEach [.Tuple [.Name nm q,.Name F8 q2] j q3] X.env)).any (·.1)=false:=by rfl):XE X Ex (.Call (.Name "isinstance" p) [e,.Tuple [.Name nm q,.Name F8 q2] j q3] [] pos) (aXy n m t):=λF =>
 (fo_ (aCp n m) hg hm dr_ (hX (h F) (hX hT lZ Fk) he) (by decide) (by decide) he Ay).weak fun σ H Q=>by
  rintro⟨ρ,fr,Qx,E,t,k⟩
  refine⟨ρ,fr,_,E,t,λv s H' ρ' E' q=>⟨by have:=gW;show 2<=sizeLine;lia,λp hp=>?_⟩⟩
  obtain⟨R,hx⟩:=E'.one
  have e:Same H' (upd H' p (.tup [.ty n.nm,.ty m.nm])):=df_ hp _
  have R2:=R.grow e
  generalize hd:s.d=d at q hx
  cases d with
  |scr _ _=>exact q.elim
  |ins _ _=>exact q.elim
  |exc _=>exact q.elim
  |_=>exact⟨v,_,p,rfl,(hx.to R.hv).to e,trivial,cA,k _ _ _ ρ' (EOk.back E'.len (R2.add (IsX.of_bl _))) q⟩
def jO(g g':G2)(ta tb tc:XT):XT:=λρ Q=>ta ρ λa ρ1=>tb ρ1 λb ρ2=>g a.d b.d λs=>match s with
 | .tr (.bl k)=>if k=true then tc ρ2 λc ρ3=>g' b.d c.d λs'=>Q s' ρ3 else Q (.tr (.bl false)) ρ2
 |_=>False
theorem wU{F:Fm}{r r':R2}{g g':G2}{ta tb tc:XT}(hx:OpX r g)(Ct:OpX r' g'):∀σ H Q,tX F (jO g g' ta tb tc) σ H Q->c6 r r' (tX F ta) (tX F tb) (tX F tc) σ H Q:=by
 rintro σ H Q ⟨ρ,fr,Qx,E,t,k⟩
 refine⟨ρ,fr,_,E,t,λv s H' ρ' E' t'=>⟨ρ',_,_,E',t',λw s2 H2 ρ2 E2 t2=>?_⟩⟩
 obtain⟨R,h1,h2⟩:=E2.two
 have E2b:EOk F ρ2 σ ((.v s2,some w)::fr) H2:=⟨E2.len,((E2.rep.perm (List.Perm.append_left _ (.swap _ _ _))).perm mO).tail.perm (.refl _)⟩
 have E2c:EOk F ρ2 σ ((vT s2.d,some w)::fr) H2:=EOk.back E2.len (E2b.front.frz)
 obtain⟨Rb,hb⟩:=E2c.one
 have h1b:IsX (hid (cB (ρ2.zip σ++(vT s2.d,some w)::fr)) (F.vis H2)) s.d v:=h1.to (nM λc hc=>by
  have:(cB ((vT s2.d,some w)::(ρ2.zip σ++fr))).Perm (cB (ρ2.zip σ++(vT s2.d,some w)::fr)):=mO.symm.flatMap_right _
  have:=this.mem_iff.mpr hc
  rw[dz_ rfl]at this
  exact this)
 have h2b:IsX (hid (cB (ρ2.zip σ++(vT s2.d,some w)::fr)) (F.vis H2)) s2.d w:=hb.to (nM λc hc=>by
  have:(cB ((vT s2.d,some w)::(ρ2.zip σ++fr))).Perm (cB (ρ2.zip σ++(vT s2.d,some w)::fr)):=mO.symm.flatMap_right _
  have:=this.mem_iff.mpr hc
  rw[dz_ rfl]at this
  exact this)
 refine hx F (ρ2.zip σ++(vT s2.d,some w)::fr) H2 s.d s2.d v w _ _ E2c.rep h1b h2b t2 λz s3 H3 R3 q=>?_
 split at q
 ·rename_i kb
  obtain⟨z',e,hz⟩:=R3.atT
  cases e
  cases hz.bl_eq
  refine⟨kb,rfl,?_⟩
  have E3:EOk F ρ2 σ ((vT s2.d,some w)::fr) H3:=⟨E2.len,R3.tail⟩
  cases kb with
  |true =>
   refine⟨ρ2,_,_,E3,q,λu s4 H4 ρ4 E4 q4=>?_⟩
   obtain⟨R5,h5,h6⟩:=E4.two
   exact Ct F _ H4 s2.d s4.d w u Q (λz=>Qx z ρ4) R5 h5 h6 q4 λv' s' H' R' q=>k v' s' H' ρ4 (EOk.back E4.len R') q
  |false=>exact k _ _ H3 ρ2 (EOk.back E2.len (E3.drop.rep.add (IsX.of_bl _))) q
 ·exact q.elim
section
variable{a b c e:Expr}{pos:Pos}{r r':R2}{g g':G2}{ta tb tc te:XT}{op op':CmpOp}
theorem wO(ho:OpR X (compareOp op) r)(hx:OpX r g)(Dk:OpR X (compareOp op') r')(Ct:OpX r' g')(ha:XE X Ex a ta)(hb:XE X Ex b tb)(hc:XE X Ex c tc)(hm:lastMarks [op,op'] [b,c]=false:=by with_unfolding_all rfl):XE X Ex (.Compare a [op,op'] [b,c] pos) (jO g g' ta tb tc):=λF=>(aFg ho Dk (ha F) (hb F) (hc F) hm).weak (wU hx Ct)
theorem aDe(ho:OpR X (compareOp op) r)(hx:OpX r g)(Dk:OpR X (compareOp op') r')(Ct:OpX r' g')(ha:XE X Ex a ta)(hb:XE X Ex b tb)(hc:XE X Ex c tc)(hm:lastMarks [op,op'] [b,c]=false:=by with_unfolding_all rfl):XTe X Ex (.Compare a [op,op'] [b,c] pos) (xB (jO g g' ta tb tc)):=λF=>(aEz ho Dk (ha F) (hb F) (hc F) hm).weak (nV (wU hx Ct))
end
abbrev XO:=En->(Option Int->En->Prop)->Prop
def tXo(F:Fm)(t:XO):TO:=λσ H Q=>∃ρ fr Qx,EOk F ρ σ fr H/\t ρ Qx/\∀b H' ρ',EOk F ρ' σ fr H'->Qx b ρ'->Q b H'
def XOp(X:Cx)(Ex:ExT)(e:Option Expr)(t:XO):Prop:=∀F,[OkF X Ex F]->PO X e (tXo F t)
def xoN:XO:=λρ Q=>Q none ρ
def xoS(t:XT):XO:=λρ Q=>t ρ λs ρ'=>match s.d with
 | .int i=>Q (some i) ρ'
 |_=>False
theorem ia_{X:Cx}{Ex:ExT}:XOp X Ex none xoN:=λF _ Aa s σ H Q I h=>by
 obtain⟨ρ,fr,Qx,E,t,k⟩:=h
 exact oC Aa s σ H Q I (k none H ρ E t)
theorem fv_{e:Expr}{t:XT}(h:XE X Ex e t):XOp X Ex (some e) (xoS t):=λF _ Aa s σ H Q I hq=>by
 refine oB (h F) Aa s σ H Q I ?_
 obtain⟨ρ,fr,Qx,E,t,k⟩:=hq
 refine⟨ρ,fr,_,E,t,λv s H' ρ' E' q=>?_⟩
 split at q
 ·rename_i i hi
  obtain⟨R,hx⟩:=E'.one
  rw[hi]at hx
  cases hx.int_eq
  exact⟨i,rfl,k (some i) H' ρ' E'.drop q⟩
 ·exact q.elim
def qV{α:Type}(xs:List α)(lo hi:Option Int):List α:=(xs.drop (HT.sIx xs.length 0 lo)).take (HT.sIx xs.length xs.length hi-HT.sIx xs.length 0 lo)
def slX(a:Dx)(lo hi:Option Int)(Q:Sv->Prop):Prop:=match a with
 | .lst l=>Q (.ol (qV l lo hi))
 | .str z=>z.length<=1000000/\Q (.tr (.str (Txt.slice z lo hi)))
 |_=>False
def xSl(t:XT)(lo hi:XO):XT:=λρ Q=>t ρ λa ρ1=>lo ρ1 λl ρ2=>hi ρ2 λh ρ3=>slX a.d l h λs=>Q s ρ3
theorem fh_{e:Expr}{lo hi:Option Expr}{p2 pos:Pos}{t:XT}{tl th:XO}(K:eC)(he:XE X Ex e t)(hl:XOp X Ex lo tl)(hh:XOp X Ex hi th)(h:X.K=K:=by rfl):XE X Ex (.Subscript e (.Slice lo hi none p2) pos) (xSl t tl th):=λF =>
 (hs_ (SlR.or (aEh K h) uJ) (he F) (hl F) (hh F)).weak fun σ H Q=>by
  rintro⟨ρ,fr,Qx,E,t,k⟩
  refine⟨ρ,fr,_,E,t,λv s H' ρ' E' q=>⟨ρ',_,_,E',q,λl H2 ρ2 E2 q2=>⟨ρ2,_,_,E2,q2,λu H3 ρ3 E3 q3=>?_⟩⟩⟩
  obtain⟨R,hx⟩:=E3.one
  unfold slX at q3
  split at q3
  ·rename_i m hm
   rw[hm]at hx
   obtain⟨a,vs,rfl,h1,h2⟩:=hx.lst_eq
   refine .inl ⟨a,vs,rfl,SqL.of (R.hv _ _ h1),λp hp=>k _ _ _ ρ3 (EOk.back E3.len (R.newL hp ?_)) q3⟩
   unfold aHr qV
   rw[h2.len]
   exact(h2.drop _).take _
  ·rename_i z hz
   rw[hz]at hx
   cases hx.str_eq
   exact .inr ⟨z,rfl,by have:=gW;lia,k _ _ H3 ρ3 (EOk.back E3.len (R.add (IsX.of_str _))) q3.2⟩
  ·exact q3.elim
def aZy(t:XT):XT:=λρ Q=>t ρ λs ρ'=>match s.d with
 | .lst l=>Q (.ol l.reverse) ρ'
 |_=>False
def aWm:GC
 | [.lst l],Q=>(∃bs:List Bool,l=bs.map Dx.bl/\Q (.tr (.bl (bs.all id))))
 |_,_=>False
theorem aAi{G:Hp}:∀{bs:List Bool} {vs:List V},All2 (IsX G) (bs.map Dx.bl) vs->vs=bs.map V.bl
 | [],_,h=>h
 |b::bs,_,⟨v,vr,e,h1,h2⟩=>by rw[e,h1.bl_eq,aAi h2];rfl
theorem qF{G:Hp}:∀{bs:List Int} {vs:List V},All2 (IsX G) (bs.map Dx.int) vs->vs=bs.map V.int
 | [],_,h=>h
 |b::bs,_,⟨v,vr,e,h1,h2⟩=>by rw[e,h1.int_eq,qF h2];rfl
theorem j0{K:eC}:gZ (aEu K) aWm:=by
 intro F P H ds xs Q Qx R hs g k
 unfold aWm at g
 split at g
 ·obtain ⟨bs,rfl,g⟩:=g
  obtain⟨x,rfl,hx⟩:=vY hs
  obtain⟨a,vs,rfl,h1,h2⟩:=hx.lst_eq
  have:=aAi h2
  subst this
  exact⟨a,bs,rfl,SqL.of (R.hv _ _ h1),k _ _ H (R.add (IsX.of_bl _)) g⟩
 ·exact g.elim
theorem jc_{X:Cx}(K:eC)(hc:X.calm=true)(h:X.K=K:=by rfl):CallR X (.builtin "all") (aEu K):=by subst h;exact aCr hc
def aGa:GC
 | [.int i,.int j],Q=>Q (.tr (.int (if j>i then j else i)))
 |_,_=>False
def aFz:GC
 | [.int i,.int j],Q=>Q (.tr (.int (if j<i then j else i)))
 |_,_=>False
theorem aMe:gZ (λxs H Q=>∃i j,xs=[.int i,.int j]/\Q (.int (if j>i then j else i)) H) aGa:=by
 intro F P H ds xs Q Qx R hs g k
 unfold aGa at g
 split at g
 ·obtain ⟨x,y,rfl,hx,hy⟩:=k_ hs
  cases hx.int_eq;cases hy.int_eq
  exact⟨_,_,rfl,k _ _ H (R.add (IsX.of_int _)) g⟩
 ·exact g.elim
theorem aMd:gZ (λxs H Q=>∃i j,xs=[.int i,.int j]/\Q (.int (if j<i then j else i)) H) aFz:=by
 intro F P H ds xs Q Qx R hs g k
 unfold aFz at g
 split at g
 ·obtain ⟨x,y,rfl,hx,hy⟩:=k_ hs
  cases hx.int_eq;cases hy.int_eq
  exact⟨_,_,rfl,k _ _ H (R.add (IsX.of_int _)) g⟩
 ·exact g.elim
def u5:GC
 | [.lst l],Q=>(∃ns:List Int,l=ns.map Dx.int/\ns≠[]/\∀M,M∈ns->(∀a∈ns,a<=M)->Q (.tr (.int M)))
 |_,_=>False
theorem vZ{K:eC}:gZ (aEr K) u5:=by
 intro F P H ds xs Q Qx R hs g k
 unfold u5 at g
 split at g
 ·obtain ⟨bs,rfl,g1,g⟩:=g
  obtain⟨x,rfl,hx⟩:=vY hs
  obtain⟨a,vs,rfl,h1,h2⟩:=hx.lst_eq
  have:=qF h2
  subst this
  exact⟨a,bs,rfl,SqL.of (R.hv _ _ h1),g1,λM h3 h4=>k _ _ H (R.add (IsX.of_int _)) (g M h3 h4)⟩
 ·exact g.elim
theorem jb_{X:Cx}(K:eC)(hc:X.calm=true)(h:X.K=K:=by rfl):CallR X (.builtin "max") (aEr K):=by subst h;exact aCl hc
theorem c7{F:Fm}{ti:XI}{n i:Nat}{g:TG}{gx:XG}{outs:List Nat}{tc:XC}{te:XT}(Bj:GX n g gx)(A3:outs.Nodup):∀D σ H,tXS F (iL i (iA n outs ti gx tc te)) D σ H->wV (sE n outs (tXi F ti) g (tXc F tc) (tX F te)) (jF i) D σ H:=by
 rintro D σ H ⟨ρ,fr,d,E,q,k⟩
 exact o4 Bj A3 σ H _ ⟨ρ,fr,_,E,q,λv s H' ρ' E' q'=>k.nx _ H' _ bD (hg_ E') q'⟩
def dL(N:List Str)(l:List Dx)(ds:List Dx):En:=.bw l::(ds.map (λd=>.v (.tr d))++List.replicate (N.length-(ds.length+1)) .un)
def dS(Q:Dx->List Dx->Prop)(d:Dx)(ρ:En):Prop:=match (ρ[0]? : Option Sl)with
 |some (Sl.bw l)=>Q d l
 |_=>False
abbrev iS(Q:Dx->List Dx->Prop):XD:=⟨λρ=>dS Q .non ρ,λs ρ=>dS Q s.d ρ,λ_=>False,λ_=>False⟩
theorem i5{x:Str}{st:Stmt}{f:Addr}{fd:FuncData}{N ps:List Str}{k:Nat}{g:GB}(Fn:Fun K x x st f fd)(S:FnScope N ps (aO st))(Ah:∀l ds Q,g l ds Q->ds.length+1=ps.length)(hN:ps.length<=N.length)
  (Bb:∀ (Af:Value) (A:Around) (outer:List Env) (s:Shared) (H:Hp) (E:XK),Room k (A.deeper (PyProof.Rows.envOfC x (aO st) s.heap.objs.size f Af)) →
   ∃G,XSs (lX CX0 P w K mg base N x (aO st) f Af A outer s H E).nox dZ (gR st) G/\∀l ds Q,g l ds Q->G (dL N l ds) (iS Q)):FnOk P w K mg base CX0 (k+1) f fd ps (spB g):=by
 refine Fn.ok S (λvs H Q E h=>?_) (λAf A outer s H vs Q E hr h=>?_)
 ·obtain ⟨p,ws,l,vr,Hs,ds,Qx,rfl,_,_,_,_,h2,h3,_⟩:=h
  rw[aJ,h2.len]
  exact Ah l ds Qx h3
 obtain⟨p,ws,l,vr,Hs,ds,Qx,rfl,hp,h1,D5,hl,h2,h3,h4⟩:=h
 obtain⟨G,hG,hq⟩:=Bb Af A outer s H E hr
 have Mt:=Ah l ds Qx h3
 have nb:∀b∈[p],Hs b=none:=λb hb=>by rw[aF.mp hb];exact D5
 have ib:∀b∈[p],∃o,H b=some o:=λb hb=>by rw[aF.mp hb];exact⟨_,hp⟩
 have fin:∀{d:Dx} {v:V} {σ':St} {H':Hp} {ρ':En},EOk ⟨H,Hs,[p],h1,nb,ib⟩ ρ' σ' ((vT d,some v)::[]) H'->dS Qx d ρ'->Q v H':=λ{d v σ' H' ρ'} E' q=>by
  unfold dS at q
  split at q
  ·rename_i l' h0
   obtain⟨R,hx⟩:=E'.one
   obtain⟨y,hy,hi,R2⟩:=dh_ ⟨E'.len,R⟩ h0
   obtain⟨a,ws',rfl,h5,h6⟩:=R2.atB
   have ha:a=p:=aF.mp (R2.fr _ aA a (aF.mpr rfl))
   subst ha
   refine h4 d v l' ws' H' (λb o hb=>?_) h5 (h6.imp λ_ _ z=>z.to (nM λc hc=>by rw[aF.mp hc];exact aA)) (hx.to v9) q
   have An:b≠a:=λz=>by rw[z]at hb;unfold yG at hb;rw[if_pos rfl]at hb;cases hb
   rw[fz_ An]at hb ⊢
   exact R.kp b o hb λz=>An (aF.mp z)
  ·exact q.elim
 refine⟨_,hG ⟨H,Hs,[p],h1,nb,ib⟩,dL N l ds,[],iS Qx,⟨?_,?_⟩,hq l ds Qx h3,⟨λσ' H' ρ' _ E' q=>fin (EOk.back E'.len (E'.rep.add (d:=.non) (v:=.non) IsX.of_non)) q,λv s σ' H' ρ' _ E' q=>fin (EOk.back E'.len E'.front.frz) q,λ_ _ _ _ _ q=>q.elim,λ_ _ _ _ _ q=>q.elim⟩⟩
 ·unfold dL L2.start
  simp only[aK,aC,bV,aJ]
  rw[h2.len]
  lia
 ·have R0:Rep ⟨H,Hs,[p],h1,nb,ib⟩ [] H:=⟨List.nodup_nil,fun r hr=>by simp at hr,fun r hr=>by simp at hr,fun b o h _=>h,ib⟩
  have Hv:Same Hs (Fm.vis ⟨H,Hs,[p],h1,nb,ib⟩ H):=λb o hb=>(nJ (h1 _ _ hb)).trans hb
  have R1:=hr_ (m:=N.length-(ds.length+1)) R0 (h2.imp λ_ _ z=>z.to Hv)
  have Ic:cB ((ds.map (λd=>Sl.v (.tr d))++List.replicate (N.length-(ds.length+1)) Sl.un).zip (vr.map some++List.replicate (N.length-(ds.length+1)) none))=[]:=by
   unfold cB
   refine List.flatMap_eq_nil_iff.mpr λr hr=>?_
   obtain⟨a,b⟩:=r
   rcases bK.mp (List.of_mem_zip hr).1 with h | h
   ·obtain⟨d,_,rfl⟩:=cD.mp h;rfl
   ·rw[(List.mem_replicate.mp h).2];rfl
  rw[cH]
  have e:(dL N l ds).zip (L2.start N (.ref p::vr))=(.bw l,some (.ref p))::(ds.map (λd=>Sl.v (.tr d))++List.replicate (N.length-(ds.length+1)) Sl.un).zip (vr.map some++List.replicate (N.length-(ds.length+1)) none):=by
   unfold dL L2.start
   rw[aL,bA,List.zip_cons_cons,aJ,h2.len]
  rw[e]
  refine⟨by rw[mE (a:=p) rfl,Ic];simp,λr hr=>?_,λr hr a ha=>?_,R1.kp,R1.lv⟩
  ·rw [mE (a:=p) rfl,Ic]
   rcases aE.mp hr with rfl | hr
   ·refine ⟨p,ws,rfl,hp,hl.imp fun _ _ z=>z.to fun b o hb=>bH.mpr ⟨fun z => ?_,Hv _ _ hb⟩⟩
    rw[aF.mp z,D5]at hb;cases hb
   ·refine (R1.ok r hr).mono (.of fun b o hb => ?_) fun _ _=>rfl
    have An:=bH.mp hb
    refine bH.mpr ⟨λz=>?_,An.2⟩
    have h9:Hs p=some o:=(nJ hp).symm.trans (aF.mp z ▸ An.2)
    rw[D5]at h9;cases h9
  ·rcases aE.mp hr with rfl | hr
   ·exact ha
   ·exact R1.fr r hr a ha
theorem Cal.mono{i j:Nat}{x:Str}{ps:List Str}{sp:Sp}(C:Cal P w K mg base i x ps sp)(h:i<=j):Cal P w K mg base j x ps sp:=by
 obtain⟨f,fd,G,b,k,m⟩:=C
 exact⟨f,fd,G.mono h,b,k,m⟩
theorem IsX.cast{H:Hp}{d d':Dx}{v:V}(h:IsX H d v)(e:d=d'):IsX H d' v:=e ▸ h
theorem sI{F:Fm}{ρ:En}{σ:St}{fr:List Rw}{H:Hp}{i:Nat}{s:Sv}(E:EOk F ρ σ fr H)(h:ρ[i]? = some (.v s)) :
  ∃v,σ[i]? = some (some v)/\EOk F (ρ.set i (vT s.d)) σ fr H/\IsX (hid (cB ((ρ.set i (vT s.d)).zip σ++fr)) (F.vis H)) s.d v:=by
 obtain⟨v,hv,hi,R⟩:=dh_ E h
 have R2:=R.frz
 have E2:=oQ E.len hi hv R2
 obtain⟨w,e,hx⟩:=R2.atT
 subst e
 have hO:(cB ((ρ.set i (vT s.d)).zip σ++fr)).Perm (cB ((vT s.d,some w)::((ρ.zip σ).eraseIdx i++fr))):=((de_ E.len hi hv).append_right fr).flatMap_right _
 rw[dz_ rfl]at hO
 exact⟨w,hv,E2,hx.to (nM λa ha=>hO.mem_iff.mp ha)⟩
def aTo(i j:Nat):XI:=λρ Q=>match ρ[i]? with
 |some (.v s)=>(match (ρ.set i (.v (.tr s.d)))[j]? with
  |some (.v s')=>(match s.d,s'.d with
   | .lst l,.lst m=>Q (hU l m) ((ρ.set i (.v (.tr s.d))).set j (.v (.tr s'.d)))
   | .tup l,.tup m=>Q (hU l m) ((ρ.set i (.v (.tr s.d))).set j (.v (.tr s'.d)))
   |_,_=>False)
  |_=>False)
 |_=>False
theorem aGm{F:Fm}{K:eC}{a b:Addr}{l m:List Dx}:ItX F (Itz true true K a b) [(vT (.tup l),some (.ref a)),(vT (.tup m),some (.ref b))] (hU l m)where
 go:=λP H i d R hd=>by
  obtain⟨v,e,h⟩:=R.atT;cases e
  obtain⟨_,vs,e,h1,h2⟩:=h.tup_eq;cases e
  obtain⟨v,e,h'⟩:=R.tail.atT;cases e
  obtain⟨_,ws,e,h3,h4⟩:=h'.tup_eq;cases e
  obtain⟨c,c',e1,e2,_⟩:=gw_ hd
  obtain⟨x,h5,_⟩:=h2.at e1
  obtain⟨y,h6,_⟩:=h4.at e2
  exact⟨vs,ws,x,y,SqT.of (R.hv _ _ h1),SqT.of (R.hv _ _ h3),h5,h6⟩
 stop:=λP H i R hi=>by
  obtain⟨v,e,h⟩:=R.atT;cases e
  obtain⟨_,vs,e,h1,h2⟩:=h.tup_eq;cases e
  obtain⟨v,e,h'⟩:=R.tail.atT;cases e
  obtain⟨_,ws,e,h3,h4⟩:=h'.tup_eq;cases e
  refine⟨vs,ws,SqT.of (R.hv _ _ h1),SqT.of (R.hv _ _ h3),?_⟩
  unfold hU at hi
  rw[List.length_zipWith]at hi
  rw[h2.len,h4.len]
  lia
 yld:=λP H i d x H' R hd q=>by
  obtain⟨p,x,y,rfl,hp,rfl,q⟩:=q
  obtain⟨v,e,h⟩:=R.atT;cases e
  obtain⟨_,vs,e,h1,h2⟩:=h.tup_eq;cases e
  obtain⟨v,e,h'⟩:=R.tail.atT;cases e
  obtain⟨_,ws,e,h3,h4⟩:=h'.tup_eq;cases e
  obtain⟨c,c',e1,e2,rfl⟩:=gw_ hd
  obtain⟨x',h5,h7⟩:=h2.at e1
  obtain⟨y',h6,h8⟩:=h4.at e2
  obtain⟨q1,q2⟩:=q vs ws (SqT.of (R.hv _ _ h1)) (SqT.of (R.hv _ _ h3))
  rw[q1]at h5;cases h5
  rw[q2]at h6;cases h6
  exact R.newT hp ⟨_,_,rfl,h7,_,_,rfl,h8,rfl⟩
theorem aIw{a b:Expr}{i j:Nat}{p pos:Pos}{es:List Expr}{kk:Nat}{tpos:Pos}(hm:X.mg "zip" = none)(ha:PE X a (gU i))(hb:PE X b (gU j))(hg:Gl X "zip":=by rfl)(hs:starEach [a,b] X.env=[(false,eval a X.env),(false,eval b X.env)]:=by rfl)(C5:starEach [b] X.env=[(false,eval b X.env)]:=by rfl)
  (hs3:starEach [a,b] X.env=(false,eval a X.env)::starEach [b] X.env:=by rfl) (hs4:starEach [b] X.env=(false,eval b X.env)::starEach [] X.env:=by rfl) :
  XIt X Ex (.Tuple es kk tpos) (.Call (.Name "zip" p) [a,b] [] pos) (aTo i j):=λF _ Aa s σ H R I h=>by
 have pa:PA X [a,b] (lD (gU i) (lD (gU j) wS)):=hX ha (hX hb lZ hs4) hs3
 obtain⟨ρ,fr,Qx,E,t,k⟩:=h
 unfold aTo at t
 split at t
 ·rename_i s1 h1
  split at t
  ·rename_i s2 h2
   obtain⟨v,hv,E1,Ey⟩:=sI E h1
   obtain⟨w,hw,E2,Ck⟩:=sI E1 h2
   have C4:IsX (hid (cB (((ρ.set i (vT s1.d)).set j (vT s2.d)).zip σ++fr)) (F.vis H)) s1.d v:=Ey.to (nM λc hc=>by
    obtain⟨w',Mk,hj,R2⟩:=dh_ E1 h2
    have hO:(cB (((ρ.set i (vT s1.d)).set j (vT s2.d)).zip σ++fr)).Perm (cB ((vT s2.d,w')::(((ρ.set i (vT s1.d)).zip σ).eraseIdx j++fr))):=((de_ E1.len hj Mk).append_right fr).flatMap_right _
    have hO2:(cB ((ρ.set i (vT s1.d)).zip σ++fr)).Perm (cB ((.v s2,w')::(((ρ.set i (vT s1.d)).zip σ).eraseIdx j++fr))):=((fg_ h2 Mk).append_right fr).flatMap_right _
    have:=hO.mem_iff.mp hc
    rw[dz_ rfl]at this
    refine hO2.mem_iff.mpr ?_
    rw[ci_]
    exact aI _ this)
   split at t
   ·rename_i l m e1 e2
    replace C4:=C4.cast e1
    replace Ck:=Ck.cast e2
    obtain⟨c,cs,rfl,g1,_⟩:=C4.lst_eq
    obtain⟨d,ds,rfl,g2,_⟩:=Ck.lst_eq
    have R1:=(E2.rep.add Ck).add (d:=.lst l) (v:=.ref c) C4
    refine d6 (t1:=false) (t2:=false) hg hm pa hs C5 Aa s σ H R I ⟨_,hv,_,hw,c,d,rfl,⟨cs,SqL.of (E2.rep.hv _ _ g1)⟩,⟨ds,SqL.of (E2.rep.hv _ _ g2)⟩,k _ H _ [(vT (.lst l),some (.ref c)),(vT (.lst m),some (.ref d))] _ ⟨E2.len,R1.perm ((mO.symm.cons _).trans mO.symm)⟩ v6 t⟩
   ·rename_i l m e1 e2
    replace C4:=C4.cast e1
    replace Ck:=Ck.cast e2
    obtain⟨c,cs,rfl,g1,_⟩:=C4.tup_eq
    obtain⟨d,ds,rfl,g2,_⟩:=Ck.tup_eq
    have R1:=(E2.rep.add Ck).add (d:=.tup l) (v:=.ref c) C4
    refine d6 (t1:=true) (t2:=true) hg hm pa hs C5 Aa s σ H R I ⟨_,hv,_,hw,c,d,rfl,⟨cs,SqT.of (E2.rep.hv _ _ g1)⟩,⟨ds,SqT.of (E2.rep.hv _ _ g2)⟩,k _ H _ [(vT (.tup l),some (.ref c)),(vT (.tup m),some (.ref d))] _ ⟨E2.len,R1.perm ((mO.symm.cons _).trans mO.symm)⟩ aGm t⟩
   ·exact t.elim
  ·exact t.elim
 ·exact t.elim
theorem ix_{n:Nat}{gx:XG}{tc:XC}{te:XT}{Q:List Dx->List Sl->Prop}{cs:List Sl}(f:Dx->List Dx):∀{ds:List Dx} {Ab:List Dx},
  (∀d∈ds,∀(Ab:List Dx) (P:List Dx->List Sl->Prop),P (Ab++f d) cs->gx d (List.replicate n .un++cs) λρ1=>tc ρ1 λb ρ2=>if b=true then te ρ2 λs ρ3=>P (Ab++[s.d]) (ρ3.drop n)else P Ab (ρ2.drop n)) ->
  Q (Ab++(ds.map f).flatten) cs->dG n gx tc te Q ds cs Ab
 | [],Ab,_,q=>by simpa [dG]using q
 |d::ds,Ab,h,q=>by
  show gx d _ _
  exact h d aA Ab (λAb cs=>dG n gx tc te Q ds cs Ab) (ix_ f (λd' hd=>h d' (aB _ hd)) (by simpa [bN]using q))
theorem hw_{gx:XG}{G:XS}{D:XD}(Pv:List Dx->En->Prop)(hd:∀ρ,Pv [] ρ->D.nx ρ)(hs:∀d ds ρ (K:En->Prop),Pv (d::ds) ρ->(∀ρ',Pv ds ρ'->K ρ')->gx d ρ λρ1=>G ρ1 { D with nx:=K,ct:=K,bk:=D.nx }) :
  ∀{ds:List Dx} {ρ:En},Pv ds ρ->iP gx G D ds ρ
 | [],ρ,h=>hd ρ h
 |d::ds,ρ,h=>hs d ds ρ (iP gx G D ds) h λρ' h'=>hw_ Pv hd hs h'
section
variable{α:Type}{a b c d:α}
theorem kU:atI [a] 0=some a:=rfl
theorem kS:atI [a,b] 0=some a:=rfl
theorem kQ:atI [a,b] 1=some b:=rfl
theorem kP:atI [a,b,c] 0=some a:=rfl
theorem kO:atI [a,b,c] 1=some b:=rfl
theorem kL:atI [a,b,c] 2=some c:=rfl
theorem kK:atI [a,b,c,d] 0=some a:=rfl
theorem kJ:atI [a,b,c,d] 1=some b:=rfl
theorem kI:atI [a,b,c,d] 2=some c:=rfl
theorem kH:atI [a,b,c,d] 3=some d:=rfl
theorem kD:ixN 3 0=some 0:=rfl
theorem kC:ixN 3 1=some 1:=rfl
theorem jZ:ixN 3 2=some 2:=rfl
end
theorem zG{l:List Dx}:lM (.bw l)=some (l,.bw):=rfl
theorem zH{l:List Dx}:lM (.v (.ol l))=some (l,λl'=>.v (.ol l')):=rfl
theorem jY{α:Type}{a b c:α}:[a,b,c].length=3:=rfl
theorem aSh{α:Type}{l:List α}{i:Int}(h0:0<=i)(h1:i<l.length):∃x,atI l i=some x/\l[i.toNat]? = some x:=by
 have hk:i.toNat<l.length:=by lia
 refine⟨l[i.toNat],?_,aM hk⟩
 unfold atI
 have:ixN l.length i=some i.toNat:=by
  unfold ixN
  simp only[h0]
  split<;>simp_all<;>lia
 rw[this]
 exact aM hk
abbrev GP:=List Dx->Dx->(Dx->Prop)->Prop
def OpL(r:R2)(g:GP):Prop:=∀(G:Hp) (H:Hp) (p:Addr) (ws:List V) (l:List Dx) (b:Dx) (y:V) (Q:VK) (Qx:Dx->Prop),Same G H->H p=some (.lst ws)->All2 (IsX G) l ws->IsX G b y->g l b Qx->(∀v d,IsX G d v->Qx d->Q v H)->r (.ref p) y H Q
def aNy(g:GP)(i:Nat)(t:XT):XT:=λρ Q=>((ρ[i]?).bind lM).isSome=true/\t ρ λk ρ'=>match (ρ'[i]?).bind lM with
 |some (l,_)=>g l k.d λd=>Q (.tr d) ρ'
 |none=>False
section
variable{F:Fm}{i:Nat}{t:XT}{r:R2}{g:GP}{x:Str}{a b e:Expr}{p pos:Pos}
theorem aUk(hx:OpL r g):∀σ H Q,tX F (aNy g i t) σ H Q->tOp r (gU i) (tX F t) σ H Q:=by
 rintro σ H Q ⟨ρ,fr,Qx,E,⟨h0,q⟩,k⟩
 obtain⟨⟨l,f⟩,h1⟩:=eP.mp h0
 obtain⟨p,ws,hv,_⟩:=gk_ E h1
 refine⟨.ref p,hv,ρ,fr,_,E,q,λw s H' ρ' E' q'=>?_⟩
 split at q'
 ·rename_i l' f' hb
  obtain⟨R,hs⟩:=E'.one
  obtain⟨p',ws',Br,hp,hl,_⟩:=gk_ E'.drop hb
  rw[hv]at Br;cases Br
  exact hx _ H' p ws' l' s.d w Q _ R.hv hp hl hs q' λv d hd qd=>k v (.tr d) H' ρ' (EOk.back E'.len (R.add hd)) qd
 ·exact q'.elim
def ixP:GP:=λl k Q=>match k with
 | .int j=>(match atI l j with | some d=>Q d | none=>False)
 |_=>False
theorem aUp{K:eC}:OpL (aEt K) ixP:=by
 intro G H p ws l b y Q Qx hs hp hl hb g k
 unfold ixP at g
 split at g
 ·cases hb.int_eq
  split at g
  ·rename_i d hd
   obtain⟨v,h1,h2⟩:=rE hl hd
   exact⟨_,_,_,_,rfl,rfl,SqL.of hp,h1,k v d h2 g⟩
  ·exact g.elim
 ·exact g.elim
theorem gx_(K:eC)(hv:PE X (.Name x p) (gU i))(hb:XE X Ex b t)(hs:mF b)(h:X.K=K:=by rfl):XE X Ex (.Subscript (.Name x p) b pos) (aNy ixP i t):=λF=>by
 subst h
 exact(yM dl_ hv (hb F) hs).weak (aUk aUp)
end
theorem XE.at{e:Expr}{t:XT}(F:Fm)[OkF X Ex F](h:XE X Ex e t):PE X e (tX F t):=h F
theorem gE{e:Expr}{t:XT}{x:Str}{i:Nat}{pos pos':Pos}(hN:X.N.Nodup)(hi:X.N[i]? = some x)(hx:Loc X.env.scope x)(he:XE X dZ e t)(hs:swapsWith e (some (.Name x pos')) pos.line X.env=pure false:=by rfl)(hf:X.fn x=true\/X.env.scope.names.lookup x=some .local:=by first | exact .inl rfl | exact .inr rfl | assumption):XSt X Ex (.Assign [.Name x pos'] e pos) (iL i t):=aj_ λF=>wL hN hi hx (XE.at (Ex:=dZ) F he) hs hf
theorem eV{x:Str}{p q pos:Pos}{i j:Nat}{n:Int}(K:eC)(h0:PE X (.Name x p) (gU i))(h:X.K=K:=by rfl):XE X Ex (.Subscript (.Name x p) (.Constant (.int n) j q) pos) (xOp ixX (cV i) (xC (.int n))):=rC K (bP h0) dC (λ_ _=>rfl) h
theorem XIt.at{tg e:Expr}{t:XI}(F:Fm)[OkF X Ex F](h:XIt X Ex tg e t):PI X tg e (tXi F t):=h F
theorem XCs.at{e:List Expr}{t:XC}(F:Fm)[OkF X Ex F](h:XCs X Ex e t):PCs X e (tXc F t):=h F
section
variable{α:Type}{n:Nat}{gx:XG}{tc:XC}{te:XT}{Q:List Dx->List Sl->Prop}
abbrev pJ(n:Nat)(gx:XG)(tc:XC)(te:XT)(P:List Dx->List Sl->Prop)(d:Dx)(cs:List Sl)(Ab:List Dx):Prop:=gx d (List.replicate n .un++cs) λρ1=>tc ρ1 λb ρ2=>if b=true then te ρ2 λs ρ3=>P (Ab++[s.d]) (ρ3.drop n)else P Ab (ρ2.drop n)
theorem bz_{cs:List Sl}(φ ψ:α->Dx):∀{as:List α} {Ab:List Dx},(∀a∈as,∀(Ab:List Dx) (P:List Dx->List Sl->Prop),P (Ab++[ψ a]) cs->pJ n gx tc te P (φ a) cs Ab) ->
  Q (Ab++as.map ψ) cs->dG n gx tc te Q (as.map φ) cs Ab
 | [],Ab,_,q=>by simpa [dG]using q
 |a::as,Ab,h,q=>by
  show gx (φ a) _ _
  exact h a aA Ab (λAb cs=>dG n gx tc te Q (as.map φ) cs Ab) (bz_ φ ψ (λa' ha=>h a' (aB _ ha)) (by simpa [bN]using q))
theorem cp_(φ:α->Dx)(I:List α->List Dx->List Sl->Prop)(hd:∀Ab cs,I [] Ab cs->Q Ab cs)(hs:∀a as Ab cs (P:List Dx->List Sl->Prop),I (a::as) Ab cs->(∀acc' cs',I as acc' cs'->P acc' cs')->pJ n gx tc te P (φ a) cs Ab) :
  ∀{as:List α} {Ab:List Dx} {cs:List Sl},I as Ab cs->dG n gx tc te Q (as.map φ) cs Ab
 | [],Ab,cs,h=>hd Ab cs h
 |a::as,Ab,cs,h=>by
  show gx (φ a) _ _
  exact hs a as Ab cs (λAb cs=>dG n gx tc te Q (as.map φ) cs Ab) h λacc' cs' h'=>cp_ φ I hd hs h'
theorem cy_{gx:XG}{G:XS}{D:XD}(φ:α->Dx)(Pv:List α->En->Prop)(hd:∀ρ,Pv [] ρ->D.nx ρ)(hs:∀d ds ρ (K:En->Prop),Pv (d::ds) ρ->(∀ρ',Pv ds ρ'->K ρ')->gx (φ d) ρ λρ1=>G ρ1 { D with nx:=K,ct:=K,bk:=D.nx }) :
  ∀{ds:List α} {ρ:En},Pv ds ρ->iP gx G D (ds.map φ) ρ
 | [],ρ,h=>hd ρ h
 |d::ds,ρ,h=>hs d ds ρ (iP gx G D (ds.map φ)) h λρ' h'=>cy_ φ Pv hd hs h'
end
section
variable{F:Fm}{e:Expr}{kws:List Keyword}{x:Str}{p pos:Pos}{u:XA}{t:XT}
def aTr(dd:Int)(u:XA):XT:=λρ Q=>u ρ λss ρ'=>match ss.map Sv.d with
 | [.lst l]=>∃ns:List Int,l=ns.map Dx.int/\(ns=[]->Q (.tr (.int dd)) ρ')/\∀M,M∈ns->(∀a∈ns,a<=M)->Q (.tr (.int M)) ρ'
 |_=>False
theorem tY{dd:Int}(hc:X.calm=true)(hg:Gl X "max")(hm:X.mg "max" = none)(ha:XAs X Ex [e] u)(Kw:PK X kws (lD (tC (.int dd)) wS))(El:(backToKw pos (keywordEach kws X.env)).filterMap (·.1)=(["default"]:List Str):=by rfl)
  (he:backTo pos (starEach [e] X.env)=(false,eval e X.env)::backTo pos (starEach [] X.env):=by rfl) (Ay:(backTo pos (starEach [e] X.env)).any (·.1)=false:=by rfl)
  (Ar:(backToKw pos (keywordEach kws X.env)).all (·.1.isSome)=true:=by rfl) (Ky:(backToKw pos (keywordEach kws X.env)).any (·.1.isNone)=false:=by rfl):XE X Ex (.Call (.Name "max" p) [e] kws pos) (aTr dd u):=λF=>by
 refine(aBc (aCn hc) hg hm rA (ha F) Kw El (by decide) (by decide) he Ay Ar Ky).weak λσ H Q=>?_
 rintro⟨ρ,fr,Qx,E,t,k⟩
 refine⟨ρ,fr,_,E,t,λvs ss H2 ρ2 hl E2 q2=>?_⟩
 obtain⟨R,hs⟩:=E2.many hl
 generalize He:ss.map Sv.d=ds at q2 hs
 split at q2
 ·obtain ⟨v,rfl,hv⟩:=vY hs
  obtain⟨a,ws,rfl,h1,h2⟩:=hv.lst_eq
  obtain⟨ns,rfl,q3,q4⟩:=q2
  have:=qF h2
  subst this
  exact⟨a,ns,dd,rfl,rfl,SqL.of (R.hv _ _ h1),λen=>k _ _ H2 ρ2 (EOk.back E2.len (R.add (IsX.of_int _))) (q3 en),λM hM C7=>k _ _ H2 ρ2 (EOk.back E2.len (R.add (IsX.of_int _))) (q4 M hM C7)⟩
 ·exact q2.elim
theorem tZ{i:Int}(hg:Gl X x)(hm:∃t,X.mg x=some (.int i t))(hd:(x == ("__debug__" : Str))=false:=by decide):XE X Ex (.Name x pos) (xC (.int i)):=by
 obtain⟨t,hm⟩:=hm
 exact aDh (fx_ (v:=.int i) hg hm ⟨t,rfl⟩ hd) _ λ_=>IsX.of_int _
def aTs(t:XT):XT:=λρ Q=>t ρ λs ρ'=>match s.d with
 | .int i=>Q (.tr (.int (Builtin.Int.intBits i))) ρ'
 |_=>False
theorem aSc{K:eC}:∀σ H Q,tX F (aTs t) σ H Q->aUb K "int" aNb (tX F t) σ H Q:=by
 rintro σ H Q ⟨ρ,fr,Qx,E,q,k⟩
 refine⟨ρ,fr,_,E,q,λv s H' ρ' E' q'=>?_⟩
 obtain⟨R,hs⟩:=E'.one
 split at q'
 ·rename_i i hi
  rw[hi]at hs
  cases hs.int_eq
  exact⟨rfl,i,rfl,rfl,k _ _ H' ρ' (EOk.back E'.len (R.add (IsX.of_int _))) q'⟩
 ·exact q'.elim
end
theorem uC:∀{xs:List V} {us:List Value},xs.length=us.length->(∀(i:Nat) x u,xs[i]? = some x->us[i]? = some u->RelV x u)->Vals xs us
 | [],[],_,_=>.nil
 | [],_::_,h,_=>by simp at h
 |_::_,[],h,_=>by simp at h
 |x::xs,u::us,hl,h=>.cons (h 0 x u rfl rfl) (uC (by simpa using hl) λi a b h1 h2=>h (i+1) a b (by simpa using h1) (by simpa using h2))
section
variable{X:Cx}{Ex:ExT}
def aEs:List V->Hp->VK->Prop:=λxs H Q=>∃a kvs,xs=[V.ref a]/\Rd H a (.dK kvs)/\∀l,H l=none->Q (.ref l) (upd H l (.lst (kvs.map λkv=>kV kv.1)))
theorem j8(hc:X.calm=true):CallR X (.type "list") aEs:=by
 intro Aa s σ H xs us Q I r h
 obtain⟨a,kvs,rfl,ha,q⟩:=h
 obtain⟨u,rfl,rx⟩:=iB r
 cases rx
 obtain⟨z,hd,ap,es,ep,D,rel⟩:=gr_ I.hok ha
 have hl:kvs.length=es.size:=by rw[<-Array.length_toList];exact Paired.length rel
 refine PySem.W.kdl_call (aJk (es:=es) (ep:=ep) hd) (I.ok.hd hc) D (by omega) λh' tk acc' c' hk hD B7=>?_
 have hv:Vals (kvs.map λkv=>kV kv.1) acc'.toList:=by
  refine uC (by have:=B7.1;rw[aC,hl,<-this];simp) λi x u e1 e2=>?_
  rw[Array.getElem?_toList]at e2
  obtain⟨e,e3,rfl⟩:=B7.2 i u e2
  obtain⟨p,e5,e6⟩:=Paired.nth (i:=i) rel (by rw[Array.getElem?_toList];exact e3)
  rw[bX,e5]at e1
  cases e1
  exact e6.2.1
 refine⟨.ref s.heap.objs.size,_,I.laid (t':=tk) hk (aP _) (show ObjOk X.prog X.w _ h' _ (.lst (kvs.map λkv=>kV kv.1))from⟨by rw[aC];exact z,acc'.toList,c',hv,by simpa using hD⟩),rfl,q _ (I.hok.fresh (aP _))⟩
def aGd:GC
 | [.dic l],Q=>Q (.ol (fS l))
 |_,_=>False
theorem yA{G:Hp}:∀{l:List (Key×Dx)} {ws:List (Key×V)},All2 (KvX G) l ws->All2 (IsX G) (fS l) (ws.map λkv=>kV kv.1)
 | [],_,h=>by rw[show _=[]from h];rfl
 |k::l,_,⟨w,wr,e,h1,h2⟩=>by
  subst e
  exact⟨_,_,rfl,by show IsX G (mQ k.1) (kV w.1);rw[<-h1.1];exact v0 _ h1.2.2,yA h2⟩
theorem aHp:gZ aEs aGd:=by
 intro F P H ds xs Q Qx R hs g k
 unfold aGd at g
 split at g
 ·obtain ⟨x,rfl,hx⟩:=vY hs
  obtain⟨a,ws,rfl,h1,h2⟩:=hx.dic_eq
  exact⟨a,ws,rfl,xJ R h1,λl hl=>k _ _ _ (R.newL hl (yA h2)) g⟩
 ·exact g.elim
end
def neL:G2:=λa b Q=>match a,b with
 | .lst l,.lst m=>∃ns:List Int,l=ns.map Dx.int/\m=ns.map Dx.int/\Q (.tr (.bl false))
 |_,_=>False
section
variable{F:Fm}{a b e:Expr}{x:Str}{p pos:Pos}{ta tb t:XT}{tl th:XO}{u:XA}{K:eC}
theorem aMj{α β:Type}{f:α->β}{l:List α}{i:Int}:atI (l.map f) i=(atI l i).map f:=by
 unfold atI
 rw[aC]
 cases ixN l.length i with
 |none=>rfl
 |some n=>exact bX
def ixZ(K:eC):G2
 | .scr K' ns,.int i,Q=>K'=K/\(match atI ns i with | some n=>Q (.tr (.int n)) | none=>False)
 |_,_,_=>False
theorem aPc:OpX (aEt K) (ixZ K):=by
 intro F P H a b x y Q Qx R ha hb g k
 unfold ixZ at g
 split at g
 ·obtain ⟨rfl,g⟩:=g
  obtain⟨p,rfl,h1⟩:=ha.scr_eq
  cases hb.int_eq
  split at g
  ·rename_i n hn
   refine⟨p,_,_,V.int n,rfl,rfl,SameF.sq (.of R.hv) h1,?_,k _ _ H (R.add (IsX.of_int _)) g⟩
   rw[aMj,hn];rfl
  ·exact g.elim
 ·exact g.elim
theorem aNv(K:eC)(ha:XE X Ex a ta)(hb:XE X Ex b tb)(hs:mF b)(h:X.K=K:=by rfl):XE X Ex (.Subscript a b pos) (xOp (ixZ K) ta tb):=λF=>(yM (yC K h) (ha F) (hb F) hs).weak (nF aPc)
def aQl(K:eC):GC
 | [.scr K' ns],Q=>K'=K/\Q (.tr (.int ns.length))
 |_,_=>False
theorem aAb:gZ (aOl K) (aQl K):=by
 intro F P H ds xs Q Qx R hs g k
 unfold aQl at g
 split at g
 ·obtain ⟨rfl,g⟩:=g
  obtain⟨x,rfl,hx⟩:=vY hs
  obtain⟨a,rfl,h1⟩:=hx.scr_eq
  exact .inl ⟨a,_,rfl,.inl (SameF.sq (.of R.hv) h1),k _ _ H (R.add (by rw[aC];exact IsX.of_int _)) g⟩
 ·exact g.elim
end
def spLaw(K:eC):Sp:=λvs H Q _=>∃(a:Addr) (ns:List Int),vs=[.ref a]/\SqL K H a (ns.map V.int)/\ns.length<=63/\∀H',Q (.bl true) H'
def aVp(K:eC):GC:=λds Q=>∃ns:List Int,ds=[.scr K ns]/\ns.length<=63/\Q (.tr (.bl true))
theorem aGg{f:Addr}{fd:FuncData}{j:Nat}(h:FnOk P w K mg base CX0 j f fd ["script"] (spX (aVp K))):FnOk P w K mg base CX0 j f fd ["script"] (spLaw K):=h.imp λvs H Q E=>by
 rintro⟨a,ns,rfl,hS,hl,q⟩
 refine⟨H,[.scr K ns],λs=>s=.tr (.bl true),Same.refl _,⟨_,_,rfl,IsX.of_scr hS,rfl⟩,⟨ns,rfl,hl,rfl⟩,λs v H' _ hr e=>?_⟩
 subst e
 have A0:IsX (ext H H H') (.bl true) v:=hr
 cases A0.bl_eq
 exact q H'
end Lf
namespace L2
open PySem
section
variable{M:Model}{A:Around}{E:fF}{s:Shared}
def tU(fs S:List Addr)(h h':Heap):Prop:=∀b o,h.get? b=some o->b∉S->(b∉fs->h'.get? b=some o)/\∃sl,h'.get? b=some { o with slots:=sl }
end
end L2
namespace Lf
open PySem L2
section
variable{M:Model}{A:Around}{E:fF}{s:Shared}
theorem i6{nw:Addr->Prop}{H:Hp}{ea:Addr}{cls:Value}{fl:Option Addr}{Q:Unit->Shared->Prop}(a:Air nw s.heap H ea cls)
  (h:∀h' S,(∀b∈S,nw b/\H b=none/\∃o vs,s.heap.get? b=some o/\o.data=.fields vs)->tU [] S s.heap h'->Air nw h' H ea cls->Q () { s with heap:=h' }):wpAny M A (setFlight (.ref ea) fl) Q E s:=by
 obtain⟨a1,a2,oe,vs,he,hc,hd,D7,hsz,a3⟩:=a
 unfold setFlight
 rcases a3 with a3 | ⟨T,oT,ts,a3,aT,aN,aH,hT,D8,h3⟩
 ·refine wpAny_bind (wpAny_field he hd a3 ?_)
  rw[if_neg (by decide)]
  exact wpAny_pure (h s.heap [] (λb hb=>nomatch hb) (λb o hb _=>⟨λ_=>hb,o.slots,hb⟩) ⟨a1,a2,oe,vs,he,hc,hd,D7,hsz,.inl a3⟩)
 ·refine wpAny_bind (wpAny_field he hd a3 ?_)
  rw[if_pos (show(Value.ref T != Value.none)=true from by simp)]
  refine wpAny_setField hT D8 h3 (h _ [T] (λb hb=>?_) (λb o hb Dd=>?_) ⟨a1,a2,oe,vs,(bO _ _ aT).trans he,hc,hd,D7,hsz,.inr ⟨T,_,_,a3,aT,aN,aH,dD _ hT (Obj.isFreed_of_fields (Obj.data_mapFields D8 _)),Obj.data_mapFields D8 _,by simpa using h3⟩⟩)
  ·rw[aF.mp hb];exact⟨aN,aH,oT,ts,hT,D8⟩
  ·have n2:b≠T:=fun z=>Dd (aF.mpr z)
   have e2:=(bO s.heap (Obj.mapFields (·.setIfInBounds 3 (fl.elim Value.none λf=>rawInt f))) (Ne.symm n2)).trans hb
   exact⟨λ_=>e2,o.slots,e2⟩
def Tb(h':Heap)(ea:Addr):Prop:=∃oe vs T,h'.get? ea=some oe/\oe.data=.fields vs/\vs[1]? = some (.ref T)
theorem aBj{base:Heap}{nw:Addr->Prop}{H:Hp}{env:Env}{outer:List Env}{L ea:Addr}{cls:Value}{Q:Unit->Shared->Prop}
  (Cv:A.frames=some (env::outer)) (hl:s.heap.FunFrames base (env::outer)) (hf:env.frame=some L) (hz:∀T,s.heap.objs.size<=T->nw T) (hH:∀a,s.heap.objs.size<=a->H a=none) (a:Air nw s.heap H ea cls)
  (h:∀h' S,(∀b∈S,nw b/\H b=none/\∃o vs,s.heap.get? b=some o/\o.data=.fields vs)->tU (frs (env::outer)) S s.heap h'->Air nw h' H ea cls->Tb h' ea->Q () { s with heap:=h' }):wpAny M A (noteFrame (.ref ea) env) Q E s:=by
 have entry:∀{s:Shared} {oe:Obj} {vs:Array Value} {head:Value} {Du:Bool} {Q:Unit->Shared->Prop},s.heap.FunFrames base (env::outer)->s.heap.get? ea=some oe->oe.data=.fields vs->1<vs.size ->
   (∀h' T oT ts,tU (frs (env::outer)) [ea] s.heap h'->s.heap.objs.size<=T->T≠ea->h'.get? ea=some (oe.mapFields (·.setIfInBounds 1 (.ref T)))->h'.get? T=some oT->oT.data=.fields ts->3<ts.size->Q () { s with heap:=h' }) ->
   wpAny M A (do let a <-frameOf env;let pl <-entryPlaceOf L Du;let b <-EntryCells.newEntry head a .none (rawInt L) .none pl;setField (.ref ea) 1 b) Q E s:=by
  intro s oe vs head Du Q hl he hd hsz h
  have K9:ea∉(env::outer).filterMap (·.frame):=λhm=>by
   obtain⟨_,o,ho,Ie⟩:=hl.mem hm
   rw[he]at ho;injection ho with ho;subst ho;exact Ie vs hd
  refine wpAny_bind (wpAny_frameOf_fun Cv hl hf λh₁ hs₁=>?_)
  refine wpAny_bind (wpAny_entryPlaceOf λpl Ay=>?_)
  unfold EntryCells.newEntry newFields
  refine wpAny_bind (wpAny_newObj_type ?_ (Ay.sizeOk5 _ _ _ _ _))
  have he₁:h₁.get? ea=some oe:=(hs₁.2.1 ea K9).trans he
  have he₂:=aD (h:=h₁) { cls:=.type "traceback",dict:=none,data:=.fields ([head,.ref L,.none,rawInt L,.none]++(if pl.isEmpty then List.replicate 6 Value.none else pl)).toArray } he₁
  have M0:h₁.objs.size≠ea:=iI (aR he₁)
  have hd₃:=Obj.data_mapFields hd (·.setIfInBounds 1 (Value.ref h₁.objs.size))
  have he₃:=dD (Obj.mapFields (·.setIfInBounds 1 (Value.ref h₁.objs.size))) he₂ (Obj.isFreed_of_fields hd₃)
  have hT₃:=(bO (h₁.push { cls:=.type "traceback",dict:=none,data:=.fields ([head,.ref L,.none,rawInt L,.none]++(if pl.isEmpty then List.replicate 6 Value.none else pl)).toArray })
   (Obj.mapFields (·.setIfInBounds 1 (Value.ref h₁.objs.size))) (Ne.symm M0)).trans (aY h₁ rfl)
  refine wpAny_setField he₂ hd hsz (h _ h₁.objs.size _ _ ?_ (Nat.le_of_eq hs₁.1.symm) M0 he₃ hT₃ rfl (by simp only[bE,aK,aJ,aV]<;>lia))
  intro b o hb Fp
  have Li:b≠ea:=λz=>Fp (aF.mpr z)
  have keep:∀o,h₁.get? b=some o->((h₁.push { cls:=.type "traceback",dict:=none,data:=.fields ([head,.ref L,.none,rawInt L,.none]++(if pl.isEmpty then List.replicate 6 Value.none else pl)).toArray }).update ea (Obj.mapFields (·.setIfInBounds 1 (Value.ref h₁.objs.size)))).get? b=some o:=λo hb=>by
   rw[bO _ _ (Ne.symm Li)]
   exact aD _ hb
  refine⟨λIy=>keep o ((hs₁.2.1 b Iy).trans hb),?_⟩
  obtain⟨sl,hs⟩:=hs₁.2.2 b o hb
  exact⟨sl,keep _ hs⟩
 obtain⟨a1,a2,oe,vs,he,hc,hd,D7,hsz,a3⟩:=a
 have fin:∀(h':Heap) (T:Addr) (oT:Obj) (ts:Array Value),s.heap.objs.size<=T->T≠ea->h'.get? ea=some (oe.mapFields (·.setIfInBounds 1 (.ref T)))->h'.get? T=some oT->oT.data=.fields ts->3<ts.size->Air nw h' H ea cls/\Tb h' ea:=λh' T oT ts g1 g2 g3 g4 g5 g6=>by
  refine⟨⟨a1,a2,_,_,g3,(Obj.cls_mapFields _ _).trans hc,Obj.data_mapFields hd _,by obtain⟨c,dct,dt,sl⟩:=oe;cases dt<;>exact D7,by simpa using hsz,.inr ⟨T,oT,ts,by simp[hsz],g2,hz T g1,hH T g1,g4,g5,g6⟩⟩,⟨_,_,T,g3,Obj.data_mapFields hd _,by simp[hsz]⟩⟩
 unfold noteFrame
 simp only[hf]
 rcases a3 with a3 | ⟨T,oT,ts,a3,aT,aN,aH,hT,D8,h3⟩
 ·refine wpAny_bind (wpAny_field he hd a3 ?_)
  rw[if_neg (by decide)]
  exact entry hl he hd hsz λh' T oT ts g0 g1 g2 g3 g4 g5 g6=>h h' [ea] (λb hb=>by rw[aF.mp hb];exact⟨a1,a2,_,_,he,hd⟩) g0 (fin h' T oT ts g1 g2 g3 g4 g5 g6).1 (fin h' T oT ts g1 g2 g3 g4 g5 g6).2
 ·refine wpAny_bind (wpAny_field he hd a3 ?_)
  rw[if_pos (show(Value.ref T != Value.none)=true from by simp)]
  obtain⟨x3,e3⟩:∃x,ts[3]? = some x:=⟨_,Array.getElem?_eq_getElem h3⟩
  refine wpAny_bind (wpAny_field hT D8 e3 ?_)
  by_cases hx:(x3 == rawInt L)=true
  ·rw [if_pos hx]
   exact wpAny_pure (h s.heap [] (λb hb=>nomatch hb) (λb o hb _=>⟨λ_=>hb,o.slots,hb⟩) ⟨a1,a2,oe,vs,he,hc,hd,D7,hsz,.inr ⟨T,oT,ts,a3,aT,aN,aH,hT,D8,h3⟩⟩ ⟨oe,vs,T,he,hd,a3⟩)
  rw[if_neg hx]
  refine wpAny_bind (wpAny_setField hT D8 h3 ?_)
  have other:∀b,b≠T->(s.heap.update T (Obj.mapFields (·.setIfInBounds 3 Value.none))).get? b=s.heap.get? b:=λb hb=>bO _ _ (Ne.symm hb)
  have noRecord:∀b o,s.heap.get? b=some o->(∀vs,o.data ≠ .fields vs)->b≠T:=λb o hb Ie q=>by
   rw[q,hT]at hb;injection hb with hb;subst hb;exact Ie ts D8
  have Hx:(s.heap.update T (Obj.mapFields (·.setIfInBounds 3 Value.none))).objs.size=s.heap.objs.size:=Heap.size_after_update ..
  refine entry (s:={ s with heap:=_ }) (hl.of_keeps λb o hb Ie=>⟨o,(other b (noRecord b o hb Ie)).trans hb,rfl⟩) ((other ea (Ne.symm aT)).trans he) hd hsz
   λh' T' oT' ts' g0 g1 g2 g3 g4 g5 g6=>h h' [ea,T] (λb hb=>?_) (λb o hb Dd=>?_) (fin h' T' oT' ts' (by rw[<-Hx];exact g1) g2 g3 g4 g5 g6).1 (fin h' T' oT' ts' (by rw[<-Hx];exact g1) g2 g3 g4 g5 g6).2
  ·rcases aE.mp hb with rfl | hb
   ·exact⟨a1,a2,_,_,he,hd⟩
   ·rw[aF.mp hb];exact⟨aN,aH,_,_,hT,D8⟩
  ·have n1:b≠ea:=fun z=>Dd (by rw [z]; exact aA)
   have n2:b≠T:=λz=>Dd (by rw[z];exact aB _ aA)
   exact g0 b o ((other b n2).trans hb) λz=>n1 (aF.mp z)
theorem xV{base:Heap}{nw:Addr->Prop}{H:Hp}{env:Env}{outer:List Env}{L ea:Addr}{cls:Value}{Q:Unit->Shared->Prop}
  (Cv:A.frames=some (env::outer)) (hl:s.heap.FunFrames base (env::outer)) (hf:env.frame=some L) (hz:∀T,s.heap.objs.size<=T->nw T) (hH:∀a,s.heap.objs.size<=a->H a=none) (a:Air nw s.heap H ea cls)
  (h:∀h' S,(∀b∈S,nw b/\H b=none/\∃o vs,s.heap.get? b=some o/\o.data=.fields vs)->tU (frs (env::outer)) S s.heap h'->Air nw h' H ea cls->Q () { s with heap:=h' }):wpAny M A (noteFrame (.ref ea) env) (λ_ s₂=>wpAny M A (setFlight (.ref ea) none) Q E s₂) E s:=
 aBj Cv hl hf hz hH a λh' S hS kx air' _=>i6 (s:={ s with heap:=h' }) air' λh2 S2 hS2 Mi air2=>h h2 (S++S2.filter λb=>(s.heap.get? b).isSome) (λb hb=>by
  rcases bK.mp hb with z | z
  ·exact hS b z
  ·by_cases An:b∈S
   ·exact hS b An
   obtain⟨z1,z2⟩:=hY.mp z
   obtain⟨o,e⟩:=eP.mp z2
   obtain⟨g1,g2,o2,vs2,e2,d2⟩:=hS2 b z1
   obtain⟨sl,e3⟩:=(kx b o e An).2
   have e4:some o2=some { o with slots:=sl }:=e2.symm.trans e3
   cases e4
   exact⟨g1,g2,o,vs2,e,d2⟩) (λb o e n=>by
  have n1:b∉S:=λz=>n (bF _ z)
  have n2:b∉S2:=λz=>n (aI _ (hY.mpr ⟨z,by rw[e];rfl⟩))
  obtain⟨p,sl,q⟩:=kx b o e n1
  refine⟨λhf=>(Mi b o (p hf) n2).1 (by simp),?_⟩
  obtain⟨sl',q'⟩:=(Mi b _ q n2).2
  exact⟨sl',q'⟩) air2
end
theorem sU{P:Program}{w:World}{H:Hp}{h h':Heap}{fs S:List Addr}(x:HOk P w H h)(k:tU fs S h h')(hf:∀b∈fs,H b=none)(hS:∀b∈S,H b=none):HOk P w H h':=λa o e =>
 ObjOk.stay (x a o e) (λb u hb hu=>by
  have An:∃o,H b=some o:=by
   rcases hb with rfl | hb
   ·exact⟨_,e⟩
   ·exact⟨_,hb⟩
  obtain⟨ob,Ha⟩:=An
  exact(k b u hu λz=>by rw[hS b z]at Ha;cases Ha).1 λz=>by rw[hf b z]at Ha;cases Ha) (λ_ z=>z) (λ_ _ z=>z)
section
variable{X:Cx}{Aa:fG}{σ:St}{H H':Hp}{s s':Shared}
theorem Inv.thrown(I:Inv X Aa σ H s)(os:s'.os=s.os)(bare:PyProof.Rows.AllBare s'.gens)(un:Un (frs X.stack) [] H H' s.heap s'.heap)(hok:HOk X.prog X.w H' s'.heap):Inv X Aa σ H' s':=by
 obtain⟨hh,g,d,t,os'⟩:=s'
 obtain rfl:os'=s.os:=os
 exact I.call (h':=hh) (g':=g) (d':=d) (t':=t) (ch:=[]) un hok bare (λb z=>absurd z (by simp))
end
theorem Air.older{n0 n:Addr->Prop}{h':Heap}{H:Hp}{ea:Addr}{cls:Value}(a:Air n h' H ea cls)(k:∀b,n b->n0 b):Air n0 h' H ea cls:=by
 obtain⟨a1,a2,oe,vs,he,hc,hd,D7,hsz,a3⟩:=a
 refine⟨k _ a1,a2,oe,vs,he,hc,hd,D7,hsz,?_⟩
 rcases a3 with a3 | ⟨T,oT,ts,a3,aT,aN,r⟩
 ·exact .inl a3
 ·exact .inr ⟨T,oT,ts,a3,aT,k _ aN,r⟩
theorem OkF.pass{F:Fm}[OkF X Ex F](Aa:fG)(σ:St)(H:Hp)(s:Shared)(e:Value)(s':Shared)(I:Inv X Aa σ H s)(h:CXe X.prog X.w X.stack H s (λc _ H'=>Ex c/\aSm F H') e s'):X.xe e s':=by
 obtain⟨ea,cls,H',rfl,os,bare,un,hok,air,hx,hk⟩:=h
 refine OkF.pass1 (Ex:=Ex) (F:=F) Aa σ H' s' ea cls (Inv.thrown I os bare un hok) (air.older λb hb=>⟨?_,λp hp z=>?_⟩) hx hk
 ·by_cases Mz:b∈X.ex
  ·exact .inr Mz
  ·left
   cases q:X.s₀.heap.get? b with
   |none=>rfl
   |some o =>
    obtain⟨o',e'⟩:=I.base.there b o q Mz
    rw[hb]at e';cases e'
 ·have:=(I.pin p hp).1
  rw[z,hb]at this;cases this
section
variable{N:List Str}{x:Str}{scope:Scope}{f:Addr}{Af:Value}{A:Around}{outer:List Env}{s:Shared}{H:Hp}{E:XK}{Ex:ExT}{F:Fm}
theorem aKn(hE:∀c H',Ex c->aSm F H'->E c none H'):OkF (lX (CXe P w) P w K mg base N x scope f Af A outer s H E) Ex F:=⟨λAa σ H' s' ea cls I' air hx hk=>by
 have older:∀b,NwX (lX (CXe P w) P w K mg base N x scope f Af A outer s H E) Aa b->s.heap.get? b=none:=λb hb=>hb.1.elim (λz=>z) λz=>nomatch z
 refine wpAny_bind (xV (base:=base) (nw:=λb=>s.heap.get? b=none) (H:=H') (L:=s.heap.objs.size) I'.ok.frames I'.stack rfl (λT hT=>Heap.get?_none_of_le (nzL I'.sz hT)) (λa ha=>I'.hok.fresh ha) (air.older older) λh' S hS kx air'=>?_)
 have nS:∀b o,s.heap.get? b=some o->b∉S:=λb o hb z=>by rw[(hS b z).1]at hb;cases hb
 have nL:∀b o,s.heap.get? b=some o->b∈frs (PyProof.Rows.envOfC x scope s.heap.objs.size f Af::outer)->b∈frs outer:=λb o hb z=>by
  rcases aE.mp (show b∈s.heap.objs.size::frs outer from z)with z | z
  ·exact absurd (aR hb) (by rw[z];exact dH _)
  ·exact z
 have B:=I'.base
 refine⟨ea,cls,H',rfl,I'.os,I'.bare,⟨λb o hb n hf he=>?_,λb o hb n hf he=>?_,λb o hb n he=>B.free b o hb n he,λb o hb he=>?_,B.tups,B.frzs,B.tbls⟩,sU I'.hok kx I'.stkFree (λb hb=>(hS b hb).2.1),air',hE cls H' hx hk⟩
 ·exact(kx b o (B.keep b o hb n hf he) (nS b o hb)).1 λz=>hf (nL b o hb z)
 ·obtain ⟨sl,e1⟩:=B.slot b o hb n hf he
  obtain⟨sl',e2⟩:=(kx b _ e1 (nS b o hb)).2
  exact⟨sl',e2⟩
 ·obtain ⟨o',e1⟩:=B.there b o hb he
  obtain⟨sl',e2⟩:=(kx b _ e1 (nS b o hb)).2
  exact⟨_,e2⟩⟩
end
abbrev aOd{H Hs:Hp}(h:Same Hs H):Fm:=⟨H,Hs,[],h,λb hb=>by simp at hb,λb hb=>by simp at hb⟩
abbrev GE:=List Dx->(Sv->Prop)->ExT->Prop
def spE(g:GE):Sp:=λvs H Q E=>∃Hs ds Qx Ex,Same Hs H/\All2 (IsX Hs) ds vs/\g ds Qx Ex/\(∀s v H',Same H H'->aAm Hs H H' s v->Qx s->Q v H')/\∀c H',Same H H'->Ex c->E c none H'
theorem aZp{x qual:Str}{st:Stmt}{f:Addr}{fd:FuncData}{N ps:List Str}{k:Nat}{g:GE}(Fn:Fun K x qual st f fd)(S:FnScope N ps (aO st))(Ah:∀ds Q Ex,g ds Q Ex->ds.length=ps.length)(hN:ps.length<=N.length)
  (Bb:∀ (Af:Value) (A:Around) (outer:List Env) (s:Shared) (H:Hp) (E:XK) (Ex:ExT),Room k (A.deeper (PyProof.Rows.envOfC qual (aO st) s.heap.objs.size f Af)) →
   ∃G,XSs (lX (CXe P w) P w K mg base N qual (aO st) f Af A outer s H E) Ex (gR st) G/\∀ds Q,g ds Q Ex->G (cY N ds) (aJm Q)):FnOk P w K mg base (CXe P w) (k+1) f fd ps (spE g):=by
 obtain⟨oc,od,kV,doc,pm,an,Af,ct,osl,rfl,lk,Ea⟩:=Fn.ex
 refine aNk lk Ea S (λvs H Q E h=>?_) λA outer s H vs Q E hr h=>?_
 ·obtain ⟨Hs,ds,Qx,Ex,h1,h2,h3,_⟩:=h
  rw[h2.len]
  exact Ah ds Qx Ex h3
 obtain⟨Hs,ds,Qx,Ex,h1,h2,h3,h4,h5⟩:=h
 obtain⟨G,hG,hq⟩:=Bb Af A outer s H E Ex hr
 have hl:=Ah ds Qx Ex h3
 haveI:OkF (lX (CXe P w) P w K mg base N qual (aO st) f Af A outer s H E) Ex (aOd h1):=aKn λc H' e k=>h5 c H' (λb o hb=>k b o hb (by simp)) e
 refine⟨_,hG (aOd h1),cY N ds,[],aJm Qx,⟨?_,?_⟩,hq ds Qx h3,⟨λσ' H' ρ' _ E' q=>?_,λv s σ' H' ρ' _ E' q=>?_,λ_ _ _ _ _ q=>q.elim,λ_ _ _ _ _ q=>q.elim⟩⟩
 ·unfold cY L2.start
  simp only[aK,aC,bV]
  rw[h2.len]
 ·rw [cH]
  have R0:Rep (aOd h1) [] H:=⟨List.nodup_nil,λr hr=>by simp at hr,λr hr=>by simp at hr,λb o h _=>h,λb hb=>by simp at hb⟩
  unfold cY L2.start
  rw[h2.len]
  refine hr_ R0 (h2.imp λ_ _ z=>z.to λb o hb=>?_)
  cases q:H b with
  |none=>rw[h1 _ _ hb]at q;cases q
  |some u=>exact(nJ q).trans hb
 ·have R:=E'.rep.add (d:=.non) (v:=.non) IsX.of_non
  obtain⟨e1,e2⟩:=uP R
  exact h4 _ _ _ e1 e2 q
 ·obtain ⟨e1,e2⟩:=uP E'.front
  exact h4 _ _ _ e1 e2 q
def aSo(P:Program)(w:World)(K:eC)(mg:kW)(base:Heap)(j:Nat)(x:Str)(ps:List Str)(sp:Sp):Prop:=∃f fd,FnOk P w K mg base (CXe P w) j f fd ps sp/\Binds K fd ps []/\PySem.W.keepIn K (.ref f)=true/\mg x=some (.ref f)
theorem aBi{P:Program}{w:World}{H:Hp}{h:Heap}{a:Addr}{o:HO}(x:ObjOk P w H h a o):∃ob,h.get? a=some ob:=by
 cases o with
 |lst xs=>obtain⟨z,its,n,r,e⟩:=x;exact⟨_,e⟩
 |tup xs=>obtain⟨z,its,r,ob,e,c⟩:=x;exact⟨_,e⟩
 |dK kvs=>obtain⟨ob,_,_,e,_⟩:=gq_ x;exact⟨_,e⟩
 |dT kvs=>obtain⟨z,y,xs,r,ob,es,ep,e,c⟩:=x;exact⟨_,e⟩
 |set S n=>obtain⟨ob,es,ep,t,e,c⟩:=x;exact⟨_,e⟩
 |ins C dx fs=>obtain⟨d,z,ne,e,_⟩:=x;exact⟨_,e⟩
 |own y=>exact x
 |xd fs=>obtain⟨mA,⟨od,es,ep,e,c⟩,r⟩:=x;exact⟨_,e⟩
 |rng lo hi=>obtain⟨t,u,v,e⟩:=x;exact⟨_,e⟩
 |frz ob u=>exact⟨_,x.1⟩
 |tbl ps=>exact⟨_,x⟩
 |met f y=>exact⟨_,x⟩
 |ext φ=>exact x.2.1
theorem HOk.none{P:Program}{w:World}{H:Hp}{h:Heap}(x:HOk P w H h){a:Addr}(n:h.get? a=.none):H a=.none:=by
 cases q:H a with
 |none=>rfl
 |some o =>
  obtain⟨ob,e⟩:=aBi (x a o q)
  rw[n]at e;cases e
abbrev aMo(X:Cx)(x:Str)(C:Addr):Prop:=PyProof.Rows.OwnCls x C veM "ValueError.__new__" X.mg X.base
def aNx(Ex:ExT)(c:Value):XS:=λ_ _=>Ex c
theorem aDf{x z:Str}{C:Addr}{np cpos pos p:Pos}{j:Nat}(O:aMo X x C)(hc:X.calm=true)(hg:Gl X x)(hd:(x == ("__debug__" : Str))=false:=by decide)
  (he:starEach [.Constant (.str z) j p] X.env=[(false,eval (.Constant (.str z) j p) X.env)]:=by rfl):XSt X Ex (.Raise (some (.Call (.Name x np) [.Constant (.str z) j p] [] cpos)) none pos) (aNx Ex (.ref C)):=λF _ Aa s σ H D I h=>by
 obtain⟨ρ,fr,d,E,q,k⟩:=h
 have pa:PA X [.Constant (.str z) j p] (lD (tC (.str z)) wS):=hX gh_ lZ he
 obtain⟨tl,N,nm,qn,bs,hdct,sn,sub,ab,col,dd,k0,k1,k2,k3,k5,mN,hC,hN,Gg,T⟩:=O.obj
 refine wpAny_Raise_call_subT (C:=C) (nm:=nm) (q:=qn) (N:=N) (bs:=bs) (bm:=tl) (hdct:=hdct) (sn:=sn) (sub:=sub) (ab:=ab) (col:=col) (dd:=dd) (k0:=k0) (k1:=k1) (k2:=k2) (k3:=k3) (k5:=k5)
  PySem.F.excBase_ValueError (mN:=mN) (T.hasType PySem.F.excBase_ValueError.hasBase) (I.ok.hd hc) (by rw[he];rfl) Gg (hc_ I hg O.bound ⟨rfl,?_⟩ hd)
 refine Calls.evalArgs_plain ?_
 refine wpAny_mono (pa cpos Aa s σ H (λvs H1=>vs=[.str z]/\H1=H) I ⟨rfl,rfl⟩) (λus s₂ h₂=>?_) λ_ _ y=>y
 obtain⟨vs,H1,I2,rv,rfl,rfl⟩:=h₂
 refine⟨rfl,by rw[<-rv.length];show 1<=sizeLine;exact nzL (by decide) (Nat.le_of_lt gW),I2.bk _ _ hC,hN.keeps I2.bk,T.keeps I2.bk,λh' e hm=>?_⟩
 obtain⟨t,ht,tn,_⟩:=hm.there
 refine OkF.pass (Ex:=Ex) (F:=F) Aa σ H1 s₂ _ _ I2 ⟨e,.ref C,H1,rfl,rfl,I2.bare,Un.kept hm.keeps,I2.hok.kept hm.keeps,⟨hm.new,HOk.none I2.hok hm.new,_,_,ht,rfl,rfl,rfl,by show 1<6;decide,.inl rfl⟩,q,λb o h1 h2=>E.rep.kp b o h1 h2⟩
section
variable{X:Cx}{Aa:fG}{σ:St}{H H':Hp}{s s':Shared}{h':Heap}{S:List Addr}
theorem Inv.noLoc(I:Inv X Aa σ H s){b:Addr}{o:Obj}{vs:Array Value}(h:s.heap.get? b=some o)(hd:o.data=.fields vs):b≠X.env.locals/\∀x c,X.env.cells.lookup x=some c->c≠b:=by
 refine⟨λz=>?_,λx c e z=>?_⟩
 ·obtain ⟨m,⟨oL,es,ep,hL,hLd,_⟩,_⟩:=I.loc
  rw[z,hL]at h;cases h;rw[hLd]at hd;cases hd
 ·obtain ⟨v,o',ho,hv⟩:=I.cell x c e
  rw[z,h]at ho;cases ho;rw[hv]at hd;cases hd
theorem Inv.noted{t':Nat}(I:Inv X Aa σ H s)(kx:tU (frs X.stack) S s.heap h')(hS:∀b∈S,(X.s₀.heap.get? b=none/\∀p∈X.pn++Aa,p.1≠b)/\H b=none/\∃o vs,s.heap.get? b=some o/\o.data=.fields vs):Inv X Aa σ H { s with heap:=h',toks:=t' }:=by
 have neL:∀b o,X.s₀.heap.get? b=some o->b≠X.env.locals:=λb o e=>cC (bM (aR e) I.ok.above)
 have nS:∀b o,X.s₀.heap.get? b=some o->b∉S:=λb o e z=>by rw[(hS b z).1.1]at e;cases e
 have nst:∀b,b≠X.env.locals->b∉X.fs->b∉frs X.stack:=λb h1 h2 z=>(aE.mp (I.stkSub b z)).elim h1 h2
 have lS:X.env.locals∉S:=λz=>by obtain⟨_,_,o,vs,h1,h2⟩:=hS _ z;exact(Inv.noLoc I h1 h2).1 rfl
 have cS:∀x c,X.env.cells.lookup x=some c->c∉S:=λx c e z=>by obtain⟨_,_,o,vs,h1,h2⟩:=hS _ z;exact(Inv.noLoc I h1 h2).2 x c e rfl
 have cell:∀x c,X.env.cells.lookup x=some c->∀v,s.heap.IsCell c v->h'.IsCell c v:=λx c e v ⟨o,ho,hd⟩=>by
  obtain⟨sl,e2⟩:=(kx c o ho (cS x c e)).2
  exact⟨_,e2,hd⟩
 have B:=I.base
 refine⟨I.ok,I.os,I.bare,⟨λb o e n hb hx=>?_,λb o e n hb hx=>?_,B.free,λb o e hx=>?_,B.tups,B.frzs,B.tbls⟩,?_,λx c e=>?_,I.free,I.freeC,λp hp=>?_,sU I.hok kx I.stkFree (λb hb=>(hS b hb).2.1),I.len⟩
 ·exact(kx b o (B.keep b o e n hb hx) (nS b o e)).1 (nst b (neL b o e) hb)
 ·obtain ⟨sl,e1⟩:=B.slot b o e n hb hx
  obtain⟨sl',e2⟩:=(kx b _ e1 (nS b o e)).2
  exact⟨sl',e2⟩
 ·obtain ⟨o',e1⟩:=B.there b o e hx
  obtain⟨sl',e2⟩:=(kx b _ e1 (nS b o e)).2
  exact⟨_,e2⟩
 ·obtain ⟨m,⟨oL,es,ep,hL,r⟩,hl⟩:=I.loc
  obtain⟨sl,e2⟩:=(kx _ oL hL lS).2
  refine⟨m,⟨_,es,ep,e2,r⟩,λi x v e1 e2 e3=>?_⟩
  obtain⟨u,ru,lk⟩:=hl i x v e1 e2 e3
  refine⟨u,ru,?_⟩
  rcases lk with lk | ⟨k,c,e,z⟩
  ·exact .inl lk
  ·exact .inr ⟨k,c,e,cell x c e _ z⟩
 ·obtain ⟨v,z⟩:=I.cell x c e
  exact⟨v,cell x c e v z⟩
 ·obtain ⟨e,n,ne,nf,d⟩:=I.pin p hp
  exact⟨(kx p.1 p.2 e λz=>(hS p.1 z).1.2 p hp rfl).1 (nst p.1 ne nf),n,ne,nf,d⟩
theorem Inv.caught{ea:Addr}{cls:Value}{o:Obj}{vs:Array Value}(I:Inv X Aa σ H s)(nw:X.s₀.heap.get? ea=none/\∀p∈X.pn++Aa,p.1≠ea)(hn:H ea=none)(he:s.heap.get? ea=some o)(hc:o.cls=cls)(hd:o.data=.fields vs)(D7:o.dict=none) :
  Inv X Aa σ (upd H ea (.ext (yP ea cls))) s:=by
 obtain⟨nl,nc⟩:=Inv.noLoc I he hd
 have B:=I.base
 have ne:∀b u,H b=some u->b≠ea:=λb u e z=>by rw[z,hn]at e;cases e
 refine⟨I.ok,I.os,I.bare,⟨B.keep,B.slot,λb o e n hx=>?_,B.there,λb xs e=>?_,λb o xs e=>?_,λb ps e=>?_⟩,I.loc,I.cell,?_,λx c e=>?_,λp hp=>?_,λa u e=>?_,I.len⟩
 ·rw[fB λz=>by rw[z,nw.1]at e;cases e];exact B.free b o e n hx
 ·have:=B.tups b xs e;rw[fB (ne b _ this)];exact this
 ·have:=B.frzs b o xs e;rw[fB (ne b _ this)];exact this
 ·obtain⟨more,h1⟩:=B.tbls b ps e;exact⟨more,by rw[fB (ne b _ h1)];exact h1⟩
 ·rw[fB (Ne.symm nl)];exact I.free
 ·rw[fB (nc x c e)];exact I.freeC x c e
 ·obtain ⟨e1,e2,e3⟩:=I.pin p hp
  exact⟨e1,by rw[fB (nw.2 p hp)];exact e2,e3⟩
 ·by_cases z:a=ea
  ·subst z
   rw[cA]at e
   cases e
   exact⟨⟨o,vs,he,hc,hd,D7⟩,⟨o,he⟩,λh1 h2 ⟨o',vs',a1,a2⟩ k=>⟨o',vs',k o' a1,a2⟩⟩
  ·rw [fB z] at e
   exact ObjOk.stay (I.hok a u e) (λb v _ hv=>hv) (λb hb=>by rw[fB (ne b _ hb)];exact hb) (λb xs hb=>by rw[fB (ne b _ hb)];exact hb)
theorem gj_{M:Model}{A:Around}{E:fF}{i:Nat}{n:Str}{pos:Pos}{Q:Unit->Shared->Prop}(I:Inv X Aa σ H s)(hN:X.N.Nodup)(hi:X.N[i]? = some n)(hk:X.env.kindOf n=some .local)
  (h:∀s',Inv X Aa (σ.set i none) H s'->Q () s'):wpAny M A (do bindName X.env n .none;unbindBehindTheSuite X.env n pos) Q E s:=by
 obtain⟨m,hn,hl⟩:=id I.loc
 obtain⟨oL,_,_,Hb,_⟩:=id hn
 have Do:(X.env.scope.kind == .class||(X.env.scope.kind == .module&&X.env.locals != X.env.globals))=false:=by rw[I.ok.kind];rfl
 have hiσ:i<σ.length:=by rw[I.len];exact(aW.mp hi).1
 refine wpAny_nameGoes_keeps hk hn Do λh' v Cq hs=>h _ ?_
 have nl:∀b o,X.s₀.heap.get? b=some o->b≠X.env.locals:=λb o e=>cC (bM (aR e) I.ok.above)
 refine⟨I.ok,I.os,I.bare,⟨λb o e n hb hx=>?_,λb o e n hb hx=>?_,I.base.free,λb o e hx=>?_,I.base.tups,I.base.frzs,I.base.tbls⟩,⟨_,Cq,λj y v' e1 e2 e3=>?_⟩,λy c e=>?_,I.free,I.freeC,λp hp=>?_,λb ob e=>?_,by simpa using I.len⟩
 ·exact(hs.2 b (nl b o e)).trans (I.base.keep b o e n hb hx)
 ·obtain ⟨sl,e1⟩:=I.base.slot b o e n hb hx
  exact⟨sl,(hs.2 b (nl b o e)).trans e1⟩
 ·obtain ⟨o',e1⟩:=I.base.there b o e hx
  exact⟨o',(hs.2 b (nl b o e)).trans e1⟩
 ·by_cases hj:j=i
  ·subst hj
   rw[iJ hiσ]at e2
   cases e2
  ·rw [dR (Ne.symm hj)] at e2
   obtain⟨u',r',q⟩:=hl j y v' e1 e2 e3
   refine⟨u',r',?_⟩
   rcases q with⟨k,e⟩ | ⟨k,c,e,z⟩
   ·refine .inl ⟨k,?_⟩
    have:y≠n:=λe=>hj (pU hN e1 (e ▸ hi))
    simp[this,e]
   ·exact .inr ⟨k,c,e,z.sameBut hs (I.cne y c e)⟩
 ·obtain ⟨v',z⟩:=I.cell y c e
  exact⟨v',z.sameBut hs (I.cne y c e)⟩
 ·obtain ⟨e,n,ne,nf,d⟩:=I.pin p hp
  exact⟨(hs.2 p.1 ne).trans e,n,ne,nf,d⟩
 ·refine (I.hok b ob e).stay (fun c w' hc q=>(hs.2 c ?_).trans q) (fun _ q=>q) fun _ _ q=>q
  rintro rfl
  rcases hc with rfl | hc
  ·rw[I.free]at e;cases e
  ·rw[I.free]at hc;cases hc
end
abbrev NwT(X:Cx)(Aa:fG):Addr->Prop:=λb=>X.s₀.heap.get? b=none/\∀p∈X.pn++Aa,p.1≠b
abbrev aAt(X:Cx)(Aa:fG)(σ:St)(Qe:Value->Hp->Prop):Cx:={ X with pn:=X.pn++Aa,xe:=λe s'=>∃ea cls H',e=.ref ea/\Inv X Aa σ H' s'/\Air (NwT X Aa) s'.heap H' ea cls/\Qe cls H' }
section
variable{X:Cx}{Aa:fG}{σ:St}{H:Hp}{s:Shared}{Qe:Value->Hp->Prop}
theorem Inv.inTry{σ0:St}(I:Inv X Aa σ H s):Inv (aAt X Aa σ0 Qe) [] σ H s:=
 ⟨⟨I.ok.mod,I.ok.kind,I.ok.glob,I.ok.blt,I.ok.above,I.ok.inj,I.ok.has,I.ok.cab,I.ok.hd,I.ok.frames,I.ok.stk,I.ok.exf,I.ok.bs,I.ok.bsz,I.ok.noex,I.ok.exfs,I.ok.funs,I.ok.frf⟩,I.os,I.bare,I.base,I.loc,I.cell,I.free,I.freeC,λp hp=>I.pin p (by simpa using hp),I.hok,I.len⟩
theorem Inv.outTry{σ0:St}{pins':fG}(I:Inv (aAt X Aa σ0 Qe) pins' σ H s):Inv X Aa σ H s:=
 ⟨⟨I.ok.mod,I.ok.kind,I.ok.glob,I.ok.blt,I.ok.above,I.ok.inj,I.ok.has,I.ok.cab,I.ok.hd,I.ok.frames,I.ok.stk,I.ok.exf,I.ok.bs,I.ok.bsz,I.ok.noex,I.ok.exfs,I.ok.funs,I.ok.frf⟩,I.os,I.bare,I.base,I.loc,I.cell,I.free,I.freeC,λp hp=>I.pin p (bF _ hp),I.hok,I.len⟩
end
abbrev XQ:=En->(En->Prop)->(Value->En->Prop)->Prop
def tXQ(F:Fm)(σ0:St)(Qe:Value->Hp->Prop)(q:XQ):TS:=λD σ H=>σ=σ0/\∃ρ fr Qx Qe',EOk F ρ σ fr H/\q ρ Qx Qe'/\(∀σ' H' ρ',σ'.length=σ.length->EOk F ρ' σ' fr H'->Qx ρ'->D.nx σ' H')/\∀c H' ρ',EOk F ρ' σ fr H'->Qe' c ρ'->Qe c H'
def XQs(X:Cx)(sts:List Stmt)(q:XQ):Prop:=∀Aa σ0 Qe F,PSs (aAt X Aa σ0 Qe) sts (tXQ F σ0 Qe q)
section
variable{X:Cx}{Aa:fG}{σ0:St}{Qe:Value->Hp->Prop}{F:Fm}{g:GE}{u:XA}
def aEd(F:Fm)(σ0:St)(Qe:Value->Hp->Prop)(g:GE)(u:XA):TE:=λσ H Q=>σ=σ0/\∃(ρ:En) (fr:List Rw) (Qx:Sv->En->Prop) (Qe':Value->En->Prop),EOk F ρ σ fr H/\(u ρ λss ρ'=>g (ss.map Sv.d) (λs=>Qx s ρ') (λc=>Qe' c ρ'))/\(∀v s H' ρ',EOk F ρ' σ ((.v s,some v)::fr) H'->Qx s ρ'->Q v H')/\∀c H' ρ',EOk F ρ' σ fr H'->Qe' c ρ'->Qe c H'
theorem aFh{j:Nat}{x:Str}{ps:List Str}{e:Expr}{es:List Expr}{p pos:Pos}(C:aSo X.prog X.w X.K X.mg X.base j x ps (spE g))(hr:Room j X.A)(ha:XAs (aAt X Aa σ0 Qe) dZ (e::es) u)(hex:X.ex=[]:=by rfl)(hg:Gl X x:=by rfl)(Bs:(x == ("__debug__" : Str))=false:=by decide)
  (he:starEach (e::es) X.env=(false,eval e X.env)::starEach es X.env:=by rfl) (Ay:(backTo pos (starEach es X.env)).any (·.1)=false:=by rfl):PE (aAt X Aa σ0 Qe) (.Call (.Name x p) (e::es) [] pos) (aEd F σ0 Qe g u):=by
 obtain⟨f,fd,G,hb,hk,hm⟩:=C
 intro pins' s σ H Q I h
 obtain⟨rfl,ρ,fr,Qx,Qe',E,q,k1,k2⟩:=h
 refine wpAny_Call_Name_kw (hc_ I hg hm ?_ Bs)
 refine PySem.W.callWith_K (h₀:=X.base) I.ok.mod.kin hk (eO (ha F pos pins' s σ H (λvs H1=>spE g vs H1 Q (λc _ H'=>Qe c H')) I ⟨ρ,fr,_,E,q,λvs ss H2 ρ2 hl E2 q2=>?_⟩) λus s1 ⟨vs,H1,I1,r,q⟩=>⟨I1.kIn,?_⟩) he Ay
 ·obtain ⟨R,hs⟩:=E2.many hl
  exact⟨_,_,_,λc=>Qe' c ρ2,R.hv,hs,q2,λs v H' e hr q=>k1 v s H' ρ2 (EOk.back E2.len (R.res e hr)) q,λc H' e q=>k2 c H' ρ2 ⟨E2.len,R.grow e⟩ q⟩
 ·have hl:=G.len _ _ _ _ q
  have Cg:us.length=ps.length:=by rw[<-r.length];exact hl
  refine wpAny_call (codeAny_mono (G.run X.A X.stack s1 H1 ⟨us,[]⟩ us vs Q _ hr I1.env0 (by have:=hb s1 us I1.kIn (by rw[cH];exact Cg);rwa [cH]at this) r q) λr s' hq=>?_)
  cases r with
  |error e =>
   obtain⟨ea,cls,H',rfl,os,bare,un,hok,air,hx⟩:=hq
   refine⟨ea,cls,H',rfl,Inv.outTry (Inv.thrown I1 os bare un hok),air.older λb hb=>⟨?_,λp hp z=>?_⟩,hx⟩
   ·cases qq:X.s₀.heap.get? b with
    |none=>rfl
    |some o =>
     obtain⟨o',e'⟩:=I1.base.there b o qq (by show b∉X.ex;rw[hex];simp)
     rw[hb]at e';cases e'
   ·obtain ⟨e1,_⟩:=I1.pin p (bF _ hp)
    rw[z,hb]at e1;cases e1
  |ok fl =>
   cases fl with
   |ret v=>exact I1.after hq
   |next=>exact False.elim hq
   |brk=>exact False.elim hq
   |cont=>exact False.elim hq
end
def aTn(i:Nat)(g:GE)(u:XA):XQ:=λρ N Qe=>u ρ λss ρ'=>g (ss.map Sv.d) (λs=>N (ρ'.set i (.v s))) (λc=>Qe c ρ')
section
variable{X:Cx}{st:Stmt}{i:Nat}{g:GE}{u:XA}{q r:XQ}{e c:Expr}{tc:XC}{pos:Pos}
theorem aNs(h:∀Aa σ0 Qe F,PS (aAt X Aa σ0 Qe) st (wV (aEd F σ0 Qe g u) (jF i))):XQs X [st] (aTn i g u):=λAa σ0 Qe F=>(es_ (h Aa σ0 Qe F)).weak λD σ H=>by
 rintro⟨rfl,ρ,fr,Qx,Qe',E,q,k1,k2⟩
 exact⟨rfl,ρ,fr,λs ρ'=>Qx (ρ'.set i (.v s)),Qe',E,q,λv s H' ρ' E' q'=>k1 _ H' _ bD (hg_ E') q',k2⟩
end
def zQ(base:Heap)(C D:Addr):Prop:=∃nm q N bs bm hdct sn sub ab col dd k0 k1 k2 k3 k5 newId,base.get? C=some (excClassObj nm q C N bs bm hdct sn sub ab col dd k0 k1 k2 k3 k5 newId)/\(Value.ref C::bm).contains (.ref D)=true
section
variable{M:Model}{A:Around}{E:fF}{h:Heap}{g:Array GenState}{d:Drawn}{t:Nat}{os:OsState}
theorem qP{C D e:Addr}{oe:Obj}{Q:Bool->Shared->Prop}{nm q:Str}{N:Addr}{bs bm:List Value}{hdct:Bool}{sn:List Str}{sub:List Value}{ab:Bool}{col:Option Bool}{dd:Option Addr}{k0 k1 k2 k3 k5:Option Value}{newId:String}
  {nm' q':Str} {N':Addr} {bs' bm':List Value} {F0:Bool} {sn':List Str} {sub':List Value} {ab':Bool} {col':Option Bool} {dd':Option Addr} {k0' k1' k2' k3' k5':Option Value} {newId':String}
  (hC:h.get? C=some (excClassObj nm q C N bs bm hdct sn sub ab col dd k0 k1 k2 k3 k5 newId)) (hD:h.get? D=some (excClassObj nm' q' D N' bs' bm' F0 sn' sub' ab' col' dd' k0' k1' k2' k3' k5' newId')) (he:h.get? e=some oe) (Do:oe.cls=.ref C)
  (Da:bm'.contains (.type "BaseException")=true) (D4:(Value.ref C::bm).contains (.ref D)=true) (hq:Q true ⟨h,g,d,t,os⟩):wpAny M A (excMatches (.ref e) (.ref D)) Q E ⟨h,g,d,t,os⟩:=by
 have Lh:(Value.ref D::bm').contains (.type "BaseException")=true:=by rw[List.contains_cons,Da,Bool.or_true]
 have f:=tc_notTuple
 unfold excMatches
 repeat (first | (with_reducible refine wpAny_loadPart_at he ?_;rw[Do]) | with_reducible refine wpAny_loadPart_at hD ?_ | (with_reducible refine wpAny_isSubtype_exc hD ?_;rw[Lh]) | (with_reducible refine wpAny_isSubtype_exc hC ?_;rw[D4]) | wp_step)
 exact hq
end
abbrev aHf(X:Cx)(ea:Addr):Cx:={ X with A:=X.A.mark (some (.ref ea)),calm:=false,xe:=λ_ _=>False }
section
variable{X:Cx}{Aa:fG}{σ:St}{H:Hp}{s:Shared}{ea:Addr}
theorem Inv.inExc(I:Inv X Aa σ H s):Inv (aHf X ea) Aa σ H s:=
 ⟨⟨I.ok.mod,I.ok.kind,I.ok.glob,I.ok.blt,I.ok.above,I.ok.inj,I.ok.has,I.ok.cab,(λz=>nomatch z),I.ok.frames,I.ok.stk,I.ok.exf,I.ok.bs,I.ok.bsz,I.ok.noex,I.ok.exfs,I.ok.funs,I.ok.frf⟩,I.os,I.bare,I.base,I.loc,I.cell,I.free,I.freeC,I.pin,I.hok,I.len⟩
theorem Inv.outExc(ok:X.Ok)(I:Inv (aHf X ea) Aa σ H s):Inv X Aa σ H s:=⟨ok,I.os,I.bare,I.base,I.loc,I.cell,I.free,I.freeC,I.pin,I.hok,I.len⟩
end
def aXx(M:Value->Prop)(jn:Nat)(q:XQ)(K:XS):XS:=λρ D=>q ρ D.nx λc ρ'=>M c/\K (ρ'.set jn (vT (.exc c))) ⟨λρ2=>D.nx (ρ2.set jn .un),λs ρ2=>D.rt s (ρ2.set jn .un),λρ2=>D.bk (ρ2.set jn .un),λρ2=>D.ct (ρ2.set jn .un)⟩
theorem hx_{F:Fm}{ρ:En}{σ:St}{fr:List Rw}{H:Hp}{i:Nat}(E:EOk F ρ σ fr H):EOk F (ρ.set i .un) (σ.set i none) fr H:=by
 by_cases hi:i<ρ.length
 ·refine ⟨by rw [bD,bD]; exact E.len,?_⟩
  have hz:=aEy (l:=ρ.zip σ) (i:=i) (aM (by rw[hZ];have:=E.len;lia))
  have R:=E.rep.perm (hz.append_right fr)
  exact(R.tail.addU (x:=none)).perm ((nP E.len hi).append_right fr).symm
 ·rw [cU (by lia),cU (by have:=E.len; lia)]
  exact E
theorem aNr{body suite:List Stmt}{b₀:Stmt}{cn n:Str}{jn:Nat}{Cc:Addr}{q:XQ}{K:XS}{cp hp pos:Pos}(hq:XQs X body q)(O:aMo X cn Cc)(Cu:X.stack=X.env::X.outer)(Cv:X.env.frame=some X.env.locals)(hgc:Gl X cn)(hN:X.N.Nodup)(hi:X.N[jn]? = some n)(hk:X.env.kindOf n=some .local)
  (hh:∀ea,XSs (aHf X ea) dZ (b₀::suite) K) (Bs:(cn == ("__debug__" : Str))=false:=by decide) (hf:X.fn n=true\/X.env.scope.names.lookup n=some .local:=by first | exact .inl rfl | exact .inr rfl) :
  XSt X Ex (.Try body [.ExceptHandler (some (.Name cn cp)) (some n) (b₀::suite) hp] [] [] pos) (aXx (λc=>∃C,c=.ref C/\zQ X.base C Cc) jn q K):=λF _ Aa s σ H D I h=>by
 obtain⟨ρ,fr,d,E,t,k⟩:=h
 let Qe:Value->Hp->Prop:=λc H'=>∃ρ',EOk F ρ' σ fr H'/\(∃C,c=.ref C/\zQ X.base C Cc)/\K (ρ'.set jn (vT (.exc c))) ⟨λρ2=>d.nx (ρ2.set jn .un),λs ρ2=>d.rt s (ρ2.set jn .un),λρ2=>d.bk (ρ2.set jn .un),λρ2=>d.ct (ρ2.set jn .un)⟩
 refine wpAny_Try_except (wpAny_mono (hq Aa σ Qe F [] s σ H ⟨D.nx,λ_ _=>False,λ_ _=>False,λ_ _=>False⟩ (Inv.inTry I) ⟨rfl,ρ,fr,d.nx,_,E,t,λσ' H' ρ' hl E' q'=>k.nx σ' H' ρ' hl E' q',λc H' ρ' E' q'=>⟨ρ',E',q'⟩⟩) (λf s₁ h₁=>?_) λe s₁ h₁=>?_)
 ·cases f with
  |next =>
   obtain⟨σ',H',I',q'⟩:=h₁
   exact wpAny_execs_nil ⟨σ',H',Inv.outTry I',q'⟩
  |brk=>obtain⟨_,_,_,q'⟩:=h₁;exact q'.elim
  |cont=>obtain⟨_,_,_,q'⟩:=h₁;exact q'.elim
  |ret u=>obtain⟨_,_,_,_,_,q'⟩:=h₁;exact q'.elim
 ·obtain ⟨ea,cls,H',rfl,I1,air,ρ',E1,⟨C,rfl,hUn⟩,hK⟩:=h₁
  have fr1:X.A.frames=some (X.env::X.outer):=by rw[<-Cu];exact I1.ok.frames
  refine xV (base:=X.base) (nw:=NwT X Aa) (H:=H') (L:=X.env.locals) fr1 (by rw[<-Cu];exact I1.stack) Cv (λT hT=>⟨Heap.get?_none_of_le (nzL I1.sz hT),λp hp z=>?_⟩) (λa ha=>I1.hok.fresh ha) air λh2 S hS kx air2=>?_
  ·obtain ⟨e1,_⟩:=I1.pin p hp
   exact absurd (aR e1) (by rw[z];exact Nat.not_lt.mpr hT)
  have I2:Inv X Aa σ H' { s₁ with heap:=h2 }:=Inv.noted (t':=s₁.toks) I1 (by rw[Cu];exact kx) hS
  generalize C5:({ s₁ with heap:=h2 }:Shared)=s₂ at I2 ⊢
  have air3:Air (NwT X Aa) s₂.heap H' ea (.ref C):=by rw[<-C5];exact air2
  clear air2 C5 kx hS I1
  obtain⟨nm,qn,N,bs,bm,hdct,sn,sub,ab,col,dd,k0,k1,k2,k3,k5,newId,hC,D4⟩:=hUn
  obtain⟨tl,N',nm',qn',bs',F0,sn',sub',ab',col',dd',k0',k1',k2',k3',k5',mN',hD,hN',hni',T'⟩:=O.obj
  obtain⟨nw,Js,oe,vs,he,hc,hd,D7,hsz,a3⟩:=air3
  refine wpAny_handleBy_cons (codeAny_handlers_test (hc_ (X:=aHf X ea) (Inv.inExc I2) hgc O.bound ?_ Bs)) (by intro z;cases z)
  obtain⟨Jp,g2,d2,t2,Jk⟩:=s₂
  refine qP (I2.bk _ _ hC) (I2.bk _ _ hD) he hc (T'.hasType PySem.F.excBase_ValueError.hasBase) D4 ?_
  rw[if_pos rfl]
  refine codeAny_handlers_suite_as ?_
  have fl:∀{Q:Unit->Shared->Prop} {E':fF},(∀h3,Inv X Aa σ H' ⟨h3,g2,d2,t2,Jk⟩->(∃o vs,h3.get? ea=some o/\o.cls=.ref C/\o.data=.fields vs/\o.dict=none)->Q () ⟨h3,g2,d2,t2,Jk⟩)->wpAny (model X.prog X.w) (X.A.mark (some (.ref ea))) (setFlight (.ref ea) none) Q E' ⟨Jp,g2,d2,t2,Jk⟩:=λ{Q E'} hQ=>by
   rcases a3 with a3 | ⟨T,oT,ts,a3,aT,aN,aH,hT,D8,h3⟩
   ·unfold setFlight
    refine wpAny_bind (wpAny_field he hd a3 ?_)
    rw[if_neg (by decide)]
    exact wpAny_pure (hQ Jp I2 ⟨oe,vs,he,hc,hd,D7⟩)
   ·refine wpAny_setFlight_none he hd a3 hT D8 h3 (hQ _ ?_ ⟨oe,vs,?_,hc,hd,D7⟩)
    ·refine Inv.noted (s:=⟨Jp,g2,d2,t2,Jk⟩) (S:=[T]) (t':=t2) I2 (fun b o hb Dd => ?_) (fun b hb=>by rw [aF.mp hb]; exact ⟨aN,aH,oT,ts,hT,D8⟩)
     have n2:b≠T:=λz=>Dd (aF.mpr z)
     have e2:=(bO Jp (Obj.mapFields (·.setIfInBounds 3 Value.none)) (Ne.symm n2)).trans hb
     exact⟨λ_=>e2,o.slots,e2⟩
    ·exact(bO _ _ aT).trans he
  refine fl λh3 I3 ⟨o3,vs3,he3,hc3,hd3,Lb⟩=>?_
  have I4:=Inv.caught I3 nw Js he3 hc3 hd3 Lb
  refine ig_ (X:=aHf X ea) (v:=.ref ea) (Inv.inExc I4) hN hi (.inl hk) rfl (λs5 I5 _=>?_) hf
  have e4:Same H' (upd H' ea (.ext (yP ea (.ref C)))):=df_ Js _
  have E4:=E1.grow e4
  have E5:EOk F (ρ'.set jn (vT (.exc (.ref C)))) (σ.set jn (some (.ref ea))) fr (upd H' ea (.ext (yP ea (.ref C)))):=by
   refine hg_ (EOk.back E4.len (E4.rep.add (IsX.of_exc (bH.mpr ⟨E1.rep.not_own Js,(oV (E1.rep.fresh Js)).trans ?_⟩))))
   rw[cA];rfl
  have ends:DOk F (σ.set jn (some (.ref ea))).length fr ⟨λσ' H2=>D.nx (σ'.set jn none) H2,λv H2=>D.rt v H2,λσ' H2=>D.bk (σ'.set jn none) H2,λσ' H2=>D.ct (σ'.set jn none) H2⟩ ⟨λρ2=>d.nx (ρ2.set jn .un),λs ρ2=>d.rt s (ρ2.set jn .un),λρ2=>d.bk (ρ2.set jn .un),λρ2=>d.ct (ρ2.set jn .un)⟩:=by
   have hl:(σ.set jn (some (.ref ea))).length=σ.length:=bD
   refine⟨λσ' H2 ρ2 h1 h2 h3=>k.nx _ H2 _ (by rw[bD,h1,hl]) (hx_ h2) h3,λv s σ' H2 ρ2 h1 h2 h3=>k.rt v s (σ'.set jn none) H2 _ (by rw[bD,h1,hl]) (hx_ h2) h3,λσ' H2 ρ2 h1 h2 h3=>k.bk _ H2 _ (by rw[bD,h1,hl]) (hx_ h2) h3,λσ' H2 ρ2 h1 h2 h3=>k.ct _ H2 _ (by rw[bD,h1,hl]) (hx_ h2) h3⟩
  refine wpAny_mono (hh ea F Aa s5 _ _ _ I5 ⟨_,fr,_,E5,hK,ends⟩) (λf s6 h6=>?_) λ_ _ z=>False.elim z
  cases f with
  |next =>
   obtain⟨σ',H2,I6,q6⟩:=h6
   exact gj_ (Inv.outExc I4.ok I6) hN hi hk λs7 I7=>⟨_,H2,I7,q6⟩
  |brk =>
   obtain⟨σ',H2,I6,q6⟩:=h6
   exact gj_ (Inv.outExc I4.ok I6) hN hi hk λs7 I7=>⟨_,H2,I7,q6⟩
  |cont =>
   obtain⟨σ',H2,I6,q6⟩:=h6
   exact gj_ (Inv.outExc I4.ok I6) hN hi hk λs7 I7=>⟨_,H2,I7,q6⟩
  |ret u =>
   obtain⟨v,σ',H2,I6,rv,q6⟩:=h6
   exact gj_ (Inv.outExc I4.ok I6) hN hi hk λs7 I7=>⟨v,_,H2,I7,rv,q6⟩
end Lf
namespace PySem.W
open PySem PySem.Spec PySem.Calls PyProof.Rows
section
variable{prog:Program}{w:World}{A:Around}{E:fF}{s:Shared}{K:Frag}{x C D:Addr}{ox:Obj}{od:Obj}{odo:Option Obj}{name:Str}
theorem aBr{M:Model}{nameV:Value}{Q:Unit->Shared->Prop}(X:K.In s.heap)(I:InstAt s.heap x ox D odo)(hm:mroIn K D (.type "BaseException")=some true)(hq:Q () s):wpAny M A (checkBuiltinCall "BaseException.__getattribute__" ⟨[.ref x,nameV],[]⟩) Q E s:=by
 have hk:builtinKind "BaseException.__getattribute__" = some .slot:=by decide +kernel
 have Gb:splitId "BaseException.__getattribute__" = some ("BaseException","__getattribute__"):=by decide +kernel
 have ha:=F.args_bexc_ga (.ref x) nameV
 have L0:=I.type (M:=M)
 have L1:=looks_mroIn (M:=M) X hm
 obtain⟨hh,g,d,t,os⟩:=s
 simp only[checkBuiltinCall,hk,Gb]
 refine wpAny_bind ?_
 unfold isInstance
 refine wpAny_bind (L0.at (L1.at ?_))
 repeat (first | assumption | wp_step)
theorem aBq{Q:Option Value->Shared->Prop}(X:K.In s.heap)(I:InstAt s.heap x ox D odo)(hga:findIn K (.ref D) "__getattribute__" = some (some (.builtin "BaseException.__getattribute__")))(hk:findIn K (.ref D) "__getattr__" = some none)
  (hm:mroIn K D (.type "BaseException")=some true) (Ij:mroIn K D (.type "object")=some true) (hf:findObj K D odo "__class__" = some (.bind (.builtin "getset_descriptor.__get__") (.builtin "object.__class__")))
  (h:Q (some (.ref D)) { s with toks:=s.toks+1 }):wpAny (model prog w) A (getAttr? (.ref x) "__class__") Q E s:=by
 have GA:=(F.excAttr_ValueError).ga
 obtain⟨hh,g,d,t,os⟩:=s
 have L0:=I.type (M:=model prog w)
 have L1:=looks_findIn (M:=model prog w) X hga
 have L2:=looks_findIn (M:=model prog w) X hk
 have L3:=looks_find (M:=model prog w) X I hf
 have f3:=GA.bind (.ref x)
 unfold getAttr? getAttrBy? getAttrBy
 refine wpAny_bind (wpAny_mkText (wpAny_bind (wpAny_attempt (wpAny_holding (wpAny_bind (L0.at (wpAny_bind (L1.at ?_))))))))
 dsimp only
 rw[if_neg (show ¬(onTheHeap (Value.ref D)&&(Value.builtin "BaseException.__getattribute__" == Value.builtin "object.__getattribute__"))=true from by rw[show(Value.builtin "BaseException.__getattribute__" == Value.builtin "object.__getattribute__")=false from by decide +kernel,Bool.and_false];exact aG)]
 unfold getAttrByItsOwn hookBefore
 rw[if_pos (show onTheHeap (Value.ref D)=true from rfl)]
 refine wpAny_bind (L2.at (wpAny_bind (wpAny_attempt (wpAny_holding ?_))))
 unfold callGetattribute
 rw[if_neg (by decide)]
 unfold boundAndCalled
 repeat (any_goals (first | assumption | wp_step))
 refine codeAny_call_builtin GA.plain F.entry_bexc_ga (aBr (s:=⟨hh,g,d,t+1,os⟩) X I hm ?_)
 unfold Builtin.«object.__getattribute__»
 repeat (any_goals (first | assumption | with_reducible refine wpAny_bind (L0.at ?_) | with_reducible refine wpAny_bind (L3.at ?_) | wp_step))
 refine class_get (s:=⟨hh,g,d,t+1,os⟩) X I Ij ?_
 repeat (any_goals (first | assumption | wp_step))
theorem kitx_exc{x D:Addr}(hk:excKit K D=true):KitX K (.ref x) (.ref D) (λh=>∃ox,InstAt h x ox D none):=by
 simp only[excKit,bW,beq_iff_eq]at hk
 obtain⟨⟨⟨⟨⟨⟨h1,h2⟩,h3⟩,h4⟩,h5⟩,h6⟩,h7⟩:=hk
 have Do:∃cd,clsIn K D=some cd:=by
  obtain⟨cd,a,_⟩:=eW.mp h3
  exact⟨cd,a⟩
 obtain⟨cdD,Gp⟩:=Do
 have hf:findObj K D none "__class__" = some (.bind (.builtin "getset_descriptor.__get__") (.builtin "object.__class__")):=by
  unfold findObj
  rw[Gp,bY,h5,bY]
  simp[h6,h7]
 refine⟨λ_ _ _ ⟨ox,I⟩=>I.type,λ_ _ X _=>?_,λh tp dd its n sl X htp=>?_,λ{_ _ _ _ _ _} X ⟨ox,I⟩ k=>aBq X I h1 h2 h3 h4 hf k⟩
 ·unfold clsIn at Gp
  split at Gp
  ·rename_i c' d' cd' sl' ho
   intro A' Q' E' s' k q
   unfold isType loadHead
   exact wpAny_bind (wpAny_loadPart (k _ _ (X _ _ ho)) (wpAny_pure q))
  ·cases Gp
 ·refine Bool.eq_false_iff.mpr fun q => ?_
  have e:D=tp:=Value.ref.inj (beq_iff_eq.mp q)
  subst e
  unfold clsIn at Gp
  split at Gp
  ·rename_i c' d' cd' sl' ho
   have z:=(X _ _ ho).symm.trans htp
   cases z
  ·cases Gp
end
end PySem.W
namespace Lf
open PySem L2
open PySem.W (Frag nsIn)
section
variable{K:Frag}{h:Heap}
theorem gi_{N:Addr}{n:Str}(e:mL K N n=true)(X:K.In h):∃m,h.Ns N m/\m n=none:=by
 unfold mL at e
 split at e
 ·rename_i c d es ep sl q
  obtain⟨e1,e2⟩:=eU.mp e
  refine⟨nsFind es,⟨_,es,ep,X _ _ q,rfl,λen hen=>?_,λ_=>rfl⟩,?_⟩
  ·have:=cO.mp e1 en (by simpa using hen)
   split at this
   ·rename_i x t hk;exact⟨x,t,hk⟩
   ·cases this
  ·unfold nsFind findBy
   rw[<-Array.find?_toList]
   rw[Option.isNone_iff_eq_none]at e2
   rw[e2]
   rfl
 ·cases e
theorem pI:∀(k:Nat) (l:List Value),fX K k l=true->K.In h->OwnTail h veM l
  | 0, l, e, X => by
    have:l=veM:=by simpa [fX]using e
    rw[this];exact .base
  | k + 1, [], e, X => by
    have:([]:List Value)=veM:=by simpa [fX]using e
    rw[this];exact .base
  | k + 1, v :: r, e, X => by
    cases v with
    | ref A =>
      unfold fX at e
      split at e
      . rename_i c d cd sl q
        obtain⟨e1,e2⟩:=eU.mp e
        obtain⟨m,hm,hn⟩:=gi_ e1 X
        exact .own (X _ _ q) hm hn (pI k r e2 X)
      . cases e
    | none => have : Value.none :: r = veM := by simpa [fX] using e
              cases this
    | bool b => have : Value.bool b :: r = veM := by simpa [fX] using e
                cases this
    | int i t => have : Value.int i t :: r = veM := by simpa [fX] using e
                 cases this
    | str x t => have : Value.str x t :: r = veM := by simpa [fX] using e
                 cases this
    | bytes x t => have : Value.bytes x t :: r = veM := by simpa [fX] using e
                   cases this
    | float x t => have : Value.float x t :: r = veM := by simpa [fX] using e
                   cases this
    | builtin x => have : Value.builtin x :: r = veM := by simpa [fX] using e
                   cases this
    | type T => have : Value.type T :: r = veM := by simpa [fX] using e
                rw[this];exact .base
    |_=>first | (simp[fX]at e;done) | (exfalso;revert e;simp[fX])
theorem tG{C:Addr}{x:Str}{mg:kW}(e:nI K C=true)(hm:mg x=some (.ref C))(X:K.In h):PyProof.Rows.OwnCls x C veM "ValueError.__new__" mg h:=by
 unfold nI at e
 split at e
 ·rename_i dd cd sl q
  obtain⟨e1,_⟩:=eU.mp e
  split at e1
  ·rename_i C' tl Ii
   simp only[bW,beq_iff_eq]at e1
   obtain⟨⟨⟨⟨⟨rfl,h2⟩,h3⟩,h4⟩,h5⟩,h6⟩:=e1
   obtain⟨m,C0,Gg⟩:=gi_ h5 X
   have hsl:sl = #[sl.getD 0 none,sl.getD 1 none,sl.getD 2 none,sl.getD 3 none,some (.builtin "ValueError.__new__"),sl.getD 5 none]:=by
    apply Array.ext_getElem?
    intro i
    match i with
    | 0=>simp[h3]
    | 1=>simp[h3]
    | 2=>simp[h3]
    | 3=>simp[h3]
    | 4=>simp[h4]
    | 5=>simp[h3]
    |i+6=>rw[Array.getElem?_eq_none (by rw[h3];lia),Array.getElem?_eq_none (by simp)]
   refine⟨hm,tl,cd.ns,cd.name,cd.qualname,cd.bases,cd.hasDict,cd.slotNames,cd.subclasses,cd.abstract,cd.collection,dd,sl.getD 0 none,sl.getD 1 none,sl.getD 2 none,sl.getD 3 none,sl.getD 5 none,m,?_,C0,Gg,pI 4 tl h6 X⟩
   have:=X _ _ q
   rw[this]
   obtain⟨nm,bs,mro,ns,qn,hd,sn,sub,ab,col,hdel⟩:=cd
   dsimp only at Ii h2 ⊢
   subst Ii h2
   unfold excClassObj
   rw[<-hsl]
  ·cases e1
 ·cases e
theorem aCh{C:Addr}(e:nI K C=true):PySem.W.excKit K C=true:=by
 unfold nI at e
 split at e
 ·exact(eU.mp e).2
 ·cases e
theorem zD{C D:Addr}(e:nI K C=true)(hu:aAp K C D=true)(X:K.In h):zQ h C D:=by
 obtain⟨_,tl,N,nm,q,bs,hdct,sn,sub,ab,col,dd,k0,k1,k2,k3,k5,mN,hC,_⟩:=tG (x:= "x") (mg:=λ_=>some (.ref C)) e rfl X
 refine⟨nm,q,N,bs,tl,hdct,sn,sub,ab,col,dd,k0,k1,k2,k3,k5,_,hC,?_⟩
 unfold aAp at hu
 split at hu
 ·rename_i c d cd sl ql
  have:=X _ _ ql
  rw[hC]at this
  cases this
  exact hu
 ·cases hu
end
def isC(K:Frag)(c:Value):Dx->Option Bool
 | .non=>PySem.W.kitOne K (.type "NoneType") c
 | .exc (.ref C)=>if PySem.W.excKit K C=true then PySem.W.kitOne K (.ref C) c else none
 |_=>none
def aGr(K:Frag)(cs:List Value):Dx->Option Bool
 | .non=>PySem.W.kitAny K (.type "NoneType") cs
 | .exc (.ref C)=>if PySem.W.excKit K C=true then PySem.W.kitAny K (.ref C) cs else none
 |_=>none
def aJb(f:Dx->Option Bool)(t:XT):XT:=λρ Q=>t ρ λs ρ'=>match f s.d with
 |some b=>Q (.tr (.bl b)) ρ'
 |none=>False
theorem yO{X:Cx}{Aa:fG}{σ:St}{H:Hp}{s:Shared}{a C:Addr}(I:Inv X Aa σ H s)(h:H a=some (.ext (yP a (.ref C)))):∃ox,PySem.W.InstAt s.heap a ox C none:=by
 obtain⟨⟨o,vs,h1,h2,h3,h4⟩,_⟩:=(show ObjOk X.prog X.w H s.heap a (.ext (yP a (.ref C)))from I.hok a _ h)
 refine⟨o,h1,h2,?_,?_⟩
 ·unfold PySem.W.notCls;rw[h3]
 ·rw[h4];trivial
theorem aHz{X:Cx}{c:Value}{vc:V}(hv:∀u,RelV vc u->u=c):CallR X (.builtin "isinstance") (λxs H Q=>∃x d b,xs=[x,vc]/\IsX H d x/\isC X.K c d=some b/\Q (.bl b) H):=by
 intro Aa s σ H xs us Q I r h
 obtain⟨x,d,b,rfl,hx,hb,q⟩:=h
 obtain⟨u,w',rfl,r1,r2⟩:=pE r
 cases hv _ r2
 cases d with
 |non=>cases hx.non_eq;cases(show u=Value.none from r1);exact PySem.W.kia_one PySem.W.kitx_none I.kIn True.intro hb (λz=>nomatch z) (λtk=>⟨.bl _,H,I.tok _,rfl,q⟩)
 |exc e =>
  cases e with
  |ref C =>
   simp only[isC]at hb
   split at hb
   ·rename_i hk
    obtain⟨a,rfl,h1⟩:=hx.exc_eq
    cases(show u=Value.ref a from r1)
    exact PySem.W.kia_one (PySem.W.kitx_exc hk) I.kIn (yO I h1) hb (λz=>nomatch z) (λtk=>⟨.bl _,H,I.tok _,rfl,q⟩)
   ·cases hb
  |_=>cases hb
 |_=>cases hb
theorem aCq{X:Cx}{cs:List Value}{vcs:List V}(hv:∀us,Vals vcs us->us=cs):CallR X (.builtin "isinstance") (λxs H Q=>∃x d b p,xs=[x,.ref p]/\IsX H d x/\H p=some (.tup vcs)/\aGr X.K cs d=some b/\Q (.bl b) H):=by
 intro Aa s σ H xs us Q I r h
 obtain⟨x,d,b,p,rfl,hx,hp,hb,q⟩:=h
 obtain⟨u,w',rfl,r1,r2⟩:=pE r
 cases r2
 obtain⟨_,its,rv,o,h2,h3,n',h4⟩:=(show ObjOk X.prog X.w H s.heap p (.tup vcs)from I.hok p _ hp)
 have ei:=hv its rv
 subst ei
 obtain⟨cls,dd,data,sl⟩:=o
 dsimp only at h3 h4
 subst h3 h4
 cases d with
 |non=>cases hx.non_eq;cases(show u=Value.none from r1);exact PySem.W.kia_tup PySem.W.kitx_none I.kIn True.intro h2 hb (λz=>nomatch z) (λtk=>⟨.bl _,H,I.tok _,rfl,q⟩)
 |exc e =>
  cases e with
  |ref C =>
   simp only[aGr]at hb
   split at hb
   ·rename_i hk
    obtain⟨a,rfl,h1⟩:=hx.exc_eq
    cases(show u=Value.ref a from r1)
    exact PySem.W.kia_tup (PySem.W.kitx_exc hk) I.kIn (yO I h1) h2 hb (λz=>nomatch z) (λtk=>⟨.bl _,H,I.tok _,rfl,q⟩)
   ·cases hb
  |_=>cases hb
 |_=>cases hb
theorem zX{e:Expr}{t:XT}{nm:Str}{p q pos:Pos}{c:Value}{vc:V}(K:Frag)(hm:X.mg "isinstance" = none)(h:XE X Ex e t)(hT:PE X (.Name nm q) (tC vc))(hv:∀u,RelV vc u->u=c)(hK:X.K=K:=by rfl)(hg:Gl X "isinstance":=by rfl)
  (he:starEach [e,.Name nm q] X.env=(false,eval e X.env)::starEach [.Name nm q] X.env:=by rfl) (Fk:starEach [.Name nm q] X.env=(false,eval (.Name nm q) X.env)::starEach [] X.env:=by rfl) (Ay:(backTo pos (starEach [.Name nm q] X.env)).any (·.1)=false:=by rfl):XE X Ex (.Call (.Name "isinstance" p) [e,.Name nm q] [] pos) (aJb (isC K c) t):=λF=>by
 subst hK
 exact(fo_ (aHz hv) hg hm dr_ (hX (h F) (hX hT lZ Fk) he) (by decide) (by decide) he Ay).weak λσ H Q=>by
  rintro⟨ρ,fr,Qx,E,t,k⟩
  refine⟨ρ,fr,_,E,t,λv s H' ρ' E' q=>?_⟩
  obtain⟨R,hx⟩:=E'.one
  split at q
  ·rename_i b hb
   exact⟨v,s.d,b,rfl,hx.to R.hv,hb,k _ _ H' ρ' (EOk.back E'.len (R.add (IsX.of_bl _))) q⟩
  ·exact q.elim
theorem aIy{e:Expr}{es:List Expr}{t:XT}{p q3 pos:Pos}{j:Nat}{cs:List Value}{vcs:List V}{ta:TA}(K:Frag)(hm:X.mg "isinstance" = none)(h:XE X Ex e t)(hT:PA X es ta)(ht:∀σ H Q,Q vcs H->ta σ H Q)(hv:∀us,Vals vcs us->us=cs)(hl:vcs.length<=1000)(hK:X.K=K:=by rfl)(hg:Gl X "isinstance":=by rfl)
  (he:starEach [e,.Tuple es j q3] X.env=(false,eval e X.env)::starEach [.Tuple es j q3] X.env:=by rfl) (Fk:starEach [.Tuple es j q3] X.env=(false,eval (.Tuple es j q3) X.env)::starEach [] X.env:=by rfl)
  (Ay:(backTo pos (starEach [.Tuple es j q3] X.env)).any (·.1)=false:=by rfl):XE X Ex (.Call (.Name "isinstance" p) [e,.Tuple es j q3] [] pos) (aJb (aGr K cs) t):=λF=>by
 subst hK
 exact(fo_ (aCq hv) hg hm dr_ (hX (h F) (hX (uX hT) lZ Fk) he) (by decide) (by decide) he Ay).weak λσ H Q=>by
  rintro⟨ρ,fr,Qx,E,t,k⟩
  refine⟨ρ,fr,_,E,t,λv s H' ρ' E' q=>ht _ _ _ ⟨by have:=gW;lia,λp hp=>?_⟩⟩
  obtain⟨R,hx⟩:=E'.one
  have e:Same H' (upd H' p (.tup vcs)):=df_ hp _
  have R2:=R.grow e
  split at q
  ·rename_i b hb
   exact⟨v,s.d,b,p,rfl,(hx.to R.hv).to e,cA,hb,k _ _ _ ρ' (EOk.back E'.len (R2.add (IsX.of_bl _))) q⟩
  ·exact q.elim
open PySem.W (Frag nsIn)
inductive TailS(h:Heap):List Value->Prop
 |base:TailS h veM
 |own {A:Addr} {o:Obj} {cd:ClassData} {mA:kW} {tl:List Value}:h.get? A=some o->o.data=.cls cd->h.Ns cd.ns mA->mA "__str__" = none->TailS h tl->TailS h (.ref A::tl)
theorem TailS.keeps{h h':Heap}{tl:List Value}(T:TailS h tl)(hk:∀b o,h.get? b=some o->h'.get? b=some o):TailS h' tl:=by
 induction T with
 |base=>exact .base
 |own hA hd hN hq _ ih=>exact .own (hk _ _ hA) hd (hN.keeps hk) hq ih
section
variable{M:Model}{A:Around}{E:fF}{h:Heap}{g:Array GenState}{d:Drawn}{t:Nat}{os:OsState}
theorem aCx{tl:List Value}{Q:Option Value->Shared->Prop}(T:TailS h tl)(hq:Q (some (.builtin "BaseException.__str__")) ⟨h,g,d,t,os⟩):wpAny M A (lookupAlong tl "__str__") Q E ⟨h,g,d,t,os⟩:=by
 induction T with
 |base =>
  have e:lookupAlong veM "__str__" = pure (some (.builtin "BaseException.__str__")):=by
   have:=PySem.F.excStr_ValueError.str.lookup
   rw[typeLookup_eq,PySem.F.excBase_ValueError.mroIs]at this
   exact this
  rw[e]
  exact wpAny_pure hq
 | @own A o cd mA tl hA hd hN Gg _ ih =>
  obtain⟨c0,dd,data,sl⟩:=o
  cases hd
  rw[lookupAlong_cons]
  refine wpAny_bind (wpAny_classOwn_cls hA hN ?_)
  rw[Gg]
  exact ih
variable{nm q:Str}{C N e t0:Addr}{bs bm:List Value}{hdct:Bool}{sn:List Str}{sub:List Value}{ab:Bool}{col:Option Bool}{dd:Option Addr}{k0 k1 k2 k3 k5:Option Value}{newId:String}{o:Obj}{mS:kW}
theorem aEf{Q:Option Value->Shared->Prop}(he:h.get? e=some o)(hc:o.cls=.ref C)(hC:h.get? C=some (excClassObj nm q C N bs bm hdct sn sub ab col dd k0 k1 k2 k3 k5 newId))(hN:h.Ns N mS)(hs:mS "__str__" = none)(T:TailS h bm)
  (Iv:wpAny M A (call (.builtin "BaseException.__str__") [.ref e]) (λv=>Q (some v)) E ⟨h,g,d,t,os⟩):wpAny M A (callSpecial? (.ref e) "__str__") Q E ⟨h,g,d,t,os⟩:=by
 simp only[callSpecial?]
 refine wpAny_bind (m:=specialOf (.ref e) "__str__") ?_
 simp only[specialOf,typeOf]
 refine wpAny_bind (wpAny_bind (wpAny_load he (wpAny_pure ?_)))
 rw[hc,typeLookup_eq]
 refine wpAny_bind (wpAny_mroOf_exc hC ?_)
 rw[lookupAlong_cons]
 refine wpAny_bind (wpAny_classOwn_exc hC hN ?_)
 rw[hs]
 refine aCx T ?_
 simp only[PySem.F.excStr_ValueError.str.bind]
 exact wpAny_holding (wpAny_bind (wpAny_pure (wpAny_bind (wpAny_mono Iv (λv s' h'=>wpAny_pure h') λ_ _ h'=>h'))))
end
section
variable{prog:Program}{w:World}{A:Around}{E:fF}{h:Heap}{g:Array GenState}{d:Drawn}{t:Nat}{os:OsState}
variable{nm q:Str}{C N e t0:Addr}{bs bm:List Value}{hdct:Bool}{sn:List Str}{sub:List Value}{ab:Bool}{col:Option Bool}{dd:Option Addr}{k0 k1 k2 k3 k5:Option Value}{newId:String}{o:Obj}{mS:kW}{vs:Array Value}{m:Str}{tk:Tok}
theorem aIj{M:Model}{items:List Value}{s:Shared}{Q:Value×List Value->Shared->Prop}(he:s.heap.get? e=some o)(hd:o.data=.fields vs)(h0:vs[0]? = some (.ref t0))(ht:s.heap.TupAt t0 items)(hq:Q (.ref t0,items) s) :
  wpAny M A (Builtin.BaseException.bexcArgs (.ref e)) Q E s:=by
 obtain⟨ot,k,hto,_,htd⟩:=ht
 unfold Builtin.BaseException.bexcArgs
 refine wpAny_bind (wpAny_field he hd h0 (wpAny_bind (wpAny_seqItems hto htd ?_)))
 have:items.toArray.toList=items:=by simp
 show wpAny M A (pure (Value.ref t0,items.toArray.toList)) Q E s
 rw[this];exact wpAny_pure hq
theorem aHx{Q:fF}(he:h.get? e=some o)(hc:o.cls=.ref C)(hd:o.data=.fields vs)(h0:vs[0]? = some (.ref t0))(ht:h.TupAt t0 [.str m tk])(hC:h.get? C=some (excClassObj nm q C N bs bm hdct sn sub ab col dd k0 k1 k2 k3 k5 newId))(hb:bm.contains (.type "BaseException")=true)
  (hq:Q (.str m tk) ⟨h,g,d,t,os⟩):wpAny (model prog w) A (call (.builtin "BaseException.__str__") [.ref e]) Q E ⟨h,g,d,t,os⟩:=by
 have Lh:(Value.ref C::bm).contains (.type "BaseException")=true:=by rw[List.contains_cons,hb,Bool.or_true]
 have k1:builtinKind "BaseException.__str__" = some .slot:=by decide +kernel
 have k2:splitId "BaseException.__str__" = some ("BaseException","__str__"):=by decide +kernel
 refine wpAny_call (codeAny_call_builtin PySem.F.excStr_ValueError.str.plain PySem.F.entry_bexc_str ?_)
 simp only[checkBuiltinCall,k1,k2]
 refine wpAny_bind (wpAny_bind ?_)
 simp only[typeOf]
 refine wpAny_bind (wpAny_load he (wpAny_pure ?_))
 rw[hc]
 refine wpAny_isSubtype_exc hC ?_
 rw[Lh]
 simp only[fR,cK,if_false]
 have ha:=PySem.F.args_bexc_str (.ref e)
 unfold argsOk at ha
 refine wpAny_of_eq (a:=()) ?_ ?_
 ·cases J7:Manifest.signature? "BaseException.__str__" with
  |none=>rfl
  |some sig=>rw[J7]at ha;exact ha
 unfold Builtin.«BaseException.__str__»
 repeat (first | with_reducible refine aIj he hd h0 ht ?_ | wp_step)
 exact hq
theorem aAw{Q:fF}(hu:A.units<cLine)(he:h.get? e=some o)(hc:o.cls=.ref C)(hd:o.data=.fields vs)(h0:vs[0]? = some (.ref t0))(ht:h.TupAt t0 [.str m tk])(hC:h.get? C=some (excClassObj nm q C N bs bm hdct sn sub ab col dd k0 k1 k2 k3 k5 newId))(hb:bm.contains (.type "BaseException")=true)(hN:h.Ns N mS)(hs:mS "__str__" = none)(T:TailS h bm)
  (hq:Q (.str m tk) ⟨h,g,d,t,os⟩):wpAny (model prog w) A (Builtin.Str.strOf (.ref e)) Q E ⟨h,g,d,t,os⟩:=by
 unfold Builtin.Str.strOf
 repeat (first | with_reducible refine wpAny_cRoomFor hu ?_ | with_reducible refine aEf he hc hC hN hs T (aHx he hc hd h0 ht hC hb ?_) | wp_step)
 exact hq
theorem aJi{Q:fF}(hu:A.units+2<cLine)(he:h.get? e=some o)(hc:o.cls=.ref C)(hd:o.data=.fields vs)(h0:vs[0]? = some (.ref t0))(ht:h.TupAt t0 [.str m tk])(hC:h.get? C=some (excClassObj nm q C N bs bm hdct sn sub ab col dd k0 k1 k2 k3 k5 newId))(hb:bm.contains (.type "BaseException")=true)(hN:h.Ns N mS)(hs:mS "__str__" = none)(T:TailS h bm)
  (hq:Q (.str m tk) ⟨h,g,d,t,os⟩):wpAny (model prog w) A (call (.type "str") [.ref e]) Q E ⟨h,g,d,t,os⟩:=
 PySem.callType_new F.called_str (by decide) (F.typeCall_str_1 _) (F.newCall_str_1 _) (λobj=>F.args_object_init_2 obj _) F.entry_str_new
  (PySem.meets_str_new (S:=fun A' R s'=>A'.units + 1 < cLine∧s'.heap=h∧R (.ok (.ret (.str m tk))) s')
   λ_ _ A' _ s' hq=>by
    obtain⟨h',g',d',t',os'⟩:=s'
    obtain⟨z1,z2,z3⟩:=hq
    subst z2
    exact aAw (A:=A'.in1) z1 he hc hd h0 ht hC hb hN hs T z3)
  ⟨(show A.units+1+1<cLine from hu),rfl,typeIs_str _ _ _,hq⟩
end
def l4(h:Heap)(C:Addr):Prop:=∃o cd mS tl,h.get? C=some o/\o.data=.cls cd/\cd.mro=.ref C::tl/\h.Ns cd.ns mS/\mS "__str__" = none/\TailS h tl
theorem aJz{X:Cx}{x z:Str}{C:Addr}{p1 p2 p3 p4 p5:Pos}{j:Nat}(O:aMo X x C)(S:l4 X.base C)(hu:X.A.units+2<cLine)(hg:Gl X x)(K4:Gl X "str")(Kr:X.mg "str" = none)(hd:(x == ("__debug__" : Str))=false:=by decide)
  (Jt:starEach [.Call (.Name x p2) [.Constant (.str z) j p3] [] p4] X.env=[(false,eval (.Call (.Name x p2) [.Constant (.str z) j p3] [] p4) X.env)]:=by rfl) (he:starEach [.Constant (.str z) j p3] X.env=[(false,eval (.Constant (.str z) j p3) X.env)]:=by rfl):PE X (.Call (.Name "str" p1) [.Call (.Name x p2) [.Constant (.str z) j p3] [] p4] [] p5) (tC (.str z)):=by
 intro Aa s σ H Q I h
 have pa:PA X [.Constant (.str z) j p3] (lD (tC (.str z)) wS):=hX gh_ lZ he
 obtain⟨tl,N,nm,qn,bs,hdct,sn,sub,ab,col,dd,k0,k1,k2,k3,k5,mN,hC,hN,Gg,T⟩:=O.obj
 refine wpAny_Call_Name_kw (hm_ I K4 Kr mY ?_)
 refine fC (PyProof.Rows.spliced_more ?_ Jt) Jt rfl
 refine wpAny_Call_Name_kw (hc_ I hg O.bound ?_ hd)
 unfold callWith
 refine wpAny_bind (wpAny_holding ?_)
 refine Calls.evalArgs_plain ?_
 refine wpAny_mono (pa p4 Aa s σ H (λvs H1=>vs=[.str z]/\H1=H) I ⟨rfl,rfl⟩) (λus s₂ h₂=>?_) λ_ _ y=>y
 obtain⟨vs,H1,I2,rv,rfl,rfl⟩:=h₂
 obtain⟨u,rfl,tk,rfl⟩:=iB rv
 refine wpAny_bind (wpAny_standAt ?_)
 obtain⟨hp,g,d,tkk,os⟩:=s₂
 simp only[he]
 refine wpAny_bind (wpAny_keeperOf_exc (I2.bk _ _ hC) ?_)
 obtain⟨o,cd,mS,tl',s1,s2,s3,s4,s5,s6⟩:=S
 rw[hC]at s1
 cases s1
 unfold excClassObj at s2
 cases s2
 cases s3
 refine wpAny_bind (wpAny_call_exc_subT (hrest:=nzL (by decide:1<=1000000) (Nat.le_of_lt gW)) PySem.F.excBase_ValueError (T.keeps I2.bk) (I2.bk _ _ hC) (hN.keeps I2.bk) Gg λh' e hm=>wpAny_bind (wpAny_holding (wpAny_point (wpAny_pure ?_))))
 obtain⟨t,ht,_,htt⟩:=hm.there
 have kp:∀b o,X.base.get? b=some o->h'.get? b=some o:=λb o hb=>hm.keeps _ _ (I2.bk _ _ hb)
 refine PyProof.Rows.spliced_none (aJi hu ht rfl rfl rfl ⟨_,0,htt,rfl,rfl⟩ (kp _ _ hC) (T.hasType PySem.F.excBase_ValueError.hasBase) (s4.keeps kp) s5 (s6.keeps kp) ⟨.str z,H1,I2.kept (t':=tkk) hm.keeps,⟨_,rfl⟩,h⟩)
theorem m9{x z:Str}{C:Addr}{p1 p2 p3 p4 p5:Pos}{j:Nat}(O:aMo X x C)(S:l4 X.base C)(hu:X.A.units+2<cLine)(hg:Gl X x)(K4:Gl X "str")(Kr:X.mg "str" = none)(hd:(x == ("__debug__" : Str))=false:=by decide)
  (Jt:starEach [.Call (.Name x p2) [.Constant (.str z) j p3] [] p4] X.env=[(false,eval (.Call (.Name x p2) [.Constant (.str z) j p3] [] p4) X.env)]:=by rfl) (he:starEach [.Constant (.str z) j p3] X.env=[(false,eval (.Constant (.str z) j p3) X.env)]:=by rfl):XE X Ex (.Call (.Name "str" p1) [.Call (.Name x p2) [.Constant (.str z) j p3] [] p4] [] p5) (xC (.str z)):=λF=>(aJz O S hu hg K4 Kr hd Jt he).weak λσ H Q=>by
 rintro⟨ρ,fr,Qx,E,t,k⟩
 exact k _ _ H ρ (EOk.back E.len (E.rep.add (IsX.of_str _))) t
theorem if_{K:Frag}{h:Heap}(X:K.In h):∀(k:Nat) (l:List Value),lR K k l=true->TailS h l
 | 0,l,e=>by
  have:l=veM:=by simpa [lR]using e
  rw[this];exact .base
 |k+1,l,e=>by
  unfold lR at e
  split at e
  ·rename_i z
   cases z
   split at e
   ·rename_i q
    obtain⟨e1,e2⟩:=eU.mp e
    obtain⟨m,hm,hn⟩:=gi_ e1 X
    exact .own (X _ _ q) rfl hm hn (if_ X k _ e2)
   ·cases e
  ·have e':=eq_of_beq e
   rw[e'];exact .base
theorem p0{K:Frag}{h:Heap}{n:Str}{C:Addr}(X:K.In h)(e:sF K n=true)(hc:kF K n=some C):l4 h C:=by
 unfold sF at e
 rw[hc]at e
 dsimp only at e
 split at e
 ·rename_i q
  split at e
  ·rename_i hm
   simp only[bW,beq_iff_eq]at e
   obtain⟨⟨rfl,e1⟩,e2⟩:=e
   obtain⟨m,hm',hn⟩:=gi_ e1 X
   exact⟨_,_,m,_,X _ _ q,rfl,hm,hm',hn,if_ X 4 _ e2⟩
  ·cases e
 ·cases e
end Lf
namespace L2
open PySem PySem.Spec PySem.SeqAt PySem.AutoSeq1 PySem.MeetsSeq PyProof.Rows
end L2
namespace L2
open PySem PySem.Spec PySem.SeqAt PyProof.Rows
end L2
namespace Lf
open PySem L2
open PySem.W (Frag nsIn)
def aQk(K:Frag)(ns:List Str)(n:Str):OX:=match kF K n with
 |some C=>(nI K C,ns.map (λm=>match kF K m with | some D=>(PySem.W.kitOne K (.ref C) (.ref D),aAp K C D) | none=>(none,false)),PySem.W.kitOne K (.ref C) (.type "ValueError"),PySem.W.kitOne K (.type "NoneType") (.ref C))
 |none=>(false,[],none,none)
theorem aKq(K:Frag)(ns:List Str):aQi K ns=ns.map (aQk K ns):=rfl
structure ClsX(K:Frag)(mg:kW)(n:Str)(C:Addr):Prop where
 at':kF K n=some C
 m:mg n=some (.ref C)
 ok:nI K C=true
theorem iz_{K:Frag}{ns:List Str}{n:Str}{l:List (Option Bool×Bool)}{a b:Option Bool}{h:Heap}{mg:kW}(e:aQk K ns n=(true,l,a,b))(X:K.In h)(G:h.Ns mainGlobals mg):∃C,ClsX K mg n C/\l=ns.map (λm=>match kF K m with | some D=>(PySem.W.kitOne K (.ref C) (.ref D),aAp K C D) | none=>(none,false))/\PySem.W.kitOne K (.ref C) (.type "ValueError")=a/\PySem.W.kitOne K (.type "NoneType") (.ref C)=b:=by
 unfold aQk at e
 cases hc:kF K n with
 |none=>rw[hc]at e;simp at e
 |some C =>
  rw[hc]at e
  simp only[Prod.mk.injEq]at e
  obtain⟨e1,e2,e3,e4⟩:=e
  refine⟨C,⟨hc,?_,e1⟩,e2.symm,e3,e4⟩
  unfold kF at hc
  split at hc
  ·rename_i C' hn
   cases hc
   exact PySem.W.mg_of X G hn
  ·cases hc
theorem ClsX.own{K:Frag}{mg:kW}{n:Str}{C:Addr}{base:Heap}(x:ClsX K mg n C)(X:K.In base):PyProof.Rows.OwnCls n C veM "ValueError.__new__" mg base:=tG x.ok x.m X
def aTq(t:XT):XT:=λρ Q=>t ρ λs ρ'=>match s.d with
 | .int i=>Q (.tr (.int (-i))) ρ'
 |_=>False
theorem aNu{e:Expr}{t:XT}{pos:Pos}(h:XE X Ex e t):XE X Ex (.UnaryOp .USub e pos) (aTq t):=λF=>(t6 uE (h F)).weak λσ H Q=>by
 rintro⟨ρ,fr,Qx,E,t,k⟩
 refine⟨ρ,fr,_,E,t,λv s H' ρ' E' q=>?_⟩
 split at q
 ·rename_i i hi
  obtain⟨R,hx⟩:=E'.one
  rw[hi]at hx
  cases hx.int_eq
  exact⟨i,rfl,k _ _ H' ρ' (EOk.back E'.len (R.add (IsX.of_int _))) q⟩
 ·exact q.elim
def rows:List Dx->List V->List Rw
 |d::ds,v::vs=>(.v (.tr d),some v)::rows ds vs
 |_,_=>[]
end Lf
namespace L2
open PySem PySem.Spec PyProof.Rows
end L2
namespace Lf
open PySem L2
theorem uA{G K:XS}{ρ:En}{D:XD}(M:En->Prop)(h1:∀ρ',M ρ'->K ρ' D)(h2:∀nx:En->Prop,(∀ρ',M ρ'->nx ρ')->G ρ { D with nx:=nx }):dU G K ρ D:=h2 _ h1
end Lf
namespace L2
open PySem PySem.Spec PyProof.Rows
end L2
namespace Lf
open PySem L2
def xD1(tk tv:XT):XT:=λρ Q=>tk ρ λa ρ1=>tv ρ1 λb ρ2=>match kY a.d with
 |some kk=>kk.odd=false/\Q (.tr (.dic [(kk,b.d)])) ρ2
 |none=>False
section
variable{k v:Expr}{tk tv:XT}{pos:Pos}
theorem aTp(hk:XE X Ex k tk)(hv:XE X Ex v tv):XE X Ex (.Dict [some k] [v] pos) (xD1 tk tv):=λF=>(aKb (aFc (hk F) (hv F) aJt) rfl rfl (by simp) (by simp)).weak λσ H Q=>by
 rintro⟨ρ,fr,Qx,E,t,kk⟩
 intro p hp
 have E1:EOk F ρ σ ((.v (.od []),some (.ref p))::fr) (upd H p (.dK [])):=EOk.back E.len (E.rep.newD hp All2.nil)
 refine⟨ρ,_,_,E1,t,λx s H1 ρ1 E2 t1=>⟨ρ1,_,_,E2,t1,λy s2 H2 ρ2 E3 t2=>?_⟩⟩
 obtain⟨R,h1,h2⟩:=E3.two
 have R':=R.perm mO
 obtain⟨p',ws,e,h5,h7⟩:=R'.atD
 cases e
 cases(show ws=[]from h7)
 split at t2
 ·rename_i key Au
  obtain⟨rfl,kt⟩:=he_ h1 Au
  refine⟨h5,[(key,y)],rfl,by show(key.odd||false)=false;rw[t2.1];rfl,by simp,?_⟩
  have hO:(cB (ρ2.zip σ++(.v (.od []),some (V.ref p))::fr)).Perm (p::cB (ρ2.zip σ++fr)):=by
   have:=(mO (x:=(Sl.v (.od []),some (V.ref p))) (A:=ρ2.zip σ) (B:=fr)).flatMap_right iN
   rw[<-mE (r:=(Sl.v (.od []),some (V.ref p))) (a:=p) rfl]
   exact this
  have R2:Rep F ((.v (.od [(key,s2.d)]),some (.ref p))::(ρ2.zip σ++fr)) (upd H2 p (.dK [(key,y)])):=R'.putD ⟨_,_,rfl,⟨rfl,h2.to (nM λa ha=>hO.mem_iff.mpr ha),(SameF.of (nM λa ha=>hO.mem_iff.mpr ha)).keyT kt⟩,rfl⟩
  exact kk _ _ _ ρ2 (EOk.back E3.len R2.frz) t2.2
 ·exact t2.elim
end
def nst:Expr->Bool
 | .Starred _ _=>false
 |_=>true
theorem sG{e:Expr}{es:List Expr}{env:Env}(h:nst e=true):starEach (e::es) env=(false,eval e env)::starEach es env:=by
 cases e<;>first | rfl | cases h
theorem aDi{e:Expr}{es:List Expr}{t:XT}{u:XA}(h:XE X Ex e t)(h':XAs X Ex es u)(hn:nst e=true:=by rfl):XAs X Ex (e::es) (cE t u):=bJ h h' (sG hn)
structure Bx(p:Prop):Prop where
 out:p
section
variable{a b c e o k v l:Expr}{es:List Expr}{t ta tb te tk tv:XT}{u:XA}{pos p p2:Pos}{x:Str}{i j:Nat}
theorem rQ{i:Int}{j:Nat}:Bx (XE X Ex (.Constant (.int i) j pos) (xC (.int i))):=⟨dC⟩
theorem zM{b:Bool}{j:Nat}:Bx (XE X Ex (.Constant (.bool b) j pos) (xC (.bl b))):=⟨wM⟩
theorem k8{j:Nat}:Bx (XE X Ex (.Constant .none j pos) (xC .non)):=⟨ib_⟩
theorem nB{x:Str}{j:Nat}:Bx (XE X Ex (.Constant (.str x) j pos) (xC (.str x))):=⟨kZ⟩
theorem iG(h:PE X (.Name x pos) (gU i)):Bx (XE X Ex (.Name x pos) (cV i)):=⟨bP h⟩
theorem k9(h:Bx (XE X Ex e t)):Bx (XE X Ex (.UnaryOp .USub e pos) (aTq t)):=⟨aNu h.out⟩
theorem en_{j:Nat}(h:Bx (XAs X Ex es u)):Bx (XE X Ex (.Tuple es j pos) (aDj u)):=⟨x9 h.out⟩
theorem eo_(h:Bx (XAs X Ex es u)):Bx (XE X Ex (.List es pos) (iQ u)):=⟨lH h.out⟩
theorem aAj:Bx (XE X Ex (.Dict [] [] pos) aDm):=⟨id_⟩
theorem hn_(ha:Bx (XE X Ex a ta))(hb:Bx (XE X Ex b tb)):Bx (XE X Ex (.BinOp a .Add b pos) (xOp rV ta tb)):=⟨kG ha.out hb.out⟩
theorem aSe(ha:Bx (XE X Ex a ta))(hb:Bx (XE X Ex b tb)):Bx (XE X Ex (.BinOp a .Mult b pos) (xOp aBl ta tb)):=⟨zS ha.out hb.out⟩
theorem lI(K:eC)(ha:Bx (XE X Ex a ta))(hb:Bx (XE X Ex b tb))(hs:mF b)(h:X.K=K:=by rfl):Bx (XE X Ex (.Subscript a b pos) (xOp ixX ta tb)):=⟨rC K ha.out hb.out hs h⟩
variable{lo hi:Option Expr}{tl th:XO}
theorem jN:Bx (XAs X Ex [] eG):=⟨cI⟩
theorem fK(h:Bx (XE X Ex e t))(h':Bx (XAs X Ex es u))(hn:nst e=true:=by rfl):Bx (XAs X Ex (e::es) (cE t u)):=⟨aDi h.out h'.out hn⟩
def f6:List Expr->Bool
 | []=>true
 |e::es=>nst e&&f6 es
theorem wY{env:Env}:∀{es:List Expr},f6 es=true->(backTo pos (starEach es env)).any (·.1)=false
 | [],_=>rfl
 |e::es,h=>by
  simp only[f6,bW]at h
  rw[sG h.1]
  exact wY h.2
theorem gu_{ps:List Str}{g:GB}(C:Cal X.prog X.w X.K X.mg X.base j x ps (spB g))(hr:Room j X.A)(hv:PE X e (gU i))(ha:Bx (XAs X Ex es u))(hg:Gl X x:=by rfl)(Bs:(x == ("__debug__" : Str))=false:=by decide)(he:nst e=true:=by rfl)(Gm:f6 es=true:=by rfl):Bx (XE X Ex (.Call (.Name x p) (e::es) [] pos) (iM g i u)):=⟨iV C hr hv ha.out hg Bs (sG he) (wY Gm)⟩
theorem zL{id:String}{r:List V->Hp->VK->Prop}{g:GC}(hc:CallR X (.builtin id) r)(hx:gZ r g)(hg:Gl X x)(hm:X.mg x=none)(hv:bootBuiltins x=some (.builtin id))(ha:Bx (XAs X Ex (e::es) u))(hn:x ≠ "__name__":=by decide)(Bs:(x == ("__debug__" : Str))=false:=by decide)(he:nst e=true:=by rfl)(Gm:f6 es=true:=by rfl):Bx (XE X Ex (.Call (.Name x p) (e::es) [] pos) (dM g u)):=⟨lO hc hx hg hm hv ha.out hn Bs (sG he) (wY Gm)⟩
theorem tR{T:String}{r:List V->Hp->VK->Prop}{g:GC}(hc:CallR X (.type T) r)(hx:gZ r g)(hg:Gl X x)(hm:X.mg x=none)(hv:bootBuiltins x=some (.type T))(ha:Bx (XAs X Ex (e::es) u))(hn:x ≠ "__name__":=by decide)(Bs:(x == ("__debug__" : Str))=false:=by decide)(he:nst e=true:=by rfl)(Gm:f6 es=true:=by rfl):Bx (XE X Ex (.Call (.Name x p) (e::es) [] pos) (dM g u)):=⟨ej_ hc hx hg hm hv ha.out hn Bs (sG he) (wY Gm)⟩
variable{r:R2}{g:G2}{op:CmpOp}{tc uc:XC}{rest:List Expr}
theorem j_(ho:OpR X (compareOp op) r)(hx:OpX r g)(ha:Bx (XE X Ex a ta))(hb:Bx (XE X Ex b tb))(hm:behindInMarks op b=false):Bx (XTe X Ex (.Compare a [op] [b] pos) (xB (xOp g ta tb))):=⟨iH ho hx ha.out hb.out hm⟩
variable{st:Stmt}{sts as bs:List Stmt}{G K:XS}
theorem mZ{pos':Pos}(hN:X.N.Nodup)(hi:X.N[i]? = some x)(hx:Loc X.env.scope x)(he:Bx (XE X Ex e t))(hs:swapsWith e (some (.Name x pos')) pos.line X.env=pure false:=by rfl)(hf:X.fn x=true\/X.env.scope.names.lookup x=some .local:=by first | exact .inl rfl | exact .inr rfl | assumption):Bx (XSt X Ex (.Assign [.Name x pos'] e pos) (iL i t)):=⟨aj_ λF=>wL hN hi hx (XE.at (Ex:=Ex) F he.out) hs hf⟩
theorem aSb{tg:Expr}{n:Nat}{g:TG}{gx:XG}(Bj:GX n g gx)(he:Bx (XE X Ex e t))(hg:PG X tg g)(hs:swapsWithSole [tg] e pos.line X.env=pure false:=by rfl)(hw:swappedStores [tg] e X.env=pure none:=by rfl)(h1:(assignEach [tg] X.env).map (·.2)=[assign tg X.env]:=by rfl):Bx (XSt X Ex (.Assign [tg] e pos) (aNz t gx)):=⟨tW Bj λF=>gg_ (XE.at (Ex:=Ex) F he.out) hg hs hw h1⟩
theorem aIc(hc:Bx (XTe X Ex c tc))(ha:Bx (XSs X Ex as G))(hb:Bx (XSs X Ex bs K)):Bx (XSt X Ex (.If c as bs pos) (xIf tc G K)):=⟨gS hc.out ha.out hb.out⟩
theorem wI(he:Bx (XE X Ex e t)):Bx (XSt X Ex (.Return (some e) pos) (hW t)):=⟨fM he.out⟩
theorem wH:Bx (XSs X Ex [] eZ):=⟨iF⟩
theorem eu_(h:Bx (XSt X Ex st G)):Bx (XSs X Ex [st] G):=⟨dX h.out⟩
theorem zJ(h:Bx (XSt X Ex st G))(h':Bx (XSs X Ex sts K)):Bx (XSs X Ex (st::sts) (dU G K)):=⟨dP h.out h'.out⟩
end
theorem aVu{x:Str}{st:Stmt}{f:Addr}{fd:FuncData}{N ps:List Str}{k:Nat}{g:GB}(Fn:Fun K x x st f fd)(S:FnScope N ps (aO st))(Ah:∀l ds Q,g l ds Q->ds.length+1=ps.length)(hN:ps.length<=N.length)
  (Bb:∀ (Af:Value) (A:Around) (outer:List Env) (s:Shared) (H:Hp) (E:XK),Room k (A.deeper (PyProof.Rows.envOfC x (aO st) s.heap.objs.size f Af)) →
   ∃G,Bx (XSs (lX CX0 P w K mg base N x (aO st) f Af A outer s H E).nox dZ (gR st) G)/\∀l ds Q,g l ds Q->G (dL N l ds) (iS Q)):FnOk P w K mg base CX0 (k+1) f fd ps (spB g):=
 i5 Fn S Ah hN λAf A outer s H E hr=>let ⟨G,b,q⟩:=Bb Af A outer s H E hr;⟨G,b.out,q⟩
end Lf
namespace L2
open PySem PySem.Spec PySem.SeqAt PySem.AutoSeq1 PySem.MeetsSeq PyProof.Rows
end L2
namespace Lf
open PySem L2
end Lf
namespace L2
open PySem PySem.Spec PySem.SeqAt PyProof.Rows
def aUi(K:eC)(neg:Bool):R2:=λx y H Q=>∃(p b:Addr) (xs ys:List Bool),x=.ref p/\y=.ref b/\SqL K H p (xs.map V.bl)/\SqL K H b (ys.map V.bl)/\xs.length=ys.length/\Q (.bl (if neg then !decide (xs=ys)else decide (xs=ys))) H
theorem pD:∀{xs:List Bool} {us:List Value},Vals (xs.map V.bl) us->us=xs.map Value.bool
 | [],_,h=>by cases h;rfl
 |x::xs,_,h=>by
  cases h with
  |cons ra rb=>rw[pD rb];cases ra;rfl
theorem pC:∀{as:List Addr} {us:List Value},Vals (as.map V.ref) us->us=as.map Value.ref
 | [],_,h=>by cases h;rfl
 |x::xs,_,h=>by
  cases h with
  |cons ra rb=>rw[pC rb];cases ra;rfl
theorem zP:∀{xs ys:List Bool},xs.length=ys.length->(List.range xs.length).all (λj=>xs.getD j false == ys.getD j false)=decide (xs=ys):=by
 intro xs ys h
 by_cases e:xs=ys
 ·subst e
  simp
 ·rw [dzF e,List.all_eq_false]
  have:∃j,j<xs.length/\xs.getD j false≠ys.getD j false:=by
   apply Classical.byContradiction
   intro hn
   apply e
   refine List.ext_getElem? λj=>?_
   by_cases hj:j<xs.length
   ·have:xs.getD j false=ys.getD j false:=Classical.byContradiction fun z=>hn ⟨j,hj,z⟩
    rw[fH,fH,aM hj,aM (by lia)]at this
    rw[aM hj,aM (by lia)]
    exact congrArg some this
   ·rw[iX (by lia),iX (by lia)]
  obtain⟨j,hj,Bt⟩:=this
  exact⟨j,gL.mpr hj,by simpa using Bt⟩
theorem aLy{A:Around}{s:Shared}{xs ys:List Bool}:∀(j:Nat) (h1:j<(xs.map Value.bool).toArray.size) (h2:j<(ys.map Value.bool).toArray.size),SeqAt.EqAt A s (xs.map Value.bool).toArray[j] (ys.map Value.bool).toArray[j] (xs.getD j false == ys.getD j false):=by
 intro j h1 h2
 have l1:j<xs.length:=by simpa using h1
 have l2:j<ys.length:=by simpa using h2
 rw[List.getElem_toArray,List.getElem_toArray,List.getElem_map,List.getElem_map,fH,fH,aM l1,aM l2]
 exact SeqAt.EqAt.bool_bool _ _
section
variable{X:Cx}
theorem aKg(hu:X.A.units<cLine):OpR X (compareOp .NotEq) (aUi X.K true):=by
 intro Aa s σ H x y v u Q I rx ry h
 obtain⟨p,b,xs,ys,rfl,rfl,h1,h2,hl,q⟩:=h
 cases rx
 cases ry
 obtain⟨its,r1,p1,_⟩:=I.list h1
 obtain⟨its2,r2,p2,_⟩:=I.list h2
 cases pD r1
 cases pD r2
 refine PySem.SeqAt.RcNeAt.lists p1.isList p2.isList (by simp only[bE,aC];lia) hu aLy _ _ _ _ ?_
 refine lG I q ?_
 rw[bE,aC,zP hl]
 rfl
end
end L2
namespace Lf
open PySem L2
def eqB(neg:Bool):G2:=λa b Q=>∃xs ys:List Bool,a=.lst (xs.map Dx.bl)/\b=.lst (ys.map Dx.bl)/\xs.length=ys.length/\Q (.tr (.bl (if neg then !decide (xs=ys)else decide (xs=ys))))
theorem k7{G:Hp}:∀{xs:List Bool} {vs:List V},All2 (IsX G) (xs.map Dx.bl) vs->vs=xs.map V.bl
 | [],_,h=>h
 |x::xs,_,⟨v,vr,e,h1,h2⟩=>by rw[e,k7 h2,h1.bl_eq];rfl
theorem aPe{K:eC}{neg:Bool}:OpX (aUi K neg) (eqB neg):=by
 intro F P H a b x y Q Qx R ha hb g k
 obtain⟨xs,ys,rfl,rfl,hl,g⟩:=g
 obtain⟨p,vs,rfl,q1,q2⟩:=ha.lst_eq
 obtain⟨p',vs',rfl,q3,q4⟩:=hb.lst_eq
 cases k7 q2
 cases k7 q4
 exact⟨p,p',xs,ys,rfl,rfl,SqL.of (R.hv _ _ q1),SqL.of (R.hv _ _ q3),hl,k _ _ H (R.add (IsX.of_bl _)) g⟩
end Lf
namespace L2
open PySem PySem.Spec PyProof.Rows
end L2
namespace Lf
open PySem L2
end Lf
namespace L2
open PySem PySem.Spec PyProof.Rows Builtin Builtin.Str
end L2
namespace Lf
open PySem L2
theorem wW{G:Hp}:∀(ys:List Str),All2 (IsX G) (ys.map Dx.str) (ys.map V.str)
 | []=>rfl
 |x::xs=>⟨_,_,rfl,IsX.of_str _,wW xs⟩
theorem strsAre_of:∀{ks:List Str} {us:List Value},Vals (ks.map V.str) us->PyProof.Rows.StrsAre us ks
 | [],us,h=>by cases h;exact .nil
 |k::ks,us,h=>by
  cases h with
  |cons r t =>
   obtain⟨tk,rfl⟩:=r
   exact .cons k tk (strsAre_of t)
theorem rZ:∀{us:List Value} {ks:List Str},PyProof.Rows.StrsAre us ks->Vals (ks.map V.str) us
 |_,_,.nil=>.nil
 |_,_,.cons y t h=>.cons ⟨t,rfl⟩ (rZ h)
section
variable{X:Cx}{Ex:ExT}
def aEq:List V->Hp->VK->Prop:=λxs H Q=>∃a kvs ks,xs=[V.ref a]/\Rd H a (.dK kvs)/\(kvs.map (·.1)=ks.map Key.inr)/\ks.length<64/\∀ss:List Str,ss.Perm ks->PyProof.Rows.sortedS ss=true->∀l,H l=none->Q (.ref l) (upd H l (.lst (ss.map V.str)))
theorem wD(hc:X.calm=true):CallR X (.builtin "sorted") aEq:=by
 intro Aa s σ H xs us Q I r h
 obtain⟨a,kvs,ks,rfl,ha,El,Lq,q⟩:=h
 obtain⟨u,rfl,rx⟩:=iB r
 cases rx
 obtain⟨z,hd,vs,rel,dd⟩:=yX I.hok ha (by
  unfold eI
  rw[show(kvs.any λkv=>kv.1.odd)=(kvs.map (·.1)).any Key.odd by rw[List.any_map];rfl,El,List.any_map]
  exact gK.mpr λ_ _=>by simp[Key.odd])
 obtain⟨o,es,ep,h1,h2,h3,h4⟩:=dd
 have hl:kvs.length=vs.length:=rel.length
 have hkl:kvs.length=ks.length:=by have:=congrArg List.length El;rwa [aC,aC]at this
 refine Calls.call_function_entry PyProof.Rows.kind_sorted PyProof.Rows.plain_sorted PyProof.Rows.entry_sorted (PyProof.Rows.args_sorted1 _) ?_
 unfold Builtin.«sorted»
 refine wpAny_bind (m:=checkCount "sorted" 1 1 _) (wpAny_pure ?_)
 refine wpAny_bind (PySem.W.kdu_collect (A:=X.A.in1) (PySem.W.kdl_dict (knd:=dA X.prog X.w) (kvs:=vs) (ep:=ep) hd) (I.ok.hd hc) ⟨o,es,h1,h2,h3,h4⟩ (by lia) λh' tk Ab hk B7=>?_)
 have hv:Vals (ks.map V.str) Ab.toList:=by
  refine uC (by have h5:=B7.1;have h6:=Array.length_toList (xs:=Ab);rw[aC];lia) λi x u e1 e2=>?_
  rw[Array.getElem?_toList]at e2
  obtain⟨k,y,e3,e4⟩:=B7.2 i u e2
  rw[bX]at e1
  obtain⟨kx,e5,rfl⟩:=cQ.mp e1
  have e6:(kvs.map (·.1))[i]? = some (Key.inr kx):=by rw[El,bX,e5];rfl
  rw[bX]at e6
  obtain⟨kv,e7,e8⟩:=cQ.mp e6
  obtain⟨v',e9⟩:=rel.at' e7
  rw[e3]at e9
  cases e9
  have:=aUx e4
  rw[e8]at this
  exact this
 have hS:=strsAre_of hv
 have Ef:Ab.toList.length=ks.length:=by rw[Array.length_toList,B7.1];lia
 refine wpAny_bind (wpAny_newList ?_ (by rw[Ef,sizeLine_eq];lia))
 have Hb:(h'.push (PyProof.Rows.seqObj "list" Ab.toList.toArray 0)).get? h'.objs.size=some (PyProof.Rows.seqObj "list" Ab.toList.toArray 0):=aY _ rfl
 show wpAny _ _ _ _ _ { s with heap:=h'.push (PyProof.Rows.seqObj "list" Ab.toList.toArray 0),toks:=tk }
 refine wpAny_bind (wpAny_holding (wpAny_call_entry PyProof.Rows.slot_list_sort ⟨_,Hb,rfl⟩ PyProof.Rows.entry_list_sort (PyProof.Rows.list_sort_treeK PyProof.Rows.strKind_oneLt Hb hS.keysOf (λv₁ v₂ rest e=>PyProof.Rows.keyKind_strs (by rw[<-e];exact hS)) (by rw[Ef];exact Lq) λst' a1 a2=>⟨_,rfl,?_⟩) (PyProof.Rows.args_list_sort _)))
 obtain⟨ss,b1,b2,b3⟩:=PyProof.Rows.sorted_out_str hS a1 a2
 obtain⟨e,he⟩:=PyProof.Rows.sortedHeap_at (out:=(PyProof.Rows.arrOf st').map (·.2)) Hb
 have Im:∀b ob,h'.get? b=some ob->(PyProof.Rows.sortedHeap (h'.push (PyProof.Rows.seqObj "list" Ab.toList.toArray 0)) h'.objs.size Ab.toList ((PyProof.Rows.arrOf st').map (·.2))).get? b=some ob:=λb ob hb=>by
  have Bf:=aR hb
  rw[PyProof.Rows.sortedHeap_old (cC Bf) (by rw[PyProof.Rows.size_push'];exact Nat.lt_succ_of_lt Bf),Heap.get?_push_ne _ _ _ (cC Bf)]
  exact hb
 refine wpAny_pure ⟨_,rfl,.ref h'.objs.size,_,(I.kept (t':=tk) hk).laid (t':=tk) Im (aP _) (show ObjOk X.prog X.w _ _ _ (.lst (ss.map V.str))from⟨by rw[aC,b2.length_eq,sizeLine_eq];lia,_,e,rZ b1,by rw[Array.toArray_toList];exact he⟩),rfl,q ss b2 b3 _ ((I.kept (t':=tk) hk).hok.fresh (aP _))⟩
def rH(n:Int):Str:=Str.ofString (toString n)
theorem tK:CallR X (.type "str") (λxs H Q=>∃n:Int,xs=[.int n]/\0<=n/\n<18446744073709551616/\Q (.str (rH n)) H):=by
 intro Aa s σ H xs us Q I r h
 obtain⟨n,rfl,h0,h1,q⟩:=h
 obtain⟨u,rfl,rx⟩:=iB r
 obtain⟨t,rfl⟩:=rx
 exact P.str_of_int (PyProof.Rows.shown_abs (N:=18446744073709551616) (by rw[if_neg (by lia)];exact h1) (by decide +kernel)) ⟨.str (rH n),H,I.tok _,⟨_,rfl⟩,q⟩
end
def jG(l:List (Key×Dx))(k:Key):List (Key×Dx):=l.filter λp=>decide (p.1≠k)
theorem yV{G:Hp}{k:Key}:∀{l:List (Key×Dx)} {ws:List (Key×V)},All2 (KvX G) l ws->All2 (KvX G) (jG l k) (qS ws k)
 | [],ws,h=>by rw[show ws=[]from h];rfl
 |p::l,_,⟨w,wr,e,h1,h2⟩=>by
  rw[e]
  have ih:=yV (k:=k) h2
  unfold jG qS at ih ⊢
  by_cases hk:p.1=k
  ·have Au:w.1=k:=h1.1 ▸ hk
   rw[List.filter_cons_of_neg (by simp[hk]),List.filter_cons_of_neg (by simp[Au])]
   exact ih
  ·have Au:¬ w.1=k:=h1.1 ▸ hk
   rw[List.filter_cons_of_pos (by simp[hk]),List.filter_cons_of_pos (by simp[Au])]
   exact⟨w,_,rfl,h1,ih⟩
def aDl(i:Nat)(t:XT):XT:=λρ Q=>(∃l,ρ[i]? = some (.v (.od l)))/\t ρ λk ρ'=>match ρ'[i]?,kY k.d with
 |some (.v (.od l)),some kk=>kk.odd=false/\(l.any λp=>p.1.odd)=false/\(match fA l kk with | some d=>Q (.tr d) (ρ'.set i (.v (.od (jG l kk)))) | none=>False)
 |_,_=>False
section
variable{F:Fm}{i:Nat}{t tk tv:XT}{x:Str}{e:Expr}{p apos cpos:Pos}
theorem aJg:∀σ H Q,tX F (aDl i t) σ H Q->aEc (gU i) (tX F t) σ H Q:=by
 rintro σ H Q ⟨ρ,fr,Qx,E,q,k⟩
 obtain⟨⟨l0,h0⟩,q⟩:=q
 obtain⟨p,ws,hv,hp,_⟩:=ef_ E h0
 refine⟨.ref p,hv,p,rfl,⟨ws,.inl hp⟩,ρ,fr,_,E,q,λy s H2 ρ2 E2 q2=>?_⟩
 split at q2
 ·rename_i l key hb hk
  obtain⟨R,hs⟩:=E2.one
  obtain⟨p',ws',Br,B6,Ee,Cl⟩:=ef_ E2.drop hb
  rw[hv]at Br
  cases Br
  obtain⟨rfl,kt⟩:=he_ hs hk
  obtain⟨o1,o2,q2⟩:=q2
  rcases go_ (k:=key) Ee with⟨z,_⟩ | ⟨d',v,z1,z2,z3⟩
  ·rw[z]at q2;exact q2.elim
  ·rw [z1] at q2
   have E3:EOk F ρ2 σ ((vT d',some v)::fr) H2:=EOk.back E2.drop.len (E2.drop.rep.add z3)
   obtain⟨p3,ws3,Ml,Mq,Kv,Ia⟩:=ef_ E3 hb
   rw[hv]at Ml
   cases Ml
   rw[B6]at Mq
   cases Mq
   exact⟨ws',key,v,B6,by rw[<-aFx Ee];exact o2,o1,rfl,z2,k _ _ _ _ (Ia _ _ (yV Kv)) q2⟩
 ·exact q2.elim
theorem m_(hv:PE X (.Name x p) (gU i))(he:XE X Ex e t)(m:M1 X (.Name x p) "pop" apos e cpos):XE X Ex (.Call (.Attribute (.Name x p) "pop" apos) [e] [] cpos) (aDl i t):=λF=>(aFe hv (he F) m).weak aJg
def dpT(o:Option Sl)(e s:Dx)(R:List (Key×Dx)->Prop):Prop:=match o,e with
 |some (.v (.od l)),.tup [.str x]=>l.length<1000000/\∀b,pM (.ref b x) l=true/\R (iT l (.ref b x) s)
 |some (.v (.od l)),d=>(match kY d with
  |some key=>l.length<1000000/\pM key l=true/\R (iT l key s)
  |none=>False)
 |_,_=>False
def zY(i:Nat)(tk tv:XT):XS:=λρ D=>tv ρ λs ρ1=>(∃l,ρ1[i]? = some (.v (.od l)))/\tk ρ1 λk ρ2=>dpT ρ2[i]? k.d s.d λl=>D.nx (ρ2.set i (.v (.od l)))
theorem wT:∀D σ H,tXS F (zY i tk tv) D σ H->aEj (gU i) (tX F tk) (tX F tv) D σ H:=by
 rintro D σ H ⟨ρ,fr,d,E,q,k⟩
 refine⟨ρ,fr,_,E,q,λy s H' ρ' E' q'=>?_⟩
 obtain⟨⟨l0,h0⟩,q'⟩:=q'
 obtain⟨p,ws,hv,hp,_⟩:=ef_ E' h0
 refine⟨.ref p,hv,ρ',_,_,E',q',λz s2 H2 ρ2 E2 q2=>?_⟩
 obtain⟨R,Ey,Ck⟩:=E2.two
 unfold dpT at q2
 split at q2
 ·rename_i l x hb hd
  rw[hd]at Ck
  obtain⟨b,vs,rfl,h1,h2⟩:=Ck.tup_eq
  obtain⟨v,vr,rfl,h3,h4⟩:=h2
  cases(show vr=[]from h4)
  cases h3.str_eq
  obtain⟨p',ws',Br,B6,hl,Cl⟩:=ef_ (E2.drop.drop) hb
  rw[hv]at Br
  cases Br
  have kt:gP (hid (cB (ρ2.zip σ++fr)) (F.vis H2)) (.ref b x):=h1
  obtain⟨q3,q4⟩:=q2
  obtain⟨q5,q6⟩:=q4 b
  exact⟨p,_,rfl,DPut.k (k:=.ref b x) B6 (by rw[hl.len];have:=gW;lia) (ip_ R kt) hl q5,k.nx σ _ _ rfl (Cl _ _ (pK hl Ey kt)) q6⟩
 ·split at q2
  ·rename_i l d hb _ _ key hk
   obtain⟨p',ws',Br,B6,hl,Cl⟩:=ef_ (E2.drop.drop) hb
   rw[hv]at Br
   cases Br
   obtain⟨rfl,kt⟩:=he_ Ck hk
   exact⟨p,_,rfl,DPut.k B6 (by rw[hl.len];have:=gW;lia) (ip_ R kt) hl q2.2.1,k.nx σ _ _ rfl (Cl _ _ (pK hl Ey kt)) q2.2.2⟩
  ·exact q2.elim
 ·exact q2.elim
end
def top(i:Nat):Stmt:=PySem.Challenge.pw_laidfields_k20_no_value.main.body.getD i (.Pass ⟨0,0,0,0⟩)
abbrev fm_:Stmt:=top 9
abbrev ed_:Stmt:=top 10
abbrev fa_:Stmt:=top 11
abbrev ek_:Stmt:=top 12
abbrev bs_:Stmt:=top 13
abbrev gf_:Stmt:=top 14
abbrev do_:Stmt:=top 15
abbrev ce_:Stmt:=top 16
abbrev cv_:Stmt:=top 17
abbrev cf_:Stmt:=top 18
abbrev er_:Stmt:=top 19
abbrev be_:Stmt:=top 21
abbrev fn_:Stmt:=top 25
abbrev co_:Stmt:=top 26
abbrev br_:Stmt:=top 27
abbrev cl_:Stmt:=top 28
abbrev gz_:Stmt:=top 29
abbrev ee_:Stmt:=top 30
abbrev dg_:Stmt:=top 31
abbrev p9:Stmt:=top 32
abbrev gy_:Stmt:=top 34
abbrev dc_:Stmt:=top 35
abbrev cw_:Stmt:=top 36
abbrev ch_:Stmt:=top 37
abbrev dy_:Stmt:=top 38
abbrev ds_:Stmt:=top 39
abbrev dt_:Stmt:=top 40
abbrev dd_:Stmt:=top 41
abbrev el_:Stmt:=top 42
abbrev dx_:Stmt:=top 43
abbrev cn_:Stmt:=top 44
abbrev cr_:Stmt:=top 45
abbrev dp_:Stmt:=top 46
abbrev cx_:Stmt:=top 47
abbrev hp_:Stmt:=top 48
abbrev fw_:Stmt:=top 49
abbrev lE:Stmt:=top 50
theorem xE:FnScope AO AO (aO fm_):=jK (by decide +kernel)
theorem rK:FnScope AE AE (aO ed_):=jK (by decide +kernel)
theorem c9:FnScope AF AF (aO fa_):=jK (by decide +kernel)
theorem xA:FnScope AH AH (aO ek_):=jK (by decide +kernel)
theorem fs_:FnScope AQ AQ (aO bs_):=jK (by decide +kernel)
theorem c8:FnScope AX AX (aO gf_):=jK (by decide +kernel)
theorem jT:FnScope ["kind","n","room"] ["kind","n"] (aO do_):=jK (by decide +kernel)
theorem fO:FnScope ["kinds","rooms","multiple","ends"] AH (aO ce_):=jK (by decide +kernel)
theorem eK:FnScope ["rooms","places","end","room","place"] AQ (aO cv_):=jK (by decide +kernel)
theorem fP:FnScope ["kinds","rooms","multiple","greatest"] AH (aO cf_):=jK (by decide +kernel)
theorem uK:FnScope AY AY (aO er_):=jK (by decide +kernel)
theorem iC:FnScope ["fields","places"] ["fields"] (aO be_):=jK (by decide +kernel)
theorem xG:FnScope AB AB (aO fn_):=jK (by decide +kernel)
theorem ih_:FnScope AL AL (aO co_):=jK (by decide +kernel)
theorem gd_:FnScope AK AK (aO br_):=jK (by decide +kernel)
theorem ge_:FnScope AW AW (aO cl_):=jK (by decide +kernel)
theorem xH:FnScope AB AB (aO gz_):=jK (by decide +kernel)
theorem eY:FnScope ["kind","value","laid","step","k","each","field","placed"] AV (aO ee_):=jK (by decide +kernel)
theorem fL:FnScope ["w","value","some","rest","k"] ["w","value"] (aO dg_):=jK (by decide +kernel)
theorem c_:FnScope ["laid","place","some","k","byte"] AT (aO p9):=jK (by decide +kernel)
theorem jV:FnScope ["script","k","cell"] ["script","k"] (aO gy_):=jK (by decide +kernel)
theorem dE:FnScope ["pool","many","found","step","mark"] AC (aO dc_):=jK (by decide +kernel)
theorem jU:FnScope ["number","m","left"] AE (aO cw_):=jK (by decide +kernel)
theorem dF:FnScope AD AF (aO ch_):=jK (by decide +kernel)
theorem cR:FnScope AM AC (aO dy_):=jK (by decide +kernel)
theorem eJ:FnScope AJ AG (aO ds_):=jK (by decide +kernel)
theorem jW:FnScope ["thing","found","key"] AO (aO dt_):=jK (by decide +kernel)
theorem xD:FnScope AI AI (aO dd_):=jK (by decide +kernel)
theorem iZ:FnScope ["width","found","k"] AZ (aO el_):=jK (by decide +kernel)
theorem fV:FnScope ["pool","kind","top","found","name","inner","k"] AR (aO dx_):=jK (by decide +kernel)
theorem gY:FnScope ["kind","thing","name","inner"] AB (aO cn_):=jK (by decide +kernel)
theorem cZ:FnScope ["pool","kind","value","name","inner","found","key","way","some"] AA (aO cr_):=jK (by decide +kernel)
theorem gG:FnScope ["pool","kind","value","at","rows"] AA (aO dp_):=jK (by decide +kernel)
theorem cT:FnScope ["pool","kind","value","top","some","k","inner","rows"] AA (aO cx_):=jK (by decide +kernel)
theorem sK:FnScope ["caught","due","kinds"] ["caught","due"] (aO hp_):=jK (by decide +kernel)
theorem fI:FnScope ["kind","thing","handed","caught","found","e"] AB (aO fw_):=jK (by decide +kernel)
theorem jA:FnScope AS ["script"] (aO lE):=jK (by decide +kernel)
def PoolAt(p:Addr)(md B:Int)(H:Hp):Prop:=∃c st:Int,H p=some (.lst [.int c,.int md,.int st])/\0<=st/\st<=B
theorem PoolAt.mono{p:Addr}{md B C:Int}{H:Hp}(h:PoolAt p md B H)(hb:B<=C):PoolAt p md C H:=by
 obtain⟨c,st,a,b,d⟩:=h
 exact⟨c,st,a,b,by omega⟩
theorem PoolAt.same{p:Addr}{md B:Int}{H H':Hp}(h:PoolAt p md B H)(e:Same H H'):PoolAt p md B H':=by
 obtain⟨c,st,a,b,d⟩:=h
 exact⟨c,st,e _ _ a,b,d⟩
theorem PoolAt.ne{p l:Addr}{md B:Int}{H:Hp}(h:PoolAt p md B H)(hl:H l=none):l≠p:=by
 obtain⟨c,st,a,b,d⟩:=h
 intro e
 rw[e,a]at hl
 cases hl
def aEg:Sp:=λvs H Q _=>∃(p:Addr) (md B many:Int),vs=[.ref p,.int many]/\PoolAt p md B H/\B<2^60/\0<many/\many<2^250 /\
 ∀(r:Int) (H':Hp),0<=r->r<many->SameX p H H'->PoolAt p md (B+1) H'->Q (.int r) H'
section
variable{f g:Addr}{fd gd:FuncData}
theorem aKo(F:Fun K "_law_take" "_law_take" dc_ f fd):FnOk P w K mg base CX0 1 f fd AC aEg:=by
 refine F.ok dE (λvs H Q E h=>?_) (λAf A outer s H vs Q E hr h=>?_)
 ·obtain ⟨p,md,B,many,rfl,_⟩:=h
  rfl
 obtain⟨p,md,B,many,rfl,⟨c,st,hp,h0,h1⟩,hB,h2,h3,q⟩:=h
 refine⟨_,rT (s_ (ha_ u0 (yM dl_ (pv 0) iY (λ_ _=>rfl)) iY (bR _))
   (rT (wL (i:=2) dE.nd rfl (Or.inl rfl) (nH mK (yM dl_ (pv 0) iY (λ_ _=>rfl)) (pv 1)))
   (rT (gg_ (nH pS (yM dl_ (pv 0) iY (λ_ _=>rfl)) (pv 1)) (mJ (pv 0) iY fl_))
   (es_ (uT (pv 2))))) nZ)
  (rT (gg_ (nH jD (yM dl_ (pv 0) iY (λ_ _=>rfl)) iY) (mJ (pv 0) iY fl_))
  (rT (wL (i:=3) dE.nd rfl (Or.inl rfl) (yM dl_ (pv 0) iY (λ_ _=>rfl)))
  (rT (wL (i:=4) dE.nd rfl (Or.inl rfl) (nH jB (nH jD (nH mK (yM dl_ (pv 0) iY (λ_ _=>rfl)) iY) iY) (nH jD (nH jB iY (pv 3)) iY)))
  (rT (wL (i:=4) dE.nd rfl (Or.inl rfl) (nH jD (pv 4) (nH jB (nH jB iY (pv 3)) (pv 3))))
  (rT (wL (i:=4) dE.nd rfl (Or.inl rfl) (nH mK (nH jB (pv 4) (pv 4)) iY))
  (es_ (uT (nH mK (nH pS (nH mK (nH jB (pv 4) (nH jD (pv 4) iY)) iY) iY) (pv 1))))))))),?_⟩
 refine⟨_,rfl,p,_,_,_,rfl,rfl,SqL.of hp,rfl,rfl,_,rfl,?_⟩
 refine nN (λe=>?_) (λe=>?_)
 ·refine ⟨_,rfl,p,_,_,_,rfl,rfl,SqL.of hp,rfl,_,rfl,_,_,rfl,rfl,h2,?_⟩
  refine⟨_,rfl,p,_,_,_,rfl,rfl,SqL.of hp,rfl,_,rfl,_,_,rfl,rfl,⟨h2,h3⟩,_,rfl,p,_,_,_,rfl,rfl,hp,rfl,?_⟩
  refine⟨_,rfl,?_⟩
  exact q (c%many) _ (eF _ (by omega)) (cW _ h2) (SameX.upd _ _ _) ⟨c/many,st,cA,h0,by omega⟩
 ·refine ⟨_,rfl,p,_,_,_,rfl,rfl,SqL.of hp,rfl,_,_,rfl,rfl,_,rfl,p,_,_,_,rfl,rfl,hp,rfl,?_⟩
  have a0:(0:Int)<=c%9999999619:=eF _ (by decide)
  have a1:c%9999999619<9999999619:=cW _ (by decide)
  have Ke:(upd H p (HO.lst [V.int c,V.int md,V.int (st+1)])) p=some (.lst [V.int c,V.int md,V.int (st+1)]):=cA
  refine⟨_,rfl,p,_,_,_,rfl,rfl,SqL.of Ke,rfl,?_⟩
  refine⟨_,rfl,p,_,_,_,rfl,rfl,SqL.of Ke,rfl,_,_,rfl,rfl,(by show(0:Int)<9999999619;decide),_,_,rfl,rfl,_,rfl,_,_,rfl,rfl,⟨by decide,by omega⟩,_,_,rfl,rfl,_,_,rfl,rfl,⟨by omega,by omega⟩,?_⟩
  have m1:0<=(c%9999999619+983)*(23*(st+1)+53):=gN (by omega) (by omega)
  have m2:(c%9999999619+983)*(23*(st+1)+53)<=10000000602*(23*(st+1)+53):=bZ (by omega) (by omega)
  have m3:0<=3491*(st+1)*(st+1):=gN (by omega) (by omega)
  have m4:3491*(st+1)*(st+1)<=3491*(st+1)*2^61:=fZ (by omega) (by omega)
  refine⟨_,rfl,_,rfl,_,_,rfl,rfl,⟨by decide,by omega⟩,_,rfl,_,_,rfl,rfl,⟨by omega,by omega⟩,_,_,rfl,rfl,?_⟩
  generalize (c%9999999619+983)*(23*(st+1)+53)=A1 at m1 m2 ⊢
  generalize 3491*(st+1)*(st+1)=A2 at m3 m4 ⊢
  refine⟨_,rfl,_,rfl,_,_,rfl,rfl,⟨by omega,by omega⟩,_,_,rfl,rfl,(by show(0:Int)<99999999659;decide),?_⟩
  have b0:(0:Int)<=(A1+A2)*(A1+A2)%99999999659:=eF _ (by decide)
  have b1:(A1+A2)*(A1+A2)%99999999659<99999999659:=cW _ (by decide)
  generalize (A1+A2)*(A1+A2)%99999999659=B2 at b0 b1 ⊢
  refine⟨_,rfl,_,rfl,_,_,rfl,rfl,_,_,rfl,rfl,⟨by omega,by omega⟩,_,_,rfl,rfl,(by show(0:Int)<99999999929;decide),_,_,rfl,rfl,⟨by decide,by decide⟩,_,rfl,_,_,rfl,rfl,h2,?_⟩
  exact q _ _ (eF _ (by omega)) (cW _ h2) (SameX.upd _ _ _) ⟨c,st+1,cA,by omega,by omega⟩
end
def dW(x:Str):List Nat:=x.cps.toList
theorem j9(x:Str):x.length=(dW x).length:=by simp[dW,Str.length]
theorem gs_(x y:Str):dW (x++y)=dW x++dW y:=by
 show(x.cps++y.cps).toList=_
 rw[Array.toList_append]
 rfl
theorem iy_(c:Nat):dW ⟨#[c]⟩=[c]:=rfl
theorem zC{x:Str}{k:Int}(h0:0<=k)(h1:k<=(dW x).length):dW (Txt.slice x none (some k))=(dW x).take k.toNat:=by
 have e:=beq_iff_eq.mp (PyProof.Rows.slice_closes_toL (x:=x) h0 (by rw[j9];exact h1))
 rw[e]
 show(((x.cps.toList.drop 0).take (k-0).toNat).toArray).toList=_
 simp[dW]
theorem j5{x:Str}{k:Int}(h0:0<=k)(h1:k<=(dW x).length):dW (Txt.slice x (some k) none)=(dW x).drop k.toNat:=by
 rw[PyProof.Rows.slice_from_eq (x:=x) (b:=x.length) h0 (by rw[j9];exact h1) rfl]
 show(((x.cps.toList.drop k.toNat).take ((x.length:Int)-k).toNat).toArray).toList=_
 rw[List.toList_toArray,List.take_of_length_le]
 ·rfl
 ·rw [List.length_drop,j9]
  show x.cps.toList.length-k.toNat<=(((dW x).length:Int)-k).toNat
  show(dW x).length-k.toNat<=(((dW x).length:Int)-k).toNat
  omega
theorem sV(g:Array Nat)(hg:g = #[]):∀(r:List Str) (Ab:Array Nat),(r.foldl (λAb p=>Ab++g++p.cps) Ab).toList=Ab.toList++(r.map dW).flatten
 | [],Ab=>by simp
 |y::r,Ab=>by
  rw[List.foldl_cons,sV g hg r]
  subst hg
  simp[dW]
theorem j4(ys:List Str):dW (Txt.join (Str.ofString "") ys)=(ys.map dW).flatten:=by
 show((ys.drop 1).foldl (λAb p=>Ab++(Str.ofString "").cps++p.cps) (ys.headD Str.empty).cps).toList=_
 rw[sV _ (by decide)]
 cases ys with
 |nil=>rfl
 |cons y r=>rfl
def Low(l:List Nat):Prop:=∀c∈l,97<=c/\c<=122
def Nm(x:Str):Prop:=1<=(dW x).length/\(dW x).length<=8/\Low (dW x)
abbrev lets:Str:= "abcdefghijklmnopqrstuvwxyz"
theorem g7:dW lets=(List.range 26).map (97 + ·):=by decide +kernel
theorem oK{r:Int}(h0:0<=r)(h1:r<26):atI lets.cps.toList r=some (97+r.toNat):=by
 have e:((r.toNat:Nat):Int)=r:=by omega
 have q:atI (dW lets) ((r.toNat:Nat):Int)=some (97+r.toNat):=ev_ (by
  rw[g7,bX,List.getElem?_range (by omega)]
  rfl)
 rw[e]at q
 exact q
def qZ(t:Nat):Str:=Txt.mul ⟨#[97+t]⟩ 8
theorem hi_(t:Nat):dW (qZ t)=List.replicate 8 (97+t):=PyProof.Rows.mul_one_list (97+t) 8
theorem aHw{s t:Nat}(h:qZ s=qZ t):s=t:=by
 have e:=congrArg dW h
 rw[hi_,hi_]at e
 have e1:(97+s)::List.replicate 7 (97+s)=(97+t)::List.replicate 7 (97+t):=e
 have:=(List.cons.inj e1).1
 omega
theorem aMg{t:Nat}(h:t<26):Nm (qZ t):=by
 unfold Nm
 rw[hi_]
 refine⟨by simp,by simp,λc hc=>?_⟩
 have:=(List.mem_replicate.mp hc).2
 omega
theorem aFd{α:Type}[BEq α][LawfulBEq α]:∀(l xs:List α),l.Nodup->(∀a∈l,a∈xs)->l.length<=xs.length
 | [],_,_,_=>eS _
 |a::r,xs,hn,hs=>by
  have ha:=hs a aA
  obtain⟨h1,h2⟩:=cN.mp hn
  have ih:=aFd r (xs.erase a) h2 λb hb=>(List.mem_erase_of_ne (λe=>h1 (by rw[<-e];exact hb))).mpr (hs b (aB _ hb))
  rw[List.length_erase_of_mem ha]at ih
  have:=List.length_pos_of_mem ha
  rw[aJ]
  omega
theorem aHv{xs:List Str}{t:Nat}(h:∀j<t,qZ j∈xs):t<=xs.length:=by
 have q:=aFd ((List.range t).map qZ) xs ?_ ?_
 ·rw [aC,dB] at q
  exact q
 ·refine List.nodup_iff_pairwise_ne.mpr (gJ.mpr ?_)
  exact List.Pairwise.imp (λhab e=>hab (aHw e)) (List.nodup_iff_pairwise_ne.mp List.nodup_range)
 ·intro a ha
  obtain⟨j,hj,rfl⟩:=cD.mp ha
  exact h j (gL.mp hj)
theorem yE{x:Str}:∀{xs:List Str},inV (.str x) (xs.map V.str)=true↔x∈xs:=by
 intro xs
 unfold inV
 rw[List.any_map,fD]
 constructor
 ·rintro ⟨y,hy,e⟩
  have e':(y == x)=true:=e
  have:y=x:=by simpa using e'
  rw[<-this]
  exact hy
 ·intro h
  exact⟨x,h,(beq_self_eq_true x:(x == x)=true)⟩
theorem aCb{xs:List Str}:(xs.map V.str).all lW=true:=by
 rw[List.all_map,cO]
 intro y _
 rfl
theorem Nm.sz{x:Str}(h:Nm x):x.length<=1000:=by
 have:=h.2.1
 rw[j9]
 omega
theorem il_(c:Nat):(⟨#[c]⟩:Str).length=1:=rfl
theorem aKt{st:Str}{r s:Int}(h7:(dW st).length=7)(hl:Low (dW st))(h0:0<=r)(h1:r<8)(h2:0<=s)(h3:s<26) :
  Nm (Txt.slice st none (some r)++⟨#[97+s.toNat]⟩)/\(Txt.slice st none (some r)).length<=7:=by
 have e:=zC (x:=st) h0 (by omega)
 constructor
 ·unfold Nm
  rw[gs_,e,iy_]
  refine⟨by simp,by simp;omega,λc hc=>?_⟩
  rcases bK.mp hc with hc | hc
  ·exact hl c (List.mem_of_mem_take hc)
  ·have:=aF.mp hc
   omega
 ·rw [j9,e,gT]
  omega
theorem aKs{ys:List Str}(hl:∀y∈ys,∃j:Nat,j<26/\y=⟨#[97+j]⟩)(h1:1<=ys.length)(h8:ys.length<=8):Nm (Txt.join (Str.ofString "") ys):=by
 unfold Nm
 rw[j4]
 have key:∀zs:List Str,(∀y∈zs,∃j:Nat,j<26/\y=⟨#[97+j]⟩)->((zs.map dW).flatten).length=zs.length/\Low (zs.map dW).flatten:=by
  intro zs
  induction zs with
  |nil=>intro _;exact⟨rfl,λc hc=>by simp at hc⟩
  |cons z r ih =>
   intro h
   obtain⟨a,b⟩:=ih λy hy=>h y (aB _ hy)
   obtain⟨j,hj,rfl⟩:=h z aA
   rw[aL,eX,iy_]
   refine⟨by rw[aK,a];simp;omega,λc hc=>?_⟩
   rcases bK.mp hc with hc | hc
   ·have:=aF.mp hc
    omega
   ·exact b c hc
 obtain⟨a,b⟩:=key ys hl
 exact⟨by omega,by omega,b⟩
theorem aKr{x:Str}{r s:Int}(hx:Nm x)(h0:0<=r)(h1:r<x.length)(h2:0<=s)(h3:s<26) :
  Nm (Txt.slice x none (some r)++⟨#[97+s.toNat]⟩++Txt.slice x (some (r+1)) none)/\(Txt.slice x none (some r)).length<=8/\(Txt.slice x (some (r+1)) none).length<=8:=by
 obtain⟨a,b,c⟩:=hx
 rw[j9]at h1
 have e:=zC (x:=x) h0 (by omega)
 have e2:=j5 (x:=x) (k:=r+1) (by omega) (by omega)
 refine⟨?_,?_,?_⟩
 ·unfold Nm
  rw[gs_,gs_,e,e2,iy_]
  refine⟨by simp;omega,by simp;omega,λz hz=>?_⟩
  rcases bK.mp hz with hz | hz
  ·rcases bK.mp hz with hz | hz
   ·exact c z (List.mem_of_mem_take hz)
   ·have:=aF.mp hz
    omega
  ·exact c z (List.mem_of_mem_drop hz)
 ·rw [j9,e,gT]
  omega
 ·rw [j9,e2,List.length_drop]
  omega
def aWn(st:Str):Prop:=(dW st).length=7/\Low (dW st)
theorem aJj{v:V}(h:v∈[V.str "abcdefg",V.str "placeof",V.str "zyxwvut",V.str "kjqrshn"]):∃st:Str,v=.str st/\aWn st:=by
 have L:∀st:Str,((dW st).length == 7&&(dW st).all λc=>decide (97<=c)&&decide (c<=122))=true->aWn st:=by
  intro st h
  rw[bW,cO]at h
  refine⟨by simpa using h.1,λc hc=>?_⟩
  have:=h.2 c hc
  simpa using this
 simp only[aE,bI,or_false]at h
 rcases h with rfl | rfl | rfl | rfl
 ·exact⟨_,rfl,L _ (by decide +kernel)⟩
 ·exact⟨_,rfl,L _ (by decide +kernel)⟩
 ·exact⟨_,rfl,L _ (by decide +kernel)⟩
 ·exact⟨_,rfl,L _ (by decide +kernel)⟩
def LnH(H0:Hp)(p l:Addr)(md:Int)(xs:List Str)(B:Int)(H:Hp):Prop:=H l=some (.lst (xs.map V.str))/\SameX p H0 H/\PoolAt p md B H
theorem LnH.take{H0:Hp}{p l:Addr}{md:Int}{xs:List Str}{B C:Int}{H H':Hp}(h:LnH H0 p l md xs B H)(n:l≠p)(e:SameX p H H')(q:PoolAt p md C H'):LnH H0 p l md xs C H':=
 ⟨e.get n h.1,h.2.1.trans e,q⟩
theorem LnH.same{H0:Hp}{p l:Addr}{md:Int}{xs:List Str}{B:Int}{H H':Hp}(h:LnH H0 p l md xs B H)(e:Same H H'):LnH H0 p l md xs B H':=
 ⟨e _ _ h.1,h.2.1.trans (SameX.of e),h.2.2.same e⟩
theorem LnH.mono{H0:Hp}{p l:Addr}{md:Int}{xs:List Str}{B C:Int}{H:Hp}(h:LnH H0 p l md xs B H)(hb:B<=C):LnH H0 p l md xs C H:=⟨h.1,h.2.1,h.2.2.mono hb⟩
theorem LnH.add{H0:Hp}{p l:Addr}{md:Int}{xs:List Str}{B:Int}{H:Hp}{x:Str}(h:LnH H0 p l md xs B H)(n:l≠p)(hl:H0 l=none):LnH H0 p l md (xs++[x]) B (upd H l (.lst (xs.map V.str++[.str x]))):=by
 obtain⟨a,b,c,st,d,d1,d2⟩:=h
 refine⟨?_,λq o hq=>?_,c,st,?_,d1,d2⟩
 ·rw [cA,cP]
  rfl
 ·obtain ⟨nq,eq⟩:=ir_ hq
  have:q≠l:=λe=>by rw[e,hl]at eq;cases eq
  rw[fz_ nq,fB this]
  exact b.get nq eq
 ·rw [fB (Ne.symm n)]
  exact d
abbrev lnS(p l:Addr)(many:Int)(stem:Str)(o5 o6 o7 o8 o9:Option V):St:=[some (.ref p),some (.int many),some (.str lets),some (.str stem),some (.ref l),o5,o6,o7,o8,o9]
theorem aLb(x y:Str):(x++y).length=x.length+y.length:=by rw[j9,gs_,aK,j9 x,j9 y]
theorem xT:∀{ys:List Str},(∀y∈ys,∃j:Nat,j<26/\y=⟨#[97+j]⟩)->(ys.map (·.length)).sum=ys.length
 | [],_=>rfl
 |y::r,h=>by
  obtain⟨j,_,rfl⟩:=h y aA
  rw[aL,List.sum_cons,xT λy hy=>h y (aB _ hy),aJ,il_]
  omega
theorem aGi{xs:List Str}(h:xs≠[]):∃y∈xs,atI (xs.map V.str) (-1)=some (.str y):=by
 refine⟨xs.getLast h,List.getLast_mem h,?_⟩
 have e:xs.map V.str=(xs.dropLast).map V.str++[V.str (xs.getLast h)]:=by
  conv=>lhs;rw[<-List.dropLast_concat_getLast h]
  rw[cP]
  rfl
 rw[e]
 exact aIh _ _
def aUf:Sp:=λvs H Q _=>∃(p:Addr) (md B many:Int),vs=[.ref p,.int many]/\PoolAt p md B H/\0<=many/\many<=12/\B+1000<2^60 /\
 ∀(l:Addr) (xs:List Str) (H':Hp),l≠p->H l=none->H' l=some (.lst (xs.map V.str))->xs.length=many.toNat->xs.Nodup->(∀x∈xs,Nm x)->SameX p H H'->PoolAt p md (B+200) H'->Q (.ref l) H'
section
variable{f fT:Addr}{fd dT:FuncData}{n j:Nat}
theorem aUq(F:Fun K "_law_names" "_law_names" dy_ f fd)(GT:FnOk P w K mg base CX0 1 fT dT AC aEg)(bT:Binds K dT AC [])(kT:PySem.W.keepIn K (.ref fT)=true)(mT:mg "_law_take" = some (.ref fT))
  (m_range:mg "range" = none) (m_len:mg "len" = none):FnOk P w K mg base CX0 2 f fd AC aUf:=by
 refine F.ok cR (λvs H Q E h=>?_) (λAf A outer s H vs Q E hr h=>?_)
 ·obtain ⟨p,md,B,many,rfl,_⟩:=h
  rfl
 obtain⟨p,md,B,many,rfl,hp,Ms,hm1,hB,q⟩:=h
 have hu:=hr.units0
 refine⟨_,(rT (wL (i:=2) cR.nd rfl (Or.inr rfl) gh_)
  (rT (wL (i:=3) cR.nd rfl (Or.inl rfl) (yM dl_ (uY (hX gh_ (hX gh_ (hX gh_ (hX gh_ lZ))))) (et_ GT hr rfl mT kT bT .nil lU (hX (pv 0) (hX iY lZ))) (λ_ _=>rfl)))
  (rT (wL (i:=4) cR.nd rfl (Or.inl rfl) (uY lZ))
  (rT (uU PassesOwn.never rfl (ik_ rfl m_range (hX (pv 1) lZ)) (gF (i:=5) cR.nd rfl (Or.inl rfl)) (rT (wL (i:=6) cR.nd rfl (Or.inl rfl) (nH jC (hs_ uJ (pv 3) oC (oB (et_ GT hr rfl mT kT bT .nil lU (hX (pv 0) (hX iY lZ))))) (yM qE (pv 2) (et_ GT hr rfl mT kT bT .nil lU (hX (pv 0) (hX iY lZ))) (λ_ _=>rfl))))
  (rT (wL (i:=7) cR.nd rfl (Or.inl rfl) (et_ GT hr rfl mT kT bT .nil lU (hX (pv 0) (hX iY lZ))))
  (rT (aFb (s_ (ha_ u0 (pv 7) iY (bR _)) (es_ (wL (i:=6) cR.nd rfl (Or.inl rfl) (t7 PySem.F.plainAttrs_str PySem.F.slot_str_join PySem.F.type_str_join aKw gh_ (hX (oF (dsc:=aO dy_) (N:=AM) (tgs:=["turn"]) (outs:=[0,2]) (N':=["turn","pool","letters"]) ⟨rfl,by decide +kernel,by decide +kernel,by decide +kernel,rfl,by decide +kernel,by decide +kernel,by decide +kernel⟩ (ik_ rfl m_range (hX (nH jD iY (et_ GT hr rfl mT kT bT .nil lU (hX (pv 0) (hX iY lZ)))) lZ)) (λ_ _ _ _ _=>(gF (i:=0) (show(["turn","pool","letters"]:List Str).Nodup by decide +kernel) rfl (Or.inl rfl) (.inr rfl))) (tM (by decide)) (λ_ _ _ _ _=>t9) (λ_ _ _ _ _=>(yM qE (pv 2) (et_ GT hr rfl mT kT bT .nil lU (hX (pv 1) (hX iY lZ))) (λ_ _=>rfl)))) lZ)))) nZ))
  (rT (aFb (s_ (PW.pt (aEv (ha_ u0 (pv 7) iY (bR _)) (r_ (ha_ (xR hu) (pv 4) (uY lZ) (bR _))))) (rT (wL (i:=8) cR.nd rfl (Or.inl rfl) (et_ GT hr rfl mT kT bT .nil lU (hX (pv 0) (hX (fo_ lY rfl m_len PySem.boot_len (hX (yM dl_ (pv 4) (t6 uE iY) (λ_ _=>rfl)) lZ)) lZ))))
  (es_ (wL (i:=6) cR.nd rfl (Or.inl rfl) (nH jC (nH jC (hs_ uJ (yM dl_ (pv 4) (t6 uE iY) (λ_ _=>rfl)) oC (oB (pv 8))) (yM qE (pv 2) (et_ GT hr rfl mT kT bT .nil lU (hX (pv 0) (hX iY lZ))) (λ_ _=>rfl))) (hs_ uJ (yM dl_ (pv 4) (t6 uE iY) (λ_ _=>rfl)) (oB (nH jD (pv 8) iY)) oC))))) nZ))
  (rT (wL (i:=9) cR.nd rfl (Or.inl rfl) iY)
  (rT (aFa PassesOwn.never (ha_ aBg (pv 6) (pv 4) (by with_unfolding_all rfl)) (rT (wL (i:=6) cR.nd rfl (Or.inl rfl) (nH pQ (yM qE (pv 2) (pv 9) (λ_ _=>rfl)) iY))
  (es_ (wL (i:=9) cR.nd rfl (Or.inl rfl) (nH jD (pv 9) iY)))))
  (es_ (oA (t7 PySem.F.plainAttrs_list PySem.F.slot_list_append PySem.F.type_list_append im_ (pv 4) (hX (pv 6) lZ)))))))))))
  (es_ (uT (pv 4))))))),?_⟩
 have ll:lets.length<=sizeLine:=by show 26<=sizeLine;exact jE 26 (by decide)
 refine⟨jE 4 (by decide),λs0 J9=>⟨_,rfl,p,md,B,4,rfl,hp.same (df_ J9 _),by omega,by decide,by decide,λr H1 r0 r1 e1 De=>?_⟩⟩
 have e1':SameX p H H1:=(SameX.of (df_ J9 _)).trans e1
 obtain⟨v,hv,Ez⟩:=aIi (xs:=[V.str "abcdefg",V.str "placeof",V.str "zyxwvut",V.str "kjqrshn"]) r0 r1
 obtain⟨st,rfl,Hy,J6⟩:=aJj Ez
 have J8:s0≠p:=hp.ne J9
 refine⟨s0,_,_,_,rfl,rfl,SqL.of (e1.get J8 cA),hv,?_⟩
 refine⟨jE 0 (by decide),λl hl=>?_⟩
 have E6:l≠p:=De.ne hl
 have Mu:H l=none:=by
  cases z:H l with
  |none=>rfl
  |some o=>rw[e1'.get E6 z]at hl;cases hl
 have L0:LnH H p l md [] (B+1) (upd H1 l (.lst [])):=⟨cA,e1'.trans (SameX.of (df_ hl _)),De.same (df_ hl _)⟩
 refine⟨_,rfl,many,rfl,by omega,by omega,?_⟩
 refine aCa (n:=many.toNat) (λi σ' H'=>∃(xs:List Str) (o5 o6 o7 o8 o9:Option V),σ'=lnS p l many st o5 o6 o7 o8 o9/\xs.length=i/\xs.Nodup/\(∀x∈xs,Nm x)/\LnH H p l md xs (B+1+14*(i:Int)) H') ?_ ?_ ?_
 ·exact⟨[],_,_,_,_,_,rfl,rfl,List.nodup_nil,(λx hx=>nomatch hx),L0.mono (by omega)⟩
 ·rintro i σ' H2 hi ⟨xs,o5,o6,o7,o8,o9,rfl,D0,Dc,Fh,L2⟩
  have sl7:st.length<=sizeLine:=by rw[j9,Hy];exact jE 7 (by decide)
  refine⟨_,rfl,_,rfl,p,md,_,8,rfl,L2.2.2,by omega,by decide,by decide,λr2 H3 r20 r21 e3 B9=>⟨_,rfl,_,rfl,sl7,?_⟩⟩
  have L3:=L2.take E6 e3 B9
  refine⟨_,rfl,_,rfl,p,md,_,26,rfl,B9,by omega,by decide,by decide,λr3 H4 r30 r31 e4 Fs=>⟨_,_,_,rfl,rfl,ll,oK r30 r31,?_⟩⟩
  have L4:=L3.take E6 e4 Fs
  obtain⟨Mh,sz0⟩:=aKt Hy J6 r20 r21 r30 r31
  refine⟨_,_,rfl,rfl,jE _ (by rw[il_];omega),?_⟩
  refine⟨_,rfl,p,md,_,3,rfl,Fs,by omega,by decide,by decide,λway H5 r40 r41 e5 Fc=>?_⟩
  have L5:=L4.take E6 e5 Fc
  generalize hB5:B+1+14*(i:Int)+1+1+1=B5 at L5 Fc
  clear L4 L3 Fs B9 e3 e4 e5
  generalize Txt.slice st none (some r2)++(⟨#[97+r3.toNat]⟩:Str)=nmA at Mh ⊢
  refine⟨λσ' H'=>∃(nm:Str),σ'=lnS p l many st (some (.int (0+(i:Int)))) (some (.str nm)) (some (.int way)) o8 o9/\Nm nm/\LnH H p l md xs (B5+9) H',?_,?_⟩
  ·refine ⟨_,rfl,rfl,_,rfl,nN (fun c => ?_) (fun c=>⟨nmA,rfl,Mh,L5.mono (by omega)⟩)⟩
   refine⟨rfl,_,rfl,p,md,B5,8,rfl,Fc,by omega,by decide,by decide,λr6 H6 r60 r61 e6 Cm=>⟨_,_,rfl,rfl,_,rfl,by omega,by omega,?_⟩⟩
   have L6:=L5.take E6 e6 Cm
   refine j2 (n:=(1+r6).toNat) (λi Ab H'=>∃ys:List Str,Ab=ys.map V.str/\ys.length=i/\(∀y∈ys,∃j:Nat,j<26/\y=⟨#[97+j]⟩)/\LnH H p l md xs (B5+1+(i:Int)) H') (by omega) ⟨[],rfl,rfl,(λy hy=>nomatch hy),L6.mono (by omega)⟩ (λi Ab H' hi ⟨ys,ea,el,_⟩=>by rw[ea,aC];omega) (λi Ab H' hi ⟨ys,ea,el,ey,eL⟩=>?_) (λAb H' ⟨ys,ea,el,ey,eL⟩ l2 hn=>?_)
   ·refine aKv ?_
    refine⟨_,rfl,_,rfl,p,md,_,26,rfl,eL.2.2,by omega,by decide,by decide,λr7 H7 r70 r71 e7 Es=>⟨_,_,_,rfl,rfl,ll,oK r70 r71,ys++[⟨#[97+r7.toNat]⟩],?_,?_,?_,?_⟩⟩
    ·rw [ea,cP]
     rfl
    ·rw [aK,el]
     rfl
    ·intro y hy
     rcases bK.mp hy with hy | hy
     ·exact ey y hy
     ·exact⟨r7.toNat,by omega,aF.mp hy⟩
    ·exact(eL.take E6 e7 Es).mono (by push_cast;omega)
   ·subst ea
    have es:=xT ey
    refine⟨_,l2,ys,rfl,rfl,SqL.of cA,?_,?_⟩
    ·rw [es]
     show ys.length+ys.length*0<=16777216
     omega
    ·exact⟨_,rfl,aKs ey (by omega) (by omega),(eL.same (df_ hn _)).mono (by omega)⟩
  rintro σ6 H6 ⟨nmB,rfl,nmBok,L6⟩
  refine⟨λσ' H'=>∃(nm:Str) (o:Option V),σ'=lnS p l many st (some (.int (0+(i:Int)))) (some (.str nm)) (some (.int way)) o o9/\Nm nm/\LnH H p l md xs (B5+11) H',?_,?_⟩
  ·refine ⟨_,rfl,rfl,_,rfl,nN (fun c => ?_) (fun c=>aZb ⟨nmB,_,rfl,nmBok,L6.mono (by omega)⟩)⟩
   refine⟨_,rfl,jE 0 (by decide),λl2 Ko=>?_⟩
   have L7:=L6.same (df_ Ko (.lst []))
   refine⟨l,l2,_,rfl,rfl,SqL.of L7.1,SqL.of cA,_,rfl,nN (λc2=>?_) (λc2=>⟨nmB,_,rfl,nmBok,L7.mono (by omega)⟩)⟩
   have Bt:xs≠[]:=λz=>by subst z;cases c2
   obtain⟨y,hy,Db⟩:=aGi Bt
   have Jr:=Fh y hy
   have Jz:y.length<=sizeLine:=jE _ Jr.sz
   have hy1:1<=y.length:=by rw[j9];exact Jr.1
   have hy2:y.length<=8:=by rw[j9];exact Jr.2.1
   refine⟨_,rfl,_,rfl,_,rfl,l,_,_,_,rfl,rfl,SqL.of L7.1,Db,y,rfl,Jz,p,md,_,_,rfl,L7.2.2,by omega,by omega,by omega,λr8 H8 r80 r81 e8 Jb=>?_⟩
   have L8:=L7.take E6 e8 Jb
   refine⟨_,rfl,_,rfl,l,_,_,_,rfl,rfl,SqL.of L8.1,Db,_,rfl,_,rfl,y,rfl,Jz,?_⟩
   refine⟨_,rfl,_,rfl,p,md,_,26,rfl,Jb,by omega,by decide,by decide,λr9 H9 r90 r91 e9 Ll=>?_⟩
   have L9:=L8.take E6 e9 Ll
   obtain⟨t1,t2,t3⟩:=aKr Jr r80 r81 r90 r91
   refine⟨_,_,_,rfl,rfl,ll,oK r90 r91,_,_,rfl,rfl,jE _ (by rw[il_];omega),?_⟩
   refine⟨_,rfl,_,rfl,l,_,_,_,rfl,rfl,SqL.of L9.1,Db,_,rfl,_,_,rfl,rfl,_,rfl,y,rfl,Jz,_,_,rfl,rfl,?_,?_⟩
   ·refine jE _ ?_
    rw[aLb,il_]
    omega
   ·exact⟨_,_,rfl,t1,L9.mono (by omega)⟩
  rintro σ7 H7 ⟨nmC,o8',rfl,nmCok,L7⟩
  have hi12:xs.length<=12:=by omega
  refine⟨λm σ' H'=>∃(t:Nat) (nm:Str),m=30-t/\t<=20/\σ'=lnS p l many st (some (.int (0+(i:Int)))) (some (.str nm)) (some (.int way)) o8' (some (.int (t:Int)))/\Nm nm/\(∀j,j+1<t->qZ j∈xs)/\(0<t->nm=qZ (t-1))/\H'=H7,⟨30,0,nmC,rfl,by omega,rfl,nmCok,(λj hj=>by omega),(λh0=>by omega),rfl⟩,?_⟩
  rintro m σ8 H8 ⟨t,nm,rfl,ht,rfl,Kl,hc,hn,rfl⟩
  refine⟨_,rfl,_,rfl,l,_,rfl,.inl (SqL.of L7.1),rfl,aCb,_,rfl,nN (λc=>?_) (λc=>?_)⟩
  ·have Gk:nm∈xs:=yE.mp c
   have Iw:∀j,j<t->qZ j∈xs:=λj hj=>by
    by_cases z:j+1<t
    ·exact hc j z
    ·have:j=t - 1:=by omega
     rw[this,<-hn (by omega)]
     exact Gk
   have ht':=aHv Iw
   refine⟨λσ' H'=>σ'=lnS p l many st (some (.int (0+(i:Int)))) (some (.str (qZ t))) (some (.int way)) o8' (some (.int ((t:Int)+1)))/\H'=H8,?_,?_⟩
   ·rintro σ' H' ⟨rfl,rfl⟩
    exact⟨30-(t+1),by omega,t+1,qZ t,rfl,by omega,rfl,aMg (by omega),(λj hj=>Iw j (by omega)),(λ_=>rfl),rfl⟩
   ·refine ⟨_,rfl,_,rfl,_,_,_,rfl,rfl,ll,oK (r:=(t:Int)) (by omega) (by omega),_,_,rfl,rfl,by rw [il_]; decide,by decide,by decide,?_⟩
    refine⟨_,rfl,_,_,rfl,rfl,?_,rfl⟩
    show lnS _ _ _ _ _ (some (.str (Txt.mul ⟨#[97+(t:Int).toNat]⟩ 8))) _ _ _=_
    rw[iK]
    rfl
  ·have Kf:nm∉xs:=fun z=>c (yE.mpr z)
   refine⟨_,rfl,.inl ⟨rfl,_,SqL.of L7.1⟩,_,rfl,l,_,_,rfl,rfl,L7.1,by rw[aC];exact sH (by omega),?_⟩
   refine⟨xs++[nm],_,_,_,_,_,rfl,by rw[aK,D0];rfl,?_,λx hx=>?_,(L7.add E6 Mu).mono (by push_cast;omega)⟩
   ·exact dY.mpr ⟨Dc,by simp,λa ha b hb=>by rw[aF.mp hb];intro e;exact Kf (by rw[<-e];exact ha)⟩
   ·rcases bK.mp hx with hx | hx
    ·exact Fh x hx
    ·rw [aF.mp hx]
     exact Kl
 ·rintro σ' H2 ⟨xs,o5,o6,o7,o8,o9,rfl,D0,Dc,Fh,L2⟩
  refine⟨_,rfl,q l xs H2 E6 Mu L2.1 D0 Dc Fh L2.2.1 (L2.2.2.mono (by omega))⟩
end
section
variable{n:Nat}
theorem aId{n:Nat}(h:n<=12):bnd n<2^150:=Int.lt_of_le_of_lt (gt_ h) (by decide)
theorem aFv:∀{ks:List Kd} {i:Nat} {k:Kd},okK ks->ks[i]? = some k->k.Ok/\k.deep<=dO ks
 | [],_,_,_,e=>by simp at e
 |k'::r,0,k,h,e=>by simp at e;subst e;exact⟨h.1,eE _ _⟩
 |k'::r,i+1,k,h,e=>by obtain⟨a,b⟩:=aFv (i:=i) h.2 (by simpa using e);exact⟨a,nzL b (dQ _ _)⟩
theorem aEm:∀{ks:List Kd} {i:Nat} {k:Kd},ks[i]? = some k->(rmK ks)[i]? = some k.rm
 | [],_,_,e=>by simp at e
 |k'::r,0,k,e=>by simp at e;subst e;rfl
 |k'::r,i+1,k,e=>by show(rmK r)[i]? = _;exact aEm (by simpa using e)
theorem aAk{ks:List Kd}(h:okK ks)(hd:dO ks<=n)(hn:n<=12):∀r∈rmK ks,Bd (2^150) r:=λr hr=>(bdK ks h r hr).mono (Int.le_of_lt (aId (nzL hd hn)))
theorem aSg{k:Kd}(h:k.Ok)(hd:k.deep<=n)(hn:n<=12):Bd (2^150) k.rm:=(Kd.bd k h).mono (Int.le_of_lt (aId (nzL hd hn)))
theorem vB:∀{fs:List (Str×Kd)},okF fs->okK (fs.map (·.2))
 | [],_=>trivial
 |f::r,h=>⟨h.1,vB h.2⟩
theorem iv_:∀(fs:List (Str×Kd)),dO (fs.map (·.2))=cX fs
 | []=>rfl
 |f::r=>by show max f.2.deep (dO (r.map (·.2)))=_;rw[iv_ r];rfl
theorem uO:∀(fs:List (Str×Kd)),rmK (fs.map (·.2))=rmF fs
 | []=>rfl
 |f::r=>by show f.2.rm::rmK (r.map (·.2))=_;rw[uO r];rfl
end
mutual
def Kd.Full:Kd->Prop
 | .num _ _=>True
 | .row k _=>k.Full
 | .rcd fs=>fs≠[]/\w_ fs
 | .cho ks=>ks≠[]/\w9 ks
def w_:List (Str×Kd)->Prop
 | []=>True
 |f::r=>f.2.Full/\w_ r
def w9:List Kd->Prop
 | []=>True
 |k::r=>k.Full/\w9 r
end
theorem yJ:∀{fs:List (Str×Kd)} {i:Nat} {f:Str×Kd},w_ fs->fs[i]? = some f->f.2.Full
 | [],_,_,_,e=>by simp at e
 |k'::r,0,k,h,e=>by simp at e;subst e;exact h.1
 |k'::r,i+1,k,h,e=>yJ (i:=i) h.2 (by simpa using e)
theorem yI:∀{ks:List Kd} {i:Nat} {k:Kd},w9 ks->ks[i]? = some k->k.Full
 | [],_,_,_,e=>by simp at e
 |k'::r,0,k,h,e=>by simp at e;subst e;exact h.1
 |k'::r,i+1,k,h,e=>yI (i:=i) h.2 (by simpa using e)
theorem aFw:∀{fs:List (Str×Kd)} {i:Nat} {f:Str×Kd},okF fs->fs[i]? = some f->f.2.Ok/\f.2.deep<=cX fs
 | [],_,_,_,e=>by simp at e
 |k'::r,0,k,h,e=>by simp at e;subst e;exact⟨h.1,eE _ _⟩
 |k'::r,i+1,k,h,e=>by obtain⟨a,b⟩:=aFw (i:=i) h.2 (by simpa using e);exact⟨a,nzL b (dQ _ _)⟩
theorem d3:∀{fs:List (Str×Kd)} {i:Nat} {f:Str×Kd},fs[i]? = some f->(rmF fs)[i]? = some f.2.rm
 | [],_,_,e=>by simp at e
 |k'::r,0,k,e=>by simp at e;subst e;rfl
 |k'::r,i+1,k,e=>by show(rmF r)[i]? = _;exact d3 (by simpa using e)
theorem aIg{fs:List (Str×Kd)}{n:Nat}(h:okF fs)(hd:cX fs<=n)(hn:n<=12):∀r∈rmF fs,Bd (2^150) r:=λr hr=>(bdF fs h r hr).mono (Int.le_of_lt (aId (nzL hd hn)))
mutual
def Kd.Fit:Kd->Prop
 | .num w m=>1<=w/\w<=8/\(m=1\/m=2\/m=4\/m=8)
 | .row k n=>k.Fit/\1<=n/\n<=20
 | .rcd fs=>qO fs/\1<=fs.length/\fs.length<=8/\(fs.map (·.1)).Nodup
 | .cho ks=>rO ks/\1<=ks.length/\ks.length<=6
def qO:List (Str×Kd)->Prop
 | []=>True
 |f::r=>(Nm f.1/\f.2.Fit)/\qO r
def rO:List Kd->Prop
 | []=>True
 |k::r=>k.Fit/\rO r
end
mutual
theorem Kd.Fit.ok:∀(k:Kd),k.Fit->k.Ok
 | .num w m,h=>by
  obtain⟨a,b,c⟩:=h
  exact⟨a,b,by lia,by lia⟩
 | .row k n,h=>⟨Kd.Fit.ok k h.1,by have:=h.2.1;lia,by have:=h.2.2;lia⟩
 | .rcd fs,h=>⟨vU fs h.1,by have:=h.2.2.1;lia⟩
 | .cho ks,h=>⟨vS ks h.1,by have:=h.2.2;lia⟩
theorem vU:∀(fs:List (Str×Kd)),qO fs->okF fs
 | [],_=>trivial
 |f::r,h=>⟨Kd.Fit.ok f.2 h.1.2,vU r h.2⟩
theorem vS:∀(ks:List Kd),rO ks->okK ks
 | [],_=>trivial
 |k::r,h=>⟨Kd.Fit.ok k h.1,vS r h.2⟩
end
mutual
theorem Kd.Fit.full:∀(k:Kd),k.Fit->k.Full
 | .num w m,h=>trivial
 | .row k n,h=>Kd.Fit.full k h.1
 | .rcd fs,h=>⟨(by intro z;rw[z]at h;exact absurd h.2.1 (by decide)),tE fs h.1⟩
 | .cho ks,h=>⟨(by intro z;rw[z]at h;exact absurd h.2.1 (by decide)),sY ks h.1⟩
theorem tE:∀(fs:List (Str×Kd)),qO fs->w_ fs
 | [],_=>trivial
 |f::r,h=>⟨Kd.Fit.full f.2 h.1.2,tE r h.2⟩
theorem sY:∀(ks:List Kd),rO ks->w9 ks
 | [],_=>trivial
 |k::r,h=>⟨Kd.Fit.full k h.1,sY r h.2⟩
end
theorem tD:∀{fs:List (Str×Kd)} {f:Str×Kd},qO fs->Nm f.1->f.2.Fit->qO (fs++[f])
 | [],_,_,a,b=>⟨⟨a,b⟩,trivial⟩
 |g::r,f,h,a,b=>⟨h.1,tD h.2 a b⟩
theorem sX:∀{ks:List Kd} {k:Kd},rO ks->k.Fit->rO (ks++[k])
 | [],_,_,b=>⟨b,trivial⟩
 |g::r,f,h,b=>⟨h.1,sX h.2 b⟩
theorem qU:∀{fs:List (Str×Kd)} {f:Str×Kd} {n:Nat},cX fs<=n->f.2.deep<=n->cX (fs++[f])<=n
 | [],f,n,_,b=>by show max f.2.deep 0<=n;lia
 |g::r,f,n,h,b=>by
  have h':max g.2.deep (cX r)<=n:=h
  have:=qU (fs:=r) (f:=f) (n:=n) (by lia) b
  show max g.2.deep (cX (r++[f]))<=n
  lia
theorem qT:∀{ks:List Kd} {k:Kd} {n:Nat},dO ks<=n->k.deep<=n->dO (ks++[k])<=n
 | [],f,n,_,b=>by show max f.deep 0<=n;lia
 |g::r,f,n,h,b=>by
  have h':max g.deep (dO r)<=n:=h
  have:=qT (ks:=r) (k:=f) (n:=n) (by lia) b
  show max g.deep (dO (r++[f]))<=n
  lia
def tk:Nat->Int
 | 0=>0
 |n+1=>3000+12*tk n
theorem sD:∀n,0<=tk n
 | 0=>iE _
 |n+1=>by have:=sD n;show 0<=3000+12*tk n;lia
mutual
def Kd.x:Kd->Dx
 | .num w m=>.tup [.str "number",.int w,.int m]
 | .row k n=>.tup [.str "row",k.x,.int n]
 | .rcd fs=>.tup [.str "record",.lst (xF fs)]
 | .cho ks=>.tup [.str "choice",.lst (xK ks)]
def xF:List (Str×Kd)->List Dx
 | []=>[]
 |f::r=>.tup [.str f.1,f.2.x]::xF r
def xK:List Kd->List Dx
 | []=>[]
 |k::r=>k.x::xK r
end
theorem wN:∀fs:List (Str×Kd),xF fs=fs.map λf=>.tup [.str f.1,f.2.x]
 | []=>rfl
 |f::r=>by rw[xF,wN r];rfl
theorem wA:∀ks:List Kd,xK ks=ks.map Kd.x
 | []=>rfl
 |f::r=>by rw[xK,wA r];rfl
mutual
def Dx.deep:Dx->Nat
 | .tup l=>iU l+1
 | .lst l=>iU l+1
 | .dic l=>mW l+1
 |_=>1
def iU:List Dx->Nat
 | []=>0
 |d::r=>max d.deep (iU r)
def mW:List (Key×Dx)->Nat
 | []=>0
 |k::r=>max k.2.deep (mW r)
end
def ApX(l:List (Key×Dx)):Prop:=l.Pairwise λp q=>p.1≠q.1/\fW p.1 q.1=false
theorem j7(a b:Key):fW a b=fW b a:=by
 cases a<;>cases b<;>first | rfl | skip
 rename_i a x b y
 show(!decide (a=b/\x=y)) = !decide (b=a/\y=x)
 rw[decide_eq_decide.mpr (show(a=b/\x=y)↔(b=a/\y=x)from⟨λh=>⟨h.1.symm,h.2.symm⟩,λh=>⟨h.1.symm,h.2.symm⟩⟩)]
theorem j6(a:Key):fW a a=false:=by
 cases a<;>first | rfl | simp[fW]
theorem ApX.nodup{l:List (Key×Dx)}(h:ApX l):(l.map (·.1)).Nodup:=gJ.mpr (h.imp λz=>z.1)
theorem ApX.cl{l:List (Key×Dx)}(h:ApX l){p q:Key×Dx}(hp:p∈l)(hq:q∈l):fW p.1 q.1=false:=by
 induction l with
 |nil=>cases hp
 |cons a l ih =>
  obtain⟨h1,h2⟩:=List.pairwise_cons.mp h
  rcases aE.mp hp with e | B6
  ·rcases aE.mp hq with e' | Kc
   ·rw[e,e'];exact j6 _
   ·rw[e];exact(h1 q Kc).2
  ·rcases aE.mp hq with e' | Kc
   ·rw[e',j7];exact(h1 p B6).2
   ·exact ih h2 B6 Kc
theorem ApX.seek{l:List (Key×Dx)}(h:ApX l){p:Key×Dx}(hp:p∈l):wZ p.1 l=true:=by
 have key:((l.all λq=>! fW q.1 p.1)&&(!p.1.odd||l.any λq=>q.1.odd))=true:=by
  rw[bW]
  refine⟨cO.mpr λq hq=>by rw[h.cl hq hp];rfl,?_⟩
  cases ho:p.1.odd with
  |false=>rfl
  |true=>exact fD.mpr ⟨p,hp,ho⟩
 unfold wZ
 split
 ·rfl
 ·exact key
theorem ApX.put{d r:List (Key×Dx)}{p:Key×Dx}(h:ApX (d++p::r)):pM p.1 d=true:=by
 have hc:(d.all λq=>! fW q.1 p.1)=true:=cO.mpr λq hq=>by rw[h.cl (bF _ hq) (aI _ aA)];rfl
 have hg:(fA d p.1).isNone=true:=by
  have:fA d p.1=none:=by
   unfold fA
   rw[List.find?_eq_none.mpr λq hq=>by
    have:=(List.pairwise_append.mp h).2.2 q hq p aA
    simpa using this.1]
   rfl
  rw[this];rfl
 unfold pM
 rw[hc,hg]
 cases p.1.odd<;>cases(d.any λq=>q.1.odd)<;>rfl
mutual
def Dx.Sz:Dx->Prop
 | .tup l=>l.length<=100000/\szX l
 | .lst l=>l.length<=100000/\szX l
 | .dic l=>l.length<=100000/\ApX l/\aAv l
 | .scr _ _=>False
 | .ins _ _=>False
 | .exc _=>False
 | .pin _ _=>False
 |_=>True
def szX:List Dx->Prop
 | []=>True
 |d::r=>d.Sz/\szX r
def aAv:List (Key×Dx)->Prop
 | []=>True
 |k::r=>k.2.Sz/\aAv r
end
theorem ff_:∀{l:List Dx} {d:Dx},d∈l->d.deep<=iU l
 |e::r,d,h=>by
  show _<=max _ _
  rcases aE.mp h with rfl | h
  ·exact eE _ _
  ·exact nzL (ff_ h) (dQ _ _)
theorem hh_:∀{l:List (Key×Dx)} {p:Key×Dx},p∈l->p.2.deep<=mW l
 |e::r,d,h=>by
  show _<=max _ _
  rcases aE.mp h with rfl | h
  ·exact eE _ _
  ·exact nzL (hh_ h) (dQ _ _)
theorem ez_:∀{l:List Dx} {d:Dx},szX l->d∈l->d.Sz
 |e::r,d,hs,h=>by
  rcases aE.mp h with rfl | h
  ·exact hs.1
  ·exact ez_ hs.2 h
theorem fj_:∀{l:List (Key×Dx)} {p:Key×Dx},aAv l->p∈l->p.2.Sz
 |e::r,d,hs,h=>by
  rcases aE.mp h with rfl | h
  ·exact hs.1
  ·exact fj_ hs.2 h
def Dx.own:Dx->Sv
 | .lst l=>.ol l
 | .dic l=>.od l
 |d=>.tr d
theorem t_(d:Dx):d.own.d=d:=by cases d<;>rfl
def gCP(n:Nat):GC:=λds Q=>∃d,ds=[d]/\d.Sz/\d.deep<=n/\Q d.own
theorem u6{α β:Type}{f:α->β}:∀(l:List α),(l.map λd=>[f d]).flatten=l.map f
 | []=>rfl
 |d::l=>by simp[u6 l]
theorem x5(l:List Dx):[]++(l.map λd=>[d]).flatten=l:=by simp[u6 (f:=λd:Dx=>d)]
theorem pL{l:List (Key×Dx)}{k:Key}{d:Dx}(h:k∉l.map (·.1)):iT l k d=l++[(k,d)]:=by
 unfold iT
 have:(l.any λkv=>decide (kv.1=k))=false:=by
  rw[gK]
  intro kv hkv z
  exact h (by rw[<-of_decide_eq_true z];exact cG (f:=λx:Key×Dx=>x.1) hkv)
 rw[this,if_neg aG]
theorem hf_:∀{l:List (Key×Dx)} {p:Key×Dx},(l.map (·.1)).Nodup->p∈l->fA l p.1=some p.2
 |q::l,p,hn,h=>by
  unfold fA
  rw[gC]
  have Cq:=cN.mp hn
  rcases aE.mp h with rfl | h
  ·rw[dzT rfl];rfl
  ·have Bt:¬ q.1=p.1:=fun z=>Cq.1 (by show q.1∈_; rw [z]; exact cG (f:=fun x:Key×Dx=>x.1) h)
   rw[dzF Bt]
   exact hf_ Cq.2 h
theorem hu_(k:Key):kY (mQ k)=some k:=by cases k<;>rfl
section
variable{f:Addr}{n j:Nat}
theorem aUr(F:Fun K "_law_copy" "_law_copy" dt_ f fd)(Hh:Cal P w K mg base j "_law_copy" AO (spX (gCP n)))(m_isinstance:mg "isinstance" = none)(m_list:mg "list" = none)(m_tuple:mg "tuple" = none)(m_dict:mg "dict" = none) :
  FnOk P w K mg base CX0 (j+1) f fd AO (spX (gCP (n+1))):=by
 refine mG F jW (λds Q h=>by obtain⟨d,rfl,_⟩:=h;rfl) (by decide) λAf A outer s H E hr=>?_
 have Am:=rP hr
 refine⟨_,(dP (gS (mX (oW .list m_isinstance (bP (pv 0)) (mD (v:=.ty "list") rfl m_list hj_ rfl))) (dX (fM (tI (dsc:=aO dt_) (N:=["thing","found","key"]) (tgs:=["one"]) (outs:=[]) (N':=["one"]) (by refine⟨rfl,?_,?_,?_,rfl,?_,?_,?_⟩<;>decide +kernel) (tJ (bP (pv 0))) (λ_ _ _ _ _=>(gF (i:=0) (show(["one"]:List Str).Nodup by decide +kernel) rfl (Or.inl rfl) (.inr rfl))) (nK (n:=1) (i:=0) (by decide)) (tM (by decide)) (λ_ _ _ _ _=>rF) (λ_ _ _ _ _=>(fY Hh (hr.mono (by lia)) (bJ (bP (pv 0)) cI)))))) iF)
  (dP (gS (mX (oW .tuple m_isinstance (bP (pv 0)) (mD (v:=.ty "tuple") rfl m_tuple dq_ rfl))) (dX (fM (ej_ (ja_ K) zA (by rfl) m_tuple dq_ (bJ (tI (dsc:=aO dt_) (N:=["thing","found","key"]) (tgs:=["one"]) (outs:=[]) (N':=["one"]) (by refine⟨rfl,?_,?_,?_,rfl,?_,?_,?_⟩<;>decide +kernel) (aNt (bP (pv 0))) (λ_ _ _ _ _=>(gF (i:=0) (show(["one"]:List Str).Nodup by decide +kernel) rfl (Or.inl rfl) (.inr rfl))) (nK (n:=1) (i:=0) (by decide)) (tM (by decide)) (λ_ _ _ _ _=>rF) (λ_ _ _ _ _=>(fY Hh (hr.mono (by lia)) (bJ (bP (pv 0)) cI)))) cI)))) iF)
  (dP (gS (mX (oW .dict m_isinstance (bP (pv 0)) (mD (v:=.ty "dict") rfl m_dict jd_ rfl))) (dP (gE (i:=1) jW.nd rfl (Or.inl rfl) id_)
  (dP (m7 PassesOwn.never rfl (pv 0) (gF (i:=2) jW.nd rfl (Or.inl rfl)) (nK (n:=99) (i:=2) (by decide)) (dX (i3 λF=>PS.weak (hb_ Am (pv 1) (XE.at (Ex:=dZ) F (bP (pv 2))) (XE.at (Ex:=dZ) F (fY Hh (hr.mono (by lia)) (bJ (eg_ Am (bP (pv 0)) (bP (pv 2)) (λ_ _=>rfl)) cI))) rfl) nX)))
  (dX (fM (dk_ (pv 1)))))) iF)
  (dX (fM (dk_ (pv 0))))))),λds Q h=>?_⟩
 clear Am
 obtain⟨d,rfl,hs,hd,q⟩:=h
 cases d with
 |scr _ _=>simp only[Dx.Sz]at hs
 |ins _ _=>simp only[Dx.Sz]at hs
 |exc _=>simp only[Dx.Sz]at hs
 |pin _ _=>simp only[Dx.Sz]at hs
 |lst l =>
  show l.length<=1000000/\dG 1 (gxN 0) lP (dM (gCP n) (cE (cV 0) eG)) _ l [] []
  simp only[Dx.Sz]at hs
  refine⟨by lia,ix_ (λd=>[d]) (λd hm Ab P p=>?_) (by rw[x5];exact q)⟩
  exact⟨d,rfl,ez_ hs.2 hm,by have:=ff_ hm;simp only[Dx.deep]at hd;lia,by show P (Ab++[d.own.d]) [];rw[t_];exact p⟩
 |tup l =>
  show l.length<=1000000/\dG 1 (gxN 0) lP (dM (gCP n) (cE (cV 0) eG)) _ l [] []
  simp only[Dx.Sz]at hs
  refine⟨by lia,ix_ (λd=>[d]) (λd hm Ab P p=>?_) (by rw[x5];exact q)⟩
  exact⟨d,rfl,ez_ hs.2 hm,by have:=ff_ hm;simp only[Dx.deep]at hd;lia,by show P (Ab++[d.own.d]) [];rw[t_];exact p⟩
 |dic l =>
  simp only[Dx.Sz]at hs
  simp only[Dx.deep]at hd
  show iP _ _ _ (fS l) _
  refine hw_ (λks ρ=>∃done rest x,l=done++rest/\ks=fS rest/\ρ=[vT (.dic l),.v (.od done),x]) (λρ h=>?_) (λk ks ρ K h hk=>?_) ⟨[],l,.un,rfl,rfl,rfl⟩
  ·obtain ⟨done,rest,x,e1,e2,rfl⟩:=h
   have:rest=[]:=by cases rest with | nil=>rfl | cons a b=>simp[fS]at e2
   subst this
   rw[cH]at e1
   subst e1
   exact q
  ·obtain ⟨done,rest,x,e1,e2,rfl⟩:=h
   cases rest with
   |nil=>simp[fS]at e2
   |cons p rest =>
    simp only[fS,aL,List.cons.injEq]at e2
    obtain⟨rfl,rfl⟩:=e2
    have hm:p∈l:=by rw[e1];exact aI _ aA
    have Bw:=hf_ hs.2.1.nodup hm
    have Dl:p.1∉done.map (·.1):=by
     have:=hs.2.1.nodup
     rw[e1,cP,dY]at this
     exact λz=>this.2.2 _ z _ (cG (f:=λx:Key×Dx=>x.1) aA) rfl
    have Ah:done.length<=l.length:=by rw[e1,aK];lia
    have Au:=hk [vT (.dic l),.v (.od (iT done p.1 p.2)),vT (mQ p.1)] ⟨done++[p],rest,vT (mQ p.1),by rw[e1,bN];rfl,rfl,by rw[pL Dl]⟩
    have Dm:K [vT (.dic l),.v (.od (iT done p.1 p.2.own.d)),vT (mQ p.1)]:=by rw[t_];exact Au
    simp only[gxN,n5,dM,cE,eG,xOp,cV,aQ,aS,bC,aZ,Sv.d,aL,bL,dgX,hu_,Bw]
    refine⟨hs.2.1.seek hm,p.2,rfl,fj_ hs.2.2 hm,by have:=hh_ hm;lia,⟨done,rfl⟩,by lia,(e1 ▸ hs.2.1).put,Dm⟩
 |non=>exact q
 |bl b=>exact q
 |int i=>exact q
 |str x=>exact q
end
def PoolX(B:Int)(l:List Dx):Prop:=∃c md st:Int,l=[.int c,.int md,.int st]/\0<=st/\st<=B
theorem PoolX.mono{B C:Int}{l:List Dx}(h:PoolX B l)(hb:B<=C):PoolX C l:=by
 obtain⟨c,md,st,e,h0,h1⟩:=h
 exact⟨c,md,st,e,h0,by lia⟩
def gTK:GB:=λl ds Q=>∃B many:Int,ds=[.int many]/\PoolX B l/\B<2^60/\0<many/\many<2^250/\∀(r:Int) (l':List Dx),0<=r->r<many->PoolX (B+1) l'->Q (.int r) l'
def gLR:GC:=λds Q=>∃n m:Int,ds=[.int n,.int m]/\0<=n/\0<m/\Q (.tr (.int (up n m)))
section
variable{f:Addr}{n j:Nat}
theorem ht_(F:Fun K "_law_take" "_law_take" dc_ f fd):FnOk P w K mg base CX0 1 f fd AC (spB gTK):=by
 refine i5 F dE (λl ds Q h=>by obtain⟨B,m,rfl,_⟩:=h;rfl) (by decide) λAf A outer s H E hr=>?_
 have Ag:=bQ (rP hr)
 refine⟨_,(dP (gS (iH (jJ K Ag) jH (gx_ K (pv 0) dC (λ_ _=>rfl)) dC (bR _)) (dP (gE (i:=2) dE.nd rfl (Or.inl rfl) (ic_ (gx_ K (pv 0) dC (λ_ _=>rfl)) (bP (pv 1))))
  (dP (i3 λF=>PS.weak (gg_ (XE.at (Ex:=dZ) F (nQ (gx_ K (pv 0) dC (λ_ _=>rfl)) (bP (pv 1)))) (mJ (pv 0) (XE.at (Ex:=dZ) F dC) fl_)) nW)
  (dX (fM (dk_ (pv 2)))))) iF)
  (dP (i3 λF=>PS.weak (gg_ (XE.at (Ex:=dZ) F (kG (gx_ K (pv 0) dC (λ_ _=>rfl)) dC)) (mJ (pv 0) (XE.at (Ex:=dZ) F dC) fl_)) nW)
  (dP (gE (i:=3) dE.nd rfl (Or.inl rfl) (gx_ K (pv 0) dC (λ_ _=>rfl)))
  (dP (gE (i:=4) dE.nd rfl (Or.inl rfl) (zS (kG (ic_ (gx_ K (pv 0) dC (λ_ _=>rfl)) dC) dC) (kG (zS dC (bP (pv 3))) dC)))
  (dP (gE (i:=4) dE.nd rfl (Or.inl rfl) (kG (bP (pv 4)) (zS (zS dC (bP (pv 3))) (bP (pv 3)))))
  (dP (gE (i:=4) dE.nd rfl (Or.inl rfl) (ic_ (zS (bP (pv 4)) (bP (pv 4))) dC))
  (dX (fM (ic_ (nQ (ic_ (zS (bP (pv 4)) (kG (bP (pv 4)) dC)) dC) dC) (bP (pv 1))))))))))),λl ds Q h=>?_⟩
 obtain⟨B,many,rfl,⟨c,md,st,rfl,h0,h1⟩,hB,h2,h3,q⟩:=h
 simp only[dU,eZ,xIf,xB,xOp,cV,pA,xC,iL,hW,wP,aNy,ixP,rV,aBl,gIC,eqX,eqS,iS,dS,cY,dL,zG,zH,jY,kU,kS,kQ,kP,kO,kL,kK,kJ,kI,kH,kD,kC,jZ,aQ,aS,bC,aZ,Sv.d,aL,bL,bY,bS,bA,aX,aJ,aV,aU,bG,Nat.reduceAdd,Nat.reduceSub,Nat.reduceLeDiff,true_and,decide_eq_true_eq,cut,gB,back,cF,if_true,↓reduceIte,bU,cL]
 by_cases e:md=1
 ·rw [if_pos e]
  exact⟨h2,⟨h2,h3⟩,q _ _ (eF _ (by lia)) (cW _ h2) ⟨_,_,_,rfl,h0,by lia⟩⟩
 ·rw [if_neg e]
  have a0:(0:Int)<=c%9999999619:=eF _ (by decide)
  have a1:c%9999999619<9999999619:=cW _ (by decide)
  refine⟨by decide,⟨by decide,by lia⟩,⟨by lia,by lia⟩,⟨by decide,by lia⟩,⟨by lia,by lia⟩,?_⟩
  have m1:0<=(c%9999999619+983)*(23*(st+1)+53):=gN (by lia) (by lia)
  have m2:(c%9999999619+983)*(23*(st+1)+53)<=10000000602*(23*(st+1)+53):=bZ (by lia) (by lia)
  have m3:0<=3491*(st+1)*(st+1):=gN (by lia) (by lia)
  have m4:3491*(st+1)*(st+1)<=3491*(st+1)*2^61:=fZ (by lia) (by lia)
  generalize (c%9999999619+983)*(23*(st+1)+53)=A1 at m1 m2 ⊢
  generalize 3491*(st+1)*(st+1)=A2 at m3 m4 ⊢
  refine⟨⟨by lia,by lia⟩,by decide,?_⟩
  have b0:(0:Int)<=(A1+A2)*(A1+A2)%99999999659:=eF _ (by decide)
  have b1:(A1+A2)*(A1+A2)%99999999659<99999999659:=cW _ (by decide)
  generalize (A1+A2)*(A1+A2)%99999999659=B2 at b0 b1 ⊢
  exact⟨⟨by lia,by lia⟩,by decide,⟨by decide,by decide⟩,h2,q _ _ (eF _ (by lia)) (cW _ h2) ⟨_,_,_,rfl,by lia,by lia⟩⟩
theorem aPw(F:Fun K "_law_rounded" "_law_rounded" cw_ f fd):FnOk P w K mg base CX0 1 f fd AE (spX gLR):=by
 refine mG F jU (λds Q h=>by obtain⟨B,m,rfl,_⟩:=h;rfl) (by decide) λAf A outer s H E hr=>?_
 have Ag:=bQ (rP hr)
 refine⟨_,(dP (gE (i:=2) jU.nd rfl (Or.inl rfl) (ic_ (bP (pv 0)) (bP (pv 1))))
  (dP (gS (iH (jJ K Ag) jH (bP (pv 2)) dC (bR _)) (dX (fM (dk_ (pv 0)))) iF)
  (dX (fM (hk_ (kG (bP (pv 0)) (bP (pv 1))) (bP (pv 2))))))),λds Q h=>?_⟩
 obtain⟨n,m,rfl,h0,h1,q⟩:=h
 simp only[dU,eZ,xIf,xB,xOp,cV,pA,xC,iL,hW,rV,gI,gIC,eqX,eqS,iS,dS,cY,dL,zG,zH,jY,kU,kS,kQ,kP,kO,kL,kK,kJ,kI,kH,kD,kC,jZ,aQ,aS,bC,aZ,Sv.d,aL,bL,bY,bS,bA,aX,aJ,aV,aU,bG,Nat.reduceAdd,Nat.reduceSub,Nat.reduceLeDiff,true_and,decide_eq_true_eq,cut,gB,back,cF,if_true,↓reduceIte,bU,cL]
 refine⟨h1,?_⟩
 rw[<-aOb h1]at q
 unfold upL at q
 by_cases e:n%m=0
 ·rw [if_pos e] at q ⊢
  exact q
 ·rw [if_neg e] at q ⊢
  exact q
end
def prD(r:Int×Int):Dx:=.lst [.int r.1,.int r.2]
def gLM(n:Nat):GC:=λds Q=>∃kd:Kd,ds=[kd.x]/\kd.Ok/\kd.Full/\kd.deep<=n/\n<=12/\Q (.ol [.int kd.rm.1,.int kd.rm.2])
theorem aKy{rs:List (Int×Int)}{sel:Int×Int->Int}{d:Int}{Q:Sv->Prop}(Bt:rs≠[])(E8:∀r∈rs,d<=sel r)(q:Q (.tr (.int (fE d (rs.map sel))))):u5 [.lst (rs.map λr=>.int (sel r))] Q:=by
 refine⟨rs.map sel,by rw[eQ];rfl,λz=>Bt (List.map_eq_nil_iff.mp z),λM hM C7=>?_⟩
 obtain⟨r,A0,rfl⟩:=cD.mp hM
 rw[vF (d:=d) hM (E8 r A0) C7]at *
 exact q
theorem aEn:∀fs:List (Str×Kd),(fs.map λf=>prD f.2.rm)=(rmF fs).map prD
 | []=>rfl
 |f::r=>by rw[aL,aEn r];rfl
theorem aEl:∀ks:List Kd,(ks.map λk=>prD k.rm)=(rmK ks).map prD
 | []=>rfl
 |f::r=>by rw[aL,aEl r];rfl
theorem hq_{rs:List (Int×Int)}{sel:Int×Int->Int}{d:Int}{i:Nat}{ρ:En}{Q:Sv->En->Prop}(hl:rs.length<=10)(Bt:rs≠[])(E8:∀r∈rs,d<=sel r)(hj:∀r,([Dx.int r.1,Dx.int r.2]:List Dx)[i]? = some (.int (sel r)))
  {s:Sv} (h3:ρ[3]? = some (.v s)) (hs:s.d=.lst (rs.map prD)) (q:Q (.tr (.int (fE d (rs.map sel)))) (ρ.set 3 (vT (.lst (rs.map prD))))):dM u5 (cE (iA 2 [] (xiL (cV 3)) (gxL [0,1]) lP (cV i)) eG) ρ Q:=by
 simp only[dM,cE,eG,iA,xiL,cV,h3,hs]
 show _/\_
 refine⟨by rw[aC];lia,?_⟩
 refine bz_ prD (λr=>.int (sel r)) (λr hr Ab P p=>?_) ?_
 ·have hi:=hj r
  show(match (([.v (.tr (.int r.1)),.v (.tr (.int r.2))]:En)[i]?)with | some (.v s)=>_ | _=>_)
  match i,hi with
  | 0,hi=>simp only[aQ,Option.some.injEq]at hi;rw[<-hi]at p;exact p
  | 1,hi=>simp only[aQ,aS,Option.some.injEq]at hi;rw[<-hi]at p;exact p
  |i+2,hi=>simp at hi
 ·exact aKy Bt E8 q
theorem qM{j:Nat}{f:Addr}{fd:FuncData}{ps:List Str}{g:GC}(no:∀ds Q,¬g ds Q):FnOk P w K mg base CX0 j f fd ps (spX g):=
 ⟨λvs H Q E h=>by obtain⟨_,ds,Qx,_,_,h,_⟩:=h;exact absurd h (no _ _),λA outer s H args us vs Q E _ _ _ _ h=>by obtain⟨_,ds,Qx,_,_,h,_⟩:=h;exact absurd h (no _ _)⟩
theorem aIz{g:GC}{d:Dx}{t:XT}{ρ:En}{Q:Sv->En->Prop}(h:t ρ λs ρ'=>g [d,s.d] λr=>Q r ρ'):dM g (cE (xC d) (cE t eG)) ρ Q:=h
theorem iO{α:Type}{a b:α}:[a,b].length<=1000000:=by show 2<=1000000;decide
section
variable{f:Addr}{n j:Nat}
theorem aPx(F:Fun K "_law_room" "_law_room" ch_ f fd)(Gw:Cal P w K mg base j "_law_room" AF (spX (gLM n)))(Jx:Cal P w K mg base 1 "_law_rounded" AE (spX gLR))(m_max:mg "max" = none)(hj:1<=j) :
  FnOk P w K mg base CX0 (j+1) f fd AF (spX (gLM (n+1))):=by
 refine mG F dF (λds Q h=>by obtain⟨d,rfl,_⟩:=h;rfl) (by decide) λAf A outer s H E hr=>?_
 have Ag:=bQ (rP hr)
 refine⟨_,(dP (gS (iH (jJ K Ag) jH (eV K (pv 0)) kZ (bR _)) (dX (fM (lH (bJ (eV K (pv 0)) (bJ (eV K (pv 0)) cI))))) iF)
  (dP (gS (iH (jJ K Ag) jH (eV K (pv 0)) kZ (bR _)) (dP (tW (qI (n:=99) (is:=[1,2]) rfl (by decide)) λF=>gg_ (XE.at (Ex:=dZ) F (fY Gw (hr.mono (by lia)) (bJ (eV K (pv 0)) cI))) (d7 rfl (lJ (gF (i:=1) dF.nd rfl (Or.inl rfl)) (lJ (gF (i:=2) dF.nd rfl (Or.inl rfl)) zT))))
  (dX (fM (lH (bJ (zS (eV K (pv 0)) (fY Jx (hr.mono (by lia)) (bJ (bP (pv 1)) (bJ (bP (pv 2)) cI)))) (bJ (bP (pv 2)) cI)))))) iF)
  (dP (gS (iH (jJ K Ag) jH (eV K (pv 0)) kZ (bR _)) (dP (i3 λF=>PS.weak (uS (i:=3) dF.nd rfl rfl (dsc:=aO ch_) (N:=AD) (tgs:=["name","inner"]) (outs:=[]) (N':=["name","inner"]) (by refine⟨rfl,?_,?_,?_,rfl,?_,?_,?_⟩<;>decide +kernel) (XIt.at (Ex:=dZ) F (tJ (eV K (pv 0)))) (λ_ _ _ _ _=>(oE K (n:=2) rfl rfl (lJ (gF (i:=0) (show(["name","inner"]:List Str).Nodup by decide +kernel) rfl (Or.inl rfl) (.inr rfl)) (lJ (gF (i:=1) (show(["name","inner"]:List Str).Nodup by decide +kernel) rfl (Or.inl rfl) (.inr rfl)) zT)))) (nU (bx_ (by decide) (bx_ (by decide) eq_ bw_) (db_ bw_))) (λa b c d e=>XCs.at (Ex:=dZ) F rF) (λa b c d e=>XE.at (Ex:=dZ) F (fY Gw (hr.mono (by lia)) (bJ (bP (pv 1)) cI)))) (c7 (fd_ (n:=2) (is:=[0,1]) rfl (by decide)) (by decide)))
  (dP (gE (i:=4) dF.nd rfl (Or.inl rfl) dC)
  (dX (ex_ PassesOwn.never rfl (tJ (bP (pv 3))) (d7 rfl (lJ (gF (i:=1) dF.nd rfl (Or.inl rfl)) (lJ (gF (i:=5) dF.nd rfl (Or.inl rfl)) zT))) (qI (n:=99) (is:=[1,5]) rfl (by decide)) (dX (gE (i:=4) dF.nd rfl (Or.inl rfl) (kG (fY Jx (hr.mono (by lia)) (bJ (bP (pv 4)) (bJ (bP (pv 5)) cI))) (bP (pv 1))))))))) (dP (i3 λF=>PS.weak (uS (i:=3) dF.nd rfl rfl (dsc:=aO ch_) (N:=AD) (tgs:=["inner"]) (outs:=[]) (N':=["inner"]) (by refine⟨rfl,?_,?_,?_,rfl,?_,?_,?_⟩<;>decide +kernel) (XIt.at (Ex:=dZ) F (tJ (eV K (pv 0)))) (λ_ _ _ _ _=>(gF (i:=0) (show(["inner"]:List Str).Nodup by decide +kernel) rfl (Or.inl rfl) (.inr rfl))) (tM (by decide)) (λa b c d e=>XCs.at (Ex:=dZ) F rF) (λa b c d e=>XE.at (Ex:=dZ) F (fY Gw (hr.mono (by lia)) (bJ (bP (pv 0)) cI)))) (c7 (nK (n:=1) (i:=0) (by decide)) (by decide)))
  (dP (gE (i:=6) dF.nd rfl (Or.inl rfl) (fY Jx (hr.mono (by lia)) (bJ dC (bJ (lO (jb_ K (by rfl)) vZ (by rfl) m_max rA (bJ (tI (dsc:=aO ch_) (N:=AD) (tgs:=AU) (outs:=[]) (N':=AU) (by refine⟨rfl,?_,?_,?_,rfl,?_,?_,?_⟩<;>decide +kernel) (tJ (bP (pv 3))) (λ_ _ _ _ _=>(uW K (n:=2) rfl rfl (lJ (gF (i:=0) (show(["room","multiple"]:List Str).Nodup by decide +kernel) rfl (Or.inl rfl) (.inr rfl)) (lJ (gF (i:=1) (show(["room","multiple"]:List Str).Nodup by decide +kernel) rfl (Or.inl rfl) (.inr rfl)) zT)))) (qI (n:=2) (is:=[0,1]) rfl (by decide)) (uG (bx_ (by decide) (bx_ (by decide) eq_ bw_) (db_ bw_))) (λ_ _ _ _ _=>rF) (λ_ _ _ _ _=>(bP (pv 1)))) cI)) cI))))
  (dX (gE (i:=4) dF.nd rfl (Or.inl rfl) (kG (bP (pv 6)) (lO (jb_ K (by rfl)) vZ (by rfl) m_max rA (bJ (tI (dsc:=aO ch_) (N:=AD) (tgs:=AU) (outs:=[]) (N':=AU) (by refine⟨rfl,?_,?_,?_,rfl,?_,?_,?_⟩<;>decide +kernel) (tJ (bP (pv 3))) (λ_ _ _ _ _=>(uW K (n:=2) rfl rfl (lJ (gF (i:=0) (show(["room","multiple"]:List Str).Nodup by decide +kernel) rfl (Or.inl rfl) (.inr rfl)) (lJ (gF (i:=1) (show(["room","multiple"]:List Str).Nodup by decide +kernel) rfl (Or.inl rfl) (.inr rfl)) zT)))) (qI (n:=2) (is:=[0,1]) rfl (by decide)) (uG (bx_ (by decide) (bx_ (by decide) eq_ bw_) (db_ bw_))) (λ_ _ _ _ _=>rF) (λ_ _ _ _ _=>(bP (pv 0)))) cI))))))))
  (dP (gE (i:=2) dF.nd rfl (Or.inl rfl) (lO (jb_ K (by rfl)) vZ (by rfl) m_max rA (bJ (tI (dsc:=aO ch_) (N:=AD) (tgs:=AU) (outs:=[]) (N':=AU) (by refine⟨rfl,?_,?_,?_,rfl,?_,?_,?_⟩<;>decide +kernel) (tJ (bP (pv 3))) (λ_ _ _ _ _=>(uW K (n:=2) rfl rfl (lJ (gF (i:=0) (show(["room","multiple"]:List Str).Nodup by decide +kernel) rfl (Or.inl rfl) (.inr rfl)) (lJ (gF (i:=1) (show(["room","multiple"]:List Str).Nodup by decide +kernel) rfl (Or.inl rfl) (.inr rfl)) zT)))) (qI (n:=2) (is:=[0,1]) rfl (by decide)) (uG (bx_ (by decide) (bx_ (by decide) eq_ bw_) (db_ bw_))) (λ_ _ _ _ _=>rF) (λ_ _ _ _ _=>(bP (pv 1)))) cI)))
  (dX (fM (lH (bJ (fY Jx (hr.mono (by lia)) (bJ (bP (pv 4)) (bJ (bP (pv 2)) cI))) (bJ (bP (pv 2)) cI))))))))),λds Q h=>?_⟩
 obtain⟨kd,rfl,hk,hf,Ch,hn,q⟩:=h
 cases kd with
 |num wd m=>exact⟨iO,q⟩
 |row k m =>
  have C8:k.deep+1<=n+1:=Ch
  obtain⟨b0,b1,b2,b3⟩:=aSg (n:=n) hk.1 (by lia) (by lia)
  obtain⟨u1,u2⟩:=zK (n:=k.rm.1) (m:=k.rm.2) (by lia)
  have hm:=hk.2
  refine⟨k,rfl,hk.1,hf,by lia,by lia,?_⟩
  exact⟨_,_,rfl,b0,by lia,⟨by lia,by lia⟩,iO,q⟩
 |rcd fs =>
  have C8:cX fs+1<=n+1:=Ch
  have hlf:=hk.2
  have hb:=aIg (n:=n) hk.1 (by lia) (by lia)
  have Fi:(rmF fs).length=fs.length:=aLd fs
  have Bt:rmF fs≠[]:=λz=>hf.1 (List.eq_nil_of_length_eq_zero (by rw[<-Fi,z];rfl))
  obtain⟨x0,x1⟩:=nG hb
  obtain⟨c0,c1⟩:=du_ (e:=0) (by lia) hb
  refine⟨show(xF fs).length<=1000000 by rw[wN,aC];lia,show dG _ _ _ _ _ (xF fs) _ _ from ?_⟩
  rw[wN]
  refine bz_ _ (λf=>prD f.2.rm) (λf Eo Ab P p=>?_) ?_
  ·obtain ⟨i,hi⟩:=List.mem_iff_getElem?.mp Eo
   obtain⟨ok,dk⟩:=aFw hk.1 hi
   exact⟨f.2,rfl,ok,yJ hf.2 hi,by lia,by lia,p⟩
  ·rw [aX,aEn]
   refine cy_ prD (λrest ρ=>∃done y1 y2 y5,rmF fs=done++rest/\ρ=[vT (Kd.rcd fs).x,y1,y2,vT (.lst ((rmF fs).map prD)),vT (.int (dJ 0 done)),y5,.un]) (λρ h=>?_) (λr rest ρ Kn h Au=>?_) ⟨[],.un,.un,.un,rfl,rfl⟩
   ·obtain ⟨done,y1,y2,y5,e1,rfl⟩:=h
    rw[cH]at e1
    rw[<-e1]
    simp only[dU,eZ,iL,xOp,cV,back,gB,cY,dL,bL,aL,bA,aX,aJ,aV,aU,bG,Nat.reduceAdd,Nat.reduceSub,aQ,aS,bC,aZ,Sv.d]
    refine hq_ (i:=1) (sel:=λr=>r.2) (d:=1) (by lia) Bt (λr hr=>(hb r hr).2.2.1) (λ_=>rfl) (by rfl) (by rfl) ?_
    exact⟨_,_,rfl,c0,by lia,iO,q⟩
   ·obtain ⟨done,y1,y2,y5,e1,rfl⟩:=h
    have A0:r∈rmF fs:=by rw[e1];exact aI _ aA
    obtain⟨b0,b1,b2,b3⟩:=hb r A0
    obtain⟨d0,d1⟩:=du_ (e:=0) (rs:=done) (by lia) (λz hz=>hb z (by rw[e1];exact bF _ hz))
    refine⟨_,_,rfl,d0,by lia,Au _ ⟨done++[r],vT (.int r.1),y2,vT (.int r.2),by rw[e1,bN];rfl,by rw[fc_];rfl⟩⟩
 |cho ks =>
  have C8:dO ks+1<=n+1:=Ch
  have hlf:=hk.2
  have hb:=aAk (n:=n) hk.1 (by lia) (by lia)
  have Fi:(rmK ks).length=ks.length:=aLc ks
  have Bt:rmK ks≠[]:=λz=>hf.1 (List.eq_nil_of_length_eq_zero (by rw[<-Fi,z];rfl))
  obtain⟨x0,x1⟩:=nG hb
  obtain⟨u1,u2⟩:=zK (n:=1) (m:=fE 1 ((rmK ks).map (·.2))) (by lia)
  have y0:0<=fE 0 ((rmK ks).map (·.1)):=qA _
  refine⟨show(xK ks).length<=1000000 by rw[wA,aC];lia,show dG _ _ _ _ _ (xK ks) _ _ from ?_⟩
  rw[wA]
  refine bz_ _ (λk=>prD k.rm) (λk Eo Ab P p=>?_) ?_
  ·obtain ⟨i,hi⟩:=List.mem_iff_getElem?.mp Eo
   obtain⟨ok,dk⟩:=aFv hk.1 hi
   exact⟨k,rfl,ok,yI hf.2 hi,by lia,by lia,p⟩
  ·rw [aX,aEl]
   simp only[dU,eZ,iL,xOp,cV,back,gB,cY,dL,bL,aL,bA,aX,aJ,aV,aU,bG,Nat.reduceAdd,Nat.reduceSub,aQ,aS,bC,aZ,Sv.d]
   refine aIz ?_
   refine hq_ (i:=1) (sel:=λr=>r.2) (d:=1) (by lia) Bt (λr hr=>(hb r hr).2.2.1) (λ_=>rfl) (by rfl) (by rfl) ?_
   refine⟨_,_,rfl,by decide,by lia,?_⟩
   simp only[dU,eZ,iL,xOp,cV,back,gB,cY,dL,bL,aL,bA,aX,aJ,aV,aU,bG,Nat.reduceAdd,Nat.reduceSub,aQ,aS,bC,aZ,Sv.d]
   refine hq_ (i:=0) (sel:=λr=>r.1) (d:=0) (by lia) Bt (λr hr=>(hb r hr).1) (λ_=>rfl) (by rfl) (by rfl) ?_
   simp only[dU,eZ,iL,xOp,cV,back,gB,cY,dL,bL,aL,bA,aX,aJ,aV,aU,bG,Nat.reduceAdd,Nat.reduceSub,aQ,aS,bC,aZ,Sv.d]
   refine hq_ (i:=1) (sel:=λr=>r.2) (d:=1) (by lia) Bt (λr hr=>(hb r hr).2.2.1) (λ_=>rfl) (by rfl) (by rfl) ?_
   exact⟨_,_,rfl,by lia,by lia,iO,q⟩
theorem aGc:FnOk P w K mg base CX0 j f fd AF (spX (gLM 0)):=qM λds Q h=>by
 obtain⟨kd,_,_,_,hd,_⟩:=h
 have:=Kd.deep_pos kd
 lia
end
def prT(r:Int×Int):Dx:=.tup [.int r.1,.int r.2]
def gRU:GC:=λds Q=>∃n m:Int,ds=[.int n,.int m]/\0<=n/\n<2^200/\0<m/\m<2^200/\Q (.tr (.int (up n m)))
def gSO:GC:=λds Q=>∃r:Int×Int,ds=[prT r]/\0<=r.1/\r.1<2^200/\0<r.2/\r.2<2^200/\Q (.tr (.int (up r.1 r.2)))
def gCA:GC:=λds Q=>∃m:Int,ds=[.int m]/\0<m/\m<2^200/\Q (.tr (.int (up 1 m)))
def gGM:GC:=λds Q=>∃rs:List (Int×Int),ds=[.lst (rs.map prT)]/\rs.length<=10/\(∀r∈rs,1<=r.2)/\Q (.tr (.int (fE 1 (rs.map (·.2)))))
def gPB:GC:=λds Q=>∃rs:List (Int×Int),ds=[.lst (rs.map prT)]/\rs.length<=10/\(∀r∈rs,Bd (2^150) r)/\Q (.ol ((plcs 0 rs).map Dx.int))
def gRO(n:Nat):GC:=λds Q=>∃kd:Kd,ds=[kd.x]/\kd.Ok/\kd.deep<=n/\n<=12/\Q (.tr (prT kd.rm))
def gRS(n:Nat):GC:=λds Q=>∃ks:List Kd,ds=[.lst (xK ks)]/\okK ks/\dO ks<=n/\ks.length<=10/\n<=12/\Q (.ol ((rmK ks).map prT))
def gRR(n:Nat):GC:=λds Q=>∃(kd:Kd) (m:Int),ds=[kd.x,.int m]/\kd.Ok/\kd.deep<=n/\n<=12/\0<=m/\m<=100/\Q (.tr (prT (m*up kd.rm.1 kd.rm.2,kd.rm.2)))
def gRL(f:List (Int×Int)->Int×Int)(n:Nat):GC:=λds Q=>∃ks:List Kd,ds=[.lst (xK ks)]/\okK ks/\dO ks<=n/\ks.length<=10/\n<=12/\Q (.tr (prT (f (rmK ks))))
def gPO(n:Nat):GC:=λds Q=>∃fs:List (Str×Kd),ds=[.lst (xF fs)]/\okF fs/\cX fs<=n/\fs.length<=10/\n<=12/\Q (.ol ((fs.zip (plcs 0 (rmF fs))).map λx=>.tup [.str x.1.1,.int x.2]))
theorem aMz:∀ks:List Kd,(ks.map λk=>prT k.rm)=(rmK ks).map prT
 | []=>rfl
 |f::r=>by rw[aL,aMz r];rfl
theorem ep_{α β:Type}(f:α->Dx)(g:β->Dx):∀(l:List α) (m:List β),hU (l.map f) (m.map g)=(l.zip m).map λp=>.tup [f p.1,g p.2]
 | [],_=>rfl
 |_::_,[]=>rfl
 |a::l,b::m=>by show _::hU (l.map f) (m.map g)=_;rw[ep_ f g l m];rfl
section
variable{f:Addr}{n j:Nat}
theorem e_(F:Fun K "rounded_up" "rounded_up" ed_ f fd):FnOk P w K mg base CX0 1 f fd AE (spX gRU):=by
 refine mG F rK (λds Q h=>by obtain⟨_,_,rfl,_⟩:=h;rfl) (by decide) λAf A outer s H E hr=>?_
 refine⟨_,(dX (fM (zS (nQ (hk_ (kG (bP (pv 0)) (bP (pv 1))) dC) (bP (pv 1))) (bP (pv 1))))),λds Q h=>?_⟩
 obtain⟨n,m,rfl,h0,h1,h2,h3,q⟩:=h
 have d0:0<=(n+m-1)/m:=Int.ediv_nonneg (by lia) (by lia)
 have d1:(n+m-1)/m<=n+m-1:=Int.ediv_le_self m (by lia)
 refine⟨⟨h2,by lia⟩,⟨?_,by lia⟩,q⟩
 generalize (n+m-1)/m=z at d0 d1
 lia
theorem aFr(F:Fun K "step_of" "step_of" gf_ f fd)(Fu:Cal P w K mg base 1 "rounded_up" AE (spX gRU)):FnOk P w K mg base CX0 2 f fd AX (spX gSO):=by
 refine mG F c8 (λds Q h=>by obtain⟨_,rfl,_⟩:=h;rfl) (by decide) λAf A outer s H E hr=>?_
 refine⟨_,(dX (fM (fY Fu (hr.mono (by lia)) (bJ (eV K (pv 0)) (bJ (eV K (pv 0)) cI))))),λds Q h=>?_⟩
 obtain⟨r,rfl,h0,h1,h2,h3,q⟩:=h
 exact⟨_,_,rfl,h0,h1,h2,h3,q⟩
theorem aFu(F:Fun K "chosen_at" "chosen_at" er_ f fd)(Fu:Cal P w K mg base 1 "rounded_up" AE (spX gRU)):FnOk P w K mg base CX0 2 f fd AY (spX gCA):=by
 refine mG F uK (λds Q h=>by obtain⟨_,rfl,_⟩:=h;rfl) (by decide) λAf A outer s H E hr=>?_
 refine⟨_,(dX (fM (fY Fu (hr.mono (by lia)) (bJ dC (bJ (bP (pv 0)) cI))))),λds Q h=>?_⟩
 obtain⟨m,rfl,h2,h3,q⟩:=h
 exact⟨_,_,rfl,by decide,by decide,h2,h3,q⟩
theorem aQc(F:Fun K "greatest_multiple" "greatest_multiple" bs_ f fd)(m_max:mg "max" = none):FnOk P w K mg base CX0 1 f fd AQ (spX gGM):=by
 refine mG F fs_ (λds Q h=>by obtain⟨_,rfl,_⟩:=h;rfl) (by decide) λAf A outer s H E hr=>?_
 refine⟨_,(dX (fM (tY (by rfl) (by rfl) m_max (bJ (tI (dsc:=aO bs_) (N:=AQ) (tgs:=AX) (outs:=[]) (N':=AX) (by refine⟨rfl,?_,?_,?_,rfl,?_,?_,?_⟩<;>decide +kernel) (tJ (bP (pv 0))) (λ_ _ _ _ _=>(gF (i:=0) (show(["room"]:List Str).Nodup by decide +kernel) rfl (Or.inl rfl) (.inr rfl))) (nK (n:=1) (i:=0) (by decide)) (tM (by decide)) (λ_ _ _ _ _=>rF) (λ_ _ _ _ _=>(eV K (pv 0)))) cI) (uV iY d5)))),λds Q h=>?_⟩
 obtain⟨rs,rfl,hl,h1,q⟩:=h
 refine⟨show(rs.map prT).length<=_ by rw[aC];lia,show dG _ _ _ _ _ (rs.map prT) _ _ from ?_⟩
 refine bz_ prT (λr=>.int r.2) (λr hr Ab P p=>p) ?_
 refine⟨rs.map (·.2),by rw[eQ];rfl,λen=>?_,λM hM C7=>?_⟩
 ·rw[en]at q;exact q
 ·obtain ⟨r,A0,rfl⟩:=cD.mp hM
  rw[<-vF (d:=1) hM (h1 r A0) C7]at q
  exact q
theorem aFt(F:Fun K "places_behind" "places_behind" cv_ f fd)(Fu:Cal P w K mg base 1 "rounded_up" AE (spX gRU)):FnOk P w K mg base CX0 2 f fd AQ (spX gPB):=by
 refine mG F eK (λds Q h=>by obtain⟨_,rfl,_⟩:=h;rfl) (by decide) λAf A outer s H E hr=>?_
 refine⟨_,(dP (gE (i:=1) eK.nd rfl (Or.inl rfl) (lH cI))
  (dP (gE (i:=2) eK.nd rfl (Or.inl rfl) dC)
  (dP (ex_ PassesOwn.never rfl (tJ (bP (pv 0))) (gF (i:=3) eK.nd rfl (Or.inl rfl)) (nK (n:=99) (i:=3) (by decide)) (dP (gE (i:=4) eK.nd rfl (Or.inl rfl) (fY Fu (hr.mono (by lia)) (bJ (bP (pv 2)) (bJ (eV K (pv 3)) cI))))
  (dP (i3 λF=>PS.weak (oA (t7 PySem.F.plainAttrs_list PySem.F.slot_list_append PySem.F.type_list_append im_ (pv 1) (hX (XE.at (Ex:=dZ) F (bP (pv 4))) lZ))) aEe)
  (dX (gE (i:=2) eK.nd rfl (Or.inl rfl) (kG (bP (pv 4)) (eV K (pv 3))))))))
  (dX (fM (dk_ (pv 1))))))),λds Q h=>?_⟩
 obtain⟨rs,rfl,hl,h1,q⟩:=h
 refine⟨eS _,?_⟩
 refine cy_ prT (λrest ρ=>∃done y3 y4,rs=done++rest/\ρ=[vT (.lst (rs.map prT)),.v (.ol ((plcs 0 done).map Dx.int)),vT (.int (dJ 0 done)),y3,y4]) (λρ h=>?_) (λr rest ρ Kn h hk=>?_) ⟨[],.un,.un,rfl,rfl⟩
 ·obtain ⟨done,y3,y4,e1,rfl⟩:=h
  rw[cH]at e1
  subst e1
  exact q
 ·obtain ⟨done,y3,y4,e1,rfl⟩:=h
  obtain⟨b0,b1,b2,b3⟩:=h1 r (by rw[e1];exact aI _ aA)
  have Ah:done.length+(rest.length+1)=rs.length:=by rw[e1,aK,aJ]
  obtain⟨c0,c1⟩:=du_ (e:=0) (rs:=done) (by lia) (λz hz=>h1 z (by rw[e1];exact bF _ hz))
  have c2:(done.length:Int)*(2^150+8)<=10*(2^150+8):=bZ (by lia) (by decide)
  refine⟨_,_,rfl,c0,by lia,by lia,by lia,rfl,by rw[aC,ij_];lia,hk _ ⟨done++[r],vT (prT r),vT (.int (up (dJ 0 done) r.2)),by rw[e1,bN];rfl,?_⟩⟩
  rw[fc_,sM,cP]
  rfl
theorem aFs(F:Fun K "rooms_of" "rooms_of" ek_ f fd)(Gv:Cal P w K mg base j "room_of" AF (spX (gRO n))):FnOk P w K mg base CX0 (j+1) f fd AH (spX (gRS n)):=by
 refine mG F xA (λds Q h=>by obtain⟨_,rfl,_⟩:=h;rfl) (by decide) λAf A outer s H E hr=>?_
 refine⟨_,(dX (fM (tI (dsc:=aO ek_) (N:=AH) (tgs:=AF) (outs:=[]) (N':=AF) (by refine⟨rfl,?_,?_,?_,rfl,?_,?_,?_⟩<;>decide +kernel) (tJ (bP (pv 0))) (λ_ _ _ _ _=>(gF (i:=0) (show(["kind"]:List Str).Nodup by decide +kernel) rfl (Or.inl rfl) (.inr rfl))) (nK (n:=1) (i:=0) (by decide)) (tM (by decide)) (λ_ _ _ _ _=>rF) (λ_ _ _ _ _=>(fY Gv (hr.mono (by lia)) (bJ (bP (pv 0)) cI)))))),λds Q h=>?_⟩
 obtain⟨ks,rfl,hk,hd,hl,hn,q⟩:=h
 refine⟨show(xK ks).length<=_ by rw[wA,aC];lia,show dG _ _ _ _ _ (xK ks) _ _ from ?_⟩
 rw[wA]
 refine bz_ Kd.x (λk=>prT k.rm) (λk hm Ab P p=>?_) ?_
 ·obtain ⟨i,hi⟩:=List.mem_iff_getElem?.mp hm
  obtain⟨ok,dk⟩:=aFv hk hi
  exact⟨k,rfl,ok,by lia,hn,p⟩
 ·rw [aX,aMz]
  exact q
theorem aPn(F:Fun K "room_of_row" "room_of_row" do_ f fd)(Gv:Cal P w K mg base j "room_of" AF (spX (gRO n)))(Lv:Cal P w K mg base 2 "step_of" AX (spX gSO))(hj:2<=j):FnOk P w K mg base CX0 (j+1) f fd ["kind","n"] (spX (gRR n)):=by
 refine mG F jT (λds Q h=>by obtain⟨_,_,rfl,_⟩:=h;rfl) (by decide) λAf A outer s H E hr=>?_
 refine⟨_,(dP (gE (i:=2) jT.nd rfl (Or.inl rfl) (fY Gv (hr.mono (by lia)) (bJ (bP (pv 0)) cI)))
  (dX (fM (x9 (bJ (zS (bP (pv 1)) (fY Lv (hr.mono (by lia)) (bJ (bP (pv 2)) cI))) (bJ (eV K (pv 2)) cI)))))),λds Q h=>?_⟩
 obtain⟨kd,m,rfl,hk,hd,hn,m0,m1,q⟩:=h
 obtain⟨b0,b1,b2,b3⟩:=aSg (n:=n) hk hd hn
 obtain⟨u1,u2⟩:=zK (n:=kd.rm.1) (m:=kd.rm.2) (by lia)
 exact⟨kd,rfl,hk,hd,hn,kd.rm,rfl,b0,by lia,by lia,by lia,⟨by lia,by lia⟩,iO,q⟩
theorem aPr(F:Fun K "room_of_record" "room_of_record" ce_ f fd)(Jg:Cal P w K mg base j "rooms_of" AH (spX (gRS n)))(Md:Cal P w K mg base 1 "greatest_multiple" AQ (spX gGM))(Ly:Cal P w K mg base 2 "places_behind" AQ (spX gPB))(Fu:Cal P w K mg base 1 "rounded_up" AE (spX gRU))(m_max:mg "max" = none)(m_zip:mg "zip" = none)(hj:2<=j) :
  FnOk P w K mg base CX0 (j+1) f fd AH (spX (gRL xL n)):=by
 refine mG F fO (λds Q h=>by obtain⟨_,rfl,_⟩:=h;rfl) (by decide) λAf A outer s H E hr=>?_
 refine⟨_,(dP (gE (i:=1) fO.nd rfl (Or.inl rfl) (fY Jg (hr.mono (by lia)) (bJ (bP (pv 0)) cI)))
  (dP (gE (i:=2) fO.nd rfl (Or.inl rfl) (fY Md (hr.mono (by lia)) (bJ (bP (pv 1)) cI)))
  (dP (i3 λF=>PS.weak (uS (i:=3) fO.nd rfl rfl (dsc:=aO ce_) (N:=["kinds","rooms","multiple","ends"]) (tgs:=["place","room"]) (outs:=[]) (N':=["place","room"]) (by refine⟨rfl,?_,?_,?_,rfl,?_,?_,?_⟩<;>decide +kernel) (XIt.at (Ex:=dZ) F (zV m_zip (bJ (fY Ly (hr.mono (by lia)) (bJ (bP (pv 1)) cI)) (bJ (bP (pv 1)) cI)))) (λ_ _ _ _ _=>(oE K (n:=2) rfl rfl (lJ (gF (i:=0) (show(["place","room"]:List Str).Nodup by decide +kernel) rfl (Or.inl rfl) (.inr rfl)) (lJ (gF (i:=1) (show(["place","room"]:List Str).Nodup by decide +kernel) rfl (Or.inl rfl) (.inr rfl)) zT)))) (nU (bx_ (by decide) (bx_ (by decide) eq_ bw_) (db_ bw_))) (λa b c d e=>XCs.at (Ex:=dZ) F rF) (λa b c d e=>XE.at (Ex:=dZ) F (kG (bP (pv 0)) (eV K (pv 1))))) (c7 (fd_ (n:=2) (is:=[0,1]) rfl (by decide)) (by decide)))
  (dX (fM (x9 (bJ (fY Fu (hr.mono (by lia)) (bJ (tY (by rfl) (by rfl) m_max (bJ (bP (pv 3)) cI) (uV iY d5)) (bJ (bP (pv 2)) cI))) (bJ (bP (pv 2)) cI)))))))),λds Q h=>?_⟩
 obtain⟨ks,rfl,hk,hd,hl,hn,q⟩:=h
 have hb:=aAk hk hd hn
 refine⟨ks,rfl,hk,hd,hl,hn,?_⟩
 generalize Kb:rmK ks=rs at hb q
 have Fi:rs.length<=10:=by rw[<-Kb,aLc];exact hl
 obtain⟨c0,c1⟩:=du_ (e:=0) (by lia) hb
 have c2:(rs.length:Int)*(2^150+8)<=10*(2^150+8):=bZ (by lia) (by decide)
 obtain⟨x0,x1⟩:=nG hb
 refine⟨rs,rfl,Fi,λr hr=>(hb r hr).2.2.1,?_⟩
 refine⟨rs,rfl,Fi,hb,?_⟩
 have Ga:(hU ((plcs 0 rs).map Dx.int) (rs.map prT)).length<=1000000:=by rw[ep_,aC,hZ];lia
 refine⟨Ga,show dG _ _ _ _ _ (hU ((plcs 0 rs).map Dx.int) (rs.map prT)) _ _ from ?_⟩
 rw[ep_]
 refine bz_ _ (λp:Int×(Int×Int)=>Dx.int (p.1+p.2.1)) (λp hp Ab P pp=>pp) ?_
 rw[aX]
 have ez:(((plcs 0 rs).zip rs).map λp=>Dx.int (p.1+p.2.1))=(ends 0 rs).map Dx.int:=by rw[yT,eQ];rfl
 rw[ez]
 refine⟨ends 0 rs,rfl,λen=>?_,λM hM C7=>?_⟩
 ·have:rs=[]:=by
   cases rs with
   |nil=>rfl
   |cons r t=>cases en
  subst this
  exact⟨_,_,rfl,by decide,by decide,by decide,by decide,iO,q⟩
 ·have Bt:rs≠[]:=fun z=>by rw [z] at hM; cases hM
  obtain⟨t1,t2⟩:=yU (e:=0) (λr hr=>⟨(hb r hr).1,by have:=(hb r hr).2.2.1;lia⟩) Bt
  have:M=dJ 0 rs:=Int.le_antisymm (t2 M hM) (C7 _ t1)
  subst this
  exact⟨_,_,rfl,c0,by lia,by lia,by lia,iO,q⟩
theorem aPp(F:Fun K "room_of_choice" "room_of_choice" cf_ f fd)(Jg:Cal P w K mg base j "rooms_of" AH (spX (gRS n)))(Md:Cal P w K mg base 1 "greatest_multiple" AQ (spX gGM))(Me:Cal P w K mg base 2 "chosen_at" AY (spX gCA))(Fu:Cal P w K mg base 1 "rounded_up" AE (spX gRU))(m_max:mg "max" = none)(hj:2<=j) :
  FnOk P w K mg base CX0 (j+1) f fd AH (spX (gRL tH n)):=by
 refine mG F fP (λds Q h=>by obtain⟨_,rfl,_⟩:=h;rfl) (by decide) λAf A outer s H E hr=>?_
 refine⟨_,(dP (gE (i:=1) fP.nd rfl (Or.inl rfl) (fY Jg (hr.mono (by lia)) (bJ (bP (pv 0)) cI)))
  (dP (gE (i:=2) fP.nd rfl (Or.inl rfl) (fY Md (hr.mono (by lia)) (bJ (bP (pv 1)) cI)))
  (dP (gE (i:=3) fP.nd rfl (Or.inl rfl) (tY (by rfl) (by rfl) m_max (bJ (tI (dsc:=aO cf_) (N:=["kinds","rooms","multiple","greatest"]) (tgs:=AX) (outs:=[]) (N':=AX) (by refine⟨rfl,?_,?_,?_,rfl,?_,?_,?_⟩<;>decide +kernel) (tJ (bP (pv 1))) (λ_ _ _ _ _=>(gF (i:=0) (show(["room"]:List Str).Nodup by decide +kernel) rfl (Or.inl rfl) (.inr rfl))) (nK (n:=1) (i:=0) (by decide)) (tM (by decide)) (λ_ _ _ _ _=>rF) (λ_ _ _ _ _=>(eV K (pv 0)))) cI) (uV iY d5)))
  (dX (fM (x9 (bJ (fY Fu (hr.mono (by lia)) (bJ (kG (fY Me (hr.mono (by lia)) (bJ (bP (pv 2)) cI)) (bP (pv 3))) (bJ (bP (pv 2)) cI))) (bJ (bP (pv 2)) cI)))))))),λds Q h=>?_⟩
 obtain⟨ks,rfl,hk,hd,hl,hn,q⟩:=h
 have hb:=aAk hk hd hn
 refine⟨ks,rfl,hk,hd,hl,hn,?_⟩
 generalize Kb:rmK ks=rs at hb q
 have Fi:rs.length<=10:=by rw[<-Kb,aLc];exact hl
 obtain⟨x0,x1⟩:=nG hb
 obtain⟨u1,u2⟩:=zK (n:=1) (m:=fE 1 (rs.map (·.2))) (by lia)
 have y0:0<=fE 0 (rs.map (·.1)):=qA _
 have y1:fE 0 (rs.map (·.1))<=2^150:=oJ (by decide) λz hz=>by obtain⟨r,hr,rfl⟩:=cD.mp hz;exact(hb r hr).2.1
 refine⟨rs,rfl,Fi,λr hr=>(hb r hr).2.2.1,?_⟩
 refine⟨show(rs.map prT).length<=_ by rw[aC];lia,show dG _ _ _ _ _ (rs.map prT) _ _ from ?_⟩
 refine bz_ prT (λr=>.int r.1) (λr hr Ab P p=>p) ?_
 refine⟨rs.map (·.1),by rw[eQ];rfl,λen=>?_,λM hM C7=>?_⟩
 ·have:rs=[]:=List.map_eq_nil_iff.mp en
  subst this
  exact⟨_,rfl,by decide,by decide,_,_,rfl,by decide,by decide,by decide,by decide,iO,q⟩
 ·obtain ⟨r,A0,rfl⟩:=cD.mp hM
  have e:r.1=fE 0 (rs.map (·.1)):=(vF (d:=0) hM (hb r A0).1 C7)
  rw[e]
  exact⟨_,rfl,by lia,by lia,_,_,rfl,by lia,by lia,by lia,by lia,iO,q⟩
theorem aPo(F:Fun K "room_of" "room_of" fa_ f fd)(CRR:Cal P w K mg base j "room_of_row" ["kind","n"] (spX (gRR n)))(CRC:Cal P w K mg base j "room_of_record" AH (spX (gRL xL n)))(CRH:Cal P w K mg base j "room_of_choice" AH (spX (gRL tH n))) :
  FnOk P w K mg base CX0 (j+1) f fd AF (spX (gRO (n+1))):=by
 refine mG F c9 (λds Q h=>by obtain⟨_,rfl,_⟩:=h;rfl) (by decide) λAf A outer s H E hr=>?_
 have Ag:=bQ (rP hr)
 refine⟨_,(dP (gS (iH (jJ K Ag) jH (eV K (pv 0)) kZ (bR _)) (dX (fM (x9 (bJ (eV K (pv 0)) (bJ (eV K (pv 0)) cI))))) iF)
  (dP (gS (iH (jJ K Ag) jH (eV K (pv 0)) kZ (bR _)) (dX (fM (fY CRR (hr.mono (by lia)) (bJ (eV K (pv 0)) (bJ (eV K (pv 0)) cI))))) iF)
  (dP (gS (iH (jJ K Ag) jH (eV K (pv 0)) kZ (bR _)) (dX (fM (fY CRC (hr.mono (by lia)) (bJ (tI (dsc:=aO fa_) (N:=AF) (tgs:=["field"]) (outs:=[]) (N':=["field"]) (by refine⟨rfl,?_,?_,?_,rfl,?_,?_,?_⟩<;>decide +kernel) (tJ (eV K (pv 0))) (λ_ _ _ _ _=>(gF (i:=0) (show(["field"]:List Str).Nodup by decide +kernel) rfl (Or.inl rfl) (.inr rfl))) (nK (n:=1) (i:=0) (by decide)) (tM (by decide)) (λ_ _ _ _ _=>rF) (λ_ _ _ _ _=>(eV K (pv 0)))) cI)))) iF)
  (dX (fM (fY CRH (hr.mono (by lia)) (bJ (eV K (pv 0)) cI))))))),λds Q h=>?_⟩
 obtain⟨kd,rfl,hk,hd,hn,q⟩:=h
 cases kd with
 |num wd m=>exact⟨iO,q⟩
 |row k m =>
  have D9:k.deep+1<=n+1:=hd
  exact⟨k,m,rfl,hk.1,by lia,by lia,hk.2.1,hk.2.2,q⟩
 |rcd fs =>
  have D9:cX fs+1<=n+1:=hd
  have hl:=hk.2
  refine⟨show(xF fs).length<=_ by rw[wN,aC];lia,show dG _ _ _ _ _ (xF fs) _ _ from ?_⟩
  rw[wN]
  refine bz_ _ (λf:Str×Kd=>f.2.x) (λf hm Ab P p=>p) ?_
  refine⟨fs.map (·.2),by rw[aX,wA,eQ];rfl,vB hk.1,by rw[iv_];lia,by rw[aC];exact hl,by lia,?_⟩
  rw[uO]
  exact q
 |cho ks =>
  have D9:dO ks+1<=n+1:=hd
  exact⟨ks,rfl,hk.1,by lia,hk.2,by lia,q⟩
theorem aPs(F:Fun K "places_in_order" "places_in_order" be_ f fd)(Ly:Cal P w K mg base 2 "places_behind" AQ (spX gPB))(Jg:Cal P w K mg base j "rooms_of" AH (spX (gRS n)))(m_zip:mg "zip" = none)(hj:2<=j) :
  FnOk P w K mg base CX0 (j+1) f fd ["fields"] (spX (gPO n)):=by
 refine mG F iC (λds Q h=>by obtain⟨_,rfl,_⟩:=h;rfl) (by decide) λAf A outer s H E hr=>?_
 refine⟨_,(dP (gE (i:=1) iC.nd rfl (Or.inl rfl) (fY Ly (hr.mono (by lia)) (bJ (fY Jg (hr.mono (by lia)) (bJ (tI (dsc:=aO be_) (N:=["fields","places"]) (tgs:=["field"]) (outs:=[]) (N':=["field"]) (by refine⟨rfl,?_,?_,?_,rfl,?_,?_,?_⟩<;>decide +kernel) (tJ (bP (pv 0))) (λ_ _ _ _ _=>(gF (i:=0) (show(["field"]:List Str).Nodup by decide +kernel) rfl (Or.inl rfl) (.inr rfl))) (nK (n:=1) (i:=0) (by decide)) (tM (by decide)) (λ_ _ _ _ _=>rF) (λ_ _ _ _ _=>(eV K (pv 0)))) cI)) cI)))
  (dX (fM (tI (dsc:=aO be_) (N:=["fields","places"]) (tgs:=["field","place"]) (outs:=[]) (N':=["field","place"]) (by refine⟨rfl,?_,?_,?_,rfl,?_,?_,?_⟩<;>decide +kernel) (zV m_zip (bJ (bP (pv 0)) (bJ (bP (pv 1)) cI))) (λ_ _ _ _ _=>(oE K (n:=2) rfl rfl (lJ (gF (i:=0) (show(["field","place"]:List Str).Nodup by decide +kernel) rfl (Or.inl rfl) (.inr rfl)) (lJ (gF (i:=1) (show(["field","place"]:List Str).Nodup by decide +kernel) rfl (Or.inl rfl) (.inr rfl)) zT)))) (fd_ (n:=2) (is:=[0,1]) rfl (by decide)) (nU (bx_ (by decide) (bx_ (by decide) eq_ bw_) (db_ bw_))) (λ_ _ _ _ _=>rF) (λ_ _ _ _ _=>(x9 (bJ (eV K (pv 0)) (bJ (bP (pv 1)) cI)))))))),λds Q h=>?_⟩
 obtain⟨fs,rfl,hk,hd,hl,hn,q⟩:=h
 have hb:=aIg hk hd hn
 have Fi:(rmF fs).length=fs.length:=aLd fs
 refine⟨show(xF fs).length<=_ by rw[wN,aC];lia,show dG _ _ _ _ _ (xF fs) _ _ from ?_⟩
 rw[wN]
 refine bz_ _ (λf:Str×Kd=>f.2.x) (λf hm Ab P p=>p) ?_
 refine⟨fs.map (·.2),by rw[aX,wA,eQ];rfl,vB hk,by rw[iv_];lia,by rw[aC];exact hl,hn,?_⟩
 rw[uO]
 refine⟨rmF fs,rfl,by lia,hb,?_⟩
 have Ga:(hU (fs.map λf=>.tup [.str f.1,f.2.x]) ((plcs 0 (rmF fs)).map Dx.int)).length<=1000000:=by rw[ep_,aC,hZ];lia
 refine⟨Ga,show dG _ _ _ _ _ (hU (fs.map λf=>.tup [.str f.1,f.2.x]) ((plcs 0 (rmF fs)).map Dx.int)) _ _ from ?_⟩
 rw[ep_]
 exact bz_ _ (λp:(Str×Kd)×Int=>Dx.tup [.str p.1.1,.int p.2]) (λp hp Ab P pp=>⟨iO,pp⟩) q
theorem aEk:FnOk P w K mg base CX0 j f fd AF (spX (gRO 0)):=qM λds Q h=>by
 obtain⟨kd,_,_,hd,_⟩:=h
 have:=Kd.deep_pos kd
 lia
end
def gLN:GB:=λl ds Q=>∃B many:Int,ds=[.int many]/\PoolX B l/\0<=many/\many<=12/\B+1000<2^60/\∀(xs:List Str) (l':List Dx),xs.length=many.toNat->xs.Nodup->(∀x∈xs,Nm x)->PoolX (B+200) l'->Q (.lst (xs.map Dx.str)) l'
theorem zN{G:Hp}:∀xs:List Str,All2 (IsX G) (xs.map Dx.str) (xs.map V.str)
 | []=>rfl
 |x::xs=>⟨_,_,rfl,IsX.of_str x,zN xs⟩
theorem zO{G:Hp}:∀xs:List Int,All2 (IsX G) (xs.map Dx.int) (xs.map V.int)
 | []=>rfl
 |x::xs=>⟨_,_,rfl,IsX.of_int x,zO xs⟩
theorem aJw{G H:Hp}{p:Addr}{ws:List V}{l:List Dx}{B:Int}(hp:H p=some (.lst ws))(hl:All2 (IsX G) l ws)(h:PoolX B l):∃md,PoolAt p md B H:=by
 obtain⟨c,md,st,rfl,h0,h1⟩:=h
 obtain⟨_,_,rfl,e1,_,_,rfl,e2,_,_,rfl,e3,rfl⟩:=hl
 cases e1.int_eq;cases e2.int_eq;cases e3.int_eq
 exact⟨md,c,st,hp,h0,h1⟩
theorem aJv{G H:Hp}{p:Addr}{md B:Int}(h:PoolAt p md B H):∃l ws,H p=some (.lst ws)/\All2 (IsX G) l ws/\PoolX B l:=by
 obtain⟨c,st,hp,h0,h1⟩:=h
 exact⟨_,_,hp,zO [c,md,st],c,md,st,rfl,h0,h1⟩
theorem aKu{f:Addr}{fd:FuncData}{j:Nat}(h:FnOk P w K mg base CX0 j f fd AC aUf):FnOk P w K mg base CX0 j f fd AC (spB gLN):=h.imp λvs H Q E=>by
 rintro⟨p,ws,l,vr,Hs,ds,Qx,rfl,hp,h1,D5,hl,h2,⟨B,many,rfl,hP,m0,m1,hB,q⟩,k⟩
 obtain⟨v,rfl,hv⟩:=vY h2
 cases hv.int_eq
 obtain⟨md,hA⟩:=aJw hp hl hP
 refine⟨p,md,B,many,rfl,hA,m0,m1,hB,λa xs H' na ha ha' D0 Dc Fh e Gr=>?_⟩
 obtain⟨l',ws',B6,Ee,Lm⟩:=aJv (G:=hid [p] (ext Hs H H')) Gr
 exact k (.lst (xs.map Dx.str)) (.ref a) l' ws' H' e B6 Ee (IsX.of_lst (vs:=xs.map V.str) (by rw[oV ha,ha'];rfl) (zN xs)) (q xs l' D0 Dc Fh Lm)
theorem oZ{G K:XS}{ρ:En}{D:XD}(M:En->Prop)(h1:∀ρ',M ρ'->K ρ' D)(h2:∀D':XD,(∀ρ',M ρ'->D'.nx ρ')->G ρ D'):dU G K ρ D:=h2 { D with nx:=λρ'=>K ρ' D } h1
theorem mU{i:Nat}{t:XT}{K:XS}{ρ:En}{D:XD}(h:t ρ λs ρ'=>K (ρ'.set i (.v s)) D):dU (iL i t) K ρ D:=h
theorem is_{i:Nat}{s:Sv}{ρ:En}{Q:Sv->En->Prop}(hi:ρ[i]? = some (.v s))(h:Q (.tr s.d) (ρ.set i (vT s.d))):cV i ρ Q:=by
 unfold cV
 rw[hi]
 exact h
theorem aJc(fs:List (Str×Kd))(f:Str×Kd):xF (fs++[f])=xF fs++[.tup [.str f.1,f.2.x]]:=by rw[wN,wN,cP];rfl
theorem aJa(ks:List Kd)(k:Kd):xK (ks++[k])=xK ks++[k.x]:=by rw[wA,wA,cP];rfl
theorem uF{v:Dx}{a b B:Int}(h:v∈[Dx.int a,Dx.int b])(a0:0<=a)(a1:a<B)(b0:0<=b)(b1:b<B):∃z,v=.int z/\0<=z/\z<B:=by
 simp only[aE,bI,or_false]at h
 rcases h with rfl | rfl
 ·exact⟨_,rfl,a0,a1⟩
 ·exact⟨_,rfl,b0,b1⟩
theorem aHc{v:Dx}(h:v∈[Dx.int 1,Dx.int 2,Dx.int 4,Dx.int 8]):∃z,v=.int z/\(z=1\/z=2\/z=4\/z=8):=by
 simp only[aE,bI,or_false]at h
 rcases h with rfl | rfl | rfl | rfl
 ·exact⟨_,rfl,by lia⟩
 ·exact⟨_,rfl,by lia⟩
 ·exact⟨_,rfl,by lia⟩
 ·exact⟨_,rfl,by lia⟩
theorem zR{l:List Dx}{r:Int}{Q:Sv->Prop}(h0:0<=r)(h1:r<l.length)(q:∀d∈l,Q (.tr d)):ixX (.lst l) (.int r) Q:=by
 obtain⟨v,hv,hm⟩:=aIi h0 h1
 show(match atI l r with | some d=>Q (.tr d) | none=>False)
 rw[hv]
 exact q v hm
theorem g8{n:Nat}(h:n<=1000000):n<=1000000:=h
def gLK(n:Nat):GB:=λl ds Q=>∃B d mo:Int,ds=[.int d,.int mo]/\PoolX B l/\8<=mo/\1<=d/\d<=n/\n<=5/\B+tk n<2^60 /\
 ∀(kd:Kd) (l':List Dx),kd.Fit->(kd.deep:Int)<=d->kd.rm.1<=mo->PoolX (B+tk n) l'->Q kd.x l'
section
variable{f:Addr}{n j jM:Nat}
theorem aPy(F:Fun K "_law_kind" "_law_kind" ds_ f fd)(Bg:Cal P w K mg base 1 "_law_take" AC (spB gTK))(CLN:Cal P w K mg base 2 "_law_names" AC (spB gLN))(Gw:Cal P w K mg base jM "_law_room" AF (spX (gLM 5)))(hjM:jM<=j)(hj2:2<=j)
  (Gx:Cal P w K mg base j "_law_kind" AG (spB (gLK n))) (m_range:mg "range" = none) (m_int:mg "int" = none):FnOk P w K mg base CX0 (j+1) f fd AG (spB (gLK (n+1))):=by
 refine i5 F eJ (λl ds Q h=>by obtain⟨B,d,mo,rfl,_⟩:=h;rfl) (by decide) λAf A outer s H E hr=>?_
 have Ag:=bQ (rP hr)
 refine⟨_,(dP (gE (i:=3) eJ.nd rfl (Or.inl rfl) (iV (i:=0) Bg (hr.mono (by lia)) (pv 0) (bJ dC cI)))
  (dP (gE (i:=4) eJ.nd rfl (Or.inl rfl) (x9 (bJ kZ (bJ (kG dC (iV (i:=0) Bg (hr.mono (by lia)) (pv 0) (bJ dC cI))) (bJ (rC K (lH (bJ dC (bJ dC (bJ dC (bJ dC cI))))) (iV (i:=0) Bg (hr.mono (by lia)) (pv 0) (bJ dC cI)) (λ_ _=>rfl)) cI)))))
  (dP (gS (XW.pt (w5 (iH (jJ K Ag) jH (bP (pv 1)) dC (bR _)) (x_ (iH pR pP (bP (pv 3)) dC (bR _))))) (dX (fM (dk_ (pv 4)))) iF)
  (dP (gE (i:=5) eJ.nd rfl (Or.inl rfl) (bP (pv 4)))
  (dP (gS (iH pR pP (bP (pv 3)) dC (bR _)) (dP (gE (i:=6) eJ.nd rfl (Or.inl rfl) (kG dC (rC K (lH (bJ (iV (i:=0) Bg (hr.mono (by lia)) (pv 0) (bJ dC cI)) (bJ (iV (i:=0) Bg (hr.mono (by lia)) (pv 0) (bJ dC cI)) cI))) (iV (i:=0) Bg (hr.mono (by lia)) (pv 0) (bJ dC cI)) (λ_ _=>rfl))))
  (dX (gE (i:=5) eJ.nd rfl (Or.inl rfl) (x9 (bJ kZ (bJ (iV (i:=0) Gx (hr.mono (by lia)) (pv 0) (bJ (hk_ (bP (pv 1)) dC) (bJ (bP (pv 2)) cI))) (bJ (bP (pv 6)) cI))))))) (dX (gS (iH pR pP (bP (pv 3)) dC (bR _)) (dP (gE (i:=6) eJ.nd rfl (Or.inl rfl) (kG dC (rC K (lH (bJ (iV (i:=0) Bg (hr.mono (by lia)) (pv 0) (bJ dC cI)) (bJ (iV (i:=0) Bg (hr.mono (by lia)) (pv 0) (bJ dC cI)) cI))) (ej_ tL aHq (by rfl) m_int rB (bJ (i9 (jJ K Ag) jH (iV (i:=0) Bg (hr.mono (by lia)) (pv 0) (bJ dC cI)) dC (bR _)) cI)) (λ_ _=>rfl))))
  (dX (gE (i:=5) eJ.nd rfl (Or.inl rfl) (x9 (bJ kZ (bJ (tI (dsc:=aO ds_) (N:=AJ) (tgs:=["name"]) (outs:=[0,1,2]) (N':=["name","pool","deep","most"]) (by refine⟨rfl,?_,?_,?_,rfl,?_,?_,?_⟩<;>decide +kernel) (tJ (iV (i:=0) CLN (hr.mono (by lia)) (pv 0) (bJ (bP (pv 6)) cI))) (λ_ _ _ _ _=>(gF (i:=0) (show(["name","pool","deep","most"]:List Str).Nodup by decide +kernel) rfl (Or.inl rfl) (.inr rfl))) (nK (n:=1) (i:=0) (by decide)) (tM (by decide)) (λ_ _ _ _ _=>rF) (λ_ _ _ _ _=>(x9 (bJ (bP (pv 0)) (bJ (iV (i:=1) Gx (hr.mono (by lia)) (pv 1) (bJ (hk_ (bP (pv 2)) dC) (bJ (bP (pv 3)) cI))) cI))))) cI)))))) (dP (gE (i:=6) eJ.nd rfl (Or.inl rfl) (kG dC (rC K (lH (bJ (iV (i:=0) Bg (hr.mono (by lia)) (pv 0) (bJ dC cI)) (bJ (iV (i:=0) Bg (hr.mono (by lia)) (pv 0) (bJ dC cI)) cI))) (iV (i:=0) Bg (hr.mono (by lia)) (pv 0) (bJ dC cI)) (λ_ _=>rfl))))
  (dX (gE (i:=5) eJ.nd rfl (Or.inl rfl) (x9 (bJ kZ (bJ (tI (dsc:=aO ds_) (N:=AJ) (tgs:=["k"]) (outs:=[0,1,2]) (N':=["k","pool","deep","most"]) (by refine⟨rfl,?_,?_,?_,rfl,?_,?_,?_⟩<;>decide +kernel) (dv_ m_range (bJ (bP (pv 6)) cI)) (λ_ _ _ _ _=>(gF (i:=0) (show(["k","pool","deep","most"]:List Str).Nodup by decide +kernel) rfl (Or.inl rfl) (.inr rfl))) (nK (n:=1) (i:=0) (by decide)) (tM (by decide)) (λ_ _ _ _ _=>rF) (λ_ _ _ _ _=>(iV (i:=1) Gx (hr.mono (by lia)) (pv 1) (bJ (hk_ (bP (pv 2)) dC) (bJ (bP (pv 3)) cI))))) cI)))))))))
  (dP (gS (iH aFo aFj (rC K (fY Gw (hr.mono (by lia)) (bJ (bP (pv 5)) cI)) dC (λ_ _=>rfl)) (bP (pv 2)) (bR _)) (dX (fM (dk_ (pv 4)))) iF)
  (dX (fM (dk_ (pv 5)))))))))),λl ds Q h=>?_⟩
 obtain⟨B,d,mo,rfl,hp,Ij,hd1,D7,hn5,hB,q⟩:=h
 have M2:=sD n
 have eT:tk (n+1)=3000+12*tk n:=rfl
 rw[eT]at hB q
 refine⟨rfl,B,7,rfl,hp,by lia,by decide,by decide,λway l1 w0 w1 De=>?_⟩
 refine⟨rfl,_,8,rfl,De,by lia,by decide,by decide,λr2 l2 r20 r21 Cy=>?_⟩
 refine⟨g8 (by decide),rfl,_,4,rfl,Cy,by lia,by decide,by decide,λr3 l3 r30 r31 B9=>?_⟩
 refine zR r30 r31 λv hv=>?_
 obtain⟨m,rfl,hm⟩:=aHc hv
 refine⟨g8 (by show 3<=1000000;decide),?_⟩
 dsimp only
 change dU _ _ [.bw l3,vT (.int d),vT (.int mo),vT (.int way),vT (Kd.num (1+r2) m).x,.un,.un] _
 have fN:(Kd.num (1+r2) m).Fit:=⟨by lia,by lia,hm⟩
 have rN:(Kd.num (1+r2) m).rm.1<=mo:=by show 1+r2<=mo;lia
 have dN:((Kd.num (1+r2) m).deep:Int)<=d:=by show((1:Nat):Int)<=d;lia
 have done:∀{l':List Dx},PoolX (B+(3000+12*tk n)) l'->Q (Kd.num (1+r2) m).x l':=λ{l'} hP=>q _ _ fN dN rN hP
 have Fs:PoolX (B+3) l3:=B9.mono (by lia)
 clear B9 Cy De hv
 generalize Kd.num (1+r2) m=kN at *
 refine nN (λc=>done (Fs.mono (by lia))) (λc=>?_)
 have c':¬d=1:=λz=>c (by rw[z];exact dzT rfl)
 refine nN (λc=>done (Fs.mono (by lia))) (λc2=>?_)
 unfold eZ
 dsimp only
 refine mU (is_ rfl ?_)
 change dU _ _ [.bw l3,vT (.int d),vT (.int mo),vT (.int way),vT kN.x,vT kN.x,.un] _
 refine oZ (λρ=>∃(kd:Kd) (o:Sl) (l':List Dx),ρ=[.bw l',vT (.int d),vT (.int mo),vT (.int way),vT kN.x,vT kd.x,o]/\kd.Fit/\(kd.deep:Int)<=d/\PoolX (B+(3000+12*tk n)) l') ?_ (λD' hD=>?_)
 ·rintro ρ' ⟨kd,o,l',rfl,hF,Ch,Fc⟩
  refine⟨kd,rfl,hF.ok,hF.full,by lia,by decide,?_⟩
  refine nN (λc3=>done Fc) (λc3=>?_)
  have:¬kd.rm.1>mo:=λz=>c3 (dzT z)
  exact q kd l' hF Ch (by lia) Fc
 ·have E8:d - 1=((d - 1).toNat:Int):=by lia
  have T8:∀i:Nat,i<=8->(i:Int)*tk n<=8*tk n:=λi hi=>bZ (by lia) M2
  have Tn:∀i:Nat,0<=(i:Int)*tk n:=λi=>gN (by lia) M2
  have Ts:∀i:Nat,((i+1:Nat):Int)*tk n=(i:Int)*tk n+tk n:=λi=>by push_cast;rw[Int.add_mul,Int.one_mul]
  refine nN (λc3=>?_) (λc3=>nN (λc4=>?_) (λc4=>?_))
  ·-- a row
   refine⟨rfl,_,3,rfl,Fs,by lia,by decide,by decide,λa la a0 a1 Ja=>?_⟩
   refine⟨rfl,_,20,rfl,Ja,by lia,by decide,by decide,λb lb b0 b1 Fb=>?_⟩
   refine⟨iO,rfl,_,2,rfl,Fb,by lia,by decide,by decide,λr lr r0 r1 I9=>zR r0 r1 λv Ez=>?_⟩
   obtain⟨z,rfl,z0,z1⟩:=uF (B:=20) Ez a0 (by lia) b0 b1
   refine⟨rfl,_,d-1,mo,rfl,I9,Ij,by lia,by lia,by lia,by lia,λkd l5 hF Ch Fe Fc=>?_⟩
   refine⟨g8 (by show 3<=1000000;decide),hD _ ⟨.row kd (1+z),vT (.int (1+z)),l5,rfl,⟨hF,by lia,by lia⟩,?_,Fc.mono (by lia)⟩⟩
   show((kd.deep+1:Nat):Int)<=d
   lia
  ·-- a record
   refine⟨rfl,_,4,rfl,Fs,by lia,by decide,by decide,λa la a0 a1 Ja=>?_⟩
   refine⟨rfl,_,8,rfl,Ja,by lia,by decide,by decide,λb lb b0 b1 Fb=>?_⟩
   refine⟨iO,rfl,_,4,rfl,Fb,by lia,by decide,by decide,λr lr r0 r1 I9=>?_⟩
   simp only[xC,eqX,eqS,eG,Sv.d,aL,bL,aGs]
   refine zR (by split<;>decide) (by show _<(2:Int);split<;>decide) λv Ez=>?_
   obtain⟨z,rfl,z0,z1⟩:=uF (B:=8) Ez a0 (by lia) b0 b1
   refine⟨rfl,_,1+z,rfl,I9,by lia,by lia,by lia,λxs l5 D0 Dc Fh Fc=>?_⟩
   have hx8:xs.length<=8:=by lia
   refine⟨by rw[aC];lia,?_⟩
   refine cp_ Dx.str (λrest Ab cs=>∃(fs:List (Str×Kd)) (l':List Dx),xs=fs.map (·.1)++rest/\Ab=xF fs/\cs=[.bw l',vT (.int d),vT (.int mo)]/\qO fs/\cX fs<=(d-1).toNat/\PoolX (B+300+(fs.length:Int)*tk n) l') (λAb cs h=>?_) (λnm rest Ab cs Pn h hk=>?_) ⟨[],l5,rfl,rfl,rfl,trivial,eS _,Fc.mono (by simp;lia)⟩
   ·obtain ⟨fs,l',e1,rfl,rfl,hF,Ch,Cm⟩:=h
    rw[cH]at e1
    have hfl:fs.length=xs.length:=by rw[e1,aC]
    have t8:=T8 fs.length (by lia)
    refine⟨iO,hD _ ⟨.rcd fs,vT (.int (1+z)),l',rfl,⟨hF,by lia,by lia,by rw[<-e1];exact Dc⟩,?_,Cm.mono (by lia)⟩⟩
    show((cX fs+1:Nat):Int)<=d
    lia
   ·obtain ⟨fs,l',e1,rfl,rfl,hF,Ch,Cm⟩:=h
    have hfl:fs.length+(rest.length+1)=xs.length:=by rw[e1,aK,aC,aJ]
    have t8:=T8 fs.length (by lia)
    have ts:=Ts fs.length
    have Km:nm∈xs:=by rw[e1];exact aI _ aA
    refine⟨rfl,_,d-1,mo,rfl,Cm,Ij,by lia,by lia,by lia,by lia,λkd l6 Lo La Fe Es=>⟨iO,hk _ _ ⟨fs++[(nm,kd)],l6,?_,?_,rfl,tD hF (Fh nm Km) Lo,qU Ch (by show kd.deep<=_;lia),Es.mono (by rw[aK];show _<=B+300+((fs.length+1:Nat):Int)*tk n;lia)⟩⟩⟩
    ·rw[e1,cP,bN];rfl
    ·rw[aJc];rfl
  ·-- a choice
   refine⟨rfl,_,3,rfl,Fs,by lia,by decide,by decide,λa la a0 a1 Ja=>?_⟩
   refine⟨rfl,_,6,rfl,Ja,by lia,by decide,by decide,λb lb b0 b1 Fb=>?_⟩
   refine⟨iO,rfl,_,2,rfl,Fb,by lia,by decide,by decide,λr lr r0 r1 I9=>zR r0 r1 λv Ez=>?_⟩
   obtain⟨z,rfl,z0,z1⟩:=uF (B:=6) Ez a0 (by lia) b0 b1
   refine⟨⟨by lia,by lia⟩,by show((List.range _).map _).length<=_;rw[aC,dB];lia,?_⟩
   refine cp_ (λk:Nat=>Dx.int (0+(k:Int))) (λrest Ab cs=>∃(ks:List Kd) (l':List Dx),ks.length+rest.length=(1+z).toNat/\Ab=xK ks/\cs=[.bw l',vT (.int d),vT (.int mo)]/\rO ks/\dO ks<=(d-1).toNat/\PoolX (B+300+(ks.length:Int)*tk n) l') (λAb cs h=>?_) (λnm rest Ab cs Pn h hk=>?_) ⟨[],lr,by rw[dB];simp,rfl,rfl,trivial,eS _,I9.mono (by simp;lia)⟩
   ·obtain ⟨ks,l',e1,rfl,rfl,hF,Ch,Cm⟩:=h
    rw[aV]at e1
    have t8:=T8 ks.length (by lia)
    refine⟨iO,hD _ ⟨.cho ks,vT (.int (1+z)),l',rfl,⟨hF,by lia,by lia⟩,?_,Cm.mono (by lia)⟩⟩
    show((dO ks+1:Nat):Int)<=d
    lia
   ·obtain ⟨ks,l',e1,rfl,rfl,hF,Ch,Cm⟩:=h
    rw[aJ]at e1
    have t8:=T8 ks.length (by lia)
    have ts:=Ts ks.length
    refine⟨rfl,_,d-1,mo,rfl,Cm,Ij,by lia,by lia,by lia,by lia,λkd l6 Lo La Fe Es=>hk _ _ ⟨ks++[kd],l6,by rw[aK,fJ];lia,?_,rfl,sX hF Lo,qT Ch (by show kd.deep<=_;lia),Es.mono (by rw[aK];show _<=B+300+((ks.length+1:Nat):Int)*tk n;lia)⟩⟩
    rw[aJa];rfl
end
mutual
def Kd.vx:Kd->Vd->Dx
 | .num _ _,.num n=>.int n
 | .row k _,.row vs=>.lst (vs.map k.vx)
 | .rcd fs,.rcd vs=>.dic (vxF fs vs)
 | .cho ks,.cho j v=>.tup [.int (j:Int),vxK ks j v]
 |_,_=>.non
def vxF:List (Str×Kd)->List Vd->List (Key×Dx)
 |f::r,v::vs=>(Key.inr f.1,f.2.vx v)::vxF r vs
 |_,_=>[]
def vxK:List Kd->Nat->Vd->Dx
 | [],_,_=>.non
 |k::_,0,v=>k.vx v
 |_::r,j+1,v=>vxK r j v
end
theorem wQ:∀{fs:List (Str×Kd)} {vs:List Vd} {f:Str×Kd} {v:Vd},vs.length=fs.length->vxF (fs++[f]) (vs++[v])=vxF fs vs++[(Key.inr f.1,f.2.vx v)]
 | [],[],f,v,_=>by simp[vxF]
 | [],_::_,_,_,h=>by simp at h
 |_::_,[],_,_,h=>by simp at h
 |g::r,u::vs,f,v,h=>by simp only[bA,vxF];rw[wQ (by simpa using h)]
theorem fi_:∀{fs:List (Str×Kd)} {vs:List Vd},vs.length=fs.length->(vxF fs vs).map (·.1)=fs.map λf=>(Key.inr f.1:Key)
 | [],[],_=>by simp[vxF]
 | [],_::_,h=>by simp at h
 |_::_,[],h=>by simp at h
 |g::r,u::vs,h=>by simp only[vxF,aL];rw[fi_ (by simpa using h)]
theorem aJr{k:Key}{l:List (Key×Dx)}(h:k.odd=false)(h':∀p∈l,p.1.odd=false):pM k l=true:=by
 unfold pM
 rw[h,show(l.any λp=>p.1.odd)=false from gK.mpr λp hp=>by rw[h' p hp];exact aG]
 rfl
theorem aDo{fs:List (Str×Kd)}{vs:List Vd}(h:vs.length=fs.length):∀p∈vxF fs vs,p.1.odd=false:=λp hp=>by
 have:=cG (f:=λx:Key×Dx=>x.1) hp
 rw[fi_ h]at this
 obtain⟨f,_,e⟩:=cD.mp this
 rw[<-e]
 rfl
theorem uB{v:Vd}:∀{ks:List Kd} {j:Nat} {k:Kd},ks[j]? = some k->vxK ks j v=k.vx v
 | [],_,_,e=>by simp at e
 |k'::r,0,k,e=>by simp at e;subst e;simp only[vxK]
 |k'::r,j+1,k,e=>by simp only[vxK];exact uB (j:=j) (by simpa using e)
theorem gc_:∀{fs:List (Str×Kd)} {vs:List Vd},iR fs vs->vs.length=fs.length
 | [],[],_=>rfl
 | [],_::_,h=>by simp[iR]at h
 |_::_,[],h=>by simp[iR]at h
 |f::r,v::vs,h=>by simp only[iR]at h;simp[gc_ h.2]
theorem sB:∀{fs:List (Str×Kd)} {vs:List Vd} {f:Str×Kd} {v:Vd},iR fs vs->f.2.Val v->iR (fs++[f]) (vs++[v])
 | [],[],f,v,_,h=>by simp only[aX,iR];exact⟨h,trivial⟩
 | [],_::_,_,_,h,_=>by simp[iR]at h
 |_::_,[],_,_,h,_=>by simp[iR]at h
 |g::r,u::vs,f,v,h,h'=>by simp only[bA,iR]at h ⊢;exact⟨h.1,sB h.2 h'⟩
theorem n_:∀{ks:List Kd} {j:Nat} {k:Kd} {v:Vd},ks[j]? = some k->k.Val v->uD ks j v
 | [],_,_,_,e,_=>by simp at e
 |k'::r,0,k,v,e,h=>by simp at e;subst e;simp only[uD];exact h
 |k'::r,j+1,k,v,e,h=>by simp only[uD];exact n_ (j:=j) (by simpa using e) h
theorem sZ:∀{fs:List (Str×Kd)} {f:Str×Kd},qO fs->f∈fs->f.2.Fit/\f.2.deep<=cX fs
 |g::r,f,h,hm=>by
  rcases aE.mp hm with rfl | hm
  ·exact⟨h.1.2,eE _ _⟩
  ·exact⟨(sZ h.2 hm).1,nzL (sZ h.2 hm).2 (dQ _ _)⟩
theorem qN:∀{ks:List Kd} {k:Kd},rO ks->k∈ks->k.Fit/\k.deep<=dO ks
 |g::r,f,h,hm=>by
  rcases aE.mp hm with rfl | hm
  ·exact⟨h.1,eE _ _⟩
  ·exact⟨(qN h.2 hm).1,nzL (qN h.2 hm).2 (dQ _ _)⟩
theorem d4{i:Nat}(h:i<=8):(256:Int)^i<=256^8:=by
 have:=Nat.pow_le_pow_right (n:=256) (by decide) h
 exact_mod_cast this
theorem t4{i:Nat}(h:1<=i):(256:Int)<=256^i:=by
 obtain⟨k,rfl⟩:∃k,i=k+1:=⟨i-1,by lia⟩
 rw[Int.pow_succ]
 have:(1:Int)<=256^k:=Int.pow_pos (by decide)
 lia
theorem aBz{v:Dx}{t a b:Int}(h:v∈[Dx.int 0,Dx.int t,Dx.int a,Dx.int b])(ht:0<=t)(a0:0<=a)(a1:a<=t)(b0:0<=b)(b1:b<=t):∃z,v=.int z/\0<=z/\z<=t:=by
 simp only[aE,bI,or_false]at h
 rcases h with rfl | rfl | rfl | rfl
 ·exact⟨_,rfl,by lia,ht⟩
 ·exact⟨_,rfl,ht,by lia⟩
 ·exact⟨_,rfl,a0,a1⟩
 ·exact⟨_,rfl,b0,b1⟩
theorem aLf{l:List Dx}{r:Int}{d:Dx}{Q:Sv->Prop}(h0:0<=r)(h1:l[r.toNat]? = some d)(q:Q (.tr d)):ixX (.lst l) (.int r) Q:=by
 have:=ev_ h1
 rw[Int.toNat_of_nonneg h0]at this
 show(match atI l r with | some d=>Q (.tr d) | none=>False)
 rw[this]
 exact q
def tv:Nat->Int
 | 0=>0
 |n+1=>10+21*tv n
theorem sC:∀n,0<=tv n
 | 0=>iE _
 |n+1=>by have:=sC n;show 0<=10+21*tv n;lia
def gTP:GC:=λds Q=>∃w:Int,ds=[.int w]/\0<=w/\w<=8/\Q (.tr (.int (256^w.toNat-1)))
def gVA(n:Nat):GB:=λl ds Q=>∃(B:Int) (kd:Kd),ds=[kd.x]/\PoolX B l/\kd.Fit/\kd.deep<=n/\n<=5/\B+tv n<2^60/\∀(vd:Vd) (l':List Dx),kd.Val vd->PoolX (B+tv n) l'->Q (kd.vx vd) l'
section
variable{f:Addr}{n j:Nat}
theorem d_(F:Fun K "_law_top" "_law_top" el_ f fd)(m_range:mg "range" = none):FnOk P w K mg base CX0 1 f fd AZ (spX gTP):=by
 refine mG F iZ (λds Q h=>by obtain⟨w,rfl,_⟩:=h;rfl) (by decide) λAf A outer s H E hr=>?_
 refine⟨_,(dP (gE (i:=1) iZ.nd rfl (Or.inl rfl) dC)
  (dP (ex_ PassesOwn.never rfl (dv_ m_range (bJ (bP (pv 0)) cI)) (gF (i:=2) iZ.nd rfl (Or.inl rfl)) (nK (n:=99) (i:=2) (by decide)) (dX (gE (i:=1) iZ.nd rfl (Or.inl rfl) (zS dC (bP (pv 1))))))
  (dX (fM (hk_ (bP (pv 1)) dC))))),λds Q h=>?_⟩
 obtain⟨w,rfl,h0,h8,q⟩:=h
 refine⟨⟨by lia,by lia⟩,?_⟩
 refine cy_ (λk:Nat=>Dx.int (0+(k:Int))) (λrest ρ=>∃(i:Nat) (y:Sl),i+rest.length=w.toNat/\ρ=[vT (.int w),vT (.int (256^i)),y]) (λρ h=>?_) (λk rest ρ Kn h hk=>?_) ⟨0,.un,by rw[dB];simp,rfl⟩
 ·obtain ⟨i,y,e,rfl⟩:=h
  rw[aV,Nat.add_zero]at e
  subst e
  exact q
 ·obtain ⟨i,y,e,rfl⟩:=h
  rw[aJ]at e
  have Ke:=d4 (show i<=8 by lia)
  have hp0:(0:Int)<=256^i:=Int.pow_nonneg (by decide)
  exact⟨⟨by decide,by lia⟩,hk _ ⟨i+1,vT (.int (0+(k:Int))),by lia,by rw[Int.pow_succ,Int.mul_comm];rfl⟩⟩
theorem aPl(F:Fun K "_law_value" "_law_value" dx_ f fd)(Bg:Cal P w K mg base 1 "_law_take" AC (spB gTK))(Je:Cal P w K mg base 1 "_law_top" AZ (spX gTP))(Gu:Cal P w K mg base j "_law_value" AR (spB (gVA n)))(m_range:mg "range" = none)(m_len:mg "len" = none)(h1:1<=j) :
  FnOk P w K mg base CX0 (j+1) f fd AR (spB (gVA (n+1))):=by
 refine i5 F fV (λl ds Q h=>by obtain⟨B,kd,rfl,_⟩:=h;rfl) (by decide) λAf A outer s H E hr=>?_
 have Am:=rP hr
 have Ag:=bQ Am
 refine⟨_,(dP (gS (iH (jJ K Ag) jH (eV K (pv 1)) kZ (bR _)) (dP (gE (i:=2) fV.nd rfl (Or.inl rfl) (fY Je (hr.mono (by lia)) (bJ (eV K (pv 1)) cI)))
  (dX (fM (rC K (lH (bJ dC (bJ (bP (pv 2)) (bJ (iV (i:=0) Bg (hr.mono (by lia)) (pv 0) (bJ dC cI)) (bJ (iV (i:=0) Bg (hr.mono (by lia)) (pv 0) (bJ (kG (bP (pv 2)) dC) cI)) cI))))) (iV (i:=0) Bg (hr.mono (by lia)) (pv 0) (bJ dC cI)) (λ_ _=>rfl))))) iF)
  (dP (gS (iH (jJ K Ag) jH (eV K (pv 1)) kZ (bR _)) (dX (fM (tI (dsc:=aO dx_) (N:=["pool","kind","top","found","name","inner","k"]) (tgs:=["k"]) (outs:=[0,1]) (N':=["k","pool","kind"]) (by refine⟨rfl,?_,?_,?_,rfl,?_,?_,?_⟩<;>decide +kernel) (dv_ m_range (bJ (eV K (pv 1)) cI)) (λ_ _ _ _ _=>(gF (i:=0) (show(["k","pool","kind"]:List Str).Nodup by decide +kernel) rfl (Or.inl rfl) (.inr rfl))) (nK (n:=1) (i:=0) (by decide)) (tM (by decide)) (λ_ _ _ _ _=>rF) (λ_ _ _ _ _=>(iV (i:=1) Gu (hr.mono (by lia)) (pv 1) (bJ (eV K (pv 2)) cI)))))) iF)
  (dP (gS (iH (jJ K Ag) jH (eV K (pv 1)) kZ (bR _)) (dP (gE (i:=3) fV.nd rfl (Or.inl rfl) id_)
  (dP (ex_ PassesOwn.never rfl (tJ (eV K (pv 1))) (hl_ rfl (lJ (gF (i:=4) fV.nd rfl (Or.inl rfl)) (lJ (gF (i:=5) fV.nd rfl (Or.inl rfl)) zT))) (fd_ (n:=99) (is:=[4,5]) rfl (by decide)) (dX (i3 λF=>PS.weak (hb_ Am (pv 3) (XE.at (Ex:=dZ) F (bP (pv 4))) (XE.at (Ex:=dZ) F (iV (i:=0) Gu (hr.mono (by lia)) (pv 0) (bJ (bP (pv 5)) cI))) rfl) nX)))
  (dX (fM (dk_ (pv 3)))))) iF)
  (dP (gE (i:=6) fV.nd rfl (Or.inl rfl) (iV (i:=0) Bg (hr.mono (by lia)) (pv 0) (bJ (lO (rG K) tF (by rfl) m_len PySem.boot_len (bJ (eV K (pv 1)) cI)) cI)))
  (dX (fM (x9 (bJ (bP (pv 6)) (bJ (iV (i:=0) Gu (hr.mono (by lia)) (pv 0) (bJ (rC K (eV K (pv 1)) (bP (pv 6)) (λ_ _=>rfl)) cI)) cI))))))))),λl ds Q h=>?_⟩
 clear Ag Am h1
 obtain⟨B,kd,rfl,hP,As,Ch,hn,hB,q⟩:=h
 have ht0:=sC n
 have eT:tv (n+1)=10+21*tv n:=rfl
 rw[eT]at hB q
 have Tm:∀i:Nat,i<=20->(i:Int)*tv n<=20*tv n:=λi hi=>bZ (by lia) ht0
 have Ts:∀i:Nat,((i+1:Nat):Int)*tv n=(i:Int)*tv n+tv n:=λi=>by push_cast;rw[Int.add_mul,Int.one_mul]
 cases kd with
 |num wd m =>
  obtain⟨a1,a2,_⟩:=As
  have g1:=d4 (show wd.toNat<=8 by lia)
  have g2:=t4 (show 1<=wd.toNat by lia)
  refine⟨wd,rfl,by lia,by lia,?_⟩
  refine⟨rfl,B,256,rfl,hP,by lia,by decide,by decide,λx1 l1 x10 x11 De=>?_⟩
  refine⟨rfl,_,256^wd.toNat-1+1,rfl,De,by lia,by lia,by lia,λx2 l2 x20 x21 Cy=>?_⟩
  refine⟨g8 (by show 4<=1000000;decide),rfl,_,4,rfl,Cy,by lia,by decide,by decide,λx3 l3 x30 x31 B9=>zR x30 x31 λv hv=>?_⟩
  obtain⟨z,rfl,z0,z1⟩:=aBz hv (by lia) x10 (by lia) x20 (by lia)
  exact q (.num z) l3 (by simp only[Kd.Val];exact⟨z0,by lia⟩) (B9.mono (by lia))
 |row k m =>
  obtain⟨f1,m1,m2⟩:=As
  have C8:k.deep+1<=n+1:=Ch
  refine⟨⟨by lia,by lia⟩,by show((List.range _).map _).length<=_;rw[aC,dB];lia,?_⟩
  refine cp_ (λk:Nat=>Dx.int (0+(k:Int))) (λrest Ab cs=>∃(vs:List Vd) (l':List Dx),vs.length+rest.length=m.toNat/\Ab=vs.map k.vx/\cs=[.bw l',.v (.tr (Kd.row k m).x)]/\(∀v∈vs,k.Val v)/\PoolX (B+(vs.length:Int)*tv n) l') (λAb cs h=>?_) (λnm rest Ab cs Pn h hk=>?_) ⟨[],l,by rw[dB];simp,rfl,rfl,(λv hv=>nomatch hv),hP.mono (by simp)⟩
  ·obtain ⟨vs,l',e1,rfl,rfl,hv,Cm⟩:=h
   rw[aV]at e1
   have t8:=Tm vs.length (by lia)
   have:=q (.row vs) l' (by simp only[Kd.Val];exact⟨by lia,hv⟩) (Cm.mono (by lia))
   simp only[Kd.vx]at this
   exact this
  ·obtain ⟨vs,l',e1,rfl,rfl,hv,Cm⟩:=h
   rw[aJ]at e1
   have t8:=Tm vs.length (by lia)
   have ts:=Ts vs.length
   refine⟨rfl,_,k,rfl,Cm,f1,by lia,by lia,by lia,λvd l6 Hw Es=>hk _ _ ⟨vs++[vd],l6,by rw[aK,fJ];lia,by rw[cP];rfl,rfl,λv hm=>?_,Es.mono (by rw[aK];show _<=B+((vs.length+1:Nat):Int)*tv n;lia)⟩⟩
   rcases bK.mp hm with hm | hm
   ·exact hv v hm
   ·rw[aF.mp hm];exact Hw
 |rcd fs =>
  obtain⟨f1,m1,m2,Dc⟩:=As
  have C8:cX fs+1<=n+1:=Ch
  show iP _ _ _ (xF fs) _
  rw[wN]
  refine cy_ _ (λrest ρ=>∃(done:List (Str×Kd)) (vs:List Vd) (l':List Dx) (y4 y5:Sl),fs=done++rest/\ρ=[.bw l',vT (Kd.rcd fs).x,.un,.v (.od (vxF done vs)),y4,y5,.un]/\iR done vs/\PoolX (B+(done.length:Int)*tv n) l') (λρ h=>?_) (λf rest ρ Kn h hk=>?_) ⟨[],[],l,.un,.un,rfl,by simp only[vxF];rfl,by simp only[iR],hP.mono (by simp)⟩
  ·obtain ⟨done,vs,l',y4,y5,e1,rfl,hv,Cm⟩:=h
   rw[cH]at e1
   subst e1
   have t8:=Tm fs.length (by lia)
   have:=q (.rcd vs) l' (by simp only[Kd.Val];exact hv) (Cm.mono (by lia))
   simp only[Kd.vx]at this
   exact this
  ·obtain ⟨done,vs,l',y4,y5,e1,rfl,hv,Cm⟩:=h
   have hm:f∈fs:=by rw[e1];exact aI _ aA
   have Ah:done.length+(rest.length+1)=fs.length:=by rw[e1,aK,aJ]
   obtain⟨ff,fd'⟩:=sZ f1 hm
   have t8:=Tm done.length (by lia)
   have ts:=Ts done.length
   have Ej:=gc_ hv
   have Dl:(Key.inr f.1:Key)∉(vxF done vs).map (·.1):=by
    rw[fi_ Ej]
    intro z
    obtain⟨g,hg,e⟩:=cD.mp z
    rw[e1,cP,dY]at Dc
    exact Dc.2.2 g.1 (cG (f:=λx:Str×Kd=>x.1) hg) f.1 (cG (f:=λx:Str×Kd=>x.1) aA) (Key.inr.inj e)
   have hvx:(vxF done vs).length=done.length:=by have:=congrArg List.length (fi_ Ej);simpa using this
   refine⟨rfl,_,f.2,rfl,Cm,ff,by lia,by lia,by lia,λvd l6 Hw Es=>⟨⟨_,rfl⟩,?_⟩⟩
   refine⟨show(vxF done vs).length<1000000 by lia,aJr rfl (aDo Ej),hk _ ⟨done++[f],vs++[vd],l6,vT (.str f.1),vT f.2.x,by rw[e1,bN];rfl,?_,sB hv Hw,Es.mono (by rw[aK];show _<=B+((done.length+1:Nat):Int)*tv n;lia)⟩⟩
   rw[wQ Ej,<-pL Dl]
   rfl
 |cho ks =>
  obtain⟨f1,m1,m2⟩:=As
  have C8:dO ks+1<=n+1:=Ch
  have hlk:(xK ks).length=ks.length:=by rw[wA,aC]
  refine⟨rfl,B,((xK ks).length:Int),rfl,hP,by lia,by lia,by lia,λr l1 r0 r1 De=>?_⟩
  have A0:r.toNat<ks.length:=by lia
  have Au:=aM A0
  generalize ks[r.toNat]=kc at Au
  obtain⟨kf,kdp⟩:=qN f1 (bB Au)
  have Ew:(xK ks)[r.toNat]? = some kc.x:=by rw[wA,bX,Au];rfl
  refine⟨rfl,?_⟩
  have Db:=ev_ Ew
  rw[Int.toNat_of_nonneg r0]at Db
  simp only[dU,eZ,xIf,xB,xOp,cV,pA,xC,iL,hW,dM,iM,cE,eG,aDj,iQ,mH,iA,xiL,aIx,n5,ixX,rV,eqX,eqS,lV,gxN,gxT,gxs,iS,dS,cY,dL,zG,zH,jY,kU,kS,kQ,kP,kO,kL,kK,kJ,kI,kH,kD,kC,jZ,aQ,aS,bC,aZ,Sv.d,aL,bL,bY,bS,bA,aX,aJ,aV,aU,bG,Nat.reduceAdd,Nat.reduceSub,Nat.reduceLeDiff,true_and,decide_eq_true_eq,cut,gB,back,lP,cF,if_true,↓reduceIte,bU,cL,Kd.x,Db]
  refine⟨_,kc,rfl,De,kf,by lia,by lia,by lia,λvd l6 Hw Es=>?_⟩
  have:=q (.cho r.toNat vd) l6 (by simp only[Kd.Val];exact n_ Au Hw) (Es.mono (by lia))
  simp only[Kd.vx]at this
  rw[uB Au,Int.toNat_of_nonneg r0]at this
  exact this
end
def gSA(n:Nat):GC:=λds Q=>∃d:Dx,ds=[d,d]/\d.Sz/\d.deep<=n/\Q (.tr (.bl true))
theorem hy_:∀l:List Dx,hU l l=l.map λa=>.tup [a,a]
 | []=>rfl
 |a::l=>by show _::hU l l=_;rw[hy_ l];rfl
section
variable{f:Addr}{n j:Nat}
theorem aPm(F:Fun K "_law_same" "_law_same" dd_ f fd)(Jf:Cal P w K mg base j "_law_same" AI (spX (gSA n)))(m_isinstance:mg "isinstance" = none)(m_list:mg "list" = none)(m_tuple:mg "tuple" = none)(m_dict:mg "dict" = none)(m_bool:mg "bool" = none)(m_str:mg "str" = none)(m_len:mg "len" = none)(m_zip:mg "zip" = none) :
  FnOk P w K mg base CX0 (j+1) f fd AI (spX (gSA (n+1))):=by
 refine mG F xD (λds Q h=>by obtain⟨d,rfl,_⟩:=h;rfl) (by decide) λAf A outer s H E hr=>?_
 have Am:=rP hr
 have Ag:=bQ Am
 refine⟨_,(dP (gS (XW.pt (w5 (iH (ft_ K Ag) lF (oW .bool m_isinstance (bP (pv 0)) (mD (v:=.ty "bool") rfl m_bool je_ rfl)) (oW .bool m_isinstance (bP (pv 1)) (mD (v:=.ty "bool") rfl m_bool je_ rfl)) (bR _)) (x_ (iH (ft_ K Ag) lF (oW .tuple m_isinstance (bP (pv 0)) (mD (v:=.ty "tuple") rfl m_tuple dq_ rfl)) (oW .tuple m_isinstance (bP (pv 1)) (mD (v:=.ty "tuple") rfl m_tuple dq_ rfl)) (bR _))))) (dX (fM wM)) iF)
  (dP (gS (XW.pt (aDd (mX (oX .list .tuple m_isinstance (bP (pv 0)) (uX (hX (mD (v:=.ty "list") rfl m_list hj_ rfl) (hX (mD (v:=.ty "tuple") rfl m_tuple dq_ rfl) lZ))))) (m6 (mX (oX .list .tuple m_isinstance (bP (pv 1)) (uX (hX (mD (v:=.ty "list") rfl m_list hj_ rfl) (hX (mD (v:=.ty "tuple") rfl m_tuple dq_ rfl) lZ)))))))) (dX (fM (ey_ (i9 (jJ K Ag) jH (lO (rG K) tF (by rfl) m_len PySem.boot_len (bJ (bP (pv 0)) cI)) (lO (rG K) tF (by rfl) m_len PySem.boot_len (bJ (bP (pv 1)) cI)) (bR _)) (gb_ (i9 (jJ K Ag) jH (tI (dsc:=aO dd_) (N:=AI) (tgs:=["a","b"]) (outs:=[]) (N':=["a","b"]) (by refine⟨rfl,?_,?_,?_,rfl,?_,?_,?_⟩<;>decide +kernel) (aIw (i:=0) (j:=1) m_zip (pv 0) (pv 1)) (λ_ _ _ _ _=>(oE K (n:=2) rfl rfl (lJ (gF (i:=0) (show(["a","b"]:List Str).Nodup by decide +kernel) rfl (Or.inl rfl) (.inr rfl)) (lJ (gF (i:=1) (show(["a","b"]:List Str).Nodup by decide +kernel) rfl (Or.inl rfl) (.inr rfl)) zT)))) (fd_ (n:=2) (is:=[0,1]) rfl (by decide)) (nU (bx_ (by decide) (bx_ (by decide) eq_ bw_) (db_ bw_))) (λ_ _ _ _ _=>(nR (wB (mX (fY Jf (hr.mono (by lia)) (bJ (bP (pv 0)) (bJ (bP (pv 1)) cI))))))) (λ_ _ _ _ _=>dC)) (lH cI) (bR _)))))) iF)
  (dP (gS (XW.pt (aDd (mX (oW .dict m_isinstance (bP (pv 0)) (mD (v:=.ty "dict") rfl m_dict jd_ rfl))) (m6 (mX (oW .dict m_isinstance (bP (pv 1)) (mD (v:=.ty "dict") rfl m_dict jd_ rfl)))))) (dP (gS (XW.pt (w5 (iH (ft_ K Ag) lF (lO (rG K) tF (by rfl) m_len PySem.boot_len (bJ (bP (pv 0)) cI)) (lO (rG K) tF (by rfl) m_len PySem.boot_len (bJ (bP (pv 1)) cI)) (bR _)) (x_ (iH (ft_ K Ag) lF (oY (dsc:=aO dd_) (N:=AI) (tgs:=["key"]) (outs:=[1]) (N':=["key","other"]) (by refine⟨rfl,?_,?_,?_,rfl,?_,?_,?_⟩<;>decide +kernel) (pv 0) (λ_ _ _ _ _=>(gF (i:=0) (show(["key","other"]:List Str).Nodup by decide +kernel) rfl (Or.inl rfl) (.inr rfl))) (nK (n:=1) (i:=0) (by decide)) (tM (by decide)) (λ_ _ _ _ _=>(nR (rW Am (bP (pv 0)) (bP (pv 1)) (by with_unfolding_all rfl)))) (λ_ _ _ _ _=>(bP (pv 0)))) (lH cI) (bR _))))) (dX (fM wM)) iF)
  (dX (fM (i9 (jJ K Ag) jH (oY (dsc:=aO dd_) (N:=AI) (tgs:=["key"]) (outs:=[0,1]) (N':=["key","one","other"]) (by refine⟨rfl,?_,?_,?_,rfl,?_,?_,?_⟩<;>decide +kernel) (pv 0) (λ_ _ _ _ _=>(gF (i:=0) (show(["key","one","other"]:List Str).Nodup by decide +kernel) rfl (Or.inl rfl) (.inr rfl))) (nK (n:=1) (i:=0) (by decide)) (tM (by decide)) (λ_ _ _ _ _=>(nR (wB (mX (fY Jf (hr.mono (by lia)) (bJ (eg_ Am (bP (pv 1)) (bP (pv 0)) (λ_ _=>rfl)) (bJ (eg_ Am (bP (pv 2)) (bP (pv 0)) (λ_ _=>rfl)) cI))))))) (λ_ _ _ _ _=>(bP (pv 0)))) (lH cI) (bR _))))) iF)
  (dX (fM (ey_ (i9 (jJ K Ag) jH (oW .str m_isinstance (bP (pv 0)) (mD (v:=.ty "str") rfl m_str mY rfl)) (oW .str m_isinstance (bP (pv 1)) (mD (v:=.ty "str") rfl m_str mY rfl)) (bR _)) (gb_ (i9 (jJ K Ag) jH (bP (pv 0)) (bP (pv 1)) (bR _))))))))),λds Q h=>?_⟩
 clear Ag Am
 obtain⟨d,rfl,hs,hd,q⟩:=h
 cases d with
 |scr _ _=>simp only[Dx.Sz]at hs
 |ins _ _=>simp only[Dx.Sz]at hs
 |exc _=>simp only[Dx.Sz]at hs
 |pin _ _=>simp only[Dx.Sz]at hs
 |non=>exact q
 |bl b=>show Q (.tr (.bl (decide (b=b))));rw[dzT rfl];exact q
 |int i=>show Q (.tr (.bl (decide (i=i))));rw[dzT rfl];exact q
 |str x=>show Q (.tr (.bl (decide (x=x))));rw[dzT rfl];exact q
 |lst l =>
  simp only[Dx.Sz]at hs
  simp only[Dx.deep]at hd
  show if decide ((l.length:Int)=(l.length:Int))=true then _ else _
  rw[if_pos (dzT rfl)]
  show(hU l l).length<=1000000/\dG _ _ _ _ _ (hU l l) _ _
  rw[hy_]
  refine⟨by rw[aC];lia,cp_ _ (λrest Ab cs=>Ab=[]/\cs=[]/\∀a∈rest,a∈l) (λAb cs h=>?_) (λa rest Ab cs Pn h hk=>?_) ⟨rfl,rfl,λa h=>h⟩⟩
  ·obtain ⟨rfl,rfl,_⟩:=h
   exact⟨by decide,q⟩
  ·obtain ⟨rfl,rfl,h⟩:=h
   have hm:=h a aA
   exact⟨a,rfl,ez_ hs.2 hm,by have:=ff_ hm;lia,hk _ _ ⟨rfl,rfl,λb hb=>h b (aB _ hb)⟩⟩
 |tup l =>
  simp only[Dx.Sz]at hs
  simp only[Dx.deep]at hd
  show if decide ((l.length:Int)=(l.length:Int))=true then _ else _
  rw[if_pos (dzT rfl)]
  show(hU l l).length<=1000000/\dG _ _ _ _ _ (hU l l) _ _
  rw[hy_]
  refine⟨by rw[aC];lia,cp_ _ (λrest Ab cs=>Ab=[]/\cs=[]/\∀a∈rest,a∈l) (λAb cs h=>?_) (λa rest Ab cs Pn h hk=>?_) ⟨rfl,rfl,λa h=>h⟩⟩
  ·obtain ⟨rfl,rfl,_⟩:=h
   exact⟨by decide,q⟩
  ·obtain ⟨rfl,rfl,h⟩:=h
   have hm:=h a aA
   exact⟨a,rfl,ez_ hs.2 hm,by have:=ff_ hm;lia,hk _ _ ⟨rfl,rfl,λb hb=>h b (aB _ hb)⟩⟩
 |dic l =>
  simp only[Dx.Sz]at hs
  simp only[Dx.deep]at hd
  show if(!decide ((l.length:Int)=(l.length:Int)))=true then _ else _
  rw[dzT rfl]
  show l.length<=1000000/\dG _ _ _ _ _ (fS l) _ _
  refine⟨by lia,cp_ (λp:Key×Dx=>mQ p.1) (λrest Ab cs=>Ab=[]/\cs=[vT (.dic l)]/\∀a∈rest,a∈l) (λAb cs h=>?_) (λa rest Ab cs Pn h hk=>?_) ⟨rfl,rfl,λa h=>h⟩⟩
  ·obtain ⟨rfl,rfl,_⟩:=h
   refine⟨by decide,?_⟩
   show l.length<=1000000/\dG _ _ _ _ _ (fS l) _ _
   refine⟨by lia,cp_ (λp:Key×Dx=>mQ p.1) (λrest Ab cs=>Ab=[]/\cs=[vT (.dic l),vT (.dic l)]/\∀a∈rest,a∈l) (λAb cs h=>?_) (λa rest Ab cs Pn h hk=>?_) ⟨rfl,rfl,λa h=>h⟩⟩
   ·obtain ⟨rfl,rfl,_⟩:=h
    exact⟨by decide,q⟩
   ·obtain ⟨rfl,rfl,h⟩:=h
    have hm:=h a aA
    have Bw:=hf_ hs.2.1.nodup hm
    have:=hk [] [vT (.dic l),vT (.dic l)] ⟨rfl,rfl,λb hb=>h b (aB _ hb)⟩
    simp only[pJ,dU,eZ,xIf,xB,xOp,cV,xC,hW,dM,cE,eG,iQ,iA,aOa,xOr,lQ,lB,xIs,dgX,eqX,neX,eqS,lV,gxN,gxT,gxs,iS,dS,cY,dL,zG,zH,jY,kU,kS,kQ,kP,kO,kL,kK,kJ,kI,kH,kD,kC,jZ,aQ,aS,bC,aZ,Sv.d,aL,bL,bY,bS,bA,aX,aJ,aV,aU,bG,Nat.reduceAdd,Nat.reduceSub,Nat.reduceLeDiff,true_and,decide_eq_true_eq,cut,gB,back,lP,cF,if_true,↓reduceIte,bU,cL,hu_,Bw]
    have Mn:=hs.2.1.seek hm
    exact⟨Mn,Mn,a.2,rfl,fj_ hs.2.2 hm,by have:=hh_ hm;lia,this⟩
  ·obtain ⟨rfl,rfl,h⟩:=h
   have hm:=h a aA
   have Bw:=hf_ hs.2.1.nodup hm
   have:=hk [] [vT (.dic l)] ⟨rfl,rfl,λb hb=>h b (aB _ hb)⟩
   simp only[pJ,dU,eZ,xIf,xB,xOp,cV,xC,hW,dM,cE,eG,iQ,iA,aOa,xOr,lQ,lB,xIs,dgX,eqX,neX,eqS,lV,gxN,gxT,gxs,iS,dS,cY,dL,zG,zH,jY,kU,kS,kQ,kP,kO,kL,kK,kJ,kI,kH,kD,kC,jZ,aQ,aS,bC,aZ,Sv.d,aL,bL,bY,bS,bA,aX,aJ,aV,aU,bG,Nat.reduceAdd,Nat.reduceSub,Nat.reduceLeDiff,true_and,decide_eq_true_eq,cut,gB,back,lP,cF,if_true,↓reduceIte,bU,cL,vX,hu_,Bw]
   exact⟨hs.2.1.seek hm,this⟩
end
def whD:Dx->Bool
 | .int _=>true
 |_=>false
def yB:Key->Bool
 | .inr _=>true
 |_=>false
def isN:Nat->Kd->Dx->Bool
 |_+1,.num w _,.int i=>decide (0<=i)&&decide (((Builtin.Int.intBits i:Nat):Int)<=8*w)
 |n+1,.row k m,.lst l=>decide ((l.length:Int)=m)&&l.all (isN n k)
 |n+1,.rcd fs,.dic l=>decide ((l.length:Int)=(fs.length:Int))&&(l.all λp=>yB p.1)&&fs.all λf=>match fA l (Key.inr f.1)with
  |some x=>isN n f.2 x
  |none=>false
 |n+1,.cho ks,.tup [.int j,x]=>decide (0<=j)&&decide (j<(ks.length:Int))&&(match ks[j.toNat]? with
  |some k=>isN n k x
  |none=>false)
 |_,_,_=>false
def gWB:GC:=λds Q=>∃d:Dx,ds=[d]/\sP d/\Q (.tr (.bl (whD d)))
def gIG(n:Nat):GC:=λds Q=>∃(kd:Kd) (d:Dx),ds=[kd.x,d]/\d.Sz/\kd.Ok/\kd.deep<=n/\n<=12/\Q (.tr (.bl (isN n kd d)))
def aVr(n:Nat):GC:=λds Q=>∃(k:Kd) (m:Int) (d:Dx),ds=[k.x,.int m,d]/\d.Sz/\(Kd.row k m).Ok/\k.deep<=n/\n<=12/\Q (.tr (.bl (isN (n+1) (.row k m) d)))
def aVs(n:Nat):GC:=λds Q=>∃(fs:List (Str×Kd)) (d:Dx),ds=[.lst (xF fs),d]/\d.Sz/\(Kd.rcd fs).Ok/\cX fs<=n/\n<=12/\Q (.tr (.bl (isN (n+1) (.rcd fs) d)))
def aVt(n:Nat):GC:=λds Q=>∃(ks:List Kd) (d:Dx),ds=[.lst (xK ks),d]/\d.Sz/\(Kd.cho ks).Ok/\dO ks<=n/\n<=12/\Q (.tr (.bl (isN (n+1) (.cho ks) d)))
theorem oH:∀{fs:List (Str×Kd)} {f:Str×Kd},okF fs->f∈fs->f.2.Ok/\f.2.deep<=cX fs
 |g::r,f,h,hm=>by
  rcases aE.mp hm with rfl | hm
  ·exact⟨h.1,eE _ _⟩
  ·exact⟨(oH h.2 hm).1,nzL (oH h.2 hm).2 (dQ _ _)⟩
theorem oG:∀{ks:List Kd} {k:Kd},okK ks->k∈ks->k.Ok/\k.deep<=dO ks
 |g::r,k,h,hm=>by
  rcases aE.mp hm with rfl | hm
  ·exact⟨h.1,eE _ _⟩
  ·exact⟨(oG h.2 hm).1,nzL (oG h.2 hm).2 (dQ _ _)⟩
theorem oP{l:List (Key×Dx)}{k:Key}{d:Dx}(h:fA l k=some d):(k,d)∈l:=by
 unfold fA at h
 obtain⟨p,h1,h2⟩:=cQ.mp h
 have h3:=List.mem_of_find?_eq_some h1
 have h4:=List.find?_some h1
 have h5:p.1=k:=by simpa using h4
 rw[<-h5,<-h2]
 exact h3
theorem aMx{d:Dx}(h:d.Sz):sP d:=by cases d<;>simp only[Dx.Sz]at h<;>first | exact h.elim | trivial
section
variable{f:Addr}{n j:Nat}
theorem aPk(F:Fun K "is_whole" "is_whole" fm_ f fd)(m_isinstance:mg "isinstance" = none)(m_int:mg "int" = none)(m_bool:mg "bool" = none):FnOk P w K mg base CX0 1 f fd AO (spX gWB):=by
 refine mG F xE (λds Q h=>by obtain⟨_,rfl,_⟩:=h;rfl) (by decide) λAf A outer s H E hr=>?_
 refine⟨_,(dX (fM (ey_ (oW .int m_isinstance (bP (pv 0)) (mD (v:=.ty "int") rfl m_int rB rfl)) (gb_ (zW (oW .bool m_isinstance (bP (pv 0)) (mD (v:=.ty "bool") rfl m_bool je_ rfl))))))),λds Q h=>?_⟩
 obtain⟨d,rfl,hd,q⟩:=h
 cases d<;>first | exact q | exact hd.elim
theorem aKk(F:Fun K "is_row_value" "is_row_value" co_ f fd)(Gz:Cal P w K mg base j "is_value" AB (spX (gIG n)))(m_isinstance:mg "isinstance" = none)(m_list:mg "list" = none)(m_len:mg "len" = none)(m_all:mg "all" = none):FnOk P w K mg base CX0 (j+1) f fd AL (spX (aVr n)):=by
 refine mG F ih_ (λds Q h=>by obtain⟨_,_,_,rfl,_⟩:=h;rfl) (by decide) λAf A outer s H E hr=>?_
 have Am:=rP hr
 have Ag:=bQ Am
 refine⟨_,(dP (gS (XW.pt (w5 (wB (mX (oW .list m_isinstance (bP (pv 2)) (mD (v:=.ty "list") rfl m_list hj_ rfl)))) (x_ (iH (ft_ K Ag) lF (lO (rG K) tF (by rfl) m_len PySem.boot_len (bJ (bP (pv 2)) cI)) (bP (pv 1)) (bR _))))) (dX (fM wM)) iF)
  (dX (fM (lO (jc_ K (by rfl)) j0 (by rfl) m_all k4 (bJ (tI (dsc:=aO co_) (N:=AL) (tgs:=["each"]) (outs:=[0]) (N':=["each","kind"]) (by refine⟨rfl,?_,?_,?_,rfl,?_,?_,?_⟩<;>decide +kernel) (tJ (bP (pv 2))) (λ_ _ _ _ _=>(gF (i:=0) (show(["each","kind"]:List Str).Nodup by decide +kernel) rfl (Or.inl rfl) (.inr rfl))) (nK (n:=1) (i:=0) (by decide)) (tM (by decide)) (λ_ _ _ _ _=>rF) (λ_ _ _ _ _=>(fY Gz (hr.mono (by lia)) (bJ (bP (pv 1)) (bJ (bP (pv 0)) cI))))) cI))))),λds Q h=>?_⟩
 clear Ag Am
 obtain⟨k,m,d,rfl,hs,hok,hd,hn,q⟩:=h
 cases d with
 |lst l =>
  simp only[Dx.Sz]at hs
  show if(!decide ((l.length:Int)=m))=true then _ else _
  by_cases hm:(l.length:Int)=m
  ·rw [dzT hm]
   simp only[isN,dzT hm,dI]at q
   refine⟨show l.length<=_ by lia,show dG _ _ _ _ _ l _ _ from ?_⟩
   have el:l=l.map id:=by rw[List.map_id]
   rw[el]
   refine bz_ id (λa:Dx=>.bl (isN n k a)) (λa ha Ab P pp=>?_) ?_
   ·exact⟨k,a,rfl,ez_ hs.2 ha,hok.1,hd,hn,pp⟩
   ·rw [aX]
    refine⟨l.map (isN n k),?_,?_⟩
    ·rw[eQ];rfl
    ·rw[List.all_map];exact q
  ·rw [dzF hm]
   simp only[isN,dzF hm,cM]at q
   exact q
 |scr _ _=>simp only[Dx.Sz]at hs
 |ins _ _=>simp only[Dx.Sz]at hs
 |exc _=>simp only[Dx.Sz]at hs
 |_=>exact q
theorem aKl(F:Fun K "is_record_value" "is_record_value" br_ f fd)(Gz:Cal P w K mg base j "is_value" AB (spX (gIG n)))(m_isinstance:mg "isinstance" = none)(m_dict:mg "dict" = none)(m_str:mg "str" = none)(m_len:mg "len" = none)(m_all:mg "all" = none):FnOk P w K mg base CX0 (j+1) f fd AK (spX (aVs n)):=by
 refine mG F gd_ (λds Q h=>by obtain⟨_,_,rfl,_⟩:=h;rfl) (by decide) λAf A outer s H E hr=>?_
 have Am:=rP hr
 have Ag:=bQ Am
 refine⟨_,(dP (gS (XW.pt (w5 (wB (mX (oW .dict m_isinstance (bP (pv 1)) (mD (v:=.ty "dict") rfl m_dict jd_ rfl)))) (x_ (iH (ft_ K Ag) lF (lO (rG K) tF (by rfl) m_len PySem.boot_len (bJ (bP (pv 1)) cI)) (lO (rG K) tF (by rfl) m_len PySem.boot_len (bJ (bP (pv 0)) cI)) (bR _))))) (dX (fM wM)) iF)
  (dP (gS (wB (mX (lO (jc_ K (by rfl)) j0 (by rfl) m_all k4 (bJ (oY (dsc:=aO br_) (N:=AK) (tgs:=["key"]) (outs:=[]) (N':=["key"]) (by refine⟨rfl,?_,?_,?_,rfl,?_,?_,?_⟩<;>decide +kernel) (pv 1) (λ_ _ _ _ _=>(gF (i:=0) (show(["key"]:List Str).Nodup by decide +kernel) rfl (Or.inl rfl) (.inr rfl))) (nK (n:=1) (i:=0) (by decide)) (tM (by decide)) (λ_ _ _ _ _=>rF) (λ_ _ _ _ _=>(oW .str m_isinstance (bP (pv 0)) (mD (v:=.ty "str") rfl m_str mY rfl)))) cI)))) (dX (fM wM)) iF)
  (dX (fM (lO (jc_ K (by rfl)) j0 (by rfl) m_all k4 (bJ (tI (dsc:=aO br_) (N:=AK) (tgs:=["field"]) (outs:=[1]) (N':=["field","thing"]) (by refine⟨rfl,?_,?_,?_,rfl,?_,?_,?_⟩<;>decide +kernel) (tJ (bP (pv 0))) (λ_ _ _ _ _=>(gF (i:=0) (show(["field","thing"]:List Str).Nodup by decide +kernel) rfl (Or.inl rfl) (.inr rfl))) (nK (n:=1) (i:=0) (by decide)) (tM (by decide)) (λ_ _ _ _ _=>rF) (λ_ _ _ _ _=>(ey_ (aNw Am (eV K (pv 0)) (bP (pv 1)) (by with_unfolding_all rfl)) (gb_ (fY Gz (hr.mono (by lia)) (bJ (eV K (pv 0)) (bJ (eg_ Am (bP (pv 1)) (eV K (pv 0)) (λ_ _=>rfl)) cI))))))) cI)))))),λds Q h=>?_⟩
 clear Ag Am
 obtain⟨fs,d,rfl,hs,hok,hd,hn,q⟩:=h
 cases d with
 |dic kvs =>
  simp only[Dx.Sz]at hs
  have hm:=hok.2
  have D0:(xF fs).length=fs.length:=by rw[wN,aC]
  show if(!decide ((kvs.length:Int)=((xF fs).length:Int)))=true then _ else _
  rw[D0]
  by_cases he:(kvs.length:Int)=(fs.length:Int)
  ·rw [dzT he]
   simp only[isN,dzT he,dI]at q
   refine⟨show kvs.length<=_ by lia,show dG _ _ _ _ _ (fS kvs) _ _ from ?_⟩
   refine bz_ (λp:Key×Dx=>mQ p.1) (λp=>.bl (yB p.1)) (λp hp Ab P pp=>?_) ?_
   ·obtain ⟨k,x⟩:=p
    cases k<;>exact pp
   rw[aX]
   simp only[eG,aL,bL,Sv.d]
   refine⟨kvs.map λp=>yB p.1,by rw[eQ];rfl,?_⟩
   rw[List.all_map]
   show if(!(kvs.all (id ∘ λp=>yB p.1)))=true then _ else _
   rw[show(id ∘ λp:Key×Dx=>yB p.1)=λp=>yB p.1 from rfl]
   cases Ar:kvs.all λp=>yB p.1 with
   |false =>
    rw[Ar,cM]at q
    exact q
   |true =>
    rw[Ar,dI]at q
    refine⟨show(xF fs).length<=_ by lia,show dG _ _ _ _ _ (xF fs) _ _ from ?_⟩
    rw[wN]
    refine bz_ _ (λf:Str×Kd=>.bl (match fA kvs (Key.inr f.1)with | some x=>isN n f.2 x | none=>false)) (λp hp Ab P pp=>?_) ?_
    ·obtain ⟨o1,o3⟩:=oH hok.1 hp
     cases hg:fA kvs (Key.inr p.1)with
     |none =>
      rw[hg]at pp
      simp only[pJ,dU,eZ,xIf,xB,xOp,cV,xC,hW,dM,cE,eG,iA,xiL,xOr,lQ,lB,xIs,ixX,dgX,neX,eqS,lV,gxN,iS,dS,cY,dL,zG,zH,jY,kU,kS,kQ,kP,kO,kL,kK,kJ,kI,kH,kD,kC,jZ,aQ,aS,bC,aZ,Sv.d,aL,bL,bY,bS,bA,aX,aJ,aV,aU,bG,Nat.reduceAdd,Nat.reduceSub,Nat.reduceLeDiff,true_and,decide_eq_true_eq,cut,gB,back,lP,cF,if_true,↓reduceIte,bU,cL,vX,kY,hg]
      exact⟨rfl,pp⟩
     |some x =>
      rw[hg]at pp
      simp only[pJ,dU,eZ,xIf,xB,xOp,cV,xC,hW,dM,cE,eG,iA,xiL,xOr,lQ,lB,xIs,ixX,dgX,neX,eqS,lV,gxN,iS,dS,cY,dL,zG,zH,jY,kU,kS,kQ,kP,kO,kL,kK,kJ,kI,kH,kD,kC,jZ,aQ,aS,bC,aZ,Sv.d,aL,bL,bY,bS,bA,aX,aJ,aV,aU,bG,Nat.reduceAdd,Nat.reduceSub,Nat.reduceLeDiff,true_and,decide_eq_true_eq,cut,gB,back,lP,cF,if_true,↓reduceIte,bU,cL,vX,kY,hg]
      exact⟨rfl,rfl,p.2,x,rfl,fj_ hs.2.2 (oP hg),o1,by lia,hn,pp⟩
    ·rw [aX]
     refine⟨fs.map λf=>(match fA kvs (Key.inr f.1)with | some x=>isN n f.2 x | none=>false),by rw[eQ];rfl,?_⟩
     rw[List.all_map]
     exact q
  ·rw [dzF he]
   simp only[isN,dzF he,cM]at q
   exact q
 |scr _ _=>simp only[Dx.Sz]at hs
 |ins _ _=>simp only[Dx.Sz]at hs
 |exc _=>simp only[Dx.Sz]at hs
 |_=>exact q
theorem aKm(F:Fun K "is_choice_value" "is_choice_value" cl_ f fd)(Gz:Cal P w K mg base j "is_value" AB (spX (gIG n)))(Lz:Cal P w K mg base 1 "is_whole" AO (spX gWB))(m_isinstance:mg "isinstance" = none)(m_tuple:mg "tuple" = none)(m_len:mg "len" = none)(hj:1<=j):FnOk P w K mg base CX0 (j+1) f fd AW (spX (aVt n)):=by
 refine mG F ge_ (λds Q h=>by obtain⟨_,_,rfl,_⟩:=h;rfl) (by decide) λAf A outer s H E hr=>?_
 have Am:=rP hr
 have Ag:=bQ Am
 refine⟨_,(dP (gS (XW.pt (w5 (wB (mX (oW .tuple m_isinstance (bP (pv 1)) (mD (v:=.ty "tuple") rfl m_tuple dq_ rfl)))) (x_ (iH (ft_ K Ag) lF (lO (rG K) tF (by rfl) m_len PySem.boot_len (bJ (bP (pv 1)) cI)) dC (bR _))))) (dX (fM wM)) iF)
  (dP (gS (XW.pt (w5 (wB (mX (fY Lz (hr.mono (by lia)) (bJ (eV K (pv 1)) cI)))) (x_ (wB (aDe xS xP pR pP dC (eV K (pv 1)) (lO (rG K) tF (by rfl) m_len PySem.boot_len (bJ (bP (pv 0)) cI))))))) (dX (fM wM)) iF)
  (dX (fM (fY Gz (hr.mono (by lia)) (bJ (rC K (bP (pv 0)) (eV K (pv 1)) (λ_ _=>rfl)) (bJ (eV K (pv 1)) cI))))))),λds Q h=>?_⟩
 clear Ag Am hj
 obtain⟨ks,d,rfl,hs,hok,hd,hn,q⟩:=h
 have D0:(xK ks).length=ks.length:=by rw[wA,aC]
 cases d with
 |tup l =>
  simp only[Dx.Sz]at hs
  cases l with
  |nil=>exact q
  |cons a r =>
   cases r with
   |nil=>cases a<;>exact q
   |cons b r =>
    cases r with
    |cons c r=>cases a<;>exact q
    |nil =>
     obtain⟨ha,hb,_⟩:=hs.2
     refine⟨a,rfl,aMx ha,?_⟩
     cases a with
     |int jj =>
      show if(!true)=true then _ else _
      by_cases h0:0<=jj
      ·by_cases h1:jj < (ks.length:Int)
       ·have Gi:=aM (l:=ks) (i:=jj.toNat) (by lia)
        obtain⟨o1,o2⟩:=oG hok.1 (bB Gi)
        have Ew:(xK ks)[jj.toNat]? = some (ks[jj.toNat]'(by lia)).x:=by rw[wA,bX,Gi];rfl
        have Db:=ev_ Ew
        rw[show((jj.toNat:Nat):Int)=jj from by lia]at Db
        have e1:((0:Int)<=jj)=True:=eq_true h0
        have e2:(jj<((xK ks).length:Int))=True:=eq_true (by lia)
        simp only[isN,Gi,dzT h0,dzT h1,dI]at q
        simp only[dU,eZ,xIf,xB,xOp,cV,xC,hW,dM,cE,eG,xOr,lQ,xIs,ixX,gI,neX,eqS,lV,iS,dS,cY,dL,zG,zH,jY,kU,kS,kQ,kP,kO,kL,kK,kJ,kI,kH,kD,kC,jZ,aQ,aS,bC,aZ,Sv.d,aL,bL,bY,bS,bA,aX,aJ,aV,aU,bG,Nat.reduceAdd,Nat.reduceSub,Nat.reduceLeDiff,true_and,decide_eq_true_eq,cut,gB,back,cF,if_true,↓reduceIte,bU,cL,isT,jO,e1,e2,Db,fR,Bool.not_false,decide_true,cK]
        exact⟨_,b,rfl,hb,o1,by lia,hn,q⟩
       ·have e1:((0:Int)≤jj)=True:=eq_true h0
        have e2:(jj<((xK ks).length:Int))=False:=eq_false (by lia)
        simp only[isN,dzT h0,dzF h1,dI,cM]at q
        simp only[dU,eZ,xIf,xB,xOp,cV,xC,hW,dM,cE,eG,xOr,lQ,xIs,ixX,gI,neX,eqS,lV,iS,dS,cY,dL,zG,zH,jY,kU,kS,kQ,kP,kO,kL,kK,kJ,kI,kH,kD,kC,jZ,aQ,aS,bC,aZ,Sv.d,aL,bL,bY,bS,bA,aX,aJ,aV,aU,bG,Nat.reduceAdd,Nat.reduceSub,Nat.reduceLeDiff,true_and,decide_eq_true_eq,cut,gB,back,cF,if_true,↓reduceIte,bU,cL,isT,jO,e1,e2,fR,Bool.not_false,decide_true,decide_false,cK]
        exact q
      ·have e1:((0:Int)≤jj)=False:=eq_false h0
       simp only[isN,dzF h0,cM]at q
       simp only[dU,eZ,xIf,xB,xOp,cV,xC,hW,dM,cE,eG,xOr,lQ,xIs,ixX,gI,neX,eqS,lV,iS,dS,cY,dL,zG,zH,jY,kU,kS,kQ,kP,kO,kL,kK,kJ,kI,kH,kD,kC,jZ,aQ,aS,bC,aZ,Sv.d,aL,bL,bY,bS,bA,aX,aJ,aV,aU,bG,Nat.reduceAdd,Nat.reduceSub,Nat.reduceLeDiff,true_and,decide_eq_true_eq,cut,gB,back,cF,if_true,↓reduceIte,bU,cL,isT,jO,e1,fR,Bool.not_false,decide_true,decide_false,cK]
       exact q
     |scr _ _=>simp only[Dx.Sz]at ha
     |ins _ _=>simp only[Dx.Sz]at ha
     |exc _=>simp only[Dx.Sz]at ha
     |_=>exact q
 |scr _ _=>simp only[Dx.Sz]at hs
 |ins _ _=>simp only[Dx.Sz]at hs
 |exc _=>simp only[Dx.Sz]at hs
 |pin _ _=>simp only[Dx.Sz]at hs
 |_=>exact q
theorem aQb(F:Fun K "is_value" "is_value" fn_ f fd)(Lz:Cal P w K mg base 1 "is_whole" AO (spX gWB))(Ma:Cal P w K mg base j "is_row_value" AL (spX (aVr n)))(Mb:Cal P w K mg base j "is_record_value" AK (spX (aVs n)))(Mc:Cal P w K mg base j "is_choice_value" AW (spX (aVt n)))(Ao:∃t,mg "BITS_OF_A_BYTE" = some (.int 8 t))(hj:1<=j) :
  FnOk P w K mg base CX0 (j+1) f fd AB (spX (gIG (n+1))):=by
 refine mG F xG (λds Q h=>by obtain⟨_,_,rfl,_⟩:=h;rfl) (by decide) λAf A outer s H E hr=>?_
 have Am:=rP hr
 have Ag:=bQ Am
 refine⟨_,(dP (gS (iH (jJ K Ag) jH (eV K (pv 0)) kZ (bR _)) (dX (fM (ey_ (fY Lz (hr.mono (by lia)) (bJ (bP (pv 1)) cI)) (ey_ (i9 aNe aNd (bP (pv 1)) dC (bR _)) (gb_ (i9 xS xP (λF=>PE.weak (aOz PySem.F.plainAttrs_int PySem.F.slot_int_bit_length PySem.F.type_int_bit_length rM (XE.at (Ex:=dZ) F (bP (pv 1)))) aSc) (zS (tZ (by rfl) Ao) (eV K (pv 0))) (bR _))))))) iF)
  (dP (gS (iH (jJ K Ag) jH (eV K (pv 0)) kZ (bR _)) (dX (fM (fY Ma (hr.mono (by lia)) (bJ (eV K (pv 0)) (bJ (eV K (pv 0)) (bJ (bP (pv 1)) cI)))))) iF)
  (dP (gS (iH (jJ K Ag) jH (eV K (pv 0)) kZ (bR _)) (dX (fM (fY Mb (hr.mono (by lia)) (bJ (eV K (pv 0)) (bJ (bP (pv 1)) cI))))) iF)
  (dX (fM (fY Mc (hr.mono (by lia)) (bJ (eV K (pv 0)) (bJ (bP (pv 1)) cI)))))))),λds Q h=>?_⟩
 clear Ag Am hj
 obtain⟨kd,d,rfl,hs,hok,hd,hn,q⟩:=h
 cases kd with
 |num wd m =>
  obtain⟨a1,a2,a3,a4⟩:=hok
  refine⟨d,rfl,aMx hs,?_⟩
  cases d with
  |int i =>
   show if decide ((0:Int)<=i)=true then _ else _
   by_cases h0:0<=i
   ·rw [if_pos (dzT h0)]
    simp only[isN,dzT h0,dI]at q
    exact⟨⟨by decide,by lia⟩,q⟩
   ·rw [if_neg (by simpa using h0)]
    simp only[isN,dzF h0,cM]at q
    exact q
  |scr _ _=>simp only[Dx.Sz]at hs
  |ins _ _=>simp only[Dx.Sz]at hs
  |exc _=>simp only[Dx.Sz]at hs
  |_=>exact q
 |row k m =>
  have D9:k.deep+1<=n+1:=hd
  exact⟨k,m,d,rfl,hs,hok,by lia,by lia,q⟩
 |rcd fs =>
  have D9:cX fs+1<=n+1:=hd
  exact⟨fs,d,rfl,hs,hok,by lia,by lia,q⟩
 |cho ks =>
  have D9:dO ks+1<=n+1:=hd
  exact⟨ks,d,rfl,hs,hok,by lia,by lia,q⟩
theorem aGt:FnOk P w K mg base CX0 j f fd AB (spX (gIG 0)):=qM λds Q h=>by
 obtain⟨kd,_,_,_,_,hd,_⟩:=h
 have:=Kd.deep_pos kd
 lia
end
def liN:Nat->Kd->Dx->Bool
 |_+1,.num w _,.int i=>decide (0<=i)&&decide (i<=256^w.toNat-1)
 |n+1,.row k m,.lst l=>decide ((l.length:Int)=m)&&l.all (liN n k)
 |n+1,.rcd fs,.dic l=>decide ((l.length:Int)=(fs.length:Int))&&fs.all λf=>match fA l (Key.inr f.1)with
  |some x=>liN n f.2 x
  |none=>false
 |n+1,.cho ks,.tup [.int j,x]=>decide (0<=j)&&decide (j<(ks.length:Int))&&(match ks[j.toNat]? with
  |some k=>liN n k x
  |none=>false)
 |_,_,_=>false
def gLV(n:Nat):GC:=λds Q=>∃(kd:Kd) (d:Dx),ds=[kd.x,d]/\d.Sz/\kd.Ok/\kd.deep<=n/\n<=12/\Q (.tr (.bl (liN n kd d)))
theorem j3{α:Type}{n:Nat}{gx:XG}{tc:XC}{te:XT}{Q:List Dx->List Sl->Prop}(φ:α->Dx)(b:α->Bool)(v:Dx){cs:List Sl}{as:List α}
  (hs:∀a∈as,∀Ab (P:List Dx->List Sl->Prop),P (if b a then Ab else Ab++[v]) cs->pJ n gx tc te P (φ a) cs Ab)
  (hq:∀Ab:List Dx,(Ab=[]↔as.all b=true)->(∀d∈Ab,d=v)->Ab.length<=as.length->Q Ab cs):dG n gx tc te Q (as.map φ) cs []:=by
 refine cp_ φ (λrest Ab cs'=>cs'=cs/\∃done,as=done++rest/\(Ab=[]↔done.all b=true)/\(∀d∈Ab,d=v)/\Ab.length<=done.length) (λAb cs' h=>?_) (λa rest Ab cs' P h hk=>?_) ⟨rfl,[],rfl,by simp,(λ_ h=>nomatch h),aP _⟩
 ·obtain ⟨rfl,done,e,h1,h2,h3⟩:=h
  rw[cH]at e
  subst e
  exact hq Ab h1 h2 h3
 ·obtain ⟨rfl,done,e,h1,h2,h3⟩:=h
  refine hs a (by rw[e];exact aI _ aA) Ab P (hk _ _ ⟨rfl,done++[a],by rw[e,bN];rfl,?_,?_,?_⟩)
  ·rw [List.all_append,bW,List.all_cons,List.all_nil,Bool.and_true,← h1]
   cases b a<;>simp
  ·intro d hd
   split at hd
   ·exact h2 d hd
   ·rcases bK.mp hd with hd | hd
    ·exact h2 d hd
    ·exact aF.mp hd
  ·split<;>simp<;>lia
section
variable{f:Addr}{n j:Nat}
theorem aPv(F:Fun K "_law_is_value" "_law_is_value" cn_ f fd)(Je:Cal P w K mg base 1 "_law_top" AZ (spX gTP))(Jh:Cal P w K mg base j "_law_is_value" AB (spX (gLV n)))(hj:1<=j)(m_isinstance:mg "isinstance" = none)(m_int:mg "int" = none)(m_bool:mg "bool" = none)(m_list:mg "list" = none)(m_tuple:mg "tuple" = none)(m_dict:mg "dict" = none)(m_len:mg "len" = none) :
  FnOk P w K mg base CX0 (j+1) f fd AB (spX (gLV (n+1))):=by
 refine mG F gY (λds Q h=>by obtain⟨_,_,rfl,_⟩:=h;rfl) (by decide) λAf A outer s H E hr=>?_
 have Am:=rP hr
 have Ag:=bQ Am
 refine⟨_,(dP (gS (iH (jJ K Ag) jH (eV K (pv 0)) kZ (bR _)) (dX (fM (ey_ (oW .int m_isinstance (bP (pv 1)) (mD (v:=.ty "int") rfl m_int rB rfl)) (ey_ (zW (oW .bool m_isinstance (bP (pv 1)) (mD (v:=.ty "bool") rfl m_bool je_ rfl))) (gb_ (wO xS xP xS xP dC (bP (pv 1)) (fY Je (hr.mono (by lia)) (bJ (eV K (pv 0)) cI)))))))) iF)
  (dP (gS (iH (jJ K Ag) jH (eV K (pv 0)) kZ (bR _)) (dP (gS (XW.pt (w5 (wB (mX (oW .list m_isinstance (bP (pv 1)) (mD (v:=.ty "list") rfl m_list hj_ rfl)))) (x_ (iH (ft_ K Ag) lF (lO (rG K) tF (by rfl) m_len PySem.boot_len (bJ (bP (pv 1)) cI)) (eV K (pv 0)) (bR _))))) (dX (fM wM)) iF)
  (dX (fM (i9 (jJ K Ag) jH (tI (dsc:=aO cn_) (N:=["kind","thing","name","inner"]) (tgs:=["one"]) (outs:=[0]) (N':=["one","kind"]) (by refine⟨rfl,?_,?_,?_,rfl,?_,?_,?_⟩<;>decide +kernel) (tJ (bP (pv 1))) (λ_ _ _ _ _=>(gF (i:=0) (show(["one","kind"]:List Str).Nodup by decide +kernel) rfl (Or.inl rfl) (.inr rfl))) (nK (n:=1) (i:=0) (by decide)) (tM (by decide)) (λ_ _ _ _ _=>(nR (wB (mX (fY Jh (hr.mono (by lia)) (bJ (eV K (pv 1)) (bJ (bP (pv 0)) cI))))))) (λ_ _ _ _ _=>dC)) (lH cI) (bR _))))) iF)
  (dP (gS (iH (jJ K Ag) jH (eV K (pv 0)) kZ (bR _)) (dP (gS (XW.pt (w5 (wB (mX (oW .dict m_isinstance (bP (pv 1)) (mD (v:=.ty "dict") rfl m_dict jd_ rfl)))) (x_ (iH (ft_ K Ag) lF (lO (rG K) tF (by rfl) m_len PySem.boot_len (bJ (bP (pv 1)) cI)) (lO (rG K) tF (by rfl) m_len PySem.boot_len (bJ (eV K (pv 0)) cI)) (bR _))))) (dX (fM wM)) iF)
  (dP (ex_ PassesOwn.never rfl (tJ (eV K (pv 0))) (hl_ rfl (lJ (gF (i:=2) gY.nd rfl (Or.inl rfl)) (lJ (gF (i:=3) gY.nd rfl (Or.inl rfl)) zT))) (fd_ (n:=99) (is:=[2,3]) rfl (by decide)) (dX (gS (XW.pt (w5 (rW Am (bP (pv 2)) (bP (pv 1)) (by with_unfolding_all rfl)) (x_ (wB (mX (fY Jh (hr.mono (by lia)) (bJ (bP (pv 3)) (bJ (eg_ Am (bP (pv 1)) (bP (pv 2)) (λ_ _=>rfl)) cI)))))))) (dX (fM wM)) iF)))
  (dX (fM wM)))) iF)
  (dP (gS (XW.pt (w5 (wB (mX (oW .tuple m_isinstance (bP (pv 1)) (mD (v:=.ty "tuple") rfl m_tuple dq_ rfl)))) (x_ (iH (ft_ K Ag) lF (lO (rG K) tF (by rfl) m_len PySem.boot_len (bJ (bP (pv 1)) cI)) dC (bR _))))) (dX (fM wM)) iF)
  (dP (gS (XW.pt (w5 (wB (mX (oW .int m_isinstance (eV K (pv 1)) (mD (v:=.ty "int") rfl m_int rB rfl)))) (x_ (mX (oW .bool m_isinstance (eV K (pv 1)) (mD (v:=.ty "bool") rfl m_bool je_ rfl)))))) (dX (fM wM)) iF)
  (dX (fM (ey_ (wO xS xP pR pP dC (eV K (pv 1)) (lO (rG K) tF (by rfl) m_len PySem.boot_len (bJ (eV K (pv 0)) cI))) (gb_ (fY Jh (hr.mono (by lia)) (bJ (rC K (eV K (pv 0)) (eV K (pv 1)) (λ_ _=>rfl)) (bJ (eV K (pv 1)) cI)))))))))))),λds Q h=>?_⟩
 clear Ag Am hj
 obtain⟨kd,d,rfl,hs,hok,hd,hn,q⟩:=h
 cases kd with
 |num wd m =>
  obtain⟨a1,a2,a3,a4⟩:=hok
  cases d with
  |int i =>
   have ht:(0:Int)<=256^wd.toNat:=Int.pow_nonneg (by decide)
   by_cases h0:0<=i
   ·have e1:((0:Int)≤i)=True:=eq_true h0
    simp only[dU,eZ,xIf,xB,xOp,cV,xC,hW,dM,cE,eG,iQ,mH,iA,xiL,xOr,lQ,lB,rY,xIs,ixX,dgX,gI,eqX,neX,eqS,lV,gxN,gxT,gxs,iS,dS,cY,dL,zG,zH,jY,kU,kS,kQ,kP,kO,kL,kK,kJ,kI,kH,kD,kC,jZ,aQ,aS,bC,aZ,Sv.d,aL,bL,bY,bS,bA,aX,aJ,aV,aU,bG,Nat.reduceAdd,Nat.reduceSub,Nat.reduceLeDiff,true_and,decide_eq_true_eq,cut,gB,back,lP,cF,if_true,↓reduceIte,bU,cL,isT,jO,e1,fR,Bool.not_false,decide_true,cK]
    refine⟨wd,rfl,by lia,a2,?_⟩
    simp only[liN,dzT h0,dI]at q
    exact q
   ·have e1:((0:Int)≤i)=False:=eq_false h0
    simp only[liN,dzF h0,cM]at q
    simp only[dU,eZ,xIf,xB,xOp,cV,xC,hW,dM,cE,eG,iQ,mH,iA,xiL,xOr,lQ,lB,rY,xIs,ixX,dgX,gI,eqX,neX,eqS,lV,gxN,gxT,gxs,iS,dS,cY,dL,zG,zH,jY,kU,kS,kQ,kP,kO,kL,kK,kJ,kI,kH,kD,kC,jZ,aQ,aS,bC,aZ,Sv.d,aL,bL,bY,bS,bA,aX,aJ,aV,aU,bG,Nat.reduceAdd,Nat.reduceSub,Nat.reduceLeDiff,true_and,decide_eq_true_eq,cut,gB,back,lP,cF,if_true,↓reduceIte,bU,cL,isT,jO,e1,fR,Bool.not_false,decide_true,decide_false,cK]
    exact q
  |scr _ _=>simp only[Dx.Sz]at hs
  |ins _ _=>simp only[Dx.Sz]at hs
  |exc _=>simp only[Dx.Sz]at hs
  |pin _ _=>simp only[Dx.Sz]at hs
  |_=>exact q
 |row k m =>
  have D9:k.deep+1<=n+1:=hd
  cases d with
  |lst l =>
   simp only[Dx.Sz]at hs
   show if(!decide ((l.length:Int)=m))=true then _ else _
   by_cases hm:(l.length:Int)=m
   ·rw [dzT hm]
    simp only[liN,dzT hm,dI]at q
    refine⟨show l.length<=_ by lia,show dG _ _ _ _ _ l _ _ from ?_⟩
    have el:l=l.map id:=by rw[List.map_id]
    rw[el]
    refine j3 id (liN n k) (.int 1) (λa ha Ab P pp=>?_) (λAb h1 h2 h3=>?_)
    ·refine ⟨k,a,rfl,ez_ hs.2 ha,hok.1,by lia,by lia,?_⟩
     show if(!(liN n k a))=true then _ else _
     cases hb:liN n k a with
     |true=>rw[hb]at pp;exact pp
     |false=>rw[hb]at pp;exact pp
    ·refine ⟨by decide,?_⟩
     show Q (.tr (.bl Ab.isEmpty))
     have:Ab.isEmpty=l.all (liN n k):=by
      cases Ab with
      |nil=>exact(h1.mp rfl).symm
      |cons d r =>
       cases hb:l.all (liN n k)with
       |true=>exact absurd (h1.mpr hb) (by simp)
       |false=>rfl
     rw[this]
     exact q
   ·rw [dzF hm]
    simp only[liN,dzF hm,cM]at q
    exact q
  |scr _ _=>simp only[Dx.Sz]at hs
  |ins _ _=>simp only[Dx.Sz]at hs
  |exc _=>simp only[Dx.Sz]at hs
  |pin _ _=>simp only[Dx.Sz]at hs
  |_=>exact q
 |rcd fs =>
  have D9:cX fs+1<=n+1:=hd
  have D0:(xF fs).length=fs.length:=by rw[wN,aC]
  cases d with
  |dic l =>
   simp only[Dx.Sz]at hs
   show if(!decide ((l.length:Int)=((xF fs).length:Int)))=true then _ else _
   rw[D0]
   by_cases he:(l.length:Int)=(fs.length:Int)
   ·rw [dzT he]
    simp only[liN,dzT he,dI]at q
    show iP _ _ _ (xF fs) _
    rw[wN]
    refine cy_ _ (λrest ρ=>∃done x y,fs=done++rest/\(done.all λf=>match fA l (Key.inr f.1)with | some x=>liN n f.2 x | none=>false)=true/\ρ=[.v (.tr (Kd.rcd fs).x),.v (.tr (.dic l)),x,y]) (λρ h=>?_) (λf rest ρ Kn h hk=>?_) ⟨[],.un,.un,rfl,rfl,rfl⟩
    ·obtain ⟨done,x,y,e,ha,rfl⟩:=h
     rw[cH]at e
     subst e
     rw[ha]at q
     exact q
    ·obtain ⟨done,x,y,e,ha,rfl⟩:=h
     have hm:f∈fs:=by rw[e];exact aI _ aA
     obtain⟨o1,o3⟩:=oH hok.1 hm
     cases hg:fA l (Key.inr f.1)with
     |none =>
      have hf:(fs.all λf=>match fA l (Key.inr f.1)with | some x=>liN n f.2 x | none=>false)=false:=List.all_eq_false.mpr ⟨f,hm,by rw[hg];exact aG⟩
      rw[hf]at q
      simp only[dU,eZ,xIf,xB,xOp,cV,xC,hW,dM,cE,eG,iQ,mH,iA,xiL,xOr,lQ,lB,rY,xIs,ixX,dgX,gI,eqX,neX,eqS,lV,gxN,gxT,gxs,iS,dS,cY,dL,zG,zH,jY,kU,kS,kQ,kP,kO,kL,kK,kJ,kI,kH,kD,kC,jZ,aQ,aS,bC,aZ,Sv.d,aL,bL,bY,bS,bA,aX,aJ,aV,aU,bG,Nat.reduceAdd,Nat.reduceSub,Nat.reduceLeDiff,true_and,decide_eq_true_eq,cut,gB,back,lP,cF,if_true,↓reduceIte,bU,cL,vX,kY,hg]
      exact⟨rfl,q⟩
     |some z =>
      simp only[dU,eZ,xIf,xB,xOp,cV,xC,hW,dM,cE,eG,iQ,mH,iA,xiL,xOr,lQ,lB,rY,xIs,ixX,dgX,gI,eqX,neX,eqS,lV,gxN,gxT,gxs,iS,dS,cY,dL,zG,zH,jY,kU,kS,kQ,kP,kO,kL,kK,kJ,kI,kH,kD,kC,jZ,aQ,aS,bC,aZ,Sv.d,aL,bL,bY,bS,bA,aX,aJ,aV,aU,bG,Nat.reduceAdd,Nat.reduceSub,Nat.reduceLeDiff,true_and,decide_eq_true_eq,cut,gB,back,lP,cF,if_true,↓reduceIte,bU,cL,vX,kY,hg]
      refine⟨rfl,rfl,f.2,z,rfl,fj_ hs.2.2 (oP hg),o1,by lia,by lia,?_⟩
      cases hb:liN n f.2 z with
      |true=>exact hk _ ⟨done++[f],_,_,by rw[e,bN];rfl,by rw[List.all_append,ha,List.all_cons,hg];show(true&&(liN n f.2 z&&true))=true;rw[hb];rfl,rfl⟩
      |false =>
       have hf:(fs.all λf=>match fA l (Key.inr f.1)with | some x=>liN n f.2 x | none=>false)=false:=List.all_eq_false.mpr ⟨f,hm,by rw[hg];show ¬liN n f.2 z=true;rw[hb];exact aG⟩
       rw[hf]at q
       exact q
   ·rw [dzF he]
    simp only[liN,dzF he,cM]at q
    exact q
  |scr _ _=>simp only[Dx.Sz]at hs
  |ins _ _=>simp only[Dx.Sz]at hs
  |exc _=>simp only[Dx.Sz]at hs
  |pin _ _=>simp only[Dx.Sz]at hs
  |_=>exact q
 |cho ks =>
  have D9:dO ks+1<=n+1:=hd
  have D0:(xK ks).length=ks.length:=by rw[wA,aC]
  cases d with
  |tup l =>
   simp only[Dx.Sz]at hs
   cases l with
   |nil=>exact q
   |cons a r =>
    cases r with
    |nil=>cases a<;>exact q
    |cons b r =>
     cases r with
     |cons c r=>cases a<;>exact q
     |nil =>
      obtain⟨ha,hb,_⟩:=hs.2
      cases a with
      |int jj =>
       by_cases h0:0<=jj
       ·by_cases h1:jj < (ks.length:Int)
        ·have Gi:=aM (l:=ks) (i:=jj.toNat) (by lia)
         obtain⟨o1,o2⟩:=oG hok.1 (bB Gi)
         have Ew:(xK ks)[jj.toNat]? = some (ks[jj.toNat]'(by lia)).x:=by rw[wA,bX,Gi];rfl
         have Db:=ev_ Ew
         rw[show((jj.toNat:Nat):Int)=jj from by lia]at Db
         simp only[liN,Gi,dzT h0,dzT h1,dI]at q
         show if decide ((0:Int)<=jj)=true then _ else _
         rw[if_pos (dzT h0)]
         show if decide (jj<((xK ks).length:Int))=true then _ else _
         rw[if_pos (dzT (by lia))]
         show(match atI (xK ks) jj with | some d=>_ | none=>False)
         rw[Db]
         exact⟨_,b,rfl,hb,o1,by lia,by lia,q⟩
        ·simp only [liN,dzT h0,dzF h1,dI,cM] at q
         show if decide ((0:Int)<=jj)=true then _ else _
         rw[if_pos (dzT h0)]
         show if decide (jj<((xK ks).length:Int))=true then _ else _
         rw[if_neg (by simp;lia)]
         exact q
       ·simp only [liN,dzF h0,cM] at q
        show if decide ((0:Int)<=jj)=true then _ else _
        rw[if_neg (by simpa using h0)]
        exact q
      |scr _ _=>simp only[Dx.Sz]at ha
      |ins _ _=>simp only[Dx.Sz]at ha
      |exc _=>simp only[Dx.Sz]at ha
      |pin _ _=>simp only[Dx.Sz]at ha
      |_=>exact q
  |scr _ _=>simp only[Dx.Sz]at hs
  |ins _ _=>simp only[Dx.Sz]at hs
  |exc _=>simp only[Dx.Sz]at hs
  |pin _ _=>simp only[Dx.Sz]at hs
  |_=>exact q
end
theorem o_{α:Type}[DecidableEq α]:∀(A B:List α),A.Nodup->(∀a∈A,a∈B)->B.length<=A.length->∀b∈B,b∈A
 | [],B,_,_,hl,b,hb=>by
  have:=List.length_pos_of_mem hb
  rw[aV]at hl
  omega
 |a::r,B,hn,hs,hl,b,hb=>by
  obtain⟨h1,h2⟩:=cN.mp hn
  have ha:=hs a aA
  have Ah:=List.length_erase_of_mem ha
  have hp:=List.length_pos_of_mem ha
  by_cases e:b=a
  ·rw[e];exact aA
  ·refine aB _ (o_ r (B.erase a) h2 (fun x hx => ?_) (by rw [Ah]; rw [aJ] at hl; omega) b ((List.mem_erase_of_ne e).mpr hb))
   exact(List.mem_erase_of_ne (λz=>h1 (by rw[<-z];exact hx))).mpr (hs x (aB _ hx))
theorem aHa{l:List (Key×Dx)}{k:Key}{d:Dx}(h:fA l k=some d):k∈l.map (·.1):=by
 have:=cG (f:=λx:Key×Dx=>x.1) (oP h)
 exact this
theorem aIe{i w:Int}(h0:0<=i)(hw:0<=w):decide (((Builtin.Int.intBits i:Nat):Int)<=8*w)=decide (i<=256^w.toNat-1):=by
 have e:(2:Nat)^(8*w.toNat)=256^w.toNat:=by rw[Nat.pow_mul]
 have c:((256^w.toNat:Nat):Int)=256^w.toNat:=by push_cast;rfl
 have key:Builtin.Int.intBits i<=8*w.toNat↔i.natAbs<2^(8*w.toNat):=intBits_le_iff
 rw[e]at key
 by_cases h:i<=256^w.toNat-1
 ·rw [dzT h]
  have:Builtin.Int.intBits i<=8*w.toNat:=key.mpr (by omega)
  exact dzT (by omega)
 ·rw [dzF h]
  refine dzF λz=>h ?_
  have:=key.mp (by omega)
  omega
theorem jf_{α:Type}{f g:α->Bool}:∀{l:List α},(∀a∈l,f a=g a)->l.all f=l.all g
 | [],_=>rfl
 |a::r,h=>by rw[List.all_cons,List.all_cons,h a aA,jf_ λb hb=>h b (aB _ hb)]
theorem xZ:∀(n:Nat) (kd:Kd) (d:Dx),kd.Fit->d.Sz->liN n kd d=isN n kd d
 | 0,kd,d,_,_=>by cases kd<;>rfl
 |n+1,.num w m,d,hf,hs=>by
  cases d with
  |int i =>
   simp only[liN,isN]
   by_cases h0:0<=i
   ·rw[aIe h0 (by have:=hf.1;omega)]
   ·rw[dzF h0,cM,cM]
  |_=>rfl
 |n+1,.row k m,d,hf,hs=>by
  cases d with
  |lst l =>
   simp only[Dx.Sz]at hs
   simp only[liN,isN]
   rw[jf_ λa ha=>xZ n k a hf.1 (ez_ hs.2 ha)]
  |_=>rfl
 |n+1,.rcd fs,d,hf,hs=>by
  cases d with
  |dic l =>
   simp only[Dx.Sz]at hs
   obtain⟨f1,f2,f3,Dc⟩:=hf
   simp only[liN,isN]
   have e1:(fs.all λf=>match fA l (Key.inr f.1)with | some x=>liN n f.2 x | none=>false)=(fs.all λf=>match fA l (Key.inr f.1)with | some x=>isN n f.2 x | none=>false):=jf_ λf hf=>by
    cases hg:fA l (Key.inr f.1)with
    |none=>rfl
    |some z=>exact xZ n f.2 z (sZ f1 hf).1 (fj_ hs.2.2 (oP hg))
   show(decide ((l.length:Int)=(fs.length:Int))&&fs.all λf=>match fA l (Key.inr f.1)with | some x=>liN n f.2 x | none=>false)=((decide ((l.length:Int)=(fs.length:Int))&&l.all λp=>yB p.1)&&fs.all λf=>match fA l (Key.inr f.1)with | some x=>isN n f.2 x | none=>false)
   rw[e1]
   by_cases he:(l.length:Int)=(fs.length:Int)
   ·rw [dzT he,dI,dI]
    cases hb:(fs.all λf=>match fA l (Key.inr f.1)with | some x=>isN n f.2 x | none=>false)with
    |false=>rw[Bool.and_false]
    |true =>
     rw[Bool.and_true]
     refine(cO.mpr λp hp=>?_).symm
     have D4:=o_ (fs.map λf=>Key.inr f.1) (l.map (·.1)) (by
      have:(fs.map λf=>Key.inr f.1)=(fs.map (·.1)).map Key.inr:=by rw[eQ];rfl
      rw[this]
      exact gJ.mpr (Dc.imp λh z=>h (Key.inr.inj z))) (λa ha=>by
      obtain⟨f,hf,rfl⟩:=cD.mp ha
      have:=cO.mp hb f hf
      cases hg:fA l (Key.inr f.1)with
      |none=>rw[hg]at this;cases this
      |some z=>exact aHa hg) (by rw[aC,aC];omega) p.1 (cG (f:=λx:Key×Dx=>x.1) hp)
     obtain⟨f,_,e⟩:=cD.mp D4
     rw[<-e]
     rfl
   ·rw[dzF he,cM,cM,cM]
  |_=>rfl
 |n+1,.cho ks,d,hf,hs=>by
  cases d with
  |tup l =>
   simp only[Dx.Sz]at hs
   match l,hs with
   | [],_=>rfl
   | [a],_=>cases a<;>rfl
   |a::b::c::r,_=>cases a<;>rfl
   | [a,b],hs =>
    cases a with
    |int j =>
     simp only[liN,isN]
     cases hg:ks[j.toNat]? with
     |none=>rfl
     |some k =>
      have:=xZ n k b (qN hf.1 (bB hg)).1 hs.2.2.1
      show(_&&liN n k b)=(_&&isN n k b)
      rw[this]
    |_=>rfl
  |_=>rfl
theorem mI:∀{l:List Dx},(∀d∈l,d.Sz)->szX l
 | [],_=>trivial
 |d::r,h=>⟨h d aA,mI λe he=>h e (aB _ he)⟩
theorem uH:∀{l:List (Key×Dx)},(∀p∈l,p.2.Sz)->aAv l
 | [],_=>trivial
 |d::r,h=>⟨h d aA,uH λe he=>h e (aB _ he)⟩
theorem pH:∀{ks:List Kd} {j:Nat} {v:Vd},uD ks j v->∃k,ks[j]? = some k/\k.Val v
 | [],_,_,h=>by simp[uD]at h
 |k::_,0,v,h=>by simp only[uD]at h;exact⟨k,rfl,h⟩
 |_::r,j+1,v,h=>by simp only[uD]at h;obtain⟨k,e,hk⟩:=pH h;exact⟨k,by simpa using e,hk⟩
theorem aSi{l:List (Key×Dx)}(h:(l.map (·.1)).Nodup)(o:∀p∈l,p.1.odd=false):ApX l:=List.Pairwise.imp_of_mem (λhp hq z=>⟨z,zE (o _ hp) (o _ hq)⟩) (gJ.mp h)
theorem fq_{n:Nat}:∀{l:List Dx},(∀d∈l,d.deep<=n)->iU l<=n
 | [],_=>eS _
 |d::r,h=>Nat.max_le.mpr ⟨h d aA,fq_ λe he=>h e (aB _ he)⟩
theorem iu_{n:Nat}:∀{l:List (Key×Dx)},(∀p∈l,p.2.deep<=n)->mW l<=n
 | [],_=>eS _
 |d::r,h=>Nat.max_le.mpr ⟨h d aA,iu_ λe he=>h e (aB _ he)⟩
mutual
theorem Kd.x_sz:∀(k:Kd),k.Fit->k.x.Sz/\k.x.deep<=3*k.deep+2
 | .num w m,h=>by
  simp only[Kd.x,Dx.Sz,szX,Dx.deep,iU,Kd.deep,aJ,aV]
  exact⟨⟨by omega,trivial,trivial,trivial,trivial⟩,by decide⟩
 | .row k m,h=>by
  obtain⟨a,b⟩:=Kd.x_sz k h.1
  simp only[Kd.x,Dx.Sz,szX,Dx.deep,iU,Kd.deep,aJ,aV]
  exact⟨⟨by omega,trivial,a,trivial,trivial⟩,by omega⟩
 | .rcd fs,h=>by
  have z:=aMr fs h.1
  have hl:=h.2.2.1
  have e:iU (xF fs)<=3*cX fs+3:=fq_ λd hd=>(z d hd).2
  simp only[Kd.x,Dx.Sz,szX,Dx.deep,iU,Kd.deep,aJ,aV]
  exact⟨⟨by omega,trivial,⟨by rw[wN,aC];omega,mI λd hd=>(z d hd).1⟩,trivial⟩,by omega⟩
 | .cho ks,h=>by
  have z:=aMq ks h.1
  have hl:=h.2.2
  have e:iU (xK ks)<=3*dO ks+2:=fq_ λd hd=>(z d hd).2
  simp only[Kd.x,Dx.Sz,szX,Dx.deep,iU,Kd.deep,aJ,aV]
  exact⟨⟨by omega,trivial,⟨by rw[wA,aC];omega,mI λd hd=>(z d hd).1⟩,trivial⟩,by omega⟩
theorem aMr:∀(fs:List (Str×Kd)),qO fs->∀d∈xF fs,d.Sz/\d.deep<=3*cX fs+3
 | [],_,d,hd=>by simp[xF]at hd
 |f::r,h,d,hd=>by
  obtain⟨a,b⟩:=Kd.x_sz f.2 h.1.2
  simp only[xF]at hd
  have e:cX (f::r)=max f.2.deep (cX r):=rfl
  rcases aE.mp hd with rfl | hd
  ·simp only [Dx.Sz,szX,Dx.deep,iU,aJ,aV]
   exact⟨⟨by omega,trivial,a,trivial⟩,by omega⟩
  ·obtain ⟨a',b'⟩:=aMr r h.2 d hd
   exact⟨a',by omega⟩
theorem aMq:∀(ks:List Kd),rO ks->∀d∈xK ks,d.Sz/\d.deep<=3*dO ks+2
 | [],_,d,hd=>by simp[xK]at hd
 |k::r,h,d,hd=>by
  obtain⟨a,b⟩:=Kd.x_sz k h.1
  simp only[xK]at hd
  have e:dO (k::r)=max k.deep (dO r):=rfl
  rcases aE.mp hd with rfl | hd
  ·exact⟨a,by omega⟩
  ·obtain ⟨a',b'⟩:=aMq r h.2 d hd
   exact⟨a',by omega⟩
end
mutual
theorem Kd.vx_sz:∀(kd:Kd) (vd:Vd),kd.Fit->kd.Val vd->(kd.vx vd).Sz/\(kd.vx vd).deep<=kd.deep
 | .num w m,vd,hf,hv=>by
  cases vd with
  |num i=>simp only[Kd.vx,Dx.Sz,Dx.deep,Kd.deep];exact⟨trivial,by omega⟩
  |_=>simp[Kd.Val]at hv
 | .row k m,vd,hf,hv=>by
  cases vd with
  |row vs =>
   simp only[Kd.Val]at hv
   have f3:=hf.2.2
   have z:∀d∈vs.map k.vx,d.Sz/\d.deep<=k.deep:=λd hd=>by
    obtain⟨v,hm,rfl⟩:=cD.mp hd
    exact Kd.vx_sz k v hf.1 (hv.2 v hm)
   simp only[Kd.vx,Dx.Sz,Dx.deep,Kd.deep]
   have:=fq_ λd hd=>(z d hd).2
   exact⟨⟨by rw[aC];omega,mI λd hd=>(z d hd).1⟩,by omega⟩
  |_=>simp[Kd.Val]at hv
 | .rcd fs,vd,hf,hv=>by
  cases vd with
  |rcd vs =>
   simp only[Kd.Val]at hv
   obtain⟨f1,f2,f3,Dc⟩:=hf
   have Ej:=gc_ hv
   have z:=a8 fs vs f1 hv
   simp only[Kd.vx,Dx.Sz,Dx.deep,Kd.deep]
   have hk:=fi_ Ej
   have Ah:(vxF fs vs).length=fs.length:=by have:=congrArg List.length hk;simpa using this
   have:=iu_ λd hd=>(z d hd).2
   refine⟨⟨by omega,?_,uH λd hd=>(z d hd).1⟩,by omega⟩
   refine aSi ?_ (aDo Ej)
   rw[hk]
   have e:(fs.map λf=>(Key.inr f.1:Key))=(fs.map (·.1)).map (λx:Str=>(Key.inr x:Key)):=by rw[eQ];rfl
   rw[e]
   exact List.Pairwise.map _ (λa b h e=>h (Key.inr.inj e)) Dc
  |_=>simp[Kd.Val]at hv
 | .cho ks,vd,hf,hv=>by
  cases vd with
  |cho jj v =>
   simp only[Kd.Val]at hv
   obtain⟨k,hk,G6⟩:=pH hv
   obtain⟨a,b⟩:=aDn ks hf.1 k (bB hk) v G6
   simp only[Kd.vx,Dx.Sz,Dx.deep,Kd.deep,szX,iU,aJ,aV]
   rw[uB hk]
   have:=Kd.deep_pos k
   have C7:=(qN hf.1 (bB hk)).2
   exact⟨⟨by omega,trivial,a,trivial⟩,by omega⟩
  |_=>simp[Kd.Val]at hv
theorem a8:∀(fs:List (Str×Kd)) (vs:List Vd),qO fs->iR fs vs->∀p∈vxF fs vs,p.2.Sz/\p.2.deep<=cX fs
 | [],_,_,_,p,h=>by simp[vxF]at h
 |_::_,[],_,h,_,_=>by simp[iR]at h
 |f::r,v::vs,hf,hv,p,h=>by
  simp only[iR]at hv
  simp only[vxF]at h
  have e:cX (f::r)=max f.2.deep (cX r):=rfl
  rcases aE.mp h with rfl | h
  ·obtain ⟨a,b⟩:=Kd.vx_sz f.2 v hf.1.2 hv.1
   exact⟨a,nzL b (by omega)⟩
  ·obtain ⟨a,b⟩:=a8 r vs hf.2 hv.2 p h
   exact⟨a,by omega⟩
theorem aDn:∀(ks:List Kd),rO ks->∀k∈ks,∀v,k.Val v->(k.vx v).Sz/\(k.vx v).deep<=k.deep
 | [],_,k,h,_,_=>by simp at h
 |k'::r,hf,k,h,v,hv=>by
  by_cases e:k=k'
  ·rw[e]at hv ⊢;exact Kd.vx_sz k' v hf.1 hv
  ·exact aDn r hf.2 k ((aE.mp h).resolve_left e) v hv
end
theorem v4{n:Nat}{k:Int}(h0:0<=k)(h1:k<n):ixN n k=some k.toNat:=by
 unfold ixN
 rw[if_pos h0,if_pos h1]
theorem fe_{α:Type}{l:List α}{i:Nat}{a:α}{as:List α}(h:a::as=l.drop i):l[i]? = some a/\as=l.drop (i+1):=by
 have h1:(l.drop i)[0]? = some a:=by rw[<-h];rfl
 rw[List.getElem?_drop,Nat.add_zero]at h1
 refine⟨h1,?_⟩
 have h2:(l.drop i).tail=as:=by rw[<-h];rfl
 rw[List.tail_drop]at h2
 exact h2.symm
theorem yR{α:Type}(f:α->Dx)(l:List α):yS (l.map f)=((List.range l.length).zip l).map λp=>.tup [.int (0+(p.1:Int)),f p.2]:=by
 unfold yS xI
 rw[aC,ep_]
theorem p_{α:Type}{l:List α}{i:Nat}{p:Nat×α}(h:((List.range l.length).zip l)[i]? = some p):p.1=i/\l[i]? = some p.2:=by
 obtain⟨h1,h2⟩:=gX.mp h
 have hi:=(aW.mp h2).1
 rw[List.getElem?_range hi]at h1
 exact⟨by simpa using h1.symm,h2⟩
theorem oO{c:XC}{G K:XS}{ρ ρ':En}{D:XD}(hc:∀Q:Bool->En->Prop,Q false ρ'->c ρ Q)(h:K ρ' D):dU (xIf c G eZ) K ρ D:=hc _ h
theorem aGe{α:Type}{a:α}:[a].length<=1000000:=by show 1<=1000000;decide
theorem sL{α:Type}(v:α):∀n,(List.replicate n [v]).flatten=List.replicate n v
 | 0=>rfl
 |n+1=>by rw[aU,eX,sL v n];rfl
theorem aNq(q:Nat):(List.replicate q (List.map Sv.d [Sv.tr (Dx.int 0)])).flatten=(List.replicate q (0:Int)).map Dx.int:=by show(List.replicate q [Dx.int 0]).flatten=_;rw[sL,List.map_replicate]
theorem qD:∀{rs:List (Int×Int)} {e:Int} {i:Nat} {r:Int×Int} {p:Int},Rms rs->rs[i]? = some r->(plcs e rs)[i]? = some p->p+r.1<=dJ e rs/\e<=p
 | [],_,_,_,_,_,h,_=>by simp at h
 |s::rs,e,0,r,p,hR,h,hp=>by
  simp at h
  subst h
  have B6:up e s.2=p:=by have:(up e s.2::plcs (up e s.2+s.1) rs)[0]? = some p:=hp;simpa using this
  obtain⟨a,b⟩:=hR s aA
  have g:=hd_ (rs:=rs) (e:=up e s.2+s.1) λx hx=>hR x (aB _ hx)
  have u:=(zK (n:=e) b).1
  show p+s.1<=dJ (up e s.2+s.1) rs/\_
  lia
 |s::rs,e,i+1,r,p,hR,h,hp=>by
  obtain⟨a,b⟩:=hR s aA
  have B6:(plcs (up e s.2+s.1) rs)[i]? = some p:=by have:(up e s.2::plcs (up e s.2+s.1) rs)[i+1]? = some p:=hp;simpa using this
  obtain⟨x,y⟩:=qD (rs:=rs) (i:=i) (λx hx=>hR x (aB _ hx)) (by simpa using h) B6
  have u:=(zK (n:=e) b).1
  exact⟨x,by lia⟩
theorem aQw{n:Nat}{ks:List Kd}{d:Dx}(hi:isN (n+1) (.cho ks) d=true):∃(jj:Nat) (u:Dx) (k:Kd),d=.tup [.int (jj:Int),u]/\ks[jj]? = some k/\isN n k u=true:=by
 unfold isN at hi
 split at hi
 ·rename_i e;cases e
 ·rename_i e;cases e
 ·rename_i e;cases e
 ·rename_i n' ks' j x e0 e
  cases e
  cases e0
  simp only[bW,decide_eq_true_eq]at hi
  obtain⟨⟨h0,h1⟩,h2⟩:=hi
  cases hk:ks[j.toNat]? with
  |none=>rw[hk]at h2;cases h2
  |some k=>rw[hk]at h2;exact⟨j.toNat,x,k,by rw[Int.toNat_of_nonneg h0],hk,h2⟩
 ·cases hi
def gNB:GC:=λds Q=>∃w n:Int,ds=[.int w,.int n]/\0<=w/\w<=100/\∀xs:List Int,xs.length=w.toNat->Q (.ol (xs.map Dx.int))
def aVq:GB:=λl ds Q=>∃(xs ys:List Int) (p:Int),l=xs.map Dx.int/\ds=[.int p,.lst (ys.map Dx.int)]/\0<=p/\p+(ys.length:Int)<=(xs.length:Int)/\∀xs':List Int,xs'.length=xs.length->Q .non (xs'.map Dx.int)
def gLB(n:Nat):GC:=λds Q=>∃(kd:Kd) (d:Dx),ds=[kd.x,d]/\isN n kd d=true/\kd.Fit/\kd.deep<=n/\n<=12/\kd.rm.1<=100000/\∀xs:List Int,xs.length=kd.rm.1.toNat->Q (.ol (xs.map Dx.int))
section
variable{f:Addr}{n j jR jP:Nat}
theorem aPu(F:Fun K "number_bytes" "number_bytes" dg_ f fd)(Ai:∃t,mg "HOW_MANY_BYTES" = some (.int 256 t))(m_range:mg "range" = none):FnOk P w K mg base CX0 1 f fd ["w","value"] (spX gNB):=by
 refine mG F fL (λds Q h=>by obtain⟨_,_,rfl,_⟩:=h;rfl) (by decide) λAf A outer s H E hr=>?_
 refine⟨_,(dP (gE (i:=2) fL.nd rfl (Or.inl rfl) (lH cI))
  (dP (gE (i:=3) fL.nd rfl (Or.inl rfl) (bP (pv 1)))
  (dP (ex_ PassesOwn.never rfl (dv_ m_range (bJ (bP (pv 0)) cI)) (gF (i:=4) fL.nd rfl (Or.inl rfl)) (nK (n:=99) (i:=4) (by decide)) (dP (i3 λF=>PS.weak (oA (t7 PySem.F.plainAttrs_list PySem.F.slot_list_append PySem.F.type_list_append im_ (pv 2) (hX (XE.at (Ex:=dZ) F (ic_ (bP (pv 3)) (tZ (by rfl) Ai))) lZ))) aEe)
  (dX (gE (i:=3) fL.nd rfl (Or.inl rfl) (nQ (bP (pv 3)) (tZ (by rfl) Ai))))))
  (dX (fM (dk_ (pv 2))))))),λds Q h=>?_⟩
 obtain⟨w,i,rfl,h0,h1,q⟩:=h
 refine⟨eS _,⟨by lia,by lia⟩,?_⟩
 refine cy_ (λk:Nat=>Dx.int (0+(k:Int))) (λrest ρ=>∃(xs:List Int) (r:Int) (y:Sl),xs.length+rest.length=w.toNat/\ρ=[vT (.int w),vT (.int i),.v (.ol (xs.map Dx.int)),vT (.int r),y]) (λρ h=>?_) (λk rest ρ Kn h hk=>?_) ⟨[],i,.un,by rw[dB];simp,rfl⟩
 ·obtain ⟨xs,r,y,e,rfl⟩:=h
  exact q xs e
 ·obtain ⟨xs,r,y,e,rfl⟩:=h
  rw[aJ]at e
  refine⟨rfl,show(0:Int)<256 by decide,⟨by rw[aC];lia,⟨by decide,by decide⟩,hk _ ⟨xs++[r%256],r/256,vT (.int (0+(k:Int))),by rw[aK,fJ];lia,?_⟩⟩⟩
  rw[cP]
  rfl
theorem aKi(F:Fun K "lay" "lay" p9 f fd)(Ae:mg "enumerate" = none):FnOk P w K mg base CX0 1 f fd AT (spB aVq):=by
 refine i5 F c_ (λl ds Q h=>by obtain⟨_,_,_,_,rfl,_⟩:=h;rfl) (by decide) λAf A outer s H E hr=>?_
 refine⟨_,(dX (ex_ PassesOwn.never rfl (m8 Ae (bJ (bP (pv 2)) cI)) (hl_ rfl (lJ (gF (i:=3) c_.nd rfl (Or.inl rfl)) (lJ (gF (i:=4) c_.nd rfl (Or.inl rfl)) zT))) (fd_ (n:=99) (is:=[3,4]) rfl (by decide)) (dX (i3 λF=>PS.weak (gg_ (XE.at (Ex:=dZ) F (bP (pv 4))) (mJ (pv 0) (XE.at (Ex:=dZ) F (kG (bP (pv 1)) (bP (pv 3)))) fl_)) nW)))),λl ds Q h=>?_⟩
 obtain⟨xs,ys,p,rfl,rfl,h0,h1,q⟩:=h
 show iP _ _ _ (yS (ys.map Dx.int)) _
 rw[yR]
 refine cy_ _ (λrest ρ=>∃(i:Nat) (zs:List Int) (y3 y4:Sl),rest=((List.range ys.length).zip ys).drop i/\zs.length=xs.length/\ρ=[.bw (zs.map Dx.int),vT (.int p),vT (.lst (ys.map Dx.int)),y3,y4]) (λρ h=>?_) (λa rest ρ Kn h hk=>?_) ⟨0,xs,.un,.un,rfl,rfl,rfl⟩
 ·obtain ⟨i,zs,y3,y4,e,hz,rfl⟩:=h
  exact q zs hz
 ·obtain ⟨i,zs,y3,y4,e,hz,rfl⟩:=h
  obtain⟨e1,e2⟩:=fe_ e
  obtain⟨e3,e4⟩:=p_ e1
  have hil:=(aW.mp e4).1
  have Io:ixN (zs.map Dx.int).length (p+(0+(a.1:Int)))=some (p.toNat+i):=by
   rw[v4 (by lia) (by rw[aC];lia)]
   congr 1
   lia
  have Au:=hk [.bw ((zs.set (p.toNat+i) a.2).map Dx.int),vT (.int p),vT (.lst (ys.map Dx.int)),vT (.int (0+(a.1:Int))),vT (.int a.2)] ⟨i+1,_,_,_,e2,by rw[bD];exact hz,rfl⟩
  rw[List.map_set]at Au
  simp only[dU,eZ,xOp,cV,hW,cE,eG,mH,wP,rV,gxT,gxs,iS,dS,cY,dL,zG,zH,jY,kU,kS,kQ,kP,kO,kL,kK,kJ,kI,kH,kD,kC,jZ,aQ,aS,bC,aZ,Sv.d,aL,bL,bY,bS,bA,aX,aJ,aV,aU,bG,Nat.reduceAdd,Nat.reduceSub,Nat.reduceLeDiff,true_and,decide_eq_true_eq,cut,gB,back,cF,if_true,↓reduceIte,bU,cL,Io]
  exact Au
theorem aPz(F:Fun K "laid_bytes" "laid_bytes" ee_ f fd)(CNB:Cal P w K mg base 1 "number_bytes" ["w","value"] (spX gNB))(Gv:Cal P w K mg base jR "room_of" AF (spX (gRO (n+1))))(Lv:Cal P w K mg base 2 "step_of" AX (spX gSO))(CPO:Cal P w K mg base jP "places_in_order" ["fields"] (spX (gPO n)))(Me:Cal P w K mg base 2 "chosen_at" AY (spX gCA))(Gy:Cal P w K mg base 1 "lay" AT (spB aVq))(Ji:Cal P w K mg base j "laid_bytes" AV (spX (gLB n)))(m_zip:mg "zip" = none)(Ae:mg "enumerate" = none)(hR:jR<=j)(hP:jP<=j)(h2j:2<=j) :
  FnOk P w K mg base CX0 (j+1) f fd AV (spX (gLB (n+1))):=by
 refine mG F eY (λds Q h=>by obtain⟨_,_,rfl,_⟩:=h;rfl) (by decide) λAf A outer s H E hr=>?_
 have Am:=rP hr
 have Ag:=bQ Am
 refine⟨_,(dP (gS (iH (jJ K Ag) jH (eV K (pv 0)) kZ (bR _)) (dX (fM (fY CNB (hr.mono (by lia)) (bJ (eV K (pv 0)) (bJ (bP (pv 1)) cI))))) iF)
  (dP (gE (i:=2) eY.nd rfl (Or.inl rfl) (zS (lH (bJ dC cI)) (rC K (fY Gv (hr.mono (by lia)) (bJ (bP (pv 0)) cI)) dC (λ_ _=>rfl))))
  (dP (gS (iH (jJ K Ag) jH (eV K (pv 0)) kZ (bR _)) (dP (gE (i:=3) eY.nd rfl (Or.inl rfl) (fY Lv (hr.mono (by lia)) (bJ (fY Gv (hr.mono (by lia)) (bJ (eV K (pv 0)) cI)) cI)))
  (dX (ex_ PassesOwn.never rfl (m8 Ae (bJ (bP (pv 1)) cI)) (hl_ rfl (lJ (gF (i:=4) eY.nd rfl (Or.inl rfl)) (lJ (gF (i:=5) eY.nd rfl (Or.inl rfl)) zT))) (fd_ (n:=99) (is:=[4,5]) rfl (by decide)) (dX (hz_ (iV (i:=2) Gy (hr.mono (by lia)) (pv 2) (bJ (zS (bP (pv 4)) (bP (pv 3))) (bJ (fY Ji (hr.mono (by lia)) (bJ (eV K (pv 0)) (bJ (bP (pv 5)) cI))) cI)))))))) (dX (gS (iH (jJ K Ag) jH (eV K (pv 0)) kZ (bR _)) (dX (ex_ PassesOwn.never rfl (zV m_zip (bJ (eV K (pv 0)) (bJ (fY CPO (hr.mono (by lia)) (bJ (eV K (pv 0)) cI)) cI))) (hl_ rfl (lJ (gF (i:=6) eY.nd rfl (Or.inl rfl)) (lJ (gF (i:=7) eY.nd rfl (Or.inl rfl)) zT))) (fd_ (n:=99) (is:=[6,7]) rfl (by decide)) (dX (hz_ (iV (i:=2) Gy (hr.mono (by lia)) (pv 2) (bJ (eV K (pv 7)) (bJ (fY Ji (hr.mono (by lia)) (bJ (eV K (pv 6)) (bJ (eg_ Am (bP (pv 1)) (eV K (pv 6)) (λ_ _=>rfl)) cI))) cI))))))) (dP (i3 λF=>PS.weak (gg_ (XE.at (Ex:=dZ) F (eV K (pv 1))) (mJ (pv 2) (XE.at (Ex:=dZ) F dC) fl_)) nW)
  (dX (hz_ (iV (i:=2) Gy (hr.mono (by lia)) (pv 2) (bJ (fY Me (hr.mono (by lia)) (bJ (rC K (fY Gv (hr.mono (by lia)) (bJ (bP (pv 0)) cI)) dC (λ_ _=>rfl)) cI)) (bJ (fY Ji (hr.mono (by lia)) (bJ (rC K (eV K (pv 0)) (eV K (pv 1)) (λ_ _=>rfl)) (bJ (eV K (pv 1)) cI))) cI)))))))))
  (dX (fM (dk_ (pv 2))))))),λds Q h=>?_⟩
 clear Ag Am hR hP h2j
 obtain⟨kd,d,rfl,hi,As,Ch,hn,Fe,q⟩:=h
 change dU _ _ [vT kd.x,vT d,.un,.un,.un,.un,.un,.un] _
 by_cases isnum:∃wd m,kd=.num wd m
 ·obtain ⟨wd,m,rfl⟩:=isnum
  cases d with
  |int i =>
   obtain⟨a1,a2,_⟩:=As
   exact⟨wd,i,rfl,by lia,by lia,q⟩
  |_=>cases hi
 ·have Kk:∀ Q:Bool→En→Prop,Q false [vT kd.x,vT d,.un,.un,.un,.un,.un,.un]→(xB (xOp eqX (xOp ixX (cV 0) (xC (.int 0))) (xC (.str "number")))) [vT kd.x,vT d,.un,.un,.un,.un,.un,.un] Q:=by
   cases kd with
   |num wd m=>exact absurd ⟨wd,m,rfl⟩ isnum
   |row k m=>exact λQ q=>q
   |rcd fs=>exact λQ q=>q
   |cho ks=>exact λQ q=>q
  refine oO Kk ?_
  obtain⟨b0,b1,b2,b3⟩:=kd.bd As.ok
  refine⟨aGe,kd,rfl,As.ok,Ch,hn,⟨by lia,by lia,by show 1*_<=_;lia⟩,?_⟩
  rw[aNq]
  dsimp only
  obtain⟨zs,Mj⟩:∃zs:List Int,zs=List.replicate kd.rm.1.toNat (0:Int):=⟨_,rfl⟩
  have Ga:zs.length=kd.rm.1.toNat:=by rw[Mj,bV]
  rw[<-Mj]
  change dU _ _ [vT kd.x,vT d,.v (.ol (zs.map Dx.int)),.un,.un,.un,.un,.un] _
  refine oZ (λρ=>∃(xs:List Int) (y3 y4 y5 y6 y7:Sl),ρ=[vT kd.x,vT d,.v (.ol (xs.map Dx.int)),y3,y4,y5,y6,y7]/\xs.length=kd.rm.1.toNat) ?_ (λD' hD=>?_)
  ·rintro ρ ⟨xs,y3,y4,y5,y6,y7,rfl,hx⟩
   exact q xs hx
  ·cases kd with
   |num wd m=>exact absurd ⟨wd,m,rfl⟩ isnum
   |row k m =>
    cases d with
    |lst l =>
     have C8:k.deep+1<=n+1:=Ch
     obtain⟨f1,f2,f3⟩:=As
     simp only[isN,bW,decide_eq_true_eq,cO]at hi
     obtain⟨hlm,Ar⟩:=hi
     obtain⟨c0,c1,c2,c3⟩:=aSg (n:=n) f1.ok (by lia) (by lia)
     obtain⟨u1,u2⟩:=zK (n:=k.rm.1) (m:=k.rm.2) (by lia)
     have Ju:(Kd.row k m).rm.1=m*up k.rm.1 k.rm.2:=rfl
     have hup:up k.rm.1 k.rm.2<=100000:=by
      have:1*up k.rm.1 k.rm.2<=m*up k.rm.1 k.rm.2:=bZ (by lia) (by lia)
      rw[Ju]at Fe
      lia
     refine⟨k,rfl,f1.ok,by lia,by lia,k.rm,rfl,c0,by lia,by lia,by lia,?_⟩
     show iP _ _ _ (yS l) _
     rw[show yS l=((List.range l.length).zip l).map λp=>.tup [.int (0+(p.1:Int)),p.2] by have:=yR id l;rwa [List.map_id]at this]
     refine cy_ _ (λrest ρ=>∃(i:Nat) (xs:List Int) (y4 y5:Sl),rest=((List.range l.length).zip l).drop i/\xs.length=(Kd.row k m).rm.1.toNat/\ρ=[vT (Kd.row k m).x,vT (.lst l),.v (.ol (xs.map Dx.int)),vT (.int (up k.rm.1 k.rm.2)),y4,y5,.un,.un]) (λρ h=>?_) (λa rest ρ Kn h hk=>?_) ⟨0,zs,.un,.un,rfl,Ga,rfl⟩
     ·obtain ⟨i,xs,y4,y5,e,hx,rfl⟩:=h
      exact hD _ ⟨xs,_,y4,y5,.un,.un,rfl,hx⟩
     ·obtain ⟨i,xs,y4,y5,e,hx,rfl⟩:=h
      obtain⟨e1,e2⟩:=fe_ e
      obtain⟨e3,e4⟩:=p_ e1
      have hil:=(aW.mp e4).1
      have Kq:((i:Int)+1)*up k.rm.1 k.rm.2<=m*up k.rm.1 k.rm.2:=bZ (by lia) (by lia)
      have Ms:0<=(i:Int)*up k.rm.1 k.rm.2:=gN (by lia) (by lia)
      rw[Int.add_mul,Int.one_mul]at Kq
      have F2:(0+(a.1:Int))*up k.rm.1 k.rm.2=(i:Int)*up k.rm.1 k.rm.2:=by rw[e3,Int.zero_add]
      refine⟨rfl,⟨by lia,by lia⟩,k,a.2,rfl,Ar a.2 (bB e4),f1,by lia,by lia,by lia,λys hy=>⟨xs,ys,(0+(a.1:Int))*up k.rm.1 k.rm.2,rfl,rfl,by rw[F2];exact Ms,by rw[F2,hx,hy,Ju];lia,λxs' Ct=>hk _ ⟨i+1,xs',vT (.int (0+(a.1:Int))),vT a.2,e2,by rw[Ct];exact hx,rfl⟩⟩⟩
    |_=>cases hi
   |rcd fs =>
    cases d with
    |dic kvs =>
     have C8:cX fs+1<=n+1:=Ch
     obtain⟨f1,f2,f3,Dc⟩:=As
     simp only[isN,bW,cO]at hi
     obtain⟨_,Ar⟩:=hi
     have hok:=vU fs f1
     have hb:=aIg (n:=n) hok (by lia) (by lia)
     have Lk:Rms (rmF fs):=λr hr=>⟨(hb r hr).1,by have:=(hb r hr).2.2.1;lia⟩
     obtain⟨x0,x1⟩:=nG hb
     obtain⟨u1,u2⟩:=zK (n:=dJ 0 (rmF fs)) (m:=fE 1 ((rmF fs).map (·.2))) (by lia)
     have Ju:(Kd.rcd fs).rm.1=up (dJ 0 (rmF fs)) (fE 1 ((rmF fs).map (·.2))):=rfl
     refine⟨fs,rfl,hok,by lia,by lia,by lia,?_⟩
     show iP _ _ _ (hU (xF fs) ((fs.zip (plcs 0 (rmF fs))).map λx=>.tup [.str x.1.1,.int x.2])) _
     rw[wN,ep_]
     refine cy_ _ (λrest ρ=>∃(i:Nat) (xs:List Int) (y6 y7:Sl),rest=(fs.zip (fs.zip (plcs 0 (rmF fs)))).drop i/\xs.length=(Kd.rcd fs).rm.1.toNat/\ρ=[vT (Kd.rcd fs).x,vT (.dic kvs),.v (.ol (xs.map Dx.int)),.un,.un,.un,y6,y7]) (λρ h=>?_) (λa rest ρ Kn h hk=>?_) ⟨0,zs,.un,.un,rfl,Ga,rfl⟩
     ·obtain ⟨i,xs,y6,y7,e,hx,rfl⟩:=h
      exact hD _ ⟨xs,.un,.un,.un,y6,y7,rfl,hx⟩
     ·obtain ⟨i,xs,y6,y7,e,hx,rfl⟩:=h
      obtain⟨e1,e2⟩:=fe_ e
      obtain⟨e3,e4⟩:=gX.mp e1
      obtain⟨e7,e8⟩:=gX.mp e4
      have hm:=bB e3
      obtain⟨ff,fdp⟩:=sZ f1 hm
      have Ef:=Ar _ hm
      obtain⟨x,Bj,Io⟩:∃x,fA kvs (Key.inr a.1.1)=some x/\isN n a.1.2 x=true:=by
       cases hg:fA kvs (Key.inr a.1.1)with
       |none=>rw[hg]at Ef;cases Ef
       |some x=>rw[hg]at Ef;exact⟨x,rfl,Ef⟩
      obtain⟨l1,l2⟩:=qD (e:=0) Lk (d3 e3) e8
      have hb0:=(hb _ (bB (d3 e3))).1
      have Au:=λxs' (Ct:xs'.length=xs.length)=>hk [vT (Kd.rcd fs).x,vT (.dic kvs),.v (.ol (xs'.map Dx.int)),.un,.un,.un,vT (.tup [.str a.1.1,a.1.2.x]),vT (.tup [.str a.2.1.1,.int a.2.2])] ⟨i+1,xs',_,_,e2,by rw[Ct];exact hx,rfl⟩
      simp only[dU,eZ,xIf,xB,xOp,cV,pA,xC,iL,hW,aJd,dM,iM,cE,eG,iQ,mH,wP,ixX,dgX,aBl,eqX,eqS,gxT,gxs,iS,dS,cY,dL,zG,zH,jY,kU,kS,kQ,kP,kO,kL,kK,kJ,kI,kH,kD,kC,jZ,aQ,aS,bC,aZ,Sv.d,aL,bL,bY,bS,bA,aX,aJ,aV,aU,bG,Nat.reduceAdd,Nat.reduceSub,Nat.reduceLeDiff,true_and,decide_eq_true_eq,cut,gB,back,cF,if_true,↓reduceIte,bU,cL,kY,Bj,Kd.x]
      exact⟨rfl,a.1.2,x,rfl,Io,ff,by lia,by lia,by lia,λys hy=>⟨xs,ys,a.2.2,rfl,rfl,l2,by rw[hx,hy,Ju];lia,λxs' Ct=>Au xs' Ct⟩⟩
    |_=>cases hi
   |cho ks =>
    have C8:dO ks+1<=n+1:=Ch
    have Eo:=As
    obtain⟨f1,f2,f3⟩:=As
    obtain⟨jj,u,k,rfl,hk,hik⟩:=aQw hi
    obtain⟨kf,kdp⟩:=qN f1 (bB hk)
    have hok:=vS ks f1
    have hb:=aAk (n:=n) hok (by lia) (by lia)
    obtain⟨x0,x1⟩:=nG hb
    have Mo:k.rm∈rmK ks:=bB (aEm hk)
    have D6:k.rm.1<=fE 0 ((rmK ks).map (·.1)):=vG (cG Mo)
    obtain⟨u1,u2⟩:=zK (n:=up 1 (fE 1 ((rmK ks).map (·.2)))+fE 0 ((rmK ks).map (·.1))) (m:=fE 1 ((rmK ks).map (·.2))) (by lia)
    rw[a_ x0]at u1 u2
    have hk0:=(hb _ Mo).1
    have eR:(Kd.cho ks).rm.1=up (fE 1 ((rmK ks).map (·.2))+fE 0 ((rmK ks).map (·.1))) (fE 1 ((rmK ks).map (·.2))):=by show up (up 1 _+_) _=_;rw[a_ x0]
    have eM:(Kd.cho ks).rm.2=fE 1 ((rmK ks).map (·.2)):=rfl
    have eu:up 1 (Kd.cho ks).rm.2=(Kd.cho ks).rm.2:=by rw[eM];exact a_ x0
    have Ew:(xK ks)[jj]? = some k.x:=by rw[wA,bX,hk];rfl
    have Db:=ev_ Ew
    have Io:ixN (zs.map Dx.int).length 0=some 0:=by rw[v4 (by decide) (by rw[aC];lia)];rfl
    refine⟨rfl,?_⟩
    simp only[dU,eZ,xIf,xB,xOp,cV,pA,xC,iL,hW,aJd,dM,iM,cE,eG,iQ,mH,wP,ixX,dgX,aBl,eqX,eqS,gxT,gxs,iS,dS,cY,dL,zG,zH,jY,kU,kS,kQ,kP,kO,kL,kK,kJ,kI,kH,kD,kC,jZ,aQ,aS,bC,aZ,Sv.d,aL,bL,bY,bS,bA,aX,aJ,aV,aU,bG,Nat.reduceAdd,Nat.reduceSub,Nat.reduceLeDiff,true_and,decide_eq_true_eq,cut,gB,back,cF,if_true,↓reduceIte,bU,cL,Io,Db,Kd.x]
    refine⟨.cho ks,rfl,Eo.ok,Ch,hn,(Kd.cho ks).rm.2,rfl,by rw[eM];lia,by rw[eM];lia,k,u,rfl,hik,kf,by lia,by lia,by lia,λys hy=>⟨zs.set 0 (jj:Int),ys,up 1 (Kd.cho ks).rm.2,by rw[List.map_set],rfl,by rw[eu,eM];lia,by rw[eu,eM,hy,bD];lia,λxs' Ct=>hD _ ⟨xs',.un,.un,.un,.un,.un,rfl,by rw[Ct,bD];exact Ga⟩⟩⟩
end
def Gd(n:Nat)(d:Dx):Prop:=d.Sz/\d.deep<=n
def GG(n m:Nat)(l:List Dx):Prop:=l.length<=m/\∀d∈l,Gd n d
theorem Gd.mono{n m:Nat}{d:Dx}(h:Gd n d)(e:n<=m):Gd m d:=⟨h.1,nzL h.2 e⟩
theorem GG.nil{n m:Nat}:GG n m []:=⟨eS _,λ_ h=>nomatch h⟩
theorem GG.cons{n m:Nat}{d:Dx}{l:List Dx}(h:Gd n d)(t:GG n m l):GG n (m+1) (d::l):=⟨Nat.succ_le_succ t.1,λe he=>(aE.mp he).elim (λz=>z ▸ h) (t.2 e)⟩
theorem GG.one{n:Nat}{d:Dx}(h:Gd n d):GG n 1 [d]:=.cons h .nil
theorem GG.cut{n m:Nat}{l:List Dx}(h:GG n m l)(a b:Option Int):GG n m (qV l a b):=⟨nzL ((List.take_sublist _ _).trans (List.drop_sublist _ _)).length_le h.1,λd hd=>h.2 d (List.mem_of_mem_drop (List.mem_of_mem_take hd))⟩
theorem GG.app{n m k:Nat}{l t:List Dx}(h:GG n m l)(g:GG n k t):GG n (m+k) (l++t):=⟨by rw[aK];exact Nat.add_le_add h.1 g.1,λd hd=>(bK.mp hd).elim (h.2 d) (g.2 d)⟩
theorem GG.mono{n n' m:Nat}{l:List Dx}(h:GG n m l)(e:n<=n'):GG n' m l:=⟨h.1,λd hd=>(h.2 d hd).mono e⟩
theorem GG.lst{n m N:Nat}{l:List Dx}(h:GG n m l)(hm:m<=100000)(e:n+1<=N):Gd N (.lst l):=⟨by simp only[Dx.Sz];exact⟨nzL h.1 hm,mI λd hd=>(h.2 d hd).1⟩,by simp only[Dx.deep];exact nzL (Nat.succ_le_succ (fq_ λd hd=>(h.2 d hd).2)) e⟩
theorem GG.tup{n m N:Nat}{l:List Dx}(h:GG n m l)(hm:m<=100000)(e:n+1<=N):Gd N (.tup l):=⟨by simp only[Dx.Sz];exact⟨nzL h.1 hm,mI λd hd=>(h.2 d hd).1⟩,by simp only[Dx.deep];exact nzL (Nat.succ_le_succ (fq_ λd hd=>(h.2 d hd).2)) e⟩
theorem em_{n:Nat}(i:Int):Gd (n+1) (.int i):=⟨by simp only[Dx.Sz],by simp only[Dx.deep];lia⟩
theorem yH{n:Nat}(b:Bool):Gd (n+1) (.bl b):=⟨by simp only[Dx.Sz],by simp only[Dx.deep];lia⟩
theorem it_{n:Nat}(x:Str):Gd (n+1) (.str x):=⟨by simp only[Dx.Sz],by simp only[Dx.deep];lia⟩
theorem qK{n:Nat}:Gd (n+1) .non:=⟨by simp only[Dx.Sz],by simp only[Dx.deep];lia⟩
theorem vR{n:Nat}:Gd (n+1) (.dic []):=⟨by simp only[Dx.Sz,aAv,aV];exact⟨by decide,.nil,trivial⟩,by simp only[Dx.deep,mW];lia⟩
theorem vO{l:List Dx}{i j:Nat}{d:Dx}{ρ:En}{Q:Sv->En->Prop}(hi:ρ[i]? = some (vT (.tup l)))(h:l[j]? = some d)(q:Q (.tr d) ρ):xOp ixX (cV i) (xC (.int (j:Int))) ρ Q:=by
 have Fj:=aW.mp hi
 unfold xOp cV
 simp only[hi]
 have e:ρ.set i (vT (Sv.tr (.tup l)).d)=ρ:=by
  obtain⟨a,b⟩:=Fj
  show ρ.set i (vT (.tup l))=ρ
  rw[<-b]
  exact iW a
 rw[e]
 show(match atI l (j:Int)with | some d=>Q (.tr d) ρ | none=>False)
 rw[ev_ h]
 exact q
theorem fk_{ρ:En}{i:Nat}{s:Sl}(h:ρ[i]? = some s):ρ.set i s=ρ:=by
 obtain⟨a,b⟩:=aW.mp h
 rw[<-b]
 exact iW a
theorem ei_{t:XT}{u:XA}{ρ:En}{Q:List Sv->En->Prop}(h:t ρ λs ρ1=>u ρ1 λss ρ2=>Q (s::ss) ρ2):cE t u ρ Q:=h
theorem aRe{l:List Dx}{i j:Nat}{r:Int}{ρ:En}{Q:Sv->En->Prop}(hi:ρ[i]? = some (vT (.lst l)))(hj:ρ[j]? = some (vT (.int r)))(h0:0<=r)(h1:r<(l.length:Int))(q:∀d∈l,Q (.tr d) ρ):xOp ixX (cV i) (cV j) ρ Q:=by
 unfold xOp cV
 simp only[hi]
 rw[show ρ.set i (vT (Sv.tr (.lst l)).d)=ρ from fk_ hi]
 simp only[hj]
 rw[show ρ.set j (vT (Sv.tr (.int r)).d)=ρ from fk_ hj]
 exact zR h0 h1 q
theorem qJ{g:G2}{ta tb:XT}{ρ:En}{Q:Sv->En->Prop}(h:ta ρ λa ρ1=>tb ρ1 λb ρ2=>g a.d b.d λs=>Q s ρ2):xOp g ta tb ρ Q:=h
theorem aGy{u:XA}{ρ:En}{Q:Sv->En->Prop}(h:u ρ λss ρ'=>ss.length<=1000000/\Q (.ol (ss.map Sv.d)) ρ'):iQ u ρ Q:=h
theorem aRh{l:List Dx}{i:Nat}{c r:Int}{ρ:En}{Q:Sv->En->Prop}(hi:ρ[i]? = some (vT (.lst l)))(h0:0<=r)(h1:r<(l.length:Int))(q:∀d∈l,Q (.tr (.dic [(.inl c,d)])) ρ):xD1 (xC (.int c)) (xOp ixX (cV i) (xC (.int r))) ρ Q:=by
 unfold xD1 xOp cV xC
 simp only[hi]
 rw[show ρ.set i (vT (Sv.tr (.lst l)).d)=ρ from fk_ hi]
 exact zR h0 h1 λd hd=>⟨rfl,q d hd⟩
def gBV(n:Nat):GB:=λl ds Q=>∃(B:Int) (kd:Kd) (vd:Vd),ds=[kd.x,kd.vx vd]/\PoolX B l/\kd.Fit/\kd.Val vd/\kd.deep<=n/\n<=5/\B+tb n<2^60/\∀(d:Dx) (l':List Dx),Gd (kd.deep+1) d->PoolX (B+tb n) l'->Q d l'
def gBW(n:Nat):GB:=λl ds Q=>∃(B:Int) (k:Kd) (m:Int) (vs:List Vd),ds=[(Kd.row k m).x,(Kd.row k m).vx (.row vs)]/\PoolX B l/\(Kd.row k m).Fit/\(Kd.row k m).Val (.row vs)/\k.deep<=n/\n<=5/\B+tb n+2<2^60/\∀(d:Dx) (l':List Dx),Gd (k.deep+2) d->PoolX (B+tb n+2) l'->Q d l'
section
variable{f:Addr}{n j:Nat}
theorem aQd(F:Fun K "_law_bad_row" "_law_bad_row" dp_ f fd)(Bg:Cal P w K mg base 1 "_law_take" AC (spB gTK))(Fv:Cal P w K mg base j "_law_bad_value" AA (spB (gBV n)))(hj:1<=j)(m_len:mg "len" = none)(m_tuple:mg "tuple" = none) :
  FnOk P w K mg base CX0 (j+1) f fd AA (spB (gBW n)):=by
 refine i5 F gG (λl ds Q h=>by obtain⟨_,_,_,_,rfl,_⟩:=h;rfl) (by decide) λAf A outer s H E hr=>?_
 have Am:=rP hr
 have Ag:=bQ Am
 refine⟨_,(dP (gE (i:=3) gG.nd rfl (Or.inl rfl) (iV (i:=0) Bg (hr.mono (by lia)) (pv 0) (bJ (lO (rG K) tF (by rfl) m_len PySem.boot_len (bJ (bP (pv 2)) cI)) cI)))
  (dP (gE (i:=4) gG.nd rfl (Or.inl rfl) (zS (lH (bJ (kG (kG (fh_ K (bP (pv 2)) ia_ (fv_ (bP (pv 3)))) (lH (bJ (iV (i:=0) Fv (hr.mono (by lia)) (pv 0) (bJ (eV K (pv 1)) (bJ (rC K (bP (pv 2)) (bP (pv 3)) (λ_ _=>rfl)) cI))) cI))) (fh_ K (bP (pv 2)) (fv_ (kG (bP (pv 3)) dC)) ia_)) cI)) dC))
  (dP (gE (i:=4) gG.nd rfl (Or.inl rfl) (kG (bP (pv 4)) (lH (bJ (kG (bP (pv 2)) (fh_ K (bP (pv 2)) (fv_ (bP (pv 3))) (fv_ (kG (bP (pv 3)) dC)))) (bJ (kG (fh_ K (bP (pv 2)) ia_ (fv_ (bP (pv 3)))) (fh_ K (bP (pv 2)) (fv_ (kG (bP (pv 3)) dC)) ia_)) (bJ (ej_ (ja_ K) zA (by rfl) m_tuple dq_ (bJ (bP (pv 2)) cI)) (bJ ib_ cI)))))))
  (dX (fM (rC K (kG (bP (pv 4)) (lH (bJ (aTp dC (eV K (pv 2))) (bJ (lH cI) cI)))) (iV (i:=0) Bg (hr.mono (by lia)) (pv 0) (bJ dC cI)) (λ_ _=>rfl))))))),λl ds Q h=>?_⟩
 clear Ag Am hj
 obtain⟨B,k,m,vs,rfl,hP,hf,hv,hd,hn,hB,q⟩:=h
 obtain⟨f1,f2,f3⟩:=hf
 simp only[Kd.Val]at hv
 have Ej:=hv.1
 have J5:tb n=4*n:=rfl
 simp only[Kd.vx]
 have vz:GG k.deep 20 (vs.map k.vx):=⟨by rw[aC];lia,λd hd=>by obtain⟨v,hm,rfl⟩:=cD.mp hd;exact Kd.vx_sz k v f1 (hv.2 v hm)⟩
 have vx:∀d∈vs.map k.vx,∃v,k.Val v/\d=k.vx v:=λd hd=>by obtain⟨v,hm,rfl⟩:=cD.mp hd;exact⟨v,hv.2 v hm,rfl⟩
 have vl:((vs.map k.vx).length:Int)=m:=by rw[aC];exact Ej
 generalize vs.map k.vx=ws at *
 have hl:=vz.1
 refine⟨rfl,B,(ws.length:Int),rfl,hP,by lia,by lia,by lia,λr l1 r0 r1 De=>?_⟩
 refine⟨rfl,ei_ (vO (j:=1) (d:=k.x) rfl rfl (ei_ (aRe rfl rfl r0 r1 λd0 Hf=>?_)))⟩
 obtain⟨v,hv0,rfl⟩:=vx d0 Hf
 refine⟨B+1,k,v,rfl,De,f1,hv0,hd,hn,by lia,λd l2 Fl Cy=>?_⟩
 have c1:=(vz.cut none (some r)).mono (n':=k.deep+1) (by lia)
 have c2:=(vz.cut (some (r+1)) none).mono (n':=k.deep+1) (by lia)
 have g1:=(c1.app (.one Fl)).app c2
 refine⟨by show 1<=1000000;decide,by have:=c1.1;show _+1<=_;lia,by have:=g1.1;have:=c1.1;have:=c2.1;rw[aK];show _+1+_<=_;lia,by show 1<=1000000;decide,⟨by decide,by decide,by show 3<=1000000;decide⟩,?_⟩
 dsimp only
 generalize he:qV ws none (some r)++List.map Sv.d [Sv.tr d]++qV ws (some (r+1)) none=e at *
 have g1':GG (k.deep+1) 41 e:=by rw[<-he];exact g1
 change dU _ _ [.bw l2,vT (Kd.row k m).x,vT (.lst ws),vT (.int r),.v (.ol [.lst e,.lst e,.lst e])] _
 have c3:=vz.cut (some r) (some (r+1))
 have c4:=vz.cut none (some r)
 have c5:=vz.cut (some (r+1)) none
 refine⟨by have:=c3.1;show _+_<=_;lia,by have:=c4.1;have:=c5.1;show _+_<=_;lia,by show 4<=1000000;decide,by show 3+4<=1000000;decide,?_⟩
 dsimp only
 change hW _ [.bw l2,vT (Kd.row k m).x,vT (.lst ws),vT (.int r),.v (.ol ([.lst e,.lst e,.lst e]++[.lst (ws++qV ws (some r) (some (r+1))),.lst (qV ws none (some r)++qV ws (some (r+1)) none),.tup ws,.non]))] _
 refine qJ (qJ (is_ rfl (aGy (ei_ (aRh rfl (by decide) (by lia) λd0 Hf=>?_)))))
 refine⟨by show 0<=1000000;decide,by show 2<=1000000;decide,by show 7+2<=1000000;decide,rfl,B+1+tb n,9,rfl,Cy,by lia,by decide,by decide,λr9 l3 r90 r91 B9=>?_⟩
 have hw:=vz.mono (n':=k.deep+1) (by lia)
 have ge:Gd (k.deep+2) (.lst e):=g1'.lst (by decide) (aP _)
 refine zR (l:=[.lst e,.lst e,.lst e]++[.lst (ws++qV ws (some r) (some (r+1))),.lst (qV ws none (some r)++qV ws (some (r+1)) none),.tup ws,.non]++[.dic [(.inl 0,d0)],.lst []]) r90 (by show r9<9;exact r91) ?_
 intro dd E8
 refine q dd l3 ?_ (B9.mono (by lia))
 refine((GG.cons ge (.cons ge (.one ge))).app (.cons ((hw.app (c3.mono (by lia))).lst (by decide) (aP _)) (.cons ((c1.app c2).lst (by decide) (aP _)) (.cons (hw.tup (by decide) (aP _)) (.one qK))))).app (.cons ?_ (.one (GG.nil.lst (m:=0) (n:=0) (by decide) (by lia)))) |>.2 dd E8
 have z:=vz.2 d0 Hf
 exact⟨by simp only[Dx.Sz,aAv];exact⟨by show 1<=100000;decide,List.pairwise_singleton _ _,z.1,trivial⟩,by have:=z.2;simp only[Dx.deep,mW];lia⟩
end
theorem aCy{G:Hp}{l:List (Key×Dx)}{ws:List (Key×V)}(h:All2 (KvX G) l ws):ws.map (·.1)=l.map (·.1):=(oM h).symm
def aOh:GC:=λds Q=>∃(l:List (Key×Dx)) (ks:List Str),ds=[.dic l]/\l.map (·.1)=ks.map Key.inr/\ks.length<64/\∀ss:List Str,ss.Perm ks->Q (.ol (ss.map Dx.str))
theorem aHo:gZ aEq aOh:=by
 intro F P H ds xs Q Qx R hs g k
 obtain⟨l,ks,rfl,hk,Lq,q⟩:=g
 obtain⟨y,rfl,hx⟩:=vY hs
 obtain⟨a,ws,rfl,h1,h2⟩:=hx.dic_eq
 refine⟨a,ws,ks,rfl,xJ R h1,(aCy h2).trans hk,Lq,λss hp _ p hn=>k _ _ _ (R.newL (l:=ss.map Dx.str) hn (wW ss)) (q ss hp)⟩
def Pln(l:List (Key×Dx)):Prop:=∀p∈l,∃x,p.1=Key.inr x
theorem Pln.put{l:List (Key×Dx)}(h:Pln l)(k:Key):pM k l=true:=by
 have ho:(l.any λp=>p.1.odd)=false:=gK.mpr λp hp=>by
  obtain⟨x,e⟩:=h p hp
  rw[e]
  exact aG
 have hc:(l.all λp=>! fW p.1 k)=true:=cO.mpr λp hp=>by
  obtain⟨x,e⟩:=h p hp
  rw[e]
  cases k<;>rfl
 have hg:k.odd=true->fA l k=none:=λhk=>by
  unfold fA
  rw[List.find?_eq_none.mpr λp hp z=>by
   obtain⟨x,e⟩:=h p hp
   rw[<-of_decide_eq_true z,e]at hk
   cases hk]
  rfl
 unfold pM
 rw[ho,hc]
 cases hk:k.odd with
 |false=>rfl
 |true=>rw[hg hk];rfl
theorem aEw{l:List (Key×Dx)}{k:Key}{d:Dx}{p:Key×Dx}(h:p∈iT l k d):p.2=d\/p∈l:=by
 unfold iT at h
 split at h
 ·obtain ⟨q,hq,rfl⟩:=cD.mp h
  split
  ·exact .inl rfl
  ·exact .inr hq
 ·rcases bK.mp h with h | h
  ·exact .inr h
  ·rw[aF.mp h];exact .inl rfl
theorem aJp{l:List (Key×Dx)}{k:Key}{d:Dx}:(iT l k d).length<=l.length+1:=by
 unfold iT
 split
 ·rw[aC];lia
 ·rw[aK];exact aP _
theorem aJq{l:List (Key×Dx)}{k:Key}{d:Dx}(h:ApX l)(hp:Pln l):ApX (iT l k d):=by
 unfold iT
 split
 ·exact gJ.mpr (h.imp λ{a b} z=>by
   have e:∀c:Key×Dx,(if c.1=k then(c.1,d)else c).1=c.1:=λc=>by split<;>rfl
   rw[e,e]
   exact z)
 ·rename_i hn
  refine List.pairwise_append.mpr ⟨h,List.pairwise_singleton _ _,λp B6 q hq=>?_⟩
  rw[aF.mp hq]
  obtain⟨x,e⟩:=hp p B6
  refine⟨λz=>hn (fD.mpr ⟨p,B6,dzT z⟩),?_⟩
  rw[e]
  cases k<;>rfl
theorem h_{n N m:Nat}{l:List (Key×Dx)}(hl:l.length<=m)(hm:m<=100000)(ha:ApX l)(h:∀p∈l,Gd n p.2)(e:n+1<=N):Gd N (.dic l):=⟨by simp only[Dx.Sz];exact⟨by lia,ha,uH λp hp=>(h p hp).1⟩,by have:=iu_ λp hp=>(h p hp).2;simp only[Dx.deep];lia⟩
theorem aHb{n N m:Nat}{l:List (Key×Dx)}{d:Dx}(k:Key)(hl:l.length<=m)(hm:m+1<=100000)(ha:ApX l)(hp:Pln l)(h:∀p∈l,Gd n p.2)(hd:Gd n d)(e:n+1<=N):Gd N (.dic (iT l k d)):=h_ (m:=m+1) (by have:=aJp (l:=l) (k:=k) (d:=d);lia) hm (aJq ha hp) (λp hp=>(aEw hp).elim (λz=>z ▸ hd) (h p)) e
theorem qR{l:List (Key×Dx)}{k:Key}{p:Key×Dx}(h:p∈jG l k):p∈l:=(hY.mp h).1
theorem y8{l:List (Key×Dx)}{k:Key}:(jG l k).length<=l.length:=List.length_filter_le _ _
theorem y9{l:List (Key×Dx)}{k:Key}(h:ApX l):ApX (jG l k):=List.Pairwise.filter _ h
theorem Pln.odd{l:List (Key×Dx)}(h:Pln l):(l.any λp=>p.1.odd)=false:=gK.mpr λp hp=>by
  obtain⟨x,e⟩:=h p hp
  rw[e]
  exact aG
theorem aGw{o:Option Sl}{l:List (Key×Dx)}{e s:Dx}{R:List (Key×Dx)->Prop}(ho:o=some (.v (.od l)))(hl:l.length<1000000)(hp:Pln l)(he:(∃x,e=.tup [.str x])\/∃k,kY e=some k)(h:∀k,R (iT l k s)):dpT o e s R:=by
 subst ho
 unfold dpT
 split
 ·rename_i z;cases z;exact⟨hl,λb=>⟨hp.put _,h _⟩⟩
 ·rename_i z hx
  cases z
  rcases he with⟨x,rfl⟩ | ⟨k,hk⟩
  ·exact(hx x rfl).elim
  ·rw[hk];exact⟨hl,hp.put _,h _⟩
 ·rename_i Ey Ck;first | exact(Ey _ rfl).elim | exact(Ck _ rfl).elim
theorem aRg{t:XT}{K:XS}{ρ:En}{D:XD}(h:t ρ λ_ ρ'=>K ρ' D):dU (aJd t) K ρ D:=h
theorem x6:∀{fs:List (Str×Kd)} {f:Str×Kd},qO fs->f∈fs->Nm f.1
 | [],_,_,h=>by simp at h
 |g::r,f,hf,h=>by
  rcases aE.mp h with rfl | h
  ·exact hf.1.1
  ·exact x6 hf.2 h
def gBR(n:Nat):GB:=λl ds Q=>∃(B:Int) (fs:List (Str×Kd)) (vs:List Vd),ds=[(Kd.rcd fs).x,(Kd.rcd fs).vx (.rcd vs)]/\PoolX B l/\(Kd.rcd fs).Fit/\(Kd.rcd fs).Val (.rcd vs)/\cX fs<=n/\n<=5/\B+tb n+3<2^60/\∀(d:Dx) (l':List Dx),Gd (cX fs+2) d->PoolX (B+tb n+3) l'->Q d l'
theorem aDp:∀{fs:List (Str×Kd)} {vs:List Vd} {f:Str×Kd},iR fs vs->f∈fs->∃v,f.2.Val v/\(Key.inr f.1,f.2.vx v)∈vxF fs vs
 |g::r,v::vs,f,h,hm=>by
  simp only[iR]at h
  simp only[vxF]
  rcases aE.mp hm with rfl | hm
  ·exact⟨v,h.1,aA⟩
  ·obtain ⟨v',h1,h2⟩:=aDp h.2 hm
   exact⟨v',h1,aB _ h2⟩
 |g::r,[],f,h,hm=>by simp[iR]at h
theorem aLm{g:GC}{u:XA}{ρ:En}{Q:Sv->En->Prop}(h:u ρ λss ρ'=>g (ss.map Sv.d) λs=>Q s ρ'):dM g u ρ Q:=h
theorem aRf{i j:Nat}{a b:Dx}{ρ:En}{K:En->Prop}(h:K ((ρ.set i (vT a)).set j (vT b))):gxT [i,j] (.tup [a,b]) ρ K:=h
theorem aGz{l:List (Key×Dx)}{i j:Nat}{x:Str}{d:Dx}{ρ:En}{Q:Sv->En->Prop}(hi:ρ[i]? = some (vT (.dic l)))(hj:ρ[j]? = some (vT (.str x)))(hg:fA l (.inr x)=some d)(q:Q (.tr d) ρ):xOp dgX (cV i) (cV j) ρ Q:=by
 unfold xOp cV
 simp only[hi]
 rw[show ρ.set i (vT (Sv.tr (.dic l)).d)=ρ from fk_ hi]
 simp only[hj]
 rw[show ρ.set j (vT (Sv.tr (.str x)).d)=ρ from fk_ hj]
 simp only[Sv.d,dgX,kY,hg]
 exact⟨rfl,q⟩
theorem aGx{l:List (Key×Dx)}{i j:Nat}{x:Str}{d:Dx}{ρ:En}{Q:Sv->En->Prop}(hi:ρ[i]? = some (.v (.od l)))(hj:ρ[j]? = some (vT (.str x)))(hp:Pln l)(hg:fA l (.inr x)=some d)(q:Q (.tr d) (ρ.set i (.v (.od (jG l (.inr x)))))):aDl i (cV j) ρ Q:=by
 refine⟨⟨l,hi⟩,?_⟩
 unfold cV
 simp only[hj]
 rw[show ρ.set j (vT (Sv.tr (.str x)).d)=ρ from fk_ hj]
 simp only[Sv.d,hi,kY,hg]
 exact⟨rfl,hp.odd,q⟩
theorem aVl{c:XC}{G H K:XS}{ρ ρ':En}{D:XD}(b:Bool)(hc:∀Q:Bool->En->Prop,Q b ρ'->c ρ Q)(ht:b=true->G ρ' { D with nx:=λρ=>K ρ D })(hf:b=false->H ρ' { D with nx:=λρ=>K ρ D }):dU (xIf c G H) K ρ D:=hc _ (by
 cases b with
 |true=>exact ht rfl
 |false=>exact hf rfl)
theorem g_{c:XC}{G H:XS}{ρ ρ':En}{D:XD}(b:Bool)(hc:∀Q:Bool->En->Prop,Q b ρ'->c ρ Q)(ht:b=true->G ρ' D)(hf:b=false->H ρ' D):xIf c G H ρ D:=hc _ (by
 cases b with
 |true=>exact ht rfl
 |false=>exact hf rfl)
theorem aRj{t:XT}{gx:XG}{K:XS}{ρ:En}{D:XD}(h:t ρ λs ρ'=>gx s.d ρ' λρ2=>K ρ2 D):dU (aNz t gx) K ρ D:=h
section
variable{f:Addr}{n j:Nat}
theorem aQf(F:Fun K "_law_bad_record" "_law_bad_record" cr_ f fd)(Bg:Cal P w K mg base 1 "_law_take" AC (spB gTK))(Fv:Cal P w K mg base j "_law_bad_value" AA (spB (gBV n)))(hj:1<=j)(m_len:mg "len" = none)(m_list:mg "list" = none)(Aw:mg "sorted" = none) :
  FnOk P w K mg base CX0 (j+1) f fd AA (spB (gBR n)):=by
 refine i5 F cZ (λl ds Q h=>by obtain⟨_,_,_,rfl,_⟩:=h;rfl) (by decide) λAf A outer s H E hr=>?_
 have Am:=rP hr
 have Ag:=bQ Am
 refine⟨_,(dP (tW (fd_ (n:=99) (is:=[3,4]) rfl (by decide)) λF=>gg_ (XE.at (Ex:=dZ) F (rC K (eV K (pv 1)) (iV (i:=0) Bg (hr.mono (by lia)) (pv 0) (bJ (lO (rG K) tF (by rfl) m_len PySem.boot_len (bJ (eV K (pv 1)) cI)) cI)) (λ_ _=>rfl))) (hl_ rfl (lJ (gF (i:=3) cZ.nd rfl (Or.inl rfl)) (lJ (gF (i:=4) cZ.nd rfl (Or.inl rfl)) zT))))
  (dP (gE (i:=5) cZ.nd rfl (Or.inl rfl) id_)
  (dP (m7 PassesOwn.never rfl (pv 2) (gF (i:=6) cZ.nd rfl (Or.inl rfl)) (nK (n:=99) (i:=6) (by decide)) (dX (i3 λF=>PS.weak (hb_ Am (pv 5) (XE.at (Ex:=dZ) F (bP (pv 6))) (XE.at (Ex:=dZ) F (eg_ Am (bP (pv 2)) (bP (pv 6)) (λ_ _=>rfl))) rfl) nX)))
  (dP (gE (i:=7) cZ.nd rfl (Or.inl rfl) (iV (i:=0) Bg (hr.mono (by lia)) (pv 0) (bJ dC cI)))
  (dP (gS (iH pR pP (bP (pv 7)) dC (bR _)) (dX (i3 λF=>PS.weak (hb_ Am (pv 5) (XE.at (Ex:=dZ) F (bP (pv 3))) (XE.at (Ex:=dZ) F (iV (i:=0) Fv (hr.mono (by lia)) (pv 0) (bJ (bP (pv 4)) (bJ (eg_ Am (bP (pv 2)) (bP (pv 3)) (λ_ _=>rfl)) cI)))) rfl) nX)) (dX (gS (iH (jJ K Ag) jH (bP (pv 7)) dC (bR _)) (dX (hz_ (m_ (pv 5) (bP (pv 3)) ⟨rfl,rfl,rfl,rfl⟩))) (dX (gS (iH (jJ K Ag) jH (bP (pv 7)) dC (bR _)) (dP (gE (i:=8) cZ.nd rfl (Or.inl rfl) (lH (bJ kZ (bJ kZ (bJ dC (bJ (kG (bP (pv 3)) kZ) (bJ ib_ (bJ (kG (bP (pv 3)) kZ) (bJ (kG kZ (bP (pv 3))) (bJ (kG kZ (bP (pv 3))) (bJ (x9 (bJ (bP (pv 3)) cI)) cI)))))))))))
  (dX (i3 λF=>PS.weak (hb_ Am (pv 5) (XE.at (Ex:=dZ) F (rC K (bP (pv 8)) (iV (i:=0) Bg (hr.mono (by lia)) (pv 0) (bJ dC cI)) (λ_ _=>rfl))) (XE.at (Ex:=dZ) F (eg_ Am (bP (pv 2)) (bP (pv 3)) (λ_ _=>rfl))) rfl) wT))) (dX (gS (iH (jJ K Ag) jH (bP (pv 7)) dC (bR _)) (dP (hz_ (m_ (pv 5) (bP (pv 3)) ⟨rfl,rfl,rfl,rfl⟩))
  (dX (i3 λF=>PS.weak (hb_ Am (pv 5) (XE.at (Ex:=dZ) F (rC K (lH (bJ (kG (bP (pv 3)) kZ) (bJ dC (bJ kZ (bJ wM cI))))) (iV (i:=0) Bg (hr.mono (by lia)) (pv 0) (bJ dC cI)) (λ_ _=>rfl))) (XE.at (Ex:=dZ) F (eg_ Am (bP (pv 2)) (bP (pv 3)) (λ_ _=>rfl))) rfl) wT))) (dX (fM (rC K (lH (bJ (ej_ (j8 (by rfl)) aHp (by rfl) m_list hj_ (bJ (bP (pv 2)) cI)) (bJ (lO (wD rfl) aHo (by rfl) Aw aCs (bJ (bP (pv 2)) cI)) (bJ ib_ (bJ id_ (bJ (lH (bJ (bP (pv 2)) cI)) (bJ (x9 (bJ (bP (pv 2)) cI)) (bJ dC cI)))))))) (iV (i:=0) Bg (hr.mono (by lia)) (pv 0) (bJ dC cI)) (λ_ _=>rfl)))))))))))
  (dX (fM (dk_ (pv 5))))))))),λl ds Q h=>?_⟩
 clear Ag Am hj
 obtain⟨B,fs,vs,rfl,hP,hf,hv,hd,hn,hB,q⟩:=h
 have hsz:=Kd.vx_sz _ _ hf hv
 obtain⟨f1,f2,f3,Dc⟩:=hf
 simp only[Kd.Val]at hv
 have J5:tb n=4*n:=rfl
 have Ej:=gc_ hv
 have hz:=a8 fs vs f1 hv
 have El:=fi_ Ej
 have Db:=λf=>aDp (f:=f) hv
 simp only[Kd.vx]at hsz ⊢
 simp only[Dx.Sz]at hsz
 have Ah:(vxF fs vs).length=fs.length:=by have:=congrArg List.length El;simpa using this
 have Ay:Pln (vxF fs vs):=λp hp=>by
  have:=cG (f:=λx:Key×Dx=>x.1) hp
  rw[El]at this
  obtain⟨f,_,e⟩:=cD.mp this
  exact⟨f.1,e.symm⟩
 have Fq:=hsz.1.2.1
 have Kx:(vxF fs vs).map (·.1)=(fs.map (·.1)).map Key.inr:=by rw[El,eQ];rfl
 generalize vxF fs vs=D at *
 have hx:(Kd.rcd fs).x=.tup [.str "record",.lst (xF fs)]:=by simp only[Kd.x]
 have D0:(xF fs).length=fs.length:=by rw[wN,aC]
 rw[hx]
 refine aRj (qJ (vO (j:=1) (d:=.lst (xF fs)) rfl rfl ⟨rfl,ei_ (aLm (ei_ (vO (j:=1) (d:=.lst (xF fs)) rfl rfl ?_)))⟩))
 refine⟨B,((xF fs).length:Int),rfl,hP,by lia,by lia,by lia,λr l1 r0 r1 De=>zR r0 r1 λd0 Hf=>?_⟩
 rw[wN]at Hf
 obtain⟨⟨nm,ik⟩,hm,rfl⟩:=cD.mp Hf
 obtain⟨v,G6,Ez⟩:=Db _ hm
 have Bw:fA D (.inr nm)=some (ik.vx v):=hf_ Fq.nodup Ez
 obtain⟨hif,hid⟩:=sZ f1 hm
 have Fh:nm.length<=8:=by have:=x6 f1 hm;rw[j9];exact this.2.1
 refine aRf ?_
 change dU _ _ [.bw l1,vT (.tup [.str "record",.lst (xF fs)]),vT (.dic D),vT (.str nm),vT ik.x,.un,.un,.un,.un] _
 refine mU ?_
 show iP _ _ _ (fS D) _
 refine hw_ (λks ρ=>∃done rest x,D=done++rest/\ks=fS rest/\ρ=[.bw l1,vT (.tup [.str "record",.lst (xF fs)]),vT (.dic D),vT (.str nm),vT ik.x,.v (.od done),x,.un,.un]) (λρ h=>?_) (λk ks ρ K h hk=>?_) ⟨[],D,.un,rfl,rfl,rfl⟩
 rotate_left 1
 ·obtain ⟨done,rest,x,e1,e2,rfl⟩:=h
  cases rest with
  |nil=>simp[fS]at e2
  |cons p rest =>
   simp only[fS,aL,List.cons.injEq]at e2
   obtain⟨rfl,rfl⟩:=e2
   have hm:p∈D:=by rw[e1];exact aI _ aA
   have Bw:=hf_ Fq.nodup hm
   have Dl:p.1∉done.map (·.1):=by
    have:=Fq.nodup
    rw[e1,cP,dY]at this
    exact λz=>this.2.2 _ z _ (cG (f:=λx:Key×Dx=>x.1) aA) rfl
   have Ah:done.length<=D.length:=by rw[e1,aK];lia
   have Au:=hk [.bw l1,vT (.tup [.str "record",.lst (xF fs)]),vT (.dic D),vT (.str nm),vT ik.x,.v (.od (iT done p.1 p.2)),vT (mQ p.1),.un,.un] ⟨done++[p],rest,vT (mQ p.1),by rw[e1,bN];rfl,rfl,by rw[pL Dl]⟩
   simp only[gxN,n5,xOp,cV,aQ,aS,bC,aZ,Sv.d,dgX,hu_,Bw]
   exact⟨Fq.seek hm,⟨done,rfl⟩,by lia,(e1 ▸ Fq).put,Au⟩
 obtain⟨done,rest,x,e1,e2,rfl⟩:=h
 have:rest=[]:=by cases rest with | nil=>rfl | cons a b=>simp[fS]at e2
 subst this
 rw[cH]at e1
 subst e1
 refine⟨rfl,B+1,7,rfl,De,by lia,by decide,by decide,λwy l2 w0 w1 Cy=>?_⟩
 dsimp only
 have gD:∀p∈D,Gd (cX fs+1) p.2:=λp hp=>⟨(hz p hp).1,nzL (hz p hp).2 (Nat.le_succ _)⟩
 have gv:Gd (cX fs+1) (ik.vx v):=gD _ Ez
 have gQ:∀(k:Key) (d:Dx) (l':List Dx),Gd (cX fs+1) d->PoolX (B+tb n+3) l'->Q (.dic (iT D k d)) l':=λk d l' hd hp=>q _ _ (aHb (m:=8) k (by lia) (by decide) Fq Ay gD hd (aP _)) hp
 change dU _ _ [.bw l2,vT (.tup [.str "record",.lst (xF fs)]),vT (.dic D),vT (.str nm),vT ik.x,.v (.od D),x,vT (.int wy),.un] _
 refine aVl (decide (wy<3)) (ρ':=[.bw l2,vT (.tup [.str "record",.lst (xF fs)]),vT (.dic D),vT (.str nm),vT ik.x,.v (.od D),x,vT (.int wy),.un]) (λQ q=>q) (λ_=>?_) (λ_=>?_)
 ·refine ⟨rfl,ei_ (is_ rfl (ei_ (aGz rfl rfl Bw ?_)))⟩
  refine⟨B+2,ik,v,rfl,Cy.mono (by lia),hif,G6,nzL hid hd,hn,by lia,λd l3 Fl B9=>?_⟩
  refine⟨⟨D,rfl⟩,by lia,Ay.put _,?_⟩
  exact gQ _ d l3 (Fl.mono (Nat.succ_le_succ hid)) (B9.mono (by lia))
 refine g_ (decide (wy=3)) (ρ':=[.bw l2,vT (.tup [.str "record",.lst (xF fs)]),vT (.dic D),vT (.str nm),vT ik.x,.v (.od D),x,vT (.int wy),.un]) (λQ q=>q) (λ_=>?_) (λ_=>?_)
 ·refine aGx (i:=5) rfl rfl Ay Bw ?_
  exact q (.dic (jG D (.inr nm))) l2 (h_ (m:=8) (nzL y8 (by lia)) (by decide) (y9 Fq) (λp hp=>gD p (qR hp)) (aP _)) (Cy.mono (by lia))
 refine g_ (decide (wy=4)) (ρ':=[.bw l2,vT (.tup [.str "record",.lst (xF fs)]),vT (.dic D),vT (.str nm),vT ik.x,.v (.od D),x,vT (.int wy),.un]) (λQ q=>q) (λ_=>?_) (λ_=>?_)
 ·refine ⟨by show nm.length + 1≤1000000; lia,by show nm.length + 1≤1000000; lia,by show 1 + nm.length≤1000000; lia,by show 1 + nm.length≤1000000; lia,by show 1≤1000000; decide,by show 9≤1000000; decide,?_⟩
  dsimp only
  change zY _ _ _ [.bw l2,vT (.tup [.str "record",.lst (xF fs)]),vT (.dic D),vT (.str nm),vT ik.x,.v (.od D),x,vT (.int wy),.v (.ol [.str "x",.str "",.int 1,.str (nm ++ "a"),.non,.str (nm ++ " "),.str (" " ++ nm),.str ("A" ++ nm),.tup [.str nm]])] _
  refine aGz (i:=2) (j:=3) rfl rfl Bw ⟨⟨D,rfl⟩,qJ (is_ rfl ⟨rfl,B+2,9,rfl,Cy.mono (by lia),by lia,by decide,by decide,λr9 l3 r90 r91 B9=>?_⟩)⟩
  refine zR (l:=[.str "x",.str "",.int 1,.str (nm ++ "a"),.non,.str (nm ++ " "),.str (" " ++ nm),.str ("A" ++ nm),.tup [.str nm]]) r90 (by show r9<9;exact r91) ?_
  intro e he
  refine aGw (l:=D) rfl (by lia) Ay ?_ ?_
  rotate_left 1
  ·intro k
   exact gQ k _ l3 gv (B9.mono (by lia))
  simp only[aE,bI,or_false]at he
  rcases he with rfl | rfl | rfl | rfl | rfl | rfl | rfl | rfl | rfl<;>first | exact .inr ⟨_,rfl⟩ | exact .inl ⟨_,rfl⟩
 refine g_ (decide (wy=5)) (ρ':=[.bw l2,vT (.tup [.str "record",.lst (xF fs)]),vT (.dic D),vT (.str nm),vT ik.x,.v (.od D),x,vT (.int wy),.un]) (λQ q=>q) (λ_=>?_) (λ_=>?_)
 ·refine aRg (aGx (i:=5) (j:=3) (x:=nm) rfl rfl Ay Bw ?_)
  dsimp only
  have Ib:Pln (jG D (.inr nm)):=λp hp=>Ay p (qR hp)
  have Ip:(jG D (.inr nm)).length<=8:=nzL y8 (by lia)
  have hda:=y9 (k:=.inr nm) Fq
  have Fl:∀p∈jG D (.inr nm),Gd (cX fs+1) p.2:=λp hp=>gD p (qR hp)
  generalize jG D (.inr nm)=D' at *
  change zY _ _ _ [.bw l2,vT (.tup [.str "record",.lst (xF fs)]),vT (.dic D),vT (.str nm),vT ik.x,.v (.od D'),x,vT (.int wy),.un] _
  refine aGz (i:=2) (j:=3) rfl rfl Bw ⟨⟨D',rfl⟩,?_⟩
  refine⟨by show nm.length+1<=1000000;lia,by show 4<=1000000;decide,rfl,B+2,4,rfl,Cy.mono (by lia),by lia,by decide,by decide,λr9 l3 r90 r91 B9=>?_⟩
  refine zR (l:=[.str (nm ++ "z"),.int 0,.str "q",.bl true]) r90 (by show r9<4;exact r91) ?_
  intro e he
  refine aGw (l:=D') rfl (by lia) Ib ?_ ?_
  rotate_left 1
  ·intro k
   exact q (.dic (iT D' k (ik.vx v))) l3 (aHb (m:=8) k Ip (by decide) hda Ib Fl gv (aP _)) (B9.mono (by lia))
  simp only[aE,bI,or_false]at he
  rcases he with rfl | rfl | rfl | rfl<;>exact .inr ⟨_,rfl⟩
 refine⟨D,fs.map (·.1),rfl,Kx,by rw[aC];lia,λss hss=>?_⟩
 refine⟨by show 1<=1000000;decide,by show 1<=1000000;decide,by show 7<=1000000;decide,rfl,B+2,7,rfl,Cy.mono (by lia),by lia,by decide,by decide,λr9 l3 r90 r91 B9=>?_⟩
 refine zR (l:=[.lst (fS D),.lst (ss.map Dx.str),.non,.dic [],.lst [.dic D],.tup [.dic D],.int 0]) r90 (by show r9<7;exact r91) ?_
 intro e he
 refine q e l3 ?_ (B9.mono (by lia))
 have M5:Gd (cX fs+1) (.dic D):=h_ (m:=8) (by lia) (by decide) Fq (λp hp=>hz p hp) (aP _)
 have hK:GG (cX fs+1) 8 (fS D):=⟨by rw[gm_];lia,λd hd=>by
  obtain⟨p,hp,rfl⟩:=cD.mp hd
  obtain⟨x,e⟩:=Ay p hp
  rw[e]
  exact it_ x⟩
 have hS:GG (cX fs+1) 8 (ss.map Dx.str):=⟨by rw[aC,hss.length_eq,aC];lia,λd hd=>by
  obtain⟨x,_,rfl⟩:=cD.mp hd
  exact it_ x⟩
 exact(GG.cons (hK.lst (by decide) (aP _)) (.cons (hS.lst (by decide) (aP _)) (.cons qK (.cons vR (.cons ((GG.one M5).lst (by decide) (aP _)) (.cons ((GG.one M5).tup (by decide) (aP _)) (.one (em_ 0)))))))).2 e he
end
def aUe:GC:=λds Q=>∃n:Int,ds=[.int n]/\0<=n/\n<18446744073709551616/\Q (.tr (.str (rH n)))
theorem aAa:gZ (λxs H Q=>∃n:Int,xs=[.int n]/\0<=n/\n<18446744073709551616/\Q (.str (rH n)) H) aUe:=by
 intro F P H ds xs Q Qx R hs g k
 obtain⟨n,rfl,h0,h1,q⟩:=g
 obtain⟨y,rfl,hx⟩:=vY hs
 cases hx.int_eq
 exact⟨n,rfl,h0,h1,k _ _ H (R.add (IsX.of_str _)) q⟩
section
variable{a b e:Expr}{es:List Expr}{ta tb:XT}{u:XA}{pos p:Pos}{x:Str}{j:Nat}
theorem aIf(ha:Bx (XE X Ex a ta))(hb:Bx (XE X Ex b tb)):Bx (XE X Ex (.BinOp a .Sub b pos) (xOp aUd ta tb)):=⟨hk_ ha.out hb.out⟩
theorem aMi{ps:List Str}{g:GC}(C:Cal X.prog X.w X.K X.mg X.base j x ps (spX g))(hr:Room j X.A)(ha:Bx (XAs X Ex (e::es) u))(hg:Gl X x:=by rfl)(Bs:(x == ("__debug__" : Str))=false:=by decide)(he:nst e=true:=by rfl)(Gm:f6 es=true:=by rfl):Bx (XE X Ex (.Call (.Name x p) (e::es) [] pos) (dM g u)):=⟨fY C hr ha.out hg Bs (sG he) (wY Gm)⟩
end
section
variable{f:Addr}{n j:Nat}
theorem aQe(F:Fun K "_law_bad_value" "_law_bad_value" cx_ f fd)(Bg:Cal P w K mg base 1 "_law_take" AC (spB gTK))(Je:Cal P w K mg base 1 "_law_top" AZ (spX gTP))(Fv:Cal P w K mg base j "_law_bad_value" AA (spB (gBV n)))(CBW:Cal P w K mg base (j+1) "_law_bad_row" AA (spB (gBW n)))(CBR:Cal P w K mg base (j+1) "_law_bad_record" AA (spB (gBR n)))(m_len:mg "len" = none)(m_str:mg "str" = none) :
  FnOk P w K mg base CX0 (j+2) f fd AA (spB (gBV (n+1))):=by
 refine aVu F cT (λl ds Q h=>by obtain⟨_,_,_,rfl,_⟩:=h;rfl) (by decide) λAf A outer s H E hr=>?_
 have Am:=rP hr
 have Ag:=bQ Am
 refine⟨_,(zJ (aIc (j_ (jJ K Ag) jH (lI K (iG (pv 1)) rQ (λ_ _=>rfl)) nB (bR _)) (zJ (mZ (i:=3) cT.nd rfl (Or.inl rfl) (aMi Je (hr.mono (by lia)) (fK (lI K (iG (pv 1)) rQ (λ_ _=>rfl)) jN)))
  (zJ (mZ (i:=4) cT.nd rfl (Or.inl rfl) (eo_ (fK (k9 rQ) (fK (hn_ (iG (pv 3)) rQ) (fK zM (fK zM (fK k8 (fK (tR tK aAa (by rfl) m_str mY (fK (iG (pv 2)) jN)) (fK (eo_ (fK (iG (pv 2)) jN)) (fK (en_ (fK (iG (pv 2)) jN)) (fK (aIf (k9 rQ) (iG (pv 2))) (fK aAj (fK nB jN)))))))))))))
  (eu_ (wI (lI K (hn_ (iG (pv 4)) (eo_ (fK (hn_ (hn_ (iG (pv 3)) rQ) (iG (pv 2))) jN))) (gu_ (i:=0) Bg (hr.mono (by lia)) (pv 0) (fK rQ jN)) (λ_ _=>rfl)))))) wH)
  (zJ (aIc (j_ (jJ K Ag) jH (lI K (iG (pv 1)) rQ (λ_ _=>rfl)) nB (bR _)) (eu_ (wI (gu_ (i:=0) CBW (hr.mono (by lia)) (pv 0) (fK (iG (pv 1)) (fK (iG (pv 2)) jN))))) wH)
  (zJ (aIc (j_ (jJ K Ag) jH (lI K (iG (pv 1)) rQ (λ_ _=>rfl)) nB (bR _)) (eu_ (wI (gu_ (i:=0) CBR (hr.mono (by lia)) (pv 0) (fK (iG (pv 1)) (fK (iG (pv 2)) jN))))) wH)
  (zJ (aSb (fd_ (n:=99) (is:=[5,6]) rfl (by decide)) (iG (pv 2)) (hl_ rfl (lJ (gF (i:=5) cT.nd rfl (Or.inl rfl)) (lJ (gF (i:=6) cT.nd rfl (Or.inl rfl)) zT))))
  (zJ (mZ (i:=7) cT.nd rfl (Or.inl rfl) (aSe (eo_ (fK (en_ (fK (iG (pv 5)) (fK (gu_ (i:=0) Fv (hr.mono (by lia)) (pv 0) (fK (lI K (lI K (iG (pv 1)) rQ (λ_ _=>rfl)) (iG (pv 5)) (λ_ _=>rfl)) (fK (iG (pv 6)) jN))) jN))) jN)) rQ))
  (zJ (mZ (i:=7) cT.nd rfl (Or.inl rfl) (hn_ (iG (pv 7)) (eo_ (fK (en_ (fK (zL (rG K) tF (by rfl) m_len PySem.boot_len (fK (lI K (iG (pv 1)) rQ (λ_ _=>rfl)) jN)) (fK (iG (pv 6)) jN))) (fK (en_ (fK (k9 rQ) (fK (iG (pv 6)) jN))) (fK (en_ (fK (aIf (iG (pv 5)) (zL (rG K) tF (by rfl) m_len PySem.boot_len (fK (lI K (iG (pv 1)) rQ (λ_ _=>rfl)) jN))) (fK (iG (pv 6)) jN))) jN))))))
  (zJ (mZ (i:=7) cT.nd rfl (Or.inl rfl) (hn_ (iG (pv 7)) (eo_ (fK (en_ (fK zM (fK (iG (pv 6)) jN))) (fK (en_ (fK zM (fK (iG (pv 6)) jN))) jN)))))
  (zJ (mZ (i:=7) cT.nd rfl (Or.inl rfl) (hn_ (iG (pv 7)) (eo_ (fK (eo_ (fK (iG (pv 5)) (fK (iG (pv 6)) jN))) (fK (en_ (fK (iG (pv 5)) jN)) (fK (en_ (fK (iG (pv 5)) (fK (iG (pv 6)) (fK rQ jN)))) (fK (en_ (fK (iG (pv 6)) (fK (iG (pv 5)) jN))) (fK (iG (pv 6)) (fK k8 (fK (en_ (fK (tR tK aAa (by rfl) m_str mY (fK (iG (pv 5)) jN)) (fK (iG (pv 6)) jN))) jN))))))))))
  (eu_ (wI (lI K (iG (pv 7)) (gu_ (i:=0) Bg (hr.mono (by lia)) (pv 0) (fK rQ jN)) (λ_ _=>rfl)))))))))))),λl ds Q h=>?_⟩
 clear Ag Am
 obtain⟨B,kd,vd,rfl,hP,hf,hv,hd,hn,hB,q⟩:=h
 have e1:tb (n+1)=4*n+4:=by unfold tb;lia
 have e0:tb n=4*n:=rfl
 rw[e1]at hB q
 cases kd with
 |num wd m =>
  cases vd with
  |num z =>
   simp only[Kd.Val]at hv
   obtain⟨a1,a2,_⟩:=hf
   have g1:=d4 (show wd.toNat<=8 by lia)
   have g2:=t4 (show 1<=wd.toNat by lia)
   simp only[Kd.vx]
   refine⟨wd,rfl,by lia,by lia,?_⟩
   refine⟨z,rfl,hv.1,by lia,by show 1<=1000000;decide,by show 1<=1000000;decide,by show 11<=1000000;decide,by show 1<=1000000;decide,by show 11+1<=1000000;decide,rfl,B,12,rfl,hP,by lia,by decide,by decide,λr l2 r0 r1 Cy=>?_⟩
   refine zR (l:=[.int (-1),.int (256^wd.toNat-1+1),.bl true,.bl false,.non,.str (rH z),.lst [.int z],.tup [.int z],.int (-1-z),.dic [],.str ""]++[.int (256^wd.toNat-1+1+z)]) r0 (by show r<12;exact r1) ?_
   intro d hd
   refine q d l2 ?_ (Cy.mono (by lia))
   have G:GG 2 11 [.int (-1),.int (256^wd.toNat-1+1),.bl true,.bl false,.non,.str (rH z),.lst [.int z],.tup [.int z],.int (-1-z),.dic [],.str ""]:=.cons (em_ _) (.cons (em_ _) (.cons (yH _) (.cons (yH _) (.cons qK (.cons (it_ _) (.cons ((GG.one (em_ _)).lst (by decide) (aP _)) (.cons ((GG.one (em_ _)).tup (by decide) (aP _)) (.cons (em_ _) (.cons vR (.one (it_ _)))))))))))
   exact(G.app (.one (em_ _))).2 d hd
  |_=>simp[Kd.Val]at hv
 |row k m =>
  cases vd with
  |row vs =>
   have D9:k.deep+1<=n+1:=hd
   exact⟨rfl,B,k,m,vs,rfl,hP,hf,hv,by lia,by lia,by lia,λd l' hg hp=>q d l' hg (hp.mono (by lia))⟩
  |_=>simp[Kd.Val]at hv
 |rcd fs =>
  cases vd with
  |rcd vs =>
   have D9:cX fs+1<=n+1:=hd
   exact⟨rfl,B,fs,vs,rfl,hP,hf,hv,by lia,by lia,by lia,λd l' hg hp=>q d l' hg (hp.mono (by lia))⟩
  |_=>simp[Kd.Val]at hv
 |cho ks =>
  cases vd with
  |cho jj v =>
   simp only[Kd.Val]at hv
   obtain⟨f1,m1,m2⟩:=hf
   have D9:dO ks+1<=n+1:=hd
   obtain⟨kc,Au,G6⟩:=pH hv
   obtain⟨kf,kdp⟩:=qN f1 (bB Au)
   have hlk:(xK ks).length=ks.length:=by rw[wA,aC]
   have Ew:(xK ks)[jj]? = some kc.x:=by rw[wA,bX,Au];rfl
   have Db:=ev_ Ew
   have hjl:jj<ks.length:=(aW.mp Au).1
   have J2:=Kd.vx_sz kc v kf G6
   simp only[Kd.vx,uB Au]
   obtain⟨iv,Mx⟩:∃iv,kc.vx v=iv:=⟨_,rfl⟩
   have hx:(Kd.cho ks).x=.tup [.str "choice",.lst (xK ks)]:=by simp only[Kd.x]
   rw[hx]
   rw[Mx]at J2 ⊢
   have hjl':((xK ks).length:Int)<=6:=by lia
   refine⟨rfl,ei_ (qJ (vO (j:=1) (d:=.lst (xK ks)) rfl rfl (is_ rfl (aLf (d:=kc.x) (by lia) (by show(xK ks)[Int.toNat (jj:Int)]? = _;rw[iK];exact Ew) ?_))))⟩
   refine⟨B,kc,v,by rw[Mx];rfl,hP,kf,G6,by lia,by lia,by lia,λd l2 Fl Cy=>?_⟩
   have n2:2<=1000000:=by decide
   have n1:1<=1000000:=by decide
   refine⟨n2,n1,⟨by decide,by decide,by show 4<=1000000;decide⟩,?_⟩
   dsimp only
   change dU _ _ [.bw l2,vT (.tup [.str "choice",.lst (xK ks)]),vT (.tup [.int (jj:Int),iv]),.un,.un,vT (.int (jj:Int)),vT iv,.v (.ol [.tup [.int (jj:Int),d],.tup [.int (jj:Int),d],.tup [.int (jj:Int),d],.tup [.int (jj:Int),d]])] _
   generalize hA:[Dx.tup [.int (jj:Int),d],.tup [.int (jj:Int),d],.tup [.int (jj:Int),d],.tup [.int (jj:Int),d]]=A4
   have lA:A4.length=4:=by rw[<-hA];rfl
   refine⟨n2,n2,n2,by show 3<=1000000;decide,by show A4.length+3<=1000000;lia,?_⟩
   dsimp only
   generalize ((xK ks).length:Int)=c at *
   have gi:Gd (dO ks+1) iv:=⟨J2.1,by have:=J2.2;lia⟩
   have gj:∀i:Int,Gd (dO ks+1) (.int i):=em_
   have t2:∀{a b:Dx},Gd (dO ks+1) a->Gd (dO ks+1) b->Gd (dO ks+2) (.tup [a,b]):=λha hb=>(GG.cons ha (.one hb)).tup (by decide) (aP _)
   have td:=t2 (gj jj) (Fl.mono (by lia))
   have G4:GG (dO ks+2) 4 A4:=by rw[<-hA];exact .cons td (.cons td (.cons td (.one td)))
   change dU _ _ [.bw l2,vT (.tup [.str "choice",.lst (xK ks)]),vT (.tup [.int (jj:Int),iv]),.un,.un,vT (.int (jj:Int)),vT iv,.v (.ol (A4++[.tup [.int c,iv],.tup [.int (-1),iv],.tup [.int (jj-c),iv]]))] _
   have G7:=G4.app (.cons (t2 (gj c) gi) (.cons (t2 (gj (-1)) gi) (.one (t2 (gj (jj-c)) gi))))
   have l7:(A4++[Dx.tup [.int c,iv],.tup [.int (-1),iv],.tup [.int (jj-c),iv]]).length=7:=by rw[aK,lA];rfl
   generalize A4++[Dx.tup [.int c,iv],.tup [.int (-1),iv],.tup [.int (jj-c),iv]]=A7 at *
   refine⟨n2,n2,n2,by show A7.length+2<=1000000;lia,?_⟩
   dsimp only
   change dU _ _ [.bw l2,vT (.tup [.str "choice",.lst (xK ks)]),vT (.tup [.int (jj:Int),iv]),.un,.un,vT (.int (jj:Int)),vT iv,.v (.ol (A7++[.tup [.bl true,iv],.tup [.bl false,iv]]))] _
   have G9:=G7.app (.cons (t2 (yH true) gi) (.one (t2 (yH false) gi)))
   have l9:(A7++[Dx.tup [.bl true,iv],.tup [.bl false,iv]]).length=9:=by rw[aK,l7];rfl
   generalize A7++[Dx.tup [.bl true,iv],.tup [.bl false,iv]]=A9 at *
   refine⟨n2,n1,by show 3<=1000000;decide,n2,jj,rfl,by lia,by lia,n2,by show 7<=1000000;decide,by show A9.length+7<=1000000;lia,?_⟩
   dsimp only
   change hW _ [.bw l2,vT (.tup [.str "choice",.lst (xK ks)]),vT (.tup [.int (jj:Int),iv]),.un,.un,vT (.int (jj:Int)),vT iv,.v (.ol (A9++[.lst [.int jj,iv],.tup [.int jj],.tup [.int jj,iv,.int 0],.tup [iv,.int jj],iv,.non,.tup [.str (rH jj),iv]]))] _
   have G16:=G9.app (.cons ((GG.cons (gj jj) (.one gi)).lst (by decide) (aP _)) (.cons ((GG.one (gj jj)).tup (by decide) (aP _)) (.cons ((GG.cons (gj jj) (.cons gi (.one (gj 0)))).tup (by decide) (aP _)) (.cons (t2 gi (gj jj)) (.cons (gi.mono (Nat.le_succ _)) (.cons qK (.one (t2 (it_ (rH jj)) gi))))))))
   have l16:(A9++[Dx.lst [.int jj,iv],.tup [.int jj],.tup [.int jj,iv,.int 0],.tup [iv,.int jj],iv,.non,.tup [.str (rH jj),iv]]).length=16:=by rw[aK,l9];rfl
   generalize A9++[Dx.lst [.int jj,iv],.tup [.int jj],.tup [.int jj,iv,.int 0],.tup [iv,.int jj],iv,.non,.tup [.str (rH jj),iv]]=A16 at *
   refine⟨rfl,B+tb n,16,rfl,Cy,by lia,by decide,by decide,λr l3 r0 r1 B9=>?_⟩
   refine zR (l:=A16) r0 (by lia) ?_
   intro e he
   exact q e l3 (G16.2 e he) (B9.mono (by lia))
  |_=>simp[Kd.Val]at hv
end
def gPL(K:eC):GC:=λds Q=>∃(ns:List Int) (k:Int),ds=[.scr K ns,.int k]/\0<=k/\k<2^20/\∀l,PoolX (31*k) l->Q (.ol l)
section
variable{f:Addr}
theorem aPt(F:Fun K "_law_pool" "_law_pool" gy_ f fd)(m_len:mg "len" = none):FnOk P w K mg base CX0 1 f fd ["script","k"] (spX (gPL K)):=by
 refine mG F jV (λds Q h=>by obtain⟨ns,k,rfl,_⟩:=h;rfl) (by decide) λAf A outer s H E hr=>?_
 have Am:=rP hr
 have Ag:=bQ Am
 refine⟨_,(dP (gE (i:=2) jV.nd rfl (Or.inl rfl) dC)
  (dP (gS (iH pR pP (bP (pv 1)) (lO (rG K) aAb (by rfl) m_len PySem.boot_len (bJ (bP (pv 0)) cI)) (bR _)) (dX (gE (i:=2) jV.nd rfl (Or.inl rfl) (aNv K (bP (pv 0)) (bP (pv 1)) (λ_ _=>rfl)))) iF)
  (dP (gS (iH aNe aNd (bP (pv 2)) (aDg dC dC) (bR _)) (dX (fM (lH (bJ (hk_ (bP (pv 2)) (aDg dC dC)) (bJ dC (bJ dC cI)))))) iF)
  (dX (fM (lH (bJ (bP (pv 2)) (bJ dC (bJ (zS dC (bP (pv 1))) cI))))))))),λds Q h=>?_⟩
 clear Ag Am
 obtain⟨ns,k,rfl,h0,h1,q⟩:=h
 have cp:aSp 10 18:=⟨by decide,by decide,by decide⟩
 refine mU ?_
 change dU _ _ [vT (.scr K ns),vT (.int k),vT (.int 0)] _
 refine oZ (λρ=>∃c:Int,ρ=[vT (.scr K ns),vT (.int k),vT (.int c)]) ?_ (λD' hD=>?_)
 ·rintro ρ' ⟨c,rfl⟩
  refine⟨cp,?_⟩
  refine nN (λc2=>?_) (λc2=>?_)
  ·exact⟨cp,g8 (by show 3<=1000000;decide),q _ ⟨_,_,_,rfl,by lia,by lia⟩⟩
  ·exact⟨⟨by decide,by lia⟩,g8 (by show 3<=1000000;decide),q _ ⟨_,_,_,rfl,by lia,by lia⟩⟩
 ·refine ⟨rfl,?_⟩
  refine nN (λc=>?_) (λc=>hD _ ⟨0,rfl⟩)
  have c':=of_decide_eq_true c
  obtain⟨v,hv,_⟩:=aSh (l:=ns) h0 c'
  refine⟨rfl,?_⟩
  rw[hv]
  exact hD _ ⟨v,rfl⟩
end
theorem rS:bootBuiltins "ValueError" = some (.type "ValueError"):=by decide +kernel
structure Kit20(K:eC)(mg:kW)(Ac Ad Al Aj Ak Ap:Addr):Prop where
 mV:mg "NoValue" = some (.ref Ac)
 mB:mg "NoBytes" = some (.ref Ad)
 mM:mg "NoMake" = some (.ref Al)
 mT:mg "NoText" = some (.ref Aj)
 mN:mg "NoName" = some (.ref Ak)
 mR:mg "NoRow" = some (.ref Ap)
 kit:PySem.W.excKit K Ac=true
 kV:PySem.W.kitOne K (.ref Ac) (.ref Ac)=some true
 kB:PySem.W.kitOne K (.ref Ac) (.ref Ad)=some false
 kE:PySem.W.kitOne K (.ref Ac) (.type "ValueError")=some true
 kA:PySem.W.kitAny K (.ref Ac) [.ref Al,.ref Aj,.ref Ak,.ref Ap]=some false
def gIS(C:Addr):GC:=λds Q=>ds=[.exc (.ref C),.int 0]/\Q (.tr (.bl true))
def gBE(C:Addr)(n:Nat):GE:=λds Q Ex=>∃(kd:Kd) (d:Dx),ds=[kd.x,d]/\d.Sz/\kd.Fit/\kd.deep<=n/\n<=12/\kd.rm.1<=100000/\(isN n kd d=true->∀xs:List Int,xs.length=kd.rm.1.toNat->Q (.ol (xs.map Dx.int)))/\(isN n kd d=false->Ex (.ref C))
def gRG(n:Nat):GC:=λds Q=>∃(kd:Kd) (d:Dx),ds=[kd.x,d]/\d.Sz/\d.deep<=20/\kd.Fit/\kd.deep<=n/\n<=5/\kd.rm.1<=100000/\Q (.tr (.bl true))
theorem vP{f:Dx->Option Bool}{i:Nat}{d:Dx}{b:Bool}{ρ:En}{Q:Sv->En->Prop}(hi:ρ[i]? = some (vT d))(e:f d=some b)(q:Q (.tr (.bl b)) ρ):aJb f (cV i) ρ Q:=by
 unfold aJb cV
 rw[hi]
 show match f d with | some b=>Q (.tr (.bl b)) (ρ.set i (.v (.tr d))) | none=>False
 rw[e]
 have e2:ρ.set i (vT d)=ρ:=by
  obtain⟨h1,h2⟩:=aW.mp hi
  rw[<-h2,iW]
 rw[e2]
 exact q
theorem aVk{c u:XC}{ρ:En}{Q:Bool->En->Prop}(h:c ρ λb ρ1=>if b=true then Q true ρ1 else u ρ1 Q):xOr c u ρ Q:=h
theorem aRd{c:XC}{ρ:En}{Q:Bool->En->Prop}(h:c ρ λb ρ1=>Q (!b) ρ1):lQ c ρ Q:=h
theorem aRi{t:XT}{ρ:En}{Q:Bool->En->Prop} (h:t ρ λs ρ'=>match s with
 | .tr (.bl b)=>Q b ρ'
 |_=>False):xB t ρ Q:=h
theorem aLk{t:XT}{ρ:En}{Q:Sv->En->Prop}(h:xB t ρ λc ρ1=>Q (.tr (.bl (!c))) ρ1):rY t ρ Q:=h
theorem aRc{t:XT}{ρ:En}{D:XD}(h:t ρ λs ρ'=>D.rt s ρ'):hW t ρ D:=h
theorem v_{i:Nat}{t:XT}{ρ:En}{D:XD}(h:t ρ λs ρ'=>D.nx (ρ'.set i (.v s))):iL i t ρ D:=h
theorem aNj{d:Dx}{ρ:En}{Q:Sv->En->Prop}(h:Q (.tr d) ρ):xC d ρ Q:=h
section
variable{f:Addr}{n j jS jI:Nat}{Ac Ad Al Aj Ak Ap A5:Addr}
theorem aQg(F:Fun K "bytes_of" "bytes_of" gz_ f fd)(Gz:Cal P w K mg base jI "is_value" AB (spX (gIG n)))(Ji:Cal P w K mg base j "laid_bytes" AV (spX (gLB n)))(hj:jI<=j)(Ax:PyProof.Rows.OwnCls "NoValue" Ac veM "ValueError.__new__" mg base):FnOk P w K mg base (CXe P w) (j+1) f fd AB (spE (gBE Ac n)):=by
 refine aZp F xH (λds Q Ex h=>by obtain⟨_,_,rfl,_⟩:=h;rfl) (by decide) λAf A outer s H E Ex hr=>?_
 refine⟨_,(dP (gS (wB (mX (fY Gz (hr.mono (by lia)) (bJ (bP (pv 0)) (bJ (bP (pv 1)) cI))))) (dX (aDf Ax rfl (by rfl))) iF)
  (dX (fM (fY Ji (hr.mono (by lia)) (bJ (bP (pv 0)) (bJ (bP (pv 1)) cI)))))),λds Q h=>?_⟩
 obtain⟨kd,d,rfl,hs,hf,hd,hn,Fe,q1,q2⟩:=h
 refine⟨kd,d,rfl,hs,hf.ok,hd,hn,?_⟩
 cases hb:isN n kd d with
 |false=>exact q2 hb
 |true=>exact⟨kd,d,rfl,hb,hf,hd,hn,Fe,q1 hb⟩
theorem aQa(F:Fun K "_law_is" "_law_is" hp_ f fd)(Kt:Kit20 K mg Ac Ad Al Aj Ak Ap)(m_isinstance:mg "isinstance" = none)(m_range:mg "range" = none)(Az:mg "ValueError" = none):FnOk P w K mg base CX0 1 f fd ["caught","due"] (spX (gIS Ac)):=by
 have Ec:=Kt.mV
 have Ed:=Kt.mB
 have Ev:=Kt.mM
 have Et:=Kt.mT
 have Eu:=Kt.mN
 have Ft:=Kt.mR
 refine mG F sK (λds Q h=>by obtain⟨rfl,_⟩:=h;rfl) (by decide) λAf A outer s H E hr=>?_
 have Am:=rP hr
 have Ag:=bQ Am
 refine⟨_,(dP (gE (i:=2) sK.nd rfl (Or.inl rfl) (lH (bJ (zX (c:=.ref Ac) K m_isinstance (bP (pv 0)) (fx_ (v:=.ref Ac) (by rfl) Ec rfl) (λ_ h=>h)) (bJ (zX (c:=.ref Ad) K m_isinstance (bP (pv 0)) (fx_ (v:=.ref Ad) (by rfl) Ed rfl) (λ_ h=>h)) cI))))
  (dP (gS (XW.pt (w5 (wB (mX (zX (c:=.type "ValueError") K m_isinstance (bP (pv 0)) (mD (v:=.ty "ValueError") rfl Az rS rfl) (λ_ h=>h)))) (x_ (iH (aKg Ag) aPe (bP (pv 2)) (tI (dsc:=aO hp_) (N:=["caught","due","kinds"]) (tgs:=["k"]) (outs:=[1]) (N':=["k","due"]) (by refine⟨rfl,?_,?_,?_,rfl,?_,?_,?_⟩<;>decide +kernel) (dv_ m_range (bJ dC cI)) (λ_ _ _ _ _=>(gF (i:=0) (show(["k","due"]:List Str).Nodup by decide +kernel) rfl (Or.inl rfl) (.inr rfl))) (nK (n:=1) (i:=0) (by decide)) (tM (by decide)) (λ_ _ _ _ _=>rF) (λ_ _ _ _ _=>(i9 (jJ K Ag) jH (bP (pv 0)) (bP (pv 1)) (bR _)))) (bR _))))) (dX (fM wM)) iF)
  (dX (fM (zW (aIy (cs:=[.ref Al,.ref Aj,.ref Ak,.ref Ap]) (vcs:=[.ref Al,.ref Aj,.ref Ak,.ref Ap]) K m_isinstance (bP (pv 0)) (hX (fx_ (v:=.ref Al) (by rfl) Ev rfl) (hX (fx_ (v:=.ref Aj) (by rfl) Et rfl) (hX (fx_ (v:=.ref Ak) (by rfl) Eu rfl) (hX (fx_ (v:=.ref Ap) (by rfl) Ft rfl) lZ)))) (λ_ _ _ q=>q) (λ_ h=>pC (as:=[Al,Aj,Ak,Ap]) h) (by simp only[aJ,aV];decide))))))),λds Q h=>?_⟩
 clear Ag Am
 obtain⟨rfl,q⟩:=h
 have e1:isC K (.ref Ac) (.exc (.ref Ac))=some true:=by simp only[isC];rw[if_pos Kt.kit];exact Kt.kV
 have e2:isC K (.ref Ad) (.exc (.ref Ac))=some false:=by simp only[isC];rw[if_pos Kt.kit];exact Kt.kB
 have e3:isC K (.type "ValueError") (.exc (.ref Ac))=some true:=by simp only[isC];rw[if_pos Kt.kit];exact Kt.kE
 have e4:aGr K [.ref Al,.ref Aj,.ref Ak,.ref Ap] (.exc (.ref Ac))=some false:=by simp only[aGr];rw[if_pos Kt.kit];exact Kt.kA
 refine mU (aGy (ei_ (vP rfl e1 (ei_ (vP rfl e2 ?_)))))
 refine⟨iO,?_⟩
 change dU _ _ [vT (.exc (.ref Ac)),vT (.int 0),.v (.ol [.bl true,.bl false])] _
 refine oO (ρ':=[vT (.exc (.ref Ac)),vT (.int 0),vT (.lst [.bl true,.bl false])]) (λQ q=>?_) ?_
 ·refine aVk (aRd (aRi (vP rfl e3 ?_)))
  refine aRi (qJ (is_ rfl ?_))
  refine⟨⟨by decide,by decide⟩,by decide,?_⟩
  exact⟨[true,false],[true,false],rfl,rfl,rfl,q⟩
 ·exact aRc (aLk (aRi (vP rfl e4 q)))
theorem aPq(F:Fun K "_law_right" "_law_right" fw_ f fd)(Hh:Cal P w K mg base jS "_law_copy" AO (spX (gCP 20)))(Jf:Cal P w K mg base jS "_law_same" AI (spX (gSA 20)))(Jh:Cal P w K mg base jS "_law_is_value" AB (spX (gLV n)))(Gw:Cal P w K mg base jS "_law_room" AF (spX (gLM n)))(CIS:Cal P w K mg base 1 "_law_is" ["caught","due"] (spX (gIS Ac)))(Cz:PyProof.Rows.OwnCls "FieldError" A5 veM "ValueError.__new__" mg base)(hun:zQ base Ac A5)(CBE:aSo P w K mg base j "bytes_of" AB (spE (gBE Ac n)))(m_len:mg "len" = none)(hjS:jS<=j)(hj1:1<=j):FnOk P w K mg base CX0 (j+1) f fd AB (spX (gRG n)):=by
 refine mG F fI (λds Q h=>by obtain⟨_,_,rfl,_⟩:=h;rfl) (by decide) λAf A outer s H E hr=>?_
 have Am:=rP hr
 have Ag:=bQ Am
 refine⟨_,(dP (gE (i:=2) fI.nd rfl (Or.inl rfl) (lH (bJ (fY Hh (hr.mono (by lia)) (bJ (bP (pv 0)) cI)) (bJ (fY Hh (hr.mono (by lia)) (bJ (bP (pv 1)) cI)) cI))))
  (dP (gE (i:=3) fI.nd rfl (Or.inl rfl) ib_)
  (dP (gE (i:=4) fI.nd rfl (Or.inl rfl) ib_)
  (dP (aNr (jn:=5) (aNs (i:=4) λ_ _ _ _=>wL (i:=4) fI.nd rfl (Or.inl rfl) (aFh CBE (hr.mono (by lia)) (bJ (eV K (pv 2)) (bJ (eV K (pv 2)) cI)))) Cz rfl rfl (by rfl) fI.nd rfl (by rfl) (λ_=>(dX (gE (i:=3) fI.nd rfl (Or.inl rfl) (bP (pv 5))))))
  (dP (gS (XW.pt (w5 (wB (mX (fY Jf (hr.mono (by lia)) (bJ (eV K (pv 2)) (bJ (bP (pv 0)) cI))))) (x_ (wB (mX (fY Jf (hr.mono (by lia)) (bJ (eV K (pv 2)) (bJ (bP (pv 1)) cI)))))))) (dX (fM wM)) iF)
  (dP (gS (mX (fY Jh (hr.mono (by lia)) (bJ (bP (pv 0)) (bJ (bP (pv 1)) cI)))) (dX (fM (ey_ (i9 aPi aPd (bP (pv 3)) ib_ (bR _)) (gb_ (i9 (jJ K Ag) jH (lO (rG K) tF (by rfl) m_len PySem.boot_len (bJ (bP (pv 4)) cI)) (rC K (fY Gw (hr.mono (by lia)) (bJ (bP (pv 0)) cI)) dC (λ_ _=>rfl)) (bR _)))))) iF)
  (dX (fM (fY CIS (hr.mono (by lia)) (bJ (bP (pv 3)) (bJ dC cI))))))))))),λds Q h=>?_⟩
 clear Ag Am hjS hj1
 obtain⟨kd,d,rfl,hsz,E8,As,hd,hn,Fe,q⟩:=h
 obtain⟨kz,kdp⟩:=kd.x_sz As
 refine⟨kd.x,rfl,kz,by lia,d,rfl,hsz,by lia,iO,?_⟩
 dsimp only
 refine mU (aNj (mU (aNj ?_)))
 rw[show List.map Sv.d [kd.x.own,d.own]=[kd.x,d]from by simp only[aL,bL,t_]]
 change dU _ _ [vT kd.x,vT d,.v (.ol [kd.x,d]),vT .non,vT .non,.un] _
 refine⟨kd,d,rfl,hsz,As,hd,by lia,Fe,λhb xs hx=>?_,λhb=>⟨⟨Ac,rfl,hun⟩,?_⟩⟩
 ·dsimp only
  change dU _ _ [vT kd.x,vT d,vT (.lst [kd.x,d]),vT .non,.v (.ol (xs.map Dx.int)),.un] _
  refine oO (ρ':=[vT kd.x,vT d,vT (.lst [kd.x,d]),vT .non,.v (.ol (xs.map Dx.int)),.un]) (λQ q=>?_) ?_
  ·exact⟨kd.x,rfl,kz,by lia,d,rfl,hsz,by lia,q⟩
  refine⟨kd,d,rfl,hsz,As.ok,hd,by lia,?_⟩
  rw[xZ n kd d As hsz,hb]
  obtain⟨b0,b1,b2,b3⟩:=kd.bd As.ok
  refine⟨kd,rfl,As.ok,As.full,hd,by lia,?_⟩
  show Q (.tr (.bl (decide (((xs.map Dx.int).length:Int)=kd.rm.1))))
  rw[dzT (by rw[aC];lia)]
  exact q
 ·refine v_ (is_ rfl ?_)
  dsimp only
  change dU _ _ [vT kd.x,vT d,vT (.lst [kd.x,d]),vT (.exc (.ref Ac)),vT .non,.un] _
  refine oO (ρ':=[vT kd.x,vT d,vT (.lst [kd.x,d]),vT (.exc (.ref Ac)),vT .non,.un]) (λQ q=>?_) ?_
  ·exact⟨kd.x,rfl,kz,by lia,d,rfl,hsz,by lia,q⟩
  refine⟨kd,d,rfl,hsz,As.ok,hd,by lia,?_⟩
  rw[xZ n kd d As hsz,hb]
  exact⟨rfl,q⟩
end
theorem aIv{i:Nat}{x c:Int}{ρ:En}{Q:Sv->En->Prop}(h:ρ[i]? = some (vT (.int x)))(q:Q (.tr (.int (if decide (c<x)=true then 1 else 0))) (ρ.set i (vT (.int x)))):dM aGs (cE (xOp gtX (cV i) (xC (.int c))) eG) ρ Q:=by
 unfold dM cE xOp cV
 dsimp only
 rw[h]
 exact q
def aEo (K : eC) : XS := (dU (mH (aIx (cE (dM aGa (cE (xC (.int 1)) (cE (dM aFz (cE (xC (.int 4)) (cE (dM (aQl K) (cE (cV 0) eG)) eG))) eG))) eG)) (gxN 1) (dU (iL 2 (dM (gPL K) (cE (cV 0) (cE (cV 1) eG))))
    (dU (iL 3 (xOp ixX (iQ (cE (xC (.int 60)) (cE (xC (.int 200)) (cE (xC (.int 200)) (cE (xOp ixX (iQ (cE (xC (.int 2000)) (cE (xC (.int 200)) eG))) (dM aGs (cE (xOp gtX (cV 1) (xC (.int 0))) eG))) eG))))) (iM gTK 2 (cE (xC (.int 4)) eG))))
    (dU (iL 4 (iM (gLK 5) 2 (cE (xOp rV (xC (.int 1)) (iM gTK 2 (cE (xC (.int 5)) eG))) (cE (cV 3) eG))))
    (dU (iL 5 (iM (gVA 5) 2 (cE (cV 4) eG)))
    (dU (iL 6 (xOp rV (iQ (cE (cV 5) eG)) (iA 1 [2,4,5] (aIx (cE (xC (.int 8)) eG)) (gxN 0) lP (iM (gBV 5) 1 (cE (cV 2) (cE (cV 3) eG))))))
    (dU (xIf (xB (xOp gtX (cV 3) (xC (.int 200)))) (iL 6 (xSl (cV 6) xoN (xoS (xC (.int 4))))) eZ)
    (mH (xiL (xOp rV (cV 6) (iQ (cE (xC .non) (cE (xC (.int 0)) (cE (xC (.bl true)) (cE (xC (.str "")) (cE (xC (.str "0")) (cE (iQ eG) (cE aDm (cE (aDj eG) (cE (aDj (cE (xC (.int 0)) (cE (xC (.int 0)) eG))) (cE (iQ (cE (xC (.int 0)) eG)) (cE (iQ (cE (iQ (cE (xC (.int 0)) eG)) eG)) eG)))))))))))))) (gxN 7) (xIf (lQ (xB (dM (gRG 5) (cE (cV 4) (cE (cV 7) eG))))) (hW (xC (.bl false))) eZ)))))))))
    (hW (lB (xOp eqX (xC (.str "words")) (xC (.str "words"))) (xOp eqX (xC (.str "words")) (xC (.str "words"))))))
theorem aMh{tg e:Expr}{t:XT}(h:Bx (XE X Ex e t)):Bx (XIt X Ex tg e (xiL t)):=⟨tJ h.out⟩
theorem aSa{tg iter:Expr}{pos:Pos}{body:List Stmt}{ti:XI}{n:Nat}{g:TG}{gx:XG}{G:XS}(hp:PassesOwn (model X.prog X.w) X.A X.env X.xe)(hc:X.calm=true)(hi:Bx (XIt X Ex tg iter ti))(hg:PG X tg g)(Bj:GX n g gx)(hb:Bx (XSs X Ex body G))(hs:∀x,foldedSetIterable iter X.env x=pure x:=by intro _;rfl):Bx (XSt X Ex (.For tg iter body [] pos) (mH ti gx G)):=⟨ex_ hp hc hi.out hg Bj hb.out hs⟩
theorem aIa{l:List Stmt}{G:XS}(h:Bx (XSs X Ex l G)):XSs X Ex l G:=h.out
section
variable{f:Addr}{L:Nat}
theorem aMb(Lx:Cal P w K mg base 1 "_law_pool" ["script","k"] (spX (gPL K)))
  (Bg:Cal P w K mg base 1 "_law_take" AC (spB gTK)) (Gx:Cal P w K mg base L "_law_kind" AG (spB (gLK 5))) (Gu:Cal P w K mg base L "_law_value" AR (spB (gVA 5))) (Fv:Cal P w K mg base L "_law_bad_value" AA (spB (gBV 5))) (Lw:Cal P w K mg base L "_law_right" AB (spX (gRG 5))) {Ac Ad:Addr} (Ax:PyProof.Rows.OwnCls "NoValue" Ac veM "ValueError.__new__" mg base) (By:PyProof.Rows.OwnCls "NoBytes" Ad veM "ValueError.__new__" mg base) (S_NoValue:l4 base Ac) (S_NoBytes:l4 base Ad)
  (m_max:mg "max" = none) (C3:mg "min" = none) (m_range:mg "range" = none) (m_len:mg "len" = none) (m_int:mg "int" = none) (m_str:mg "str" = none) (hL:1<=L)
  {Af:Value} {A:Around} {outer:List Env} {s:Shared} {H:Hp} {E:XK} (hr:Room L (A.deeper (PyProof.Rows.envOfC "law" (aO lE) s.heap.objs.size f Af))) :
  XSs (lX CX0 P w K mg base (["script","k","pool","most","kind","value","rows","thing"]:List Str) "law" (aO lE) f Af A outer s H E).nox dZ (gR lE) (aEo K):=by
 have Am:=rP hr
 have Ag:=bQ Am
 have Mm:=Nat.lt_of_le_of_lt (Nat.add_le_add_left (by decide:2<=64) _) hr.units
 exact(aIa (zJ (Bx.mk (ex_ PassesOwn.never rfl (dv_ m_range (bJ (lO (aCo (by rfl)) aMe (by rfl) m_max rA (bJ dC (bJ (lO (aCk (by rfl)) aMd (by rfl) C3 aRz (bJ dC (bJ (lO (rG K) aAb (by rfl) m_len PySem.boot_len (bJ (bP (pv 0)) cI)) cI))) cI))) cI)) (gF (i:=1) jA.nd rfl (Or.inl rfl)) (nK (n:=99) (i:=1) (by decide)) (aIa (zJ (Bx.mk (gE (i:=2) jA.nd rfl (Or.inr rfl) (fY Lx (hr.mono (by lia)) (bJ (bP (pv 0)) (bJ (bP (pv 1)) cI)))))
  (zJ (Bx.mk (gE (i:=3) jA.nd rfl (Or.inl rfl) (rC K (lH (bJ dC (bJ dC (bJ dC (bJ (rC K (lH (bJ dC (bJ dC cI))) (ej_ tL aHq (by rfl) m_int rB (bJ (i9 aFo aFj (bP (pv 1)) dC (bR _)) cI)) (λ_ _=>rfl)) cI))))) (iV (i:=2) Bg (hr.mono (by lia)) (pv 2) (bJ dC cI)) (λ_ _=>rfl))))
  (zJ (Bx.mk (gE (i:=4) jA.nd rfl (Or.inr rfl) (iV (i:=2) Gx (hr.mono (by lia)) (pv 2) (bJ (kG dC (iV (i:=2) Bg (hr.mono (by lia)) (pv 2) (bJ dC cI))) (bJ (bP (pv 3)) cI)))))
  (zJ (Bx.mk (gE (i:=5) jA.nd rfl (Or.inr rfl) (iV (i:=2) Gu (hr.mono (by lia)) (pv 2) (bJ (bP (pv 4)) cI))))
  (zJ (Bx.mk (gE (i:=6) jA.nd rfl (Or.inl rfl) (kG (lH (bJ (bP (pv 5)) cI)) (tI (dsc:=aO lE) (N:=AS) (tgs:=["turn"]) (outs:=[2,4,5]) (N':=["turn","pool","kind","value"]) (by refine⟨rfl,?_,?_,?_,rfl,?_,?_,?_⟩<;>decide +kernel) (dv_ m_range (bJ dC cI)) (λ_ _ _ _ _=>(gF (i:=0) (show(["turn","pool","kind","value"]:List Str).Nodup by decide +kernel) rfl (Or.inl rfl) (.inr rfl))) (nK (n:=1) (i:=0) (by decide)) (tM (by decide)) (λ_ _ _ _ _=>rF) (λ_ _ _ _ _=>(iV (i:=1) Fv (hr.mono (by lia)) (pv 1) (bJ (bP (pv 2)) (bJ (bP (pv 3)) cI))))))))
  (zJ (Bx.mk (gS (iH aFo aFj (bP (pv 3)) dC (bR _)) (aIa (eu_ (Bx.mk (gE (i:=6) jA.nd rfl (Or.inl rfl) (fh_ K (bP (pv 6)) ia_ (fv_ dC)))))) iF))
  (eu_ (aSa PassesOwn.never rfl (aMh (hn_ (iG (pv 6)) (eo_ (fK k8 (fK rQ (fK zM (fK nB (fK nB (fK (eo_ jN) (fK aAj (fK (en_ jN) (fK (en_ (fK rQ (fK rQ jN))) (fK (eo_ (fK rQ jN)) (fK (eo_ (fK (eo_ (fK rQ jN)) jN)) jN)))))))))))))) (gF (i:=7) jA.nd rfl (Or.inl rfl)) (nK (n:=99) (i:=7) (by decide)) (Bx.mk (aIa (eu_ (Bx.mk (gS (wB (mX (fY Lw (hr.mono (by lia)) (bJ (bP (pv 4)) (bJ (bP (pv 7)) cI))))) (aIa (eu_ (Bx.mk (fM wM)))) iF))))))))))))))))
  (eu_ (Bx.mk (fM (ey_ (i9 (jJ K Ag) jH (m9 Ax S_NoValue Mm (by rfl) (by rfl) m_str) kZ (bR _)) (gb_ (i9 (jJ K Ag) jH (m9 By S_NoBytes Mm (by rfl) (by rfl) m_str) kZ (bR _)))))))))
end
theorem aKx{v:Dx}{z:Int}(h:v∈[Dx.int 60,Dx.int 200,Dx.int 200,Dx.int z])(hz:z=2000\/z=200):∃mo,v=.int mo/\8<=mo/\mo<=2000:=by
 simp only[aE,bI,or_false]at h
 rcases h with rfl | rfl | rfl | rfl
 ·exact⟨_,rfl,by lia,by lia⟩
 ·exact⟨_,rfl,by lia,by lia⟩
 ·exact⟨_,rfl,by lia,by lia⟩
 ·exact⟨_,rfl,by lia,by lia⟩
theorem aOc{v:Dx}{a b:Int}(h:v∈[Dx.int a,Dx.int b]):∃z,v=.int z/\(z=a\/z=b):=by
 simp only[aE,bI,or_false]at h
 rcases h with rfl | rfl
 ·exact⟨_,rfl,.inl rfl⟩
 ·exact⟨_,rfl,.inr rfl⟩
theorem aLl{c:XC}{G:XS}{ρ ρ':En}{D:XD}(hc:∀Q:Bool->En->Prop,Q false ρ'->c ρ Q)(h:D.nx ρ'):xIf c G eZ ρ D:=hc _ h
section
variable{f:Addr}{L:Nat}
theorem aKj(F:Fun K "law" "law" lE f fd)(Lx:Cal P w K mg base 1 "_law_pool" ["script","k"] (spX (gPL K)))
  (Bg:Cal P w K mg base 1 "_law_take" AC (spB gTK)) (Gx:Cal P w K mg base L "_law_kind" AG (spB (gLK 5))) (Gu:Cal P w K mg base L "_law_value" AR (spB (gVA 5))) (Fv:Cal P w K mg base L "_law_bad_value" AA (spB (gBV 5))) (Lw:Cal P w K mg base L "_law_right" AB (spX (gRG 5))) {Ac Ad:Addr} (Ax:PyProof.Rows.OwnCls "NoValue" Ac veM "ValueError.__new__" mg base) (By:PyProof.Rows.OwnCls "NoBytes" Ad veM "ValueError.__new__" mg base) (S_NoValue:l4 base Ac) (S_NoBytes:l4 base Ad)
  (m_max:mg "max" = none) (C3:mg "min" = none) (m_range:mg "range" = none) (m_len:mg "len" = none) (m_int:mg "int" = none) (m_str:mg "str" = none) (hL:1<=L) :
  FnOk P w K mg base CX0 (L+1) f fd ["script"] (spX (aVp K)):=by
 refine mG F jA (λds Q h=>by obtain⟨ns,rfl,_⟩:=h;rfl) (by decide) λAf A outer s H E hr=>?_
 refine⟨_,aMb Lx Bg Gx Gu Fv Lw Ax By S_NoValue S_NoBytes m_max C3 m_range m_len m_int m_str hL hr,λds Q h=>?_⟩
 obtain⟨ns,rfl,h63,q⟩:=h
 have t5:tk 5=67863000:=by decide
 have v5:tv 5=2042050:=by decide
 have b5:tb 5=20:=by decide
 unfold aEo
 refine uA (λρ=>True) (λρ _=>q) (λnx hnx=>?_)
 refine⟨rfl,?_⟩
 refine⟨⟨by split<;>(try split)<;>lia,by split<;>(try split)<;>lia⟩,?_⟩
 refine cy_ (λk:Nat=>Dx.int (0+(k:Int))) (λrest ρ=>(∀k∈rest,k<63)/\∃y1 y2 y3 y4 y5 y6 y7,ρ=[vT (.scr K ns),y1,y2,y3,y4,y5,y6,y7]) (λρ h=>hnx ρ trivial) (λk rest ρ Kn h hk=>?_) ⟨λk hk=>by
   have:=gL.mp hk
   revert this
   split<;>(try split)<;>lia,.un,.un,.un,.un,.un,.un,.un,rfl⟩
 obtain⟨Bf,y1,y2,y3,y4,y5,y6,y7,rfl⟩:=h
 have hk4:=Bf k aA
 have Gh:∀a1 a2 a3 a4 a5 a6 a7,Kn [vT (.scr K ns),a1,a2,a3,a4,a5,a6,a7]:=λa1 a2 a3 a4 a5 a6 a7=>hk _ ⟨λk' Au=>Bf k' (aB _ Au),_,_,_,_,_,_,_,rfl⟩
 refine⟨ns,0+(k:Int),rfl,by lia,by lia,λl hP=>?_⟩
 dsimp only
 refine⟨iO,?_⟩
 refine aIv rfl ?_
 refine zR ?_ ?_ λv hv=>?_
 ·split<;>decide
 ·show _<(2:Int);split<;>decide
 obtain⟨z,rfl,hz⟩:=aOc hv
 refine⟨g8 (by show 4<=1000000;decide),rfl,_,4,rfl,hP,by lia,by decide,by decide,λr1 l1 r10 r11 De=>?_⟩
 refine zR r10 r11 λv hv=>?_
 obtain⟨mo,rfl,mo1,mo2⟩:=aKx hv hz
 refine⟨rfl,rfl,_,5,rfl,De,by lia,by decide,by decide,λr2 l2 r20 r21 Cy=>?_⟩
 refine⟨_,1+r2,mo,rfl,Cy,by lia,by lia,by lia,by decide,by rw[t5];lia,λkd l3 hF Ch Fe B9=>?_⟩
 rw[t5]at B9
 have Le:kd.deep<=5:=by lia
 refine⟨rfl,_,kd,rfl,B9,hF,Le,by decide,by rw[v5];lia,λvd l6 hV Cm=>?_⟩
 rw[v5]at Cm
 have gv:Gd 6 (kd.vx vd):=⟨(kd.vx_sz vd hF hV).1,by have:=(kd.vx_sz vd hF hV).2;lia⟩
 obtain⟨PB,hPB,hPBb⟩:∃PB:Int,PoolX PB l6/\PB+10000000<2^60:=⟨_,Cm,by lia⟩
 clear hP De Cy B9 Cm
 dsimp only
 change dU _ _ [vT (.scr K ns),vT (.int (0+(k:Int))),.v (.ol l6),vT (.int mo),vT kd.x,vT (kd.vx vd),y6,y7] _
 refine uA (λρ=>∃(l' ds:List Dx),ρ=[vT (.scr K ns),vT (.int (0+(k:Int))),.v (.ol l'),vT (.int mo),vT kd.x,vT (kd.vx vd),.v (.ol ds),y7]/\GG 6 10 ds) ?_ (λnx2 Kj=>?_)
 rotate_left 1
 ·refine v_ (qJ ?_)
  refine⟨aGe,?_⟩
  refine⟨⟨by decide,by decide⟩,by decide,?_⟩
  obtain⟨rg,Mp⟩:∃rg,rg=List.range 8:=⟨_,rfl⟩
  show dG _ _ _ _ _ ((List.range 8).map λk:Nat=>Dx.int (0+(k:Int))) _ _
  rw[<-Mp]
  have hrl:rg.length=8:=by rw[Mp];rfl
  refine cp_ (λk:Nat=>Dx.int (0+(k:Int))) (λrest Ab cs=>∃l':List Dx,Ab.length+rest.length=8/\cs=[.v (.ol l'),vT kd.x,vT (kd.vx vd)]/\(∀d∈Ab,Gd 6 d)/\PoolX (PB+(Ab.length:Int)*20) l') (λAb cs h=>?_) (λt rest Ab cs Pn h hk=>?_) ⟨l6,by rw[hrl];rfl,rfl,(by intro d hd;cases hd),hPB.mono (by simp)⟩
  ·obtain ⟨l',e1,rfl,B7,Jb⟩:=h
   rw[aV]at e1
   refine⟨show 1+Ab.length<=1000000 by lia,?_⟩
   refine Kj _ ⟨l',kd.vx vd::Ab,rfl,(GG.cons (m:=9) gv ⟨by lia,B7⟩)⟩
  ·obtain ⟨l',e1,rfl,B7,Jb⟩:=h
   rw[aJ]at e1
   refine⟨rfl,_,kd,vd,rfl,Jb,hF,hV,Le,by decide,by rw[b5];lia,λd l8 Fl Ll=>hk _ _ ⟨l8,by rw[aK,fJ];lia,rfl,λe he=>?_,Ll.mono (by rw[b5,aK,fJ];push_cast;lia)⟩⟩
   rcases bK.mp he with he | he
   ·exact B7 e he
   ·rw[aF.mp he];exact Fl.mono (by lia)
 rintro ρ ⟨l',ds,rfl,He⟩
 refine uA (λρ=>∃(ds:List Dx),ρ=[vT (.scr K ns),vT (.int (0+(k:Int))),.v (.ol l'),vT (.int mo),vT kd.x,vT (kd.vx vd),.v (.ol ds),y7]/\GG 6 10 ds) ?_ (λnx3 Id=>?_)
 rotate_left 1
 ·by_cases h:200 < mo
  ·show if decide (200 < mo)=true then _ else _
   rw[dzT h]
   exact Id _ ⟨_,rfl,He.cut none (some 4)⟩
  ·show if decide (200 < mo)=true then _ else _
   rw[dzF h]
   exact Id _ ⟨ds,rfl,He⟩
 rintro ρ ⟨ds,rfl,He⟩
 have hl:=He.1
 refine⟨by decide,by decide,iO,aGe,aGe,aGe,by show 11<=1000000;decide,by show ds.length+11<=1000000;lia,?_⟩
 have hd9:GG 6 11 [.non,.int 0,.bl true,.str "",.str "0",.lst [],.dic [],.tup [],.tup [.int 0,.int 0],.lst [.int 0],.lst [.lst [.int 0]]]:=.cons qK (.cons (em_ 0) (.cons (yH true) (.cons (it_ "") (.cons (it_ "0") (.cons ((GG.nil (n:=0) (m:=0)).lst (by decide) (by decide)) (.cons vR (.cons ((GG.nil (n:=0) (m:=0)).tup (by decide) (by decide)) (.cons ((GG.cons (n:=1) (em_ 0) (.one (em_ 0))).tup (by decide) (by decide)) (.cons ((GG.one (n:=1) (em_ 0)).lst (by decide) (by decide)) (.one ((GG.one (n:=2) ((GG.one (n:=1) (em_ 0)).lst (by decide) (by decide))).lst (by decide) (by decide))))))))))))
 have Ar:=(He.app hd9).2
 show iP _ _ _ (ds++[.non,.int 0,.bl true,.str "",.str "0",.lst [],.dic [],.tup [],.tup [.int 0,.int 0],.lst [.int 0],.lst [.lst [.int 0]]]) _
 generalize ds++[.non,.int 0,.bl true,.str "",.str "0",.lst [],.dic [],.tup [],.tup [.int 0,.int 0],.lst [.int 0],.lst [.lst [.int 0]]]=es at Ar ⊢
 refine hw_ (λrest ρ=>(∀d∈rest,Gd 6 d)/\∃y6 y7,ρ=[vT (.scr K ns),vT (.int (0+(k:Int))),.v (.ol l'),vT (.int mo),vT kd.x,vT (kd.vx vd),y6,y7]) (λρ h=>by obtain⟨_,y6,y7,rfl⟩:=h;exact Gh _ _ _ _ _ _ _) (λd rest ρ K2 h hk2=>?_) ⟨Ar,_,_,rfl⟩
 obtain⟨Gk,y6,y7,rfl⟩:=h
 obtain⟨h1,h2⟩:=Gk d aA
 dsimp only
 exact aLl (ρ':=[vT (.scr K ns),vT (.int (0+(k:Int))),.v (.ol l'),vT (.int mo),vT kd.x,vT (kd.vx vd),y6,vT d]) (λQ q=>⟨kd,d,rfl,h1,by lia,hF,Le,by decide,by lia,q⟩) (hk2 _ ⟨λd' h'=>Gk d' (aB _ h'),_,_,rfl⟩)
end
structure Fx(K:eC)(mg:kW)(nm:Str)(st:Stmt)(ps:List Str)(f:Addr)(fd:FuncData):Prop where
 F:Fun K nm nm st f fd
 b:Binds K fd ps []
 k:PySem.W.keepIn K (.ref f)=true
 m:mg nm=some (.ref f)
theorem Fx.cal{nm:Str}{st:Stmt}{ps:List Str}{f:Addr}{fd:FuncData}{j:Nat}{sp:Sp}(x:Fx K mg nm st ps f fd)(h:FnOk P w K mg base CX0 j f fd ps sp):Cal P w K mg base j nm ps sp:=⟨f,fd,h,x.b,x.k,x.m⟩
theorem i4{j:Nat}{f:Addr}{fd:FuncData}{ps:List Str}{g:GB}(no:∀l ds Q,¬g l ds Q):FnOk P w K mg base CX0 j f fd ps (spB g):=
 ⟨λvs H Q E h=>by obtain⟨_,_,_,_,_,_,_,_,_,_,_,_,_,h3,_⟩:=h;exact(no _ _ _ h3).elim,λA outer s H args us vs Q E hr he hb hv h=>by obtain⟨_,_,_,_,_,_,_,_,_,_,_,_,_,h3,_⟩:=h;exact(no _ _ _ h3).elim⟩
theorem qQ(d:Dx):1<=d.deep:=by cases d<;>simp only[Dx.deep]<;>omega
section
variable{fRU fRO fRS fGM fSO fRR fRC fPB fRH fCA fPO fT fLR fLM fLN fLK fVA fTP fCP fSA fLV fIV fIW fIRV fIDV fICV fBV fBW fBR fNB fLAY fLB f:Addr}{dRU dRO dRS dGM dSO dRR dRC dPB dRH dCA dPO dT dLR dLM dLN dLK dVA dTP dCP dSA dLV dIV dIW dIRV dIDV dICV dBV dBW dBR dNB dLAY dLB fd:FuncData}
structure RoomX(K:eC)(mg:kW)(fRU fRO fRS fGM fSO fRR fRC fPB fRH fCA:Addr)(dRU dRO dRS dGM dSO dRR dRC dPB dRH dCA:FuncData):Prop where
 RU:Fx K mg "rounded_up" ed_ AE fRU dRU
 RO:Fx K mg "room_of" fa_ AF fRO dRO
 RS:Fx K mg "rooms_of" ek_ AH fRS dRS
 GM:Fx K mg "greatest_multiple" bs_ AQ fGM dGM
 SO:Fx K mg "step_of" gf_ AX fSO dSO
 RR:Fx K mg "room_of_row" do_ ["kind","n"] fRR dRR
 RC:Fx K mg "room_of_record" ce_ AH fRC dRC
 PB:Fx K mg "places_behind" cv_ AQ fPB dPB
 RH:Fx K mg "room_of_choice" cf_ AH fRH dRH
 CA:Fx K mg "chosen_at" er_ AY fCA dCA
 m_max:mg "max" = none
 m_zip:mg "zip" = none
theorem uM(X:RoomX K mg fRU fRO fRS fGM fSO fRR fRC fPB fRH fCA dRU dRO dRS dGM dSO dRR dRC dPB dRH dCA):∀n,FnOk P w K mg base CX0 (2+3*n) fRO dRO AF (spX (gRO n))
 | 0=>aEk
 |n+1=>by
  have ih:=uM X n
  have F7:=X.RU.cal (P:=P) (w:=w) (base:=base) (e_ X.RU.F)
  have GSO:=X.SO.cal (aFr X.SO.F F7)
  have GCA:=X.CA.cal (aFu X.CA.F F7)
  have Nc:=X.GM.cal (P:=P) (w:=w) (base:=base) (aQc X.GM.F X.m_max)
  have GPB:=X.PB.cal (aFt X.PB.F F7)
  have Na:=X.RS.cal (aFs X.RS.F (X.RO.cal ih))
  have GRR:=X.RR.cal (aPn X.RR.F (X.RO.cal (ih.mono (Nat.le_succ _))) GSO (by omega))
  have GRC:=X.RC.cal (aPr X.RC.F Na Nc GPB F7 X.m_max X.m_zip (by omega))
  have GRH:=X.RH.cal (aPp X.RH.F Na Nc GCA F7 X.m_max (by omega))
  exact(aPo X.RO.F GRR GRC GRH).mono (by omega)
theorem aJu(X:RoomX K mg fRU fRO fRS fGM fSO fRR fRC fPB fRH fCA dRU dRO dRS dGM dSO dRR dRC dPB dRH dCA)(PO:Fx K mg "places_in_order" be_ ["fields"] fPO dPO)(n:Nat):FnOk P w K mg base CX0 (4+3*n) fPO dPO ["fields"] (spX (gPO n)):=
 (aPs PO.F (X.PB.cal (aFt X.PB.F (X.RU.cal (e_ X.RU.F)))) (X.RS.cal (aFs X.RS.F (X.RO.cal (uM X n)))) X.m_zip (by omega)).mono (by omega)
theorem vH(LM:Fx K mg "_law_room" ch_ AF fLM dLM)(LR:Fx K mg "_law_rounded" cw_ AE fLR dLR)(m_max:mg "max" = none):∀n,FnOk P w K mg base CX0 (1+n) fLM dLM AF (spX (gLM n))
 | 0=>aGc
 |n+1=>(aPx LM.F (LM.cal (vH LM LR m_max n)) (LR.cal (aPw LR.F)) m_max (by omega)).mono (by omega)
theorem u8(LK:Fx K mg "_law_kind" ds_ AG fLK dLK)(T:Fx K mg "_law_take" dc_ AC fT dT)(LN:Fx K mg "_law_names" dy_ AC fLN dLN)(LM:Fx K mg "_law_room" ch_ AF fLM dLM)(LR:Fx K mg "_law_rounded" cw_ AE fLR dLR)
  (m_max:mg "max" = none) (m_range:mg "range" = none) (m_len:mg "len" = none) (m_int:mg "int" = none):∀n,FnOk P w K mg base CX0 (6+n) fLK dLK AG (spB (gLK n))
 | 0=>i4 λl ds Q h=>by obtain⟨_,_,_,_,_,_,_,_,_⟩:=h;omega
 |n+1=>(aPy LK.F (T.cal (ht_ T.F)) (LN.cal (aKu (aUq LN.F (aKo T.F) T.b T.k T.m m_range m_len))) (LM.cal (vH LM LR m_max 5)) (by omega) (by omega) (LK.cal (u8 LK T LN LM LR m_max m_range m_len m_int n)) m_range m_int).mono (by omega)
theorem n6(VA:Fx K mg "_law_value" dx_ AR fVA dVA)(T:Fx K mg "_law_take" dc_ AC fT dT)(TP:Fx K mg "_law_top" el_ AZ fTP dTP)(m_range:mg "range" = none)(m_len:mg "len" = none):∀n,FnOk P w K mg base CX0 (1+n) fVA dVA AR (spB (gVA n))
 | 0=>i4 λl ds Q h=>by obtain⟨_,kd,_,_,_,hd,_⟩:=h;have:=Kd.deep_pos kd;omega
 |n+1=>(aPl VA.F (T.cal (ht_ T.F)) (TP.cal (d_ TP.F m_range)) (VA.cal (n6 VA T TP m_range m_len n)) m_range m_len (by omega)).mono (by omega)
theorem aAd(CP:Fx K mg "_law_copy" dt_ AO fCP dCP)(m_isinstance:mg "isinstance" = none)(m_list:mg "list" = none)(m_tuple:mg "tuple" = none)(m_dict:mg "dict" = none):∀n,FnOk P w K mg base CX0 n fCP dCP AO (spX (gCP n))
 | 0=>qM λds Q h=>by obtain⟨d,_,_,hd,_⟩:=h;have:=qQ d;omega
 |n+1=>aUr CP.F (CP.cal (aAd CP m_isinstance m_list m_tuple m_dict n)) m_isinstance m_list m_tuple m_dict
structure IvX(K:eC)(mg:kW)(fIV fIW fIRV fIDV fICV:Addr)(dIV dIW dIRV dIDV dICV:FuncData):Prop where
 IV:Fx K mg "is_value" fn_ AB fIV dIV
 IW:Fx K mg "is_whole" fm_ AO fIW dIW
 IRV:Fx K mg "is_row_value" co_ AL fIRV dIRV
 IDV:Fx K mg "is_record_value" br_ AK fIDV dIDV
 ICV:Fx K mg "is_choice_value" cl_ AW fICV dICV
 m_isinstance:mg "isinstance" = none
 m_int:mg "int" = none
 m_bool:mg "bool" = none
 m_list:mg "list" = none
 m_tuple:mg "tuple" = none
 m_dict:mg "dict" = none
 m_str:mg "str" = none
 m_len:mg "len" = none
 m_all:mg "all" = none
 c_BITS:∃t,mg "BITS_OF_A_BYTE" = some (.int 8 t)
theorem p8(SB:Fx K mg "_law_same" dd_ AI fSA dSA)(m_isinstance:mg "isinstance" = none)(m_list:mg "list" = none)(m_tuple:mg "tuple" = none)(m_dict:mg "dict" = none)(m_bool:mg "bool" = none)(m_str:mg "str" = none)(m_len:mg "len" = none)(m_zip:mg "zip" = none):∀n,FnOk P w K mg base CX0 n fSA dSA AI (spX (gSA n))
 | 0=>qM λds Q h=>by obtain⟨d,_,_,hd,_⟩:=h;have:=qQ d;omega
 |n+1=>aPm SB.F (SB.cal (p8 SB m_isinstance m_list m_tuple m_dict m_bool m_str m_len m_zip n)) m_isinstance m_list m_tuple m_dict m_bool m_str m_len m_zip
theorem v8(X:IvX K mg fIV fIW fIRV fIDV fICV dIV dIW dIRV dIDV dICV):∀n,FnOk P w K mg base CX0 (1+2*n) fIV dIV AB (spX (gIG n))
 | 0=>aGt
 |n+1=>by
  have ih:=X.IV.cal (v8 X n)
  have Nb:=X.IW.cal (P:=P) (w:=w) (base:=base) (aPk X.IW.F X.m_isinstance X.m_int X.m_bool)
  exact(aQb X.IV.F Nb (X.IRV.cal (aKk X.IRV.F ih X.m_isinstance X.m_list X.m_len X.m_all)) (X.IDV.cal (aKl X.IDV.F ih X.m_isinstance X.m_dict X.m_str X.m_len X.m_all)) (X.ICV.cal (aKm X.ICV.F ih Nb X.m_isinstance X.m_tuple X.m_len (by omega))) X.c_BITS (by omega)).mono (by omega)
theorem u7(LV:Fx K mg "_law_is_value" cn_ AB fLV dLV)(TP:Fx K mg "_law_top" el_ AZ fTP dTP)(m_range:mg "range" = none)(m_isinstance:mg "isinstance" = none)(m_int:mg "int" = none)(m_bool:mg "bool" = none)(m_list:mg "list" = none)(m_tuple:mg "tuple" = none)(m_dict:mg "dict" = none)(m_len:mg "len" = none):∀n,FnOk P w K mg base CX0 (1+n) fLV dLV AB (spX (gLV n))
 | 0=>qM λds Q h=>by obtain⟨kd,_,_,_,_,hd,_⟩:=h;have:=Kd.deep_pos kd;omega
 |n+1=>(aPv LV.F (TP.cal (d_ TP.F m_range)) (LV.cal (u7 LV TP m_range m_isinstance m_int m_bool m_list m_tuple m_dict m_len n)) (by omega) m_isinstance m_int m_bool m_list m_tuple m_dict m_len).mono (by omega)
theorem aAh(BV:Fx K mg "_law_bad_value" cx_ AA fBV dBV)(BW:Fx K mg "_law_bad_row" dp_ AA fBW dBW)(BR:Fx K mg "_law_bad_record" cr_ AA fBR dBR)(T:Fx K mg "_law_take" dc_ AC fT dT)(TP:Fx K mg "_law_top" el_ AZ fTP dTP)(m_range:mg "range" = none)(m_len:mg "len" = none)(m_tuple:mg "tuple" = none)(m_list:mg "list" = none)(Aw:mg "sorted" = none)(m_str:mg "str" = none):∀n,FnOk P w K mg base CX0 (1+2*n) fBV dBV AA (spB (gBV n))
 | 0=>i4 λl ds Q h=>by obtain⟨_,kd,_,_,_,_,_,hd,_⟩:=h;have:=Kd.deep_pos kd;omega
 |n+1=>by
  have ih:=BV.cal (aAh BV BW BR T TP m_range m_len m_tuple m_list Aw m_str n)
  have GT:=T.cal (P:=P) (w:=w) (base:=base) (ht_ T.F)
  exact(aQe BV.F GT (TP.cal (d_ TP.F m_range)) ih (BW.cal (aQd BW.F GT ih (by omega) m_len m_tuple)) (BR.cal (aQf BR.F GT ih (by omega) m_len m_list Aw)) m_len m_str).mono (by omega)
theorem u_(X:RoomX K mg fRU fRO fRS fGM fSO fRR fRC fPB fRH fCA dRU dRO dRS dGM dSO dRR dRC dPB dRH dCA)(PO:Fx K mg "places_in_order" be_ ["fields"] fPO dPO)(NB:Fx K mg "number_bytes" dg_ ["w","value"] fNB dNB)(Lu:Fx K mg "lay" p9 AT fLAY dLAY)(LB:Fx K mg "laid_bytes" ee_ AV fLB dLB)
  (F6:∃t,mg "HOW_MANY_BYTES" = some (.int 256 t)) (m_range:mg "range" = none) (Ae:mg "enumerate" = none):∀n,FnOk P w K mg base CX0 (5+3*n) fLB dLB AV (spX (gLB n))
 | 0=>qM λds Q h=>by obtain⟨kd,_,_,_,_,hd,_⟩:=h;have:=Kd.deep_pos kd;omega
 |n+1=>by
  have ih:=LB.cal (u_ X PO NB Lu LB F6 m_range Ae n)
  have F7:=X.RU.cal (P:=P) (w:=w) (base:=base) (e_ X.RU.F)
  exact(aPz LB.F (NB.cal (aPu NB.F F6 m_range)) (X.RO.cal (uM X (n+1))) (X.SO.cal (aFr X.SO.F F7)) (PO.cal (aJu X PO n)) (X.CA.cal (aFu X.CA.F F7)) (Lu.cal (aKi Lu.F Ae)) ih X.m_zip Ae (by omega) (by omega) (by omega)).mono (by omega)
theorem Fx.calE{nm:Str}{st:Stmt}{ps:List Str}{j:Nat}{sp:Sp}(x:Fx K mg nm st ps f fd)(h:FnOk P w K mg base (CXe P w) j f fd ps sp):aSo P w K mg base j nm ps sp:=⟨f,fd,h,x.b,x.k,x.m⟩
end
structure VConsts(mg:kW):Prop where
 many:∃t,mg "HOW_MANY_BYTES" = some (.int 256 t)
 bits:∃t,mg "BITS_OF_A_BYTE" = some (.int 8 t)
theorem sR{K:eC}{t:Value}:∀{cs:List Value},(∀c∈cs,PySem.W.kitOne K t c=some false)->PySem.W.kitAny K t cs=some false
 | [],_=>by simp only[PySem.W.kitAny]
 |c::r,h=>by
  have h1:=h c aA
  have h2:=sR (cs:=r) λc' h'=>h c' (aB _ h')
  simp only[PySem.W.kitAny,h1,h2]
theorem aUu{K:eC}{mg:kW}{base:Heap}{CF CV CB CM CT CN CR:Addr}(hF:ClsX K mg "FieldError" CF)(hV:ClsX K mg "NoValue" CV)(hB:ClsX K mg "NoBytes" CB)(hM:ClsX K mg "NoMake" CM)(hT:ClsX K mg "NoText" CT)(hN:ClsX K mg "NoName" CN)(hR:ClsX K mg "NoRow" CR)
  (l:[(some true,true),(some true,true),(some false,false),(some false,false),(some false,false),(some false,false),(some false,false)]=(["FieldError","NoValue","NoBytes","NoMake","NoText","NoName","NoRow"]:List Str).map (λm=>match kF K m with | some D=>(PySem.W.kitOne K (.ref CV) (.ref D),aAp K CV D) | none=>(none,false))) (v:PySem.W.kitOne K (.ref CV) (.type "ValueError")=some true) (hb:K.In base):Kit20 K mg CV CB CM CT CN CR/\zQ base CV CF:=by
 simp only[aL,bL,hF.at',hV.at',hB.at',hM.at',hT.at',hN.at',hR.at',List.cons.injEq,Prod.mk.injEq,and_true]at l
 obtain⟨⟨_,f2⟩,⟨kV,_⟩,⟨kB,_⟩,⟨kM,_⟩,⟨kT,_⟩,⟨kN,_⟩,⟨kR,_⟩⟩:=l
 refine⟨⟨hV.m,hB.m,hM.m,hT.m,hN.m,hR.m,aCh hV.ok,kV.symm,kB.symm,v,sR λc hc=>?_⟩,zD hV.ok f2.symm hb⟩
 simp only[aE,bI,or_false]at hc
 rcases hc with rfl | rfl | rfl | rfl
 ·exact kM.symm
 ·exact kT.symm
 ·exact kN.symm
 ·exact kR.symm
theorem left_top:PySem.W.LeftO PySem.Challenge.pw_laidfields_k20_no_value (PySem.W.view PySem.Challenge.pw_laidfields_k20_no_value [1,2,3,4,5,6,7,9,10,11,12,13,14,15,16,17,18,19,21,23,24,25,26,27,28,29,30,31,32,34,35,36,37,38,39,40,41,42,43,44,45,46,47,48,49,50]) [] (λs=>PySem.W.xlAt (PySem.W.view PySem.Challenge.pw_laidfields_k20_no_value [1,2,3,4,5,6,7,9,10,11,12,13,14,15,16,17,18,19,21,23,24,25,26,27,28,29,30,31,32,34,35,36,37,38,39,40,41,42,43,44,45,46,47,48,49,50]) [] s&&PySem.W.recOk [] s) (exHook (seenF PySem.Challenge.pw_laidfields_k20_no_value) (seenV PySem.Challenge.pw_laidfields_k20_no_value)).obs (exHook (seenF PySem.Challenge.pw_laidfields_k20_no_value) (seenV PySem.Challenge.pw_laidfields_k20_no_value)).val 5342 true:=aBp (by decide) (by kernel_rfl) (λs=>by kernel_rfl) aFq
theorem pY{α:Type}{f g:Nat->α}:∀{l:List Nat},l.map f=l.map g->∀i,i∈l->f i=g i:=λh i hi=>List.map_inj_left.mp h i hi
theorem aCu{K:eC}{f:Addr}{fd:FuncData}(F:Fun K "law" "law" lE f fd)(s:Shared)(v:Value):BindsTo s fd ⟨[v],[]⟩ [("script",v)]:=by
 obtain⟨oc,od,kV,doc,pm,an,Af,ct,osl,rfl,_⟩:=F.ex
 exact .of_eq rfl
theorem all_mk{l:PySem.W.OpenLaw}{w:World}{K:eC}{mg:kW}{fa:Addr}{h:Heap}(hK:seenF PySem.Challenge.pw_laidfields_k20_no_value K=seenV PySem.Challenge.pw_laidfields_k20_no_value)(X:K.In h)(G:h.Ns mainGlobals mg)(K7:mg "law" = some (.ref fa)) :
  ∃fd:FuncData,(∀(s:Shared) (v:Value),BindsTo s fd ⟨[v],[]⟩ [("script",v)])/\∀base:Heap,K.In base->base.Ns mainGlobals mg->FnOk l.prog w K mg base CX0 30 fa fd ["script"] (spLaw K):=by
 have hd:=pY (f:=λi=>vD K (gA (lC PySem.Challenge.pw_laidfields_k20_no_value i))) (g:=λi=>vW (lC PySem.Challenge.pw_laidfields_k20_no_value i)) (l:=[9,10,11,12,13,14,15,16,17,18,19,21,25,26,27,28,29,30,31,32,34,35,36,37,38,39,40,41,42,43,44,45,46,47,48,49,50]) (congrArg (λx=>x.1) hK)
 have Ih:(bltNs++[(⟨#[86,97,108,117,101,69,114,114,111,114]⟩:Str)]).map (pT K)=List.replicate 18 true:=congrArg (λx=>x.2.1) hK
 rw[cP]at Ih
 have Kp:bltNs.map (pT K)++[pT K (⟨#[86,97,108,117,101,69,114,114,111,114]⟩:Str)]=List.replicate 17 true++[true]:=Ih
 obtain⟨hn,hv⟩:=List.append_inj Kp (by rw[aC];rfl)
 have e_VE:(⟨#[86,97,108,117,101,69,114,114,111,114]⟩:Str) = "ValueError":=by rfl
 have Az:mg "ValueError" = none:=PySem.W.mg_none_of X G (e_VE ▸ xU (List.cons.inj hv).1)
 have hc:=pY (f:=λi=>vC K (gA (lC PySem.Challenge.pw_laidfields_k20_no_value i))) (g:=λi=>aWl (lC PySem.Challenge.pw_laidfields_k20_no_value i)) (l:=[23,24]) (congrArg (λx=>x.2.2.1) hK)
 obtain⟨f9,d9,a9,F9⟩:=jL (hd 9 (by decide))
 have Dg:Fx K mg "is_whole" fm_ AO f9 d9:=⟨F9,gH F9 (λ_ _ _ _ _ _ _=>rfl),F9.kp,PySem.W.mg_of X G a9⟩
 obtain⟨f10,d10,a10,F10⟩:=jL (hd 10 (by decide))
 have Cr:Fx K mg "rounded_up" ed_ AE f10 d10:=⟨F10,fU F10 (λ_ _ _ _ _ _ _ _=>rfl),F10.kp,PySem.W.mg_of X G a10⟩
 obtain⟨f11,d11,a11,F11⟩:=jL (hd 11 (by decide))
 have Dw:Fx K mg "room_of" fa_ AF f11 d11:=⟨F11,gH F11 (λ_ _ _ _ _ _ _=>rfl),F11.kp,PySem.W.mg_of X G a11⟩
 obtain⟨f12,d12,a12,F12⟩:=jL (hd 12 (by decide))
 have Df:Fx K mg "rooms_of" ek_ AH f12 d12:=⟨F12,gH F12 (λ_ _ _ _ _ _ _=>rfl),F12.kp,PySem.W.mg_of X G a12⟩
 obtain⟨f13,d13,a13,F13⟩:=jL (hd 13 (by decide))
 have Bh:Fx K mg "greatest_multiple" bs_ AQ f13 d13:=⟨F13,gH F13 (λ_ _ _ _ _ _ _=>rfl),F13.kp,PySem.W.mg_of X G a13⟩
 obtain⟨f14,d14,a14,F14⟩:=jL (hd 14 (by decide))
 have Dv:Fx K mg "step_of" gf_ AX f14 d14:=⟨F14,gH F14 (λ_ _ _ _ _ _ _=>rfl),F14.kp,PySem.W.mg_of X G a14⟩
 obtain⟨f15,d15,a15,F15⟩:=jL (hd 15 (by decide))
 have Ci:Fx K mg "room_of_row" do_ ["kind","n"] f15 d15:=⟨F15,fU F15 (λ_ _ _ _ _ _ _ _=>rfl),F15.kp,PySem.W.mg_of X G a15⟩
 obtain⟨f16,d16,a16,F16⟩:=jL (hd 16 (by decide))
 have Bu:Fx K mg "room_of_record" ce_ AH f16 d16:=⟨F16,gH F16 (λ_ _ _ _ _ _ _=>rfl),F16.kp,PySem.W.mg_of X G a16⟩
 obtain⟨f17,d17,a17,F17⟩:=jL (hd 17 (by decide))
 have B4:Fx K mg "places_behind" cv_ AQ f17 d17:=⟨F17,gH F17 (λ_ _ _ _ _ _ _=>rfl),F17.kp,PySem.W.mg_of X G a17⟩
 obtain⟨f18,d18,a18,F18⟩:=jL (hd 18 (by decide))
 have Bv:Fx K mg "room_of_choice" cf_ AH f18 d18:=⟨F18,gH F18 (λ_ _ _ _ _ _ _=>rfl),F18.kp,PySem.W.mg_of X G a18⟩
 obtain⟨f19,d19,a19,F19⟩:=jL (hd 19 (by decide))
 have C2:Fx K mg "chosen_at" er_ AY f19 d19:=⟨F19,gH F19 (λ_ _ _ _ _ _ _=>rfl),F19.kp,PySem.W.mg_of X G a19⟩
 obtain⟨f21,d21,a21,F21⟩:=jL (hd 21 (by decide))
 have Bk:Fx K mg "places_in_order" be_ ["fields"] f21 d21:=⟨F21,gH F21 (λ_ _ _ _ _ _ _=>rfl),F21.kp,PySem.W.mg_of X G a21⟩
 obtain⟨f25,d25,a25,F25⟩:=jL (hd 25 (by decide))
 have Cb:Fx K mg "is_value" fn_ AB f25 d25:=⟨F25,fU F25 (λ_ _ _ _ _ _ _ _=>rfl),F25.kp,PySem.W.mg_of X G a25⟩
 obtain⟨f26,d26,a26,F26⟩:=jL (hd 26 (by decide))
 have Cd:Fx K mg "is_row_value" co_ AL f26 d26:=⟨F26,nA F26 (λ_ _ _ _ _ _ _ _ _=>rfl),F26.kp,PySem.W.mg_of X G a26⟩
 obtain⟨f27,d27,a27,F27⟩:=jL (hd 27 (by decide))
 have Bm:Fx K mg "is_record_value" br_ AK f27 d27:=⟨F27,fU F27 (λ_ _ _ _ _ _ _ _=>rfl),F27.kp,PySem.W.mg_of X G a27⟩
 obtain⟨f28,d28,a28,F28⟩:=jL (hd 28 (by decide))
 have Bn:Fx K mg "is_choice_value" cl_ AW f28 d28:=⟨F28,fU F28 (λ_ _ _ _ _ _ _ _=>rfl),F28.kp,PySem.W.mg_of X G a28⟩
 obtain⟨f29,d29,a29,F29⟩:=jL (hd 29 (by decide))
 have Ce:Fx K mg "bytes_of" gz_ AB f29 d29:=⟨F29,fU F29 (λ_ _ _ _ _ _ _ _=>rfl),F29.kp,PySem.W.mg_of X G a29⟩
 obtain⟨f30,d30,a30,F30⟩:=jL (hd 30 (by decide))
 have Bl:Fx K mg "laid_bytes" ee_ AV f30 d30:=⟨F30,fU F30 (λ_ _ _ _ _ _ _ _=>rfl),F30.kp,PySem.W.mg_of X G a30⟩
 obtain⟨f31,d31,a31,F31⟩:=jL (hd 31 (by decide))
 have Ca:Fx K mg "number_bytes" dg_ ["w","value"] f31 d31:=⟨F31,fU F31 (λ_ _ _ _ _ _ _ _=>rfl),F31.kp,PySem.W.mg_of X G a31⟩
 obtain⟨f32,d32,a32,F32⟩:=jL (hd 32 (by decide))
 have Hi:Fx K mg "lay" p9 AT f32 d32:=⟨F32,nA F32 (λ_ _ _ _ _ _ _ _ _=>rfl),F32.kp,PySem.W.mg_of X G a32⟩
 obtain⟨f34,d34,a34,F34⟩:=jL (hd 34 (by decide))
 have B0:Fx K mg "_law_pool" gy_ ["script","k"] f34 d34:=⟨F34,fU F34 (λ_ _ _ _ _ _ _ _=>rfl),F34.kp,PySem.W.mg_of X G a34⟩
 obtain⟨f35,d35,a35,F35⟩:=jL (hd 35 (by decide))
 have Aq:Fx K mg "_law_take" dc_ AC f35 d35:=⟨F35,fU F35 (λ_ _ _ _ _ _ _ _=>rfl),F35.kp,PySem.W.mg_of X G a35⟩
 obtain⟨f36,d36,a36,F36⟩:=jL (hd 36 (by decide))
 have A8:Fx K mg "_law_rounded" cw_ AE f36 d36:=⟨F36,fU F36 (λ_ _ _ _ _ _ _ _=>rfl),F36.kp,PySem.W.mg_of X G a36⟩
 obtain⟨f37,d37,a37,F37⟩:=jL (hd 37 (by decide))
 have Ba:Fx K mg "_law_room" ch_ AF f37 d37:=⟨F37,gH F37 (λ_ _ _ _ _ _ _=>rfl),F37.kp,PySem.W.mg_of X G a37⟩
 obtain⟨f38,d38,a38,F38⟩:=jL (hd 38 (by decide))
 have Cs:Fx K mg "_law_names" dy_ AC f38 d38:=⟨F38,fU F38 (λ_ _ _ _ _ _ _ _=>rfl),F38.kp,PySem.W.mg_of X G a38⟩
 obtain⟨f39,d39,a39,F39⟩:=jL (hd 39 (by decide))
 have B1:Fx K mg "_law_kind" ds_ AG f39 d39:=⟨F39,nA F39 (λ_ _ _ _ _ _ _ _ _=>rfl),F39.kp,PySem.W.mg_of X G a39⟩
 obtain⟨f40,d40,a40,F40⟩:=jL (hd 40 (by decide))
 have B3:Fx K mg "_law_copy" dt_ AO f40 d40:=⟨F40,gH F40 (λ_ _ _ _ _ _ _=>rfl),F40.kp,PySem.W.mg_of X G a40⟩
 obtain⟨f41,d41,a41,F41⟩:=jL (hd 41 (by decide))
 have Bz:Fx K mg "_law_same" dd_ AI f41 d41:=⟨F41,fU F41 (λ_ _ _ _ _ _ _ _=>rfl),F41.kp,PySem.W.mg_of X G a41⟩
 obtain⟨f42,d42,a42,F42⟩:=jL (hd 42 (by decide))
 have Bi:Fx K mg "_law_top" el_ AZ f42 d42:=⟨F42,gH F42 (λ_ _ _ _ _ _ _=>rfl),F42.kp,PySem.W.mg_of X G a42⟩
 obtain⟨f43,d43,a43,F43⟩:=jL (hd 43 (by decide))
 have Bo:Fx K mg "_law_value" dx_ AR f43 d43:=⟨F43,fU F43 (λ_ _ _ _ _ _ _ _=>rfl),F43.kp,PySem.W.mg_of X G a43⟩
 obtain⟨f44,d44,a44,F44⟩:=jL (hd 44 (by decide))
 have A6:Fx K mg "_law_is_value" cn_ AB f44 d44:=⟨F44,fU F44 (λ_ _ _ _ _ _ _ _=>rfl),F44.kp,PySem.W.mg_of X G a44⟩
 obtain⟨f45,d45,a45,F45⟩:=jL (hd 45 (by decide))
 have Bq:Fx K mg "_law_bad_record" cr_ AA f45 d45:=⟨F45,nA F45 (λ_ _ _ _ _ _ _ _ _=>rfl),F45.kp,PySem.W.mg_of X G a45⟩
 obtain⟨f46,d46,a46,F46⟩:=jL (hd 46 (by decide))
 have Cf:Fx K mg "_law_bad_row" dp_ AA f46 d46:=⟨F46,nA F46 (λ_ _ _ _ _ _ _ _ _=>rfl),F46.kp,PySem.W.mg_of X G a46⟩
 obtain⟨f47,d47,a47,F47⟩:=jL (hd 47 (by decide))
 have Av:Fx K mg "_law_bad_value" cx_ AA f47 d47:=⟨F47,nA F47 (λ_ _ _ _ _ _ _ _ _=>rfl),F47.kp,PySem.W.mg_of X G a47⟩
 obtain⟨f48,d48,a48,F48⟩:=jL (hd 48 (by decide))
 have Co:Fx K mg "_law_is" hp_ ["caught","due"] f48 d48:=⟨F48,fU F48 (λ_ _ _ _ _ _ _ _=>rfl),F48.kp,PySem.W.mg_of X G a48⟩
 obtain⟨f49,d49,a49,F49⟩:=jL (hd 49 (by decide))
 have Bp:Fx K mg "_law_right" fw_ AB f49 d49:=⟨F49,fU F49 (λ_ _ _ _ _ _ _ _=>rfl),F49.kp,PySem.W.mg_of X G a49⟩
 obtain⟨f50,M9,a50,F50⟩:=jL (hd 50 (by decide))
 have Eg:Fx K mg "law" lE ["script"] f50 M9:=⟨F50,gH F50 (λ_ _ _ _ _ _ _=>rfl),F50.kp,PySem.W.mg_of X G a50⟩
 have m_isinstance:mg "isinstance" = none:=PySem.W.mg_none_of X G (i0 hn 0 (by decide) (by rfl))
 have m_int:mg "int" = none:=PySem.W.mg_none_of X G (i0 hn 1 (by decide) (by rfl))
 have m_bool:mg "bool" = none:=PySem.W.mg_none_of X G (i0 hn 2 (by decide) (by rfl))
 have m_list:mg "list" = none:=PySem.W.mg_none_of X G (i0 hn 3 (by decide) (by rfl))
 have m_len:mg "len" = none:=PySem.W.mg_none_of X G (i0 hn 4 (by decide) (by rfl))
 have m_str:mg "str" = none:=PySem.W.mg_none_of X G (i0 hn 5 (by decide) (by rfl))
 have m_tuple:mg "tuple" = none:=PySem.W.mg_none_of X G (i0 hn 6 (by decide) (by rfl))
 have m_all:mg "all" = none:=PySem.W.mg_none_of X G (i0 hn 7 (by decide) (by rfl))
 have m_dict:mg "dict" = none:=PySem.W.mg_none_of X G (i0 hn 8 (by decide) (by rfl))
 have m_max:mg "max" = none:=PySem.W.mg_none_of X G (i0 hn 9 (by decide) (by rfl))
 have C3:mg "min" = none:=PySem.W.mg_none_of X G (i0 hn 10 (by decide) (by rfl))
 have m_range:mg "range" = none:=PySem.W.mg_none_of X G (i0 hn 11 (by decide) (by rfl))
 have m_zip:mg "zip" = none:=PySem.W.mg_none_of X G (i0 hn 12 (by decide) (by rfl))
 have Ae:mg "enumerate" = none:=PySem.W.mg_none_of X G (i0 hn 13 (by decide) (by rfl))
 have Aw:mg "sorted" = none:=PySem.W.mg_none_of X G (i0 hn 14 (by decide) (by rfl))
 obtain⟨_,Ai,r_HOW_MANY_BYTES⟩:=sO (x:=.int 256) (hc 23 (by decide))
 obtain⟨_,rfl⟩:=r_HOW_MANY_BYTES
 obtain⟨_,Ao,r_BITS_OF_A_BYTE⟩:=sO (x:=.int 8) (hc 24 (by decide))
 obtain⟨_,rfl⟩:=r_BITS_OF_A_BYTE
 have hx:aQi K AN=[(true,[(some true,true),zF,zF,zF,zF,zF,zF],some true,some false),(true,[(some true,true),(some true,true),zF,zF,zF,zF,zF],some true,some false),(true,[(some true,true),zF,(some true,true),zF,zF,zF,zF],some true,some false),(true,[(some true,true),zF,zF,(some true,true),zF,zF,zF],some true,some false),(true,[(some true,true),zF,zF,zF,(some true,true),zF,zF],some true,some false),(true,[(some true,true),zF,zF,zF,zF,(some true,true),zF],some true,some false),(true,[(some true,true),zF,zF,zF,zF,zF,(some true,true)],some true,some false)]:=congrArg (λx=>x.2.2.2.2.1) hK
 rw[aKq]at hx
 simp only[aL,bL,List.cons.injEq,and_true]at hx
 obtain⟨Cj,Dh,Di,D3,D1,D2,Eh⟩:=hx
 obtain⟨A5,Be,l_FieldError,v_FieldError,n_FieldError⟩:=iz_ Cj X G
 obtain⟨Ac,At,Dz,Dy,G1⟩:=iz_ Dh X G
 obtain⟨Ad,Bc,G5,G0,G3⟩:=iz_ Di X G
 obtain⟨Al,Ds,Ht,Hl,Ho⟩:=iz_ D3 X G
 obtain⟨Aj,Dq,Hq,Hj,Hm⟩:=iz_ D1 X G
 obtain⟨Ak,Dr,Hr,Hk,Hn⟩:=iz_ D2 X G
 obtain⟨Ap,Eb,Jm,Jj,Jl⟩:=iz_ Eh X G
 have Cn:VConsts mg:=⟨⟨_,PySem.W.mg_of X G Ai⟩,⟨_,PySem.W.mg_of X G Ao⟩⟩
 have hs:[sF K "NoBytes",sF K "NoValue"]=[true,true]:=congrArg (λx=>x.2.2.2.2.2) hK
 simp only[List.cons.injEq,and_true]at hs
 obtain⟨sx_NoBytes,sx_NoValue⟩:=hs
 have e:=K7.symm.trans Eg.m
 cases e
 refine⟨M9,λs v=>aCu Eg.F s v,λbase Gq _=>?_⟩
 exact have RX:=(⟨Cr,Dw,Df,Bh,Dv,Ci,Bu,B4,Bv,C2,m_max,m_zip⟩:RoomX K mg _ _ _ _ _ _ _ _ _ _ _ _ _ _ _ _ _ _ _ _)
  have IX:=(⟨Cb,Dg,Cd,Bm,Bn,m_isinstance,m_int,m_bool,m_list,m_tuple,m_dict,m_str,m_len,m_all,Cn.bits⟩:IvX K mg _ _ _ _ _ _ _ _ _ _)
  have KT:=aUu Be At Bc Ds Dq Dr Eb Dz Dy Gq
  have GLB:=Bl.cal (P:=l.prog) (w:=w) (base:=base) (u_ RX Bk Ca Hi Bl Cn.many m_range Ae 5)
  have GIG:=Cb.cal (P:=l.prog) (w:=w) (base:=base) (v8 IX 5)
  have GBE:=Ce.calE (aQg Ce.F GIG GLB (by decide) (At.own Gq))
  have GTK:=Aq.cal (P:=l.prog) (w:=w) (base:=base) (ht_ Aq.F)
  have GCP:=B3.cal (P:=l.prog) (w:=w) (base:=base) (aAd B3 m_isinstance m_list m_tuple m_dict 20)
  have GSA:=Bz.cal (P:=l.prog) (w:=w) (base:=base) (p8 Bz m_isinstance m_list m_tuple m_dict m_bool m_str m_len m_zip 20)
  have GLV:=A6.cal (P:=l.prog) (w:=w) (base:=base) (u7 A6 Bi m_range m_isinstance m_int m_bool m_list m_tuple m_dict m_len 5)
  have GLM:=Ba.cal (P:=l.prog) (w:=w) (base:=base) (vH Ba A8 m_max 5)
  have GIS:=Co.cal (P:=l.prog) (w:=w) (base:=base) (aQa Co.F KT.1 m_isinstance m_range Az)
  have GRG:=Bp.cal (aPq (j:=21) Bp.F GCP GSA (GLV.mono (by decide)) (GLM.mono (by decide)) GIS (Be.own Gq) KT.2 GBE m_len (by decide) (by decide))
  aGg ((aKj (L:=29) Eg.F (B0.cal (aPt B0.F m_len)) GTK ((B1.cal (u8 B1 Aq Cs Ba A8 m_max m_range m_len m_int 5)).mono (by decide)) ((Bo.cal (n6 Bo Aq Bi m_range m_len 5)).mono (by decide)) ((Av.cal (aAh Av Cf Bq Aq Bi m_range m_len m_tuple m_list Aw m_str 5)).mono (by decide)) (GRG.mono (by decide)) (At.own Gq) (Bc.own Gq) (p0 Gq sx_NoValue At.at') (p0 Gq sx_NoBytes Bc.at') m_max C3 m_range m_len m_int m_str (by decide)))
def lawRec:DefRec:=match lE with
 | .FunctionDef n a b _ _ _ sc _ _ pos=>⟨n,a,b,sc,pos⟩
 |_=>⟨⟨#[]⟩,⟨[],[],none,[],[],none,[]⟩,[],aO lE,⟨0,0,0,0⟩⟩
end Lf
open PySem PySem.W PyProof.Rows
set_option maxHeartbeats 0 in
theorem PySem.Challenge.cw_laidfields_k20_no_value_holds : PySem.Challenge.rw_laidfields_k20_no_value.Holds := by
 w_on;o_law
 refine holds_open (d := Lf.lawRec) (kwd := []) (XP := XL (PySem.W.view PySem.Challenge.pw_laidfields_k20_no_value [1, 2, 3, 4, 5, 6, 7, 9, 10, 11, 12, 13, 14, 15, 16, 17, 18, 19, 21, 23, 24, 25, 26, 27, 28, 29, 30, 31, 32, 34, 35, 36, 37, 38, 39, 40, 41, 42, 43, 44, 45, 46, 47, 48, 49, 50]) []) Lf.left_top (Hook.of (L2.exHook (Lf.seenF PySem.Challenge.pw_laidfields_k20_no_value) (Lf.seenV PySem.Challenge.pw_laidfields_k20_no_value))) (Hook.keeps (L2.exHook (Lf.seenF PySem.Challenge.pw_laidfields_k20_no_value) (Lf.seenV PySem.Challenge.pw_laidfields_k20_no_value))) (fun s e => xl_of s (eU.mp e).1) XL.keeps (by kernel_rfl) (by kernel_rfl) (by kernel_rfl) (fun s e => recFacts_of (eU.mp e).2) (by rfl) (by assumption) (by decide +kernel) ⟨rfl, rfl, rfl, rfl, rfl, by decide +kernel⟩ ?hw ?hc
 case hw=>w_witness2
 case hc=>exact L2.walk_ex (l:=PySem.Challenge.rw_laidfields_k20_no_value) (n:=63) (k:=30) (x:= "script") (CX:=L2.CX0) (sp:=Lf.spLaw) rfl (by decide) (by rfl) (by first | exact⟨rfl,by decide,by decide⟩ | exact⟨rfl,by decide,by decide,rfl⟩) (λw K mg fa h hK X G K7=>Lf.all_mk hK X G K7) (λK H a ns hl _ hS=>⟨a,ns,rfl,hS,hl,λ_=>rfl⟩) (λ_ _ _ _ z=>z)
#print axioms PySem.Challenge.cw_laidfields_k20_no_value_holds
