import PyProof.Rows.All
import Wide.All
import OpenK.AllK
import Wide.FinOn
import PyProof.EqAt
import PyProof.EqKinds
import PyProof.NeKinds
import PyProof.TupleCall
import PyProof.StrWalks
import PyProof.ConsumeWalk
import PyProof.EnumMake
import PyProof.EnumFor
import PyProof.ListNew
import PyProof.ListRange
import PyProof.Rows.SortWalk
import PyProof.Rows.Range3
import PyProof.Rows.ChunkEnd
import PyProof.Rows.ChunkLeaf
import PyProof.Rows.StrInSeq
import Wide.Txt
import PyProof.DictIter
import PyProof.DictWalks
import PyProof.AttrMissHeap
import KE.KDictOf
import KE.KSortTup
import KE.KDictList
import KE.KRevIter
import PyProof.Rows.Own
import PyProof.ExcBaseAll.ValueError
import PyProof.RulesAs
import PyProof.NsDelKeeps
import PyProof.ExcClass3
import PyProof.ExcArgsOwn
import KE.KIsAll
import KE.IntBitsLaws
import Lean
import PySem.Challenge.RW_laidfields_k23_whole_bytes_of_parts
set_option Elab.async false
set_option linter.all false
set_option maxRecDepth 100000
set_option maxHeartbeats 16000000
abbrev dH:=PySem.W.Frag
abbrev gO:=PySem.Str→Option PySem.Value
abbrev gC:=List (PySem.Addr×PySem.Obj)
abbrev gU:=PySem.Value→PySem.Shared→Prop
section
open PySem PySem.Spec PyProof.Rows
abbrev aA:=@Heap.get?_push_of_some
abbrev aB:=@List.mem_cons_self
abbrev aC:=@List.mem_cons_of_mem
abbrev aD:=@List.getElem?_eq_getElem
abbrev aE:=@List.length_map
abbrev aF:=@List.mem_cons
abbrev aG:=@List.length_replicate
abbrev aI:=@List.length_append
abbrev aJ:=@List.mem_append_right
abbrev aK:=@List.getElem?_eq_some_iff
abbrev aL:=@List.length_cons
abbrev aM:=@List.getD_eq_getElem?_getD
abbrev aO:=@List.mem_singleton
abbrev aP:=@List.map_cons
abbrev aR:=@Heap.lt_size
abbrev aS:=@List.mem_of_getElem?
abbrev aU:=@Heap.get?_push_size
abbrev aV:=@List.not_mem_nil
abbrev aW:=@Bool.false_ne_true
abbrev aX:=@List.replicate_succ
abbrev aY:=@List.nil_append
abbrev bA:=@List.size_toArray
abbrev bB:=@List.getElem?_cons_zero
abbrev bD:=@List.getElem?_append_right
abbrev bE:=@List.getElem?_cons_succ
abbrev bF:=@List.length_set
abbrev bG:=@List.length_nil
abbrev bH:=@List.mem_append_left
abbrev bI:=@List.getElem?_replicate
abbrev bJ:=@Nat.le_refl
abbrev bK:=@List.cons_append
abbrev bL:=@Nat.lt_of_lt_of_le
abbrev bM:=@List.map_nil
abbrev bN:=@Nat.lt_of_succ_lt
abbrev bO:=@List.append_assoc
abbrev bP:=@Nat.le_trans
abbrev bQ:=@List.getElem?_eq_none
abbrev bR:=@Heap.get?_update_other
abbrev bU:=@List.replicate_zero
abbrev bV:=@List.set_cons_succ
abbrev bW:=@List.map_append
abbrev bX:=@Int.mul_le_mul_of_nonneg_right
abbrev bY:=@List.getElem?_append_left
abbrev bZ:=@List.mem_append
abbrev cA:=@List.set_cons_zero
abbrev cB:=@List.length_range
abbrev cE:=@List.getElem?_map
abbrev cG:=@List.zip_cons_cons
abbrev cI:=@List.length_take
abbrev cL:=@Option.isSome_some
abbrev cM:=@List.drop_succ_cons
abbrev cN:=@List.mem_map
abbrev cP:=@List.lookup_cons
abbrev cQ:=@List.length_zip
abbrev cR:=@List.append_nil
abbrev cT:=@List.getElem?_zip_eq_some
abbrev cW:=@Nat.ne_of_lt
abbrev cX:=@List.map_map
abbrev cY:=@Option.getD_some
abbrev cZ:=@Option.bind_some
abbrev dA:=@Int.toNat_natCast
abbrev dB:=@Nat.zero_le
abbrev dC:=@List.nodup_cons
abbrev dD:=@List.drop_zero
abbrev dE:=@List.flatten_cons
abbrev dF:=@List.getElem?_set_ne
abbrev dG:=@Int.emod_lt_of_pos
abbrev dJ:=@Nat.le_max_right
abbrev dL:=@List.set_eq_of_length_le
abbrev dM:=@List.mem_map_of_mem
abbrev dP:=@Heap.size_push
abbrev dQ:=@Nat.le_max_left
abbrev dX:=@Int.emod_nonneg
abbrev eC:=@List.getElem?_of_mem
abbrev eG:=@PyProof.Rows.callWith_type1
abbrev eO:=@Nat.lt_irrefl
abbrev eP:=@Option.map_eq_some_iff
abbrev eQ:=@List.getElem?_set_self
abbrev eZ:=@Heap.get?_update_self
abbrev fD:=@List.all_eq_true
abbrev fE:=@Bool.false_eq_true
abbrev fF:=@Bool.and_eq_true
abbrev fK:=@List.eq_nil_of_length_eq_zero
abbrev fM:=@Nat.add_sub_cancel_left
abbrev fO:=@List.ext_getElem?
abbrev fP:=@List.find?_cons
abbrev fU:=@Nat.ne_of_gt
abbrev fW:=@List.any_cons
abbrev gG:=@List.nodup_append
abbrev gH:=@Bool.and_eq_true_iff
abbrev gJ:=@Option.isSome_iff_exists
abbrev gK:=@Bool.true_and
abbrev gP:=@Int.toNat_of_nonneg
abbrev gR:=@Option.bind_eq_some_iff
abbrev gS:=@Bool.false_and
abbrev gW:=@Int.mul_le_mul_of_nonneg_left
abbrev gZ:=@List.take_of_length_le
abbrev hW:=@List.length_singleton
abbrev iA:=@List.mem_range
abbrev iE:=@List.length_reverse
abbrev iF:=@List.flatMap_append
abbrev iK:=@List.forIn_cons
abbrev iL:=@List.mem_replicate
abbrev iO:=@Int.le_refl
abbrev iS:=@Nat.zero_add
abbrev iT:=@Nat.add_zero
abbrev iU:=@List.reverse_cons
abbrev iV:=@Int.pow_succ
abbrev iW:=@Int.mul_nonneg
end
namespace L2
open PySem PySem.Spec PyProof.Rows
abbrev Key:=Sum Int Str
def sF:Key→Value→Bool
  | .inl k,v=>Value.isInt k v
  | .inr x,v=>Value.isStrOf x v
def aXs (w:World):Key→Int
  | .inl k=>hashInt k
  | .inr x=>hashStr w x
theorem bz_:∀ {k:Key} {v:Value},sF k v=true→(∃ i t,k=Sum.inl i∧v=Value.int i t)∨(∃ x t,k=Sum.inr x∧v=Value.str x t)
  | .inl i, v, h => by
    obtain ⟨t,e⟩:=Value.isInt_shape (k:=i) (v:=v) h
    exact .inl ⟨i,t,rfl,e⟩
  | .inr x, v, h => by
    obtain ⟨t,e⟩:=Value.isStrOf_shape (x:=x) (v:=v) h
    exact .inr ⟨x,t,rfl,e⟩
theorem aBw (i:Int) (t:Tok):sF (.inl i) (.int i t)=true:=by simp [sF,Value.isInt]
theorem aBv (x:Str) (t:Tok):sF (.inr x) (.str x t)=true:=by simp [sF,Value.isStrOf]
theorem aQa (a b:Int):decide ((Sum.inl a:Key)=Sum.inl b)=(a == b):=by
  by_cases e:a=b
  · subst e; simp
  · have h : ¬ (Sum.inl a : Key) = Sum.inl b := fun q => e (Sum.inl.inj q)
    rw [decide_eq_false h]
    exact (beq_eq_false_iff_ne.mpr e).symm
theorem aPx (a b:Str):decide ((Sum.inr a:Key)=Sum.inr b)=decide (a=b):=by
  by_cases e:a=b
  · subst e; simp
  · have h : ¬ (Sum.inr a : Key) = Sum.inr b := fun q => e (Sum.inr.inj q)
    rw [decide_eq_false h,decide_eq_false e]
theorem aPz (a:Int) (b:Str):decide ((Sum.inl a:Key)=Sum.inr b)=false:=decide_eq_false (fun q=>nomatch q)
theorem aPy (a:Str) (b:Int):decide ((Sum.inr a:Key)=Sum.inl b)=false:=decide_eq_false (fun q=>nomatch q)
def fR (prog:Program) (w:World):PySem.KeyKind prog w Key where
  is:=sF
  hash:=aXs w
  inj:=fun v a b ha hb=>by
    rcases bz_ ha with ⟨i,t,rfl,rfl⟩ | ⟨x,t,rfl,rfl⟩
    · rcases bz_ hb with ⟨j, u, rfl, e⟩ | ⟨y, u, rfl, e⟩
      · injection e with e1 _; rw [e1]
      · exact nomatch e
    · rcases bz_ hb with ⟨j, u, rfl, e⟩ | ⟨y, u, rfl, e⟩
      · exact nomatch e
      · injection e with e1 _; rw [e1]
  byValue:=fun k v h=>by
    rcases bz_ h with ⟨i,t,rfl,rfl⟩ | ⟨x,t,rfl,rfl⟩ <;> rfl
  pyHash:=fun hv h=>by
    rcases bz_ hv with ⟨i,t,rfl,rfl⟩ | ⟨x,t,rfl,rfl⟩
    · exact wpAny_pyHash_int h
    · exact wpAny_pyHash_str h
  eqBool:=fun hu hv h=>by
    rcases bz_ hu with ⟨i,t,rfl,rfl⟩ | ⟨x,t,rfl,rfl⟩
    · rcases bz_ hv with ⟨j, u, rfl, rfl⟩ | ⟨y, u, rfl, rfl⟩
      · rw [aQa] at h; exact wpAny_eqBool_int h
      · rw [aPz] at h; exact SeqAt.EqAt.int_str i t y u _ _ _ _ h
    · rcases bz_ hv with ⟨j, u, rfl, rfl⟩ | ⟨y, u, rfl, rfl⟩
      · rw [aPy] at h; exact SeqAt.EqAt.str_int x t j u _ _ _ _ h
      · rw [aPx] at h; exact wpAny_eqBool_str h
  «strs» := fun k x t v h=>by
    rcases bz_ h with ⟨i,u,rfl,e⟩ | ⟨y,u,rfl,e⟩
    · exact nomatch e
    · injection e with e1 _
      subst e1
      cases v <;> rfl
theorem xI (prog:Program) (w:World) (i:Int) (t:Tok):(fR prog w).is (.inl i) (.int i t)=true:=aBw i t
theorem xH (prog:Program) (w:World) (x:Str) (t:Tok):(fR prog w).is (.inr x) (.str x t)=true:=aBv x t
inductive V where
  | non | bl (b:Bool) | int (i:Int) | str (x:Str) | byt (b:Array UInt8) | flt (b:UInt64) | ref (a:Addr) | ty (n:String)
  deriving DecidableEq
def RelV:V→Value→Prop
  | .non,u=>u=Value.none
  | .bl b,u=>u=Value.bool b
  | .int i,u => ∃ t,u=Value.int i t
  | .str x,u => ∃ t,u=Value.str x t
  | .byt b,u => ∃ t,u=Value.bytes b t
  | .flt b,u => ∃ t,u=Value.float b t
  | .ref a,u=>u=Value.ref a
  | .ty n,u=>u=Value.type n
abbrev Vals:List V→List Value→Prop:=Paired RelV
theorem Vals.length {xs:List V} {us:List Value} (r:Vals xs us):xs.length=us.length:=Paired.length r
theorem Vals.get:∀ {xs:List V} {us:List Value} {i:Nat} {x:V},Vals xs us→xs[i]? = some x→∃ u,us[i]? = some u∧RelV x u
  | _,_,_,_,.nil,e=>by simp at e
  | _,_,0,_,.cons r _,e=>by simp at e; subst e; exact ⟨_,rfl,r⟩
  | _, _, i + 1, x, .cons _ t, e => by
    obtain ⟨u,h1,h2⟩:=Vals.get (i:=i) (x:=x) t (by simpa using e)
    exact ⟨u,by simpa using h1,h2⟩
theorem Vals.set {x:V} {u:Value} (r:RelV x u):∀ {xs:List V} {us:List Value} (i:Nat),Vals xs us→Vals (xs.set i x) (us.set i u)
  | _,_,_,.nil=>.nil
  | _,_,0,.cons _ t=>.cons r t
  | _,_,i + 1,.cons q t=>.cons q (Vals.set r i t)
theorem Vals.append:∀ {xs ys:List V} {us ws:List Value},Vals xs us→Vals ys ws→Vals (xs ++ ys) (us ++ ws)
  | _,_,_,_,.nil,s=>s
  | _,_,_,_,.cons r t,s=>.cons r (Vals.append t s)
theorem Vals.take:∀ {xs:List V} {us:List Value} (n:Nat),Vals xs us→Vals (xs.take n) (us.take n)
  | _,_,0,_=>.nil
  | _,_,_ + 1,.nil=>.nil
  | _,_,n + 1,.cons r t=>.cons r (Vals.take n t)
theorem Vals.drop:∀ {xs:List V} {us:List Value} (n:Nat),Vals xs us→Vals (xs.drop n) (us.drop n)
  | _,_,0,r=>r
  | _,_,_ + 1,.nil=>.nil
  | _,_,n + 1,.cons _ t=>Vals.drop n t
def RelO:Option V→Option Value→Prop
  | some v,some u=>RelV v u
  | none,none=>True
  | _,_=>False
def KV {κ:Type}:List (κ×V)→List (κ×Value)→Prop:=Paired fun (p:κ×V) (q:κ×Value)=>p.1=q.1∧RelV p.2 q.2
def kV:Key→V
  | .inl i=>.int i
  | .inr x=>.str x
inductive HO where
  /-- a list -/
  | lst (xs:List V)
  /-- a tuple (never changes) -/
  | tup (xs:List V)
  /-- a dict whose keys are ints and texts; one whose keys are tuples of ints and texts (the empty one is both) -/
  | dK (kvs:List (Key×V)) | dT (kvs:List (List Key×V))
  /-- a set of ints: its members,its size -/
  | set (S:Int→Bool) (n:Nat)
  /-- an instance of the class at C,its dict at dx,its attributes -/
  | ins (C dx:Addr) (fs:List (Str×V))
  /-- the dict of the instance at x -/
  | own (x:Addr)
  /-- the dict of an exception -/
  | xd (fs:List (Str×V))
  /-- a bound method,f of x -/
  | met (f x:Addr)
  /-- a range object lo,lo + 1,.. below hi -/
  | rng (lo hi:Int)
  /-- a thing that is known to the object (the script; a dict while a loop walks it): read,never written while it is so -/
  | frz (o:Obj) (u:HO)
  /-- a code object's table -/
  | tbl (ps:Array Value)
  /-- any other thing,by what is true of its one object (a def of one's own: SetO a S n:=HO.ext fun h=>..) -/
  | ext (φ:Heap→Prop)
abbrev Hp:=Addr→Option HO
def upd (H:Hp) (a:Addr) (o:HO):Hp:=fun b=>if b=a then some o else H b
theorem cJ {H:Hp} {a:Addr} {o:HO}:upd H a o a=some o:=by unfold upd; rw [if_pos rfl]
theorem fX {H:Hp} {a b:Addr} {o:HO} (h:b≠a):upd H a o b=H b:=by unfold upd; rw [if_neg h]
theorem aTl {H:Hp} {a b:Addr} {o u:HO} (h:H a=some o) (h':H b=some u) (d:o≠u):a≠b:=by
  intro e; subst e; rw [h] at h'; exact d (Option.some.inj h')
theorem zN {H:Hp} {a b:Addr} {o:HO} (h:H a=some o) (h':H b=none):a≠b:=by
  intro e; subst e; rw [h] at h'; cases h'
section
variable (P:Program) (w:World)
def ObjOk (H:Hp) (h:Heap) (a:Addr):HO→Prop
  | .lst xs=>xs.length≤sizeLine∧∃ (its:List Value) (n:Nat),Vals xs its∧h.get? a=some { cls:=.type "list",data:=.seq its.toArray n }
  | .tup xs=>xs.length≤sizeLine∧∃ its:List Value,Vals xs its∧IsTup h a its.toArray
  | .dK kvs=>kvs.length≤sizeLine∧(a == sysModules)=false∧∃ vs,KV kvs vs∧h.DictOf (fR P w) a vs
  | .dT kvs=>kvs.length≤sizeLine∧(a == sysModules)=false∧∃ xs:List (List Key×Addr×Value),
      Paired (fun (p:List Key×V) (q:List Key×Addr×Value)=>p.1=q.1∧H q.2.1=some (.tup (p.1.map kV))∧RelV p.2 q.2.2) kvs xs ∧
      ∃ o es ep,h.get? a=some o∧o.ExactDict∧o.data=.dict es ep∧es.toList=xs.map (entryOfKey (tupleKind (fR P w)))∧(xs.map (·.1)).Nodup
  | .set S n=>h.SetOf (intKind P w) a S n
  | .ins C dx fs=>H dx=some (.own a)∧fs.length≤1000∧dx≠a∧h.get? a=some (PySem.W.instObj C dx) ∧
      ∃ mA,h.Ns1 dx mA∧(∀ f,RelO (fs.lookup f) (mA f))∧PySem.Within mA (fs.map (·.1))
  | .own _ => ∃ o,h.get? a=some o
  | .xd fs => ∃ mA,h.Ns1 a mA∧∀ f,RelO (fs.lookup f) (mA f)
  | .rng lo hi => ∃ t u v,h.get? a=some { cls:=.type "range",data:=.fields #[.int lo t,.int hi u,.int 1 v] }
  | .frz o u=>h.get? a=some o∧ObjOk H h a u
  | .tbl ps=>h.get? a=some { cls:=.none,data:=.fields ps }
  | .met f x=>h.get? a=some (PySem.W.methodObj (.ref f) (.ref x))
  | .ext φ=>φ h∧(∃ o,h.get? a=some o)∧∀ h1 h2:Heap,φ h1→(∀ o,h1.get? a=some o→h2.get? a=some o)→φ h2
def HOk (H:Hp) (h:Heap):Prop := ∀ a o,H a=some o→ObjOk P w H h a o
end
section
variable {P:Program} {w:World} {H H':Hp} {h h':Heap} {a:Addr} {o:HO}
theorem ObjOk.lt (x:ObjOk P w H h a o):a < h.objs.size:=by
  cases o with
  | lst xs=>obtain ⟨_,_,_,_,e⟩:=x; exact aR e
  | tup xs=>obtain ⟨_,_,_,p⟩:=x; exact p.lt
  | dK kvs=>obtain ⟨_,_,_,_,o,_,_,e,_⟩:=x; exact aR e
  | dT kvs=>obtain ⟨_,_,_,_,o,_,_,e,_⟩:=x; exact aR e
  | set S n=>obtain ⟨o,_,_,_,e,_⟩:=x; exact aR e
  | ins C dx fs=>obtain ⟨_,_,_,e,_⟩:=x; exact aR e
  | own y=>obtain ⟨_,e⟩:=x; exact aR e
  | xd fs=>obtain ⟨_,⟨_,_,_,e,_⟩,_⟩:=x; exact aR e
  | rng lo hi=>obtain ⟨_,_,_,e⟩:=x; exact aR e
  | frz ob u=>obtain ⟨e,_⟩:=x; exact aR e
  | tbl ps=>exact aR (show h.get? a=some _ from x)
  | met f y=>exact aR (show h.get? a=some _ from x)
  | ext φ=>obtain ⟨_,⟨_,e⟩,_⟩:=x; exact aR e
theorem Paired.mapP {α β:Type} {F G:α→β→Prop}:∀ {l₁:List α} {l₂:List β},Paired F l₁ l₂→(∀ a b,F a b→G a b)→Paired G l₁ l₂
  | _,_,.nil,_=>.nil
  | _,_,.cons r t,f=>.cons (f _ _ r) (Paired.mapP t f)
theorem ObjOk.stay (x:ObjOk P w H h a o) (k:∀ b u,(b=a∨H b=some (.own a))→h.get? b=some u→h'.get? b=some u)
    (ho:∀ b,H b=some (.own a)→H' b=some (.own a)) (ht:∀ b xs,H b=some (.tup xs)→H' b=some (.tup xs)):ObjOk P w H' h' a o:=by
  induction o with
  | lst xs=>obtain ⟨z,its,n,r,e⟩:=x; exact ⟨z,its,n,r,k _ _ (.inl rfl) e⟩
  | tup xs=>obtain ⟨z,its,r,ob,e,c⟩:=x; exact ⟨z,its,r,ob,k _ _ (.inl rfl) e,c⟩
  | dK kvs=>obtain ⟨z,y,vs,r,ob,es,ep,e,c⟩:=x; exact ⟨z,y,vs,r,ob,es,ep,k _ _ (.inl rfl) e,c⟩
  | dT kvs =>
    obtain ⟨z,y,xs,r,ob,es,ep,e,c⟩:=x
    exact ⟨z,y,xs,Paired.mapP r fun p q z=>⟨z.1,ht _ _ z.2.1,z.2.2⟩,ob,es,ep,k _ _ (.inl rfl) e,c⟩
  | set S n=>obtain ⟨ob,es,ep,t,e,c⟩:=x; exact ⟨ob,es,ep,t,k _ _ (.inl rfl) e,c⟩
  | ins C dx fs =>
    obtain ⟨d,z,ne,e,mA,⟨od,es,ep,e2,c⟩,r⟩:=x
    exact ⟨ho _ d,z,ne,k _ _ (.inl rfl) e,mA,⟨od,es,ep,k _ _ (.inr d) e2,c⟩,r⟩
  | own y=>obtain ⟨ob,e⟩:=x; exact ⟨ob,k _ _ (.inl rfl) e⟩
  | xd fs=>obtain ⟨mA,⟨od,es,ep,e,c⟩,r⟩:=x; exact ⟨mA,⟨od,es,ep,k _ _ (.inl rfl) e,c⟩,r⟩
  | rng lo hi=>obtain ⟨t,u,v,e⟩:=x; exact ⟨t,u,v,k _ _ (.inl rfl) e⟩
  | frz ob u ih=>obtain ⟨e,q⟩:=x; exact ⟨k _ _ (.inl rfl) e,ih q⟩
  | tbl ps =>
    have e:h.get? a=some { cls:=.none,data:=.fields ps }:=x
    show h'.get? a=some { cls:=.none,data:=.fields ps }
    exact k a _ (.inl rfl) e
  | met f y =>
    have e:h.get? a=some (PySem.W.methodObj (.ref f) (.ref y)):=x
    show h'.get? a=some (PySem.W.methodObj (.ref f) (.ref y))
    exact k a _ (.inl rfl) e
  | ext φ=>obtain ⟨p,⟨o,e⟩,st⟩:=x; exact ⟨st _ _ p fun o q=>k _ _ (.inl rfl) q,⟨o,k _ _ (.inl rfl) e⟩,st⟩
theorem HOk.lt (x:HOk P w H h) (e:H a=some o):a < h.objs.size:=(x a o e).lt
theorem HOk.fresh (x:HOk P w H h) (e:h.objs.size≤a):H a=none:=by
  cases q:H a with
  | none=>rfl
  | some u=>exact absurd (bL (x.lt q) e) (eO _)
theorem HOk.kept (x:HOk P w H h) (k:∀ b u,h.get? b=some u→h'.get? b=some u):HOk P w H h':=fun a o e =>
  (x a o e).stay (fun b u _ q=>k b u q) (fun _ q=>q) fun _ _ q=>q
theorem HOk.laid (x:HOk P w H h) (k:∀ b u,h.get? b=some u→h'.get? b=some u) (hp:h.objs.size≤a) (new:ObjOk P w (upd H a o) h' a o):HOk P w (upd H a o) h':=fun b u e=>by
  have hn:=x.fresh hp
  by_cases hb:b=a
  · subst hb; rw [cJ] at e; cases e; exact new
  · rw [fX hb] at e
    exact (x b u e).stay (fun c v _ q=>k c v q) (fun c q=>by rw [fX (zN q hn)]; exact q) fun c xs q=>by rw [fX (zN q hn)]; exact q
end
def Rd (H:Hp) (a:Addr) (u:HO):Prop:=H a=some u∨∃ o,H a=some (.frz o u)
theorem Rd.ok {P:Program} {w:World} {H:Hp} {h:Heap} {a:Addr} {u:HO} (r:Rd H a u) (x:HOk P w H h):ObjOk P w H h a u:=by
  rcases r with r | ⟨o,r⟩
  · exact x a u r
  · obtain ⟨_, q⟩ := x a _ r
    exact q
def Mut:Option HO→Prop
  | some (.lst _)=>True
  | some (.dK _)=>True
  | some (.dT _)=>True
  | some (.set _ _)=>True
  | some (.ins _ _ _)=>True
  | some (.ext _)=>True
  | _=>False
section
variable {P:Program} {w:World} {H:Hp} {h h':Heap} {x e:Addr} {o':HO}
theorem HOk.write (ok:HOk P w H h) (mu:Mut (H x)) (he:e=x∨H e=some (.own x)) (k:∀ b u,b≠e→h.get? b=some u→h'.get? b=some u) (heo:∃ u,h'.get? e=some u)
    (new:ObjOk P w (upd H x o') h' x o'):HOk P w (upd H x o') h':=fun b u q=>by
  have nown:∀ c y,H c=some (.own y)→c≠x:=fun c y r z=>by subst z; rw [r] at mu; exact mu
  have ntup:∀ c xs,H c=some (.tup xs)→c≠x:=fun c xs r z=>by subst z; rw [r] at mu; exact mu
  by_cases hb:b=x
  · subst hb; rw [cJ] at q; cases q; exact new
  · rw [fX hb] at q
    by_cases hbe:b=e
    · have q' : H b = some (.own x) := by
        rcases he with z | z
        · exact absurd (hbe.trans z) hb
        · rw [hbe]; exact z
      rw [q] at q'; cases q'
      obtain ⟨v,hv⟩:=heo
      exact ⟨v,by rw [hbe]; exact hv⟩
    · refine (ok b u q).stay (fun c v hc r => k c v ?_ r) (fun c r => by rw [fX (nown c b r)]; exact r) fun c xs r => by rw [fX (ntup c xs r)]; exact r
      rcases hc with rfl | hc
      · exact hbe
      · rintro rfl
        rcases he with z | z
        · exact nown c b hc z
        · rw [hc] at z; cases z; exact hb rfl
end
structure Un (fs ex:List Addr) (H H':Hp) (h h':Heap):Prop where
  keep:∀ b o,h.get? b=some o→H b=none→b∉fs→b∉ex→h'.get? b=some o
  slot:∀ b o,h.get? b=some o→H b=none→b∈fs→b∉ex→∃ sl,h'.get? b=some { o with slots:=sl }
  free:∀ b o,h.get? b=some o→H b=none→b∉ex→H' b=none
  there:∀ b o,h.get? b=some o→b∉ex→∃ o',h'.get? b=some o'
  tups:∀ b xs,H b=some (.tup xs)→H' b=some (.tup xs)
  frzs:∀ b o u,H b=some (.frz o u)→H' b=some (.frz o u)
  tbls:∀ b ps,H b=some (.tbl ps)→∃ more,H' b=some (.tbl (ps ++ more))
section
variable {fs fs' ex ex':List Addr} {H H1 H2:Hp} {h h1 h2 h':Heap} {a x e:Addr} {o:HO}
theorem Un.any (u:Un fs ex H H1 h h1) {b:Addr} {ob:Obj} (q:h.get? b=some ob) (n:H b=none) (hx:b∉ex):∃ sl,h1.get? b=some { ob with slots:=sl }:=by
  by_cases hb:b∈fs
  · exact u.slot b ob q n hb hx
  · exact ⟨ob.slots,u.keep b ob q n hb hx⟩
theorem Un.kept (k:∀ b u,h.get? b=some u→h'.get? b=some u):Un fs ex H H h h' :=
  ⟨fun b ob q _ _ _=>k b ob q,fun b ob q _ _ _=>⟨ob.slots,k b ob q⟩,fun _ _ _ n _=>n,fun b ob q _=>⟨ob,k b ob q⟩,fun _ _ q=>q,fun _ _ _ q=>q,fun _ ps q=>⟨#[],by rw [q]; simp⟩⟩
theorem Un.refl:Un fs ex H H h h:=Un.kept fun _ _ q=>q
theorem Un.laid (k:∀ b u,h.get? b=some u→h'.get? b=some u) (hp:h.objs.size≤a) (hn:H a=none):Un fs ex H (upd H a o) h h' where
  keep:=fun b u q _ _ _=>k b u q
  slot:=fun b u q _ _ _=>⟨u.slots,k b u q⟩
  free:=fun b u q n _=>by rw [fX (cW (bL (aR q) hp))]; exact n
  there:=fun b u q _=>⟨u,k b u q⟩
  tups:=fun b xs q=>by rw [fX (zN q hn)]; exact q
  frzs:=fun b u xs q=>by rw [fX (zN q hn)]; exact q
  tbls:=fun b ps q=>⟨#[],by rw [fX (zN q hn),q]; simp⟩
theorem Un.write (mu:Mut (H x)) (he:e=x∨H e=some (.own x)) (k:∀ b u,b≠e→h.get? b=some u→h'.get? b=some u) (heo:∃ u,h'.get? e=some u):Un fs ex H (upd H x o) h h':=by
  have hx:∀ b,H b=none→b≠x:=fun b n z=>by subst z; rw [n] at mu; exact mu
  have hb:∀ b,H b=none→b≠e:=fun b n z=>by
    subst z
    rcases he with r | r
    · exact hx b n r
    · rw [n] at r; cases r
  have hm:∀ b u,H b=some u→¬ Mut (some u)→b≠x:=fun b u q nm z=>by subst z; rw [q] at mu; exact nm mu
  refine ⟨fun b u q n _ _=>k b u (hb b n) q,fun b u q n _ _=>⟨u.slots,k b u (hb b n) q⟩,fun b u q n _=>by rw [fX (hx b n)]; exact n,fun b u q _ => ?_,
    fun b xs q=>by rw [fX (hm b _ q fun z=>z)]; exact q,fun b u xs q=>by rw [fX (hm b _ q fun z=>z)]; exact q,fun b ps q=>⟨#[],by rw [fX (hm b _ q fun z=>z),q]; simp⟩⟩
  by_cases hbe:b=e
  · subst hbe; exact heo
  · exact ⟨u,k b u hbe q⟩
end
def trk (h:Heap) (H:Hp):List Addr:=(List.range h.objs.size).filter fun a=>(H a).isSome
def vJ (h:Heap) (H:Hp):Heap:=PySem.W.hideAll h (trk h H)
theorem aCb (h:Heap) (H:Hp):(vJ h H).objs.size=h.objs.size:=PySem.W.hideAll_size _ _
theorem aGq {h:Heap} {H:Hp} {b:Addr} {o:Obj} (e:h.get? b=some o) (n:H b=none):(vJ h H).get? b=some o :=
  PySem.W.hideAll_get _ e fun hm=>by
    have q:(H b).isSome=true:=(List.mem_filter.mp hm).2
    rw [n] at q; simp at q
theorem aJt {h:Heap} {H:Hp} {b:Addr} {o:Obj} (e:(vJ h H).get? b=some o):h.get? b=some o∧H b=none:=by
  have e':h.get? b=some o:=PySem.W.of_hideAll (trk h H) e
  refine ⟨e',?_⟩
  cases q:H b with
  | none=>rfl
  | some x =>
    have hm:b∈trk h H:=List.mem_filter.mpr ⟨iA.mpr (aR e'),by simp [q]⟩
    have z:(vJ h H).get? b=none:=PySem.W.hideAll_none (trk h H) hm
    rw [z] at e; cases e
def aLr (g h:Heap) (L:Addr):List (Addr×Obj):=(List.range h.objs.size).filterMap fun a=>if a=L∨(g.get? a).isSome=true then none else (h.get? a).map fun o=>(a,o)
def rest (g h:Heap) (L d:Addr):List (Addr×Obj):=(aLr g h L).filter fun p=>decide (p.1≠d)
structure Mod (K:dH) (mg:gO) (base:Heap):Prop where
  kin:K.In base
  glob:base.Ns mainGlobals mg
  blt:∃ mb,base.Ns builtinsNs mb∧∀ x:Str,x ≠ "__name__" → mb x=bootBuiltins x
  nolimit:base.NoLimit
structure Cx where
  prog:Program
  w:World
  K:PySem.W.Frag
  mg:Str→Option Value
  base:Heap
  A:Around
  N:List Str
  s₀:Shared
  H₀:Hp
  env:Env
  outer:List Env
  stack:List Env
  ex:List Addr
  fn:Str→Bool
  calm:Bool
  pn:List (Addr×Obj)
  xe:Value→Shared→Prop
def frs (l:List Env):List Addr:=l.filterMap (·.frame)
abbrev Cx.fs (X:Cx):List Addr:=frs X.outer
def Vis (sc:Scope) (x:Str):Prop:=sc.names.lookup x=some .local∨sc.names.lookup x=some .cell∨sc.names.lookup x=some .free
def Loc (sc:Scope) (x:Str):Prop:=sc.names.lookup x=some .local∨sc.names.lookup x=some .cell
def aYz (env:Env) (h:Heap) (m:gO) (x:Str) (u:Value):Prop :=
  (env.kindOf x=some .local∧m x=some u)∨((env.kindOf x=some .cell∨env.kindOf x=some .free)∧∃ c,env.cells.lookup x=some c∧h.IsCell c (some u))
structure Cx.Ok (X:Cx):Prop where
  mod:Mod X.K X.mg X.base
  kind:X.env.scope.kind=.function
  glob:X.env.globals=mainGlobals
  blt:X.env.builtins=builtinsNs
  above:X.s₀.heap.objs.size≤X.env.locals
  inj:∀ x y c,X.env.cells.lookup x=some c→X.env.cells.lookup y=some c→x=y
  has:∀ x,(X.env.kindOf x=some .cell∨X.env.kindOf x=some .free)→∃ c,X.env.cells.lookup x=some c
  cab:∀ x c,X.fn x=true→X.env.cells.lookup x=some c→X.s₀.heap.objs.size≤c
  hd:X.calm=true→X.A.handled=none
  frames:X.A.frames=some X.stack
  stk:X.stack=X.outer∨(X.stack=X.env :: X.outer∧X.env.frame=some X.env.locals)
  exf:∀ b∈X.ex,b≠X.env.locals∧∀ x c,X.env.cells.lookup x=some c→c≠b
  bs:∀ b o,X.base.get? b=some o→X.s₀.heap.get? b=some o∧X.H₀ b=none
  bsz:X.base.objs.size≤X.s₀.heap.objs.size
  noex:∀ b o,X.base.get? b=some o→b∉X.ex
  exfs:∀ b∈X.ex,b∉X.fs
  funs:X.s₀.heap.FunFrames X.base X.outer
  frf:∀ b∈X.fs,X.H₀ b=none
structure Inv (X:Cx) (pins:gC) (σ:List (Option V)) (H:Hp) (s:Shared):Prop where
  ok:X.Ok
  os:s.os=X.s₀.os
  bare:AllBare s.gens
  base:Un X.fs X.ex X.H₀ H X.s₀.heap s.heap
  loc:∃ m,s.heap.Ns X.env.locals m∧∀ (i:Nat) (x:Str) (v:V),X.N[i]? = some x→σ[i]? = some (some v)→Vis X.env.scope x→∃ u,RelV v u∧aYz X.env s.heap m x u
  cell:∀ x c,X.env.cells.lookup x=some c→∃ v,s.heap.IsCell c v
  free:H X.env.locals=none
  freeC:∀ x c,X.env.cells.lookup x=some c→H c=none
  pin:∀ p∈X.pn ++ pins,s.heap.get? p.1=some p.2∧H p.1=none∧p.1≠X.env.locals∧p.1∉X.fs∧∀ v,p.2.data ≠ .cell v
  hok:HOk X.prog X.w H s.heap
  len:σ.length=X.N.length
section
variable {X:Cx} {pins:gC} {σ:List (Option V)} {H H':Hp} {s:Shared} {h':Heap}
theorem Cx.Ok.nofr (ok:X.Ok) {b:Addr} {o:Obj} (e:X.base.get? b=some o):b∉X.fs:=fun hb=>by
  have:=(ok.funs.mem hb).1
  rw [e] at this; cases this
theorem Inv.bs (I:Inv X pins σ H s):∀ b o,X.base.get? b=some o→s.heap.get? b=some o∧H b=none:=fun b o e =>
  ⟨I.base.keep b o (I.ok.bs b o e).1 (I.ok.bs b o e).2 (I.ok.nofr e) (I.ok.noex b o e),I.base.free b o (I.ok.bs b o e).1 (I.ok.bs b o e).2 (I.ok.noex b o e)⟩
theorem Inv.bk (I:Inv X pins σ H s):∀ b o,X.base.get? b=some o→s.heap.get? b=some o:=fun b o e=>(I.bs b o e).1
theorem Inv.mod (I:Inv X pins σ H s):Mod X.K X.mg X.base:=I.ok.mod
theorem Inv.kIn (I:Inv X pins σ H s):X.K.In s.heap:=I.ok.mod.kin.keeps I.bk
theorem Inv.fr (I:Inv X pins σ H s):∃ m,Fr X.base X.env.locals s.heap m :=
  let ⟨m,hn,_⟩:=I.loc
  ⟨m,hn,I.bk,bP I.ok.bsz I.ok.above⟩
theorem Inv.lt (I:Inv X pins σ H s):X.env.locals < s.heap.objs.size:=let ⟨_,hn,_⟩:=I.loc; hn.lt
theorem Inv.sz (I:Inv X pins σ H s):X.s₀.heap.objs.size≤s.heap.objs.size:=bP I.ok.above (Nat.le_of_lt I.lt)
theorem Inv.nofs (I:Inv X pins σ H s) {a:Addr} (h:s.heap.objs.size≤a):a∉X.fs:=fun hb=>by
  obtain ⟨_,o,ho,_⟩:=I.ok.funs.mem hb
  exact absurd (bL (aR ho) (bP I.sz h)) (eO _)
theorem Inv.cne (I:Inv X pins σ H s):∀ x c,X.env.cells.lookup x=some c→c≠X.env.locals:=fun x c e z=>by
  obtain ⟨v,o,ho,hd⟩:=I.cell x c e
  obtain ⟨m,⟨o',es,ep,ho',hd',_⟩,_⟩:=I.loc
  rw [z,ho'] at ho; cases ho; rw [hd'] at hd; cases hd
theorem Inv.funs (I:Inv X pins σ H s):s.heap.FunFrames X.base X.outer:=by
  have all:∀ (l:List Env),(∀ b∈frs l,b∈X.fs)→X.s₀.heap.FunFrames X.base l→s.heap.FunFrames X.base l:=by
    intro l
    induction l with
    | nil=>intro _ _; trivial
    | cons env r ih =>
      intro hs hl
      obtain ⟨hk,⟨L,o,hf,hn,ho,hd⟩,hr⟩:=hl
      have hL:L∈X.fs:=hs L (by unfold frs; rw [List.filterMap_cons,hf]; exact aB)
      obtain ⟨sl,e⟩:=I.base.slot L o ho (I.ok.frf L hL) hL fun z=>I.ok.exfs L z hL
      exact ⟨hk,⟨L,_,hf,hn,e,hd⟩,ih (fun b hb=>hs b (by unfold frs; rw [List.filterMap_cons,hf]; exact aC _ hb)) hr⟩
  exact all X.outer (fun _ hb=>hb) I.ok.funs
theorem Inv.stack (I:Inv X pins σ H s):s.heap.FunFrames X.base X.stack:=by
  rcases I.ok.stk with e | ⟨e,hf⟩
  · rw [e]; exact I.funs
  · rw [e]
    obtain ⟨m,hn,_⟩:=I.loc
    refine .cons (by rw [I.ok.kind]; decide) hf hn ?_ I.funs
    exact Heap.get?_none_of_le (bP I.ok.bsz I.ok.above)
theorem Inv.stkSub (I:Inv X pins σ H s):∀ b∈frs X.stack,b∈X.env.locals :: X.fs:=fun b hb=>by
  rcases I.ok.stk with e | ⟨e,hf⟩
  · rw [e] at hb; exact aC _ hb
  · rw [e] at hb
    unfold frs at hb
    rw [List.filterMap_cons,hf] at hb
    exact hb
theorem Inv.stkFree (I:Inv X pins σ H s):∀ b∈frs X.stack,H b=none:=fun b hb=>by
  rcases aF.mp (I.stkSub b hb) with e | hb
  · rw [e]; exact I.free
  · obtain ⟨_, o, ho, _⟩ := I.ok.funs.mem hb
    exact I.base.free b o ho (I.ok.frf b hb) fun z=>I.ok.exfs b z hb
theorem Inv.step {g':Array GenState} {t':Nat} {d':Drawn} {ch:List Addr} (I:Inv X pins σ H s)
    (hch:∀ b∈ch,(b∈X.ex∨X.s₀.heap.objs.size≤b)∧b≠X.env.locals∧(∀ x c,X.env.cells.lookup x=some c→c≠b)∧∀ p∈X.pn ++ pins,p.1≠b)
    (keep:∀ b o,b≠X.env.locals→b∉X.fs→b∉ch→s.heap.get? b=some o→H b=none→h'.get? b=some o)
    (slot:∀ b o,b≠X.env.locals→b∈X.fs→b∉ch→s.heap.get? b=some o→H b=none→∃ sl,h'.get? b=some { o with slots:=sl }) (free:∀ b o,b∉ch→s.heap.get? b=some o→H b=none→H' b=none)
    (there:∀ b o,b∉ch→s.heap.get? b=some o→∃ o',h'.get? b=some o')
    (tups:∀ b xs,H b=some (.tup xs)→H' b=some (.tup xs)) (frzs:∀ b o u,H b=some (.frz o u)→H' b=some (.frz o u)) (tbls:∀ b ps,H b=some (.tbl ps)→∃ more,H' b=some (.tbl (ps ++ more)))
    (ns:∀ m,s.heap.Ns X.env.locals m→h'.Ns X.env.locals m) (hok:HOk X.prog X.w H' h') (hg:AllBare g') :
    Inv X pins σ H' { s with heap:=h',gens:=g',drawn:=d',toks:=t' }:=by
  have neL:∀ b o,X.s₀.heap.get? b=some o→b≠X.env.locals:=fun b o e=>cW (bL (aR e) I.ok.above)
  have neC:∀ b o,X.s₀.heap.get? b=some o→b∉X.ex→b∉ch:=fun b o e hx hb=>by
    rcases (hch b hb).1 with z | z
    · exact hx z
    · exact absurd (bL (aR e) z) (eO _)
  have cellK:∀ x c,X.env.cells.lookup x=some c→∀ v,s.heap.IsCell c v→h'.IsCell c v:=fun x c e v ⟨o,ho,hd⟩=>by
    have nch:c∉ch:=fun z=>(hch c z).2.2.1 x c e rfl
    by_cases hc:c∈X.fs
    · obtain ⟨sl, q⟩ := slot c o (I.cne x c e) hc nch ho (I.freeC x c e)
      exact ⟨_,q,hd⟩
    · exact ⟨o,keep c o (I.cne x c e) hc nch ho (I.freeC x c e),hd⟩
  refine ⟨I.ok,I.os,hg,⟨fun b o e n hb hx => ?_,fun b o e n hb hx => ?_,fun b o e n hx => ?_,fun b o e hx => ?_,fun b xs e=>tups b xs (I.base.tups b xs e),fun b o xs e=>frzs b o xs (I.base.frzs b o xs e),fun b ps e => ?_⟩,?_,fun x c e => ?_,?_,fun x c e => ?_,fun p hp => ?_,hok,I.len⟩
  · exact keep b o (neL b o e) hb (neC b o e hx) (I.base.keep b o e n hb hx) (I.base.free b o e n hx)
  · obtain ⟨sl, e1⟩ := I.base.slot b o e n hb hx
    obtain ⟨sl',e2⟩:=slot b _ (neL b o e) hb (neC b o e hx) e1 (I.base.free b o e n hx)
    exact ⟨sl',e2⟩
  · obtain ⟨o', e1⟩ := I.base.there b o e hx
    exact free b o' (neC b o e hx) e1 (I.base.free b o e n hx)
  · obtain ⟨o', e1⟩ := I.base.there b o e hx
    exact there b o' (neC b o e hx) e1
  · obtain ⟨m1, e1⟩ := I.base.tbls b ps e
    obtain ⟨m2,e2⟩:=tbls b _ e1
    exact ⟨m1 ++ m2,by rw [e2,Array.append_assoc]⟩
  · obtain ⟨m, hn, hl⟩ := I.loc
    refine ⟨m,ns m hn,fun i x v e1 e2 e3 => ?_⟩
    obtain ⟨u,r,l⟩:=hl i x v e1 e2 e3
    refine ⟨u,r,?_⟩
    rcases l with l | ⟨k,c,e,z⟩
    · exact .inl l
    · exact .inr ⟨k,c,e,cellK x c e _ z⟩
  · obtain ⟨v, z⟩ := I.cell x c e
    exact ⟨v,cellK x c e v z⟩
  · obtain ⟨m, ⟨o, _, _, ho, _⟩, _⟩ := I.loc
    exact free _ o (fun z=>(hch _ z).2.1 rfl) ho I.free
  · obtain ⟨v, o, ho, hd⟩ := I.cell x c e
    exact free c o (fun z=>(hch c z).2.2.1 x c e rfl) ho (I.freeC x c e)
  · obtain ⟨e, n, ne, nf, d⟩ := I.pin p hp
    have nch:p.1∉ch:=fun z=>(hch p.1 z).2.2.2 p hp rfl
    exact ⟨keep p.1 p.2 ne nf nch e n,free p.1 p.2 nch e n,ne,nf,d⟩
theorem Inv.un {t':Nat} (I:Inv X pins σ H s) (u:Un X.fs [] H H' s.heap h') (hok:HOk X.prog X.w H' h'):Inv X pins σ H' { s with heap:=h',toks:=t' }:=by
  obtain ⟨m,⟨o,es,ep,ho,r⟩,_⟩:=id I.loc
  obtain ⟨sl,hL⟩:=u.any ho I.free (by simp)
  exact I.step (g':=s.gens) (d':=s.drawn) (ch:=[]) (fun _ z=>nomatch z) (fun b o _ hb _ e n=>u.keep b o e n hb (by simp)) (fun b o _ hb _ e n=>u.slot b o e n hb (by simp)) (fun b o _ e n=>u.free b o e n (by simp)) (fun b o _ e=>u.there b o e (by simp)) u.tups u.frzs u.tbls (fun m' hm=>by
    obtain ⟨o',es',ep',ho',r'⟩:=hm
    rw [ho] at ho'; cases ho'
    exact ⟨_,es',ep',hL,r'⟩) hok I.bare
theorem Inv.call {g':Array GenState} {t':Nat} {d':Drawn} {ch:List Addr} (I:Inv X pins σ H s) (u:Un (frs X.stack) ch H H' s.heap h') (hok:HOk X.prog X.w H' h') (hg:AllBare g')
    (hch:∀ b∈ch,(b∈X.ex∨X.s₀.heap.objs.size≤b)∧b≠X.env.locals∧(∀ x c,X.env.cells.lookup x=some c→c≠b)∧∀ p∈X.pn ++ pins,p.1≠b) :
    Inv X pins σ H' { s with heap:=h',gens:=g',drawn:=d',toks:=t' }:=by
  obtain ⟨m,⟨o,es,ep,ho,r⟩,_⟩:=id I.loc
  obtain ⟨sl,hL⟩:=u.any ho I.free fun z=>(hch _ z).2.1 rfl
  exact I.step (ch:=ch) hch (fun b o hL hb hc e n=>u.keep b o e n (fun z=>(aF.mp (I.stkSub b z)).elim hL hb) hc) (fun b o _ _ hc e n=>u.any e n hc) (fun b o hc e n=>u.free b o e n hc) (fun b o hc e=>u.there b o e hc) u.tups u.frzs u.tbls (fun m' hm=>by
    obtain ⟨o',es',ep',ho',r'⟩:=hm
    rw [ho] at ho'; cases ho'
    exact ⟨_,es',ep',hL,r'⟩) hok hg
theorem Inv.turned {t':Nat} {it:Addr} (I:Inv X pins σ H s) (k:∀ b o,b≠it→s.heap.get? b=some o→h'.get? b=some o) (hn:H it=none) (hL:it≠X.env.locals)
    (h1:it∈X.ex∨X.s₀.heap.objs.size≤it) (h2:∀ x c,X.env.cells.lookup x=some c→c≠it) (h3:∀ p∈X.pn ++ pins,p.1≠it):Inv X pins σ H { s with heap:=h',toks:=t' }:=by
  have nit:∀ b u,H b=some u→b≠it:=fun b u e z=>by rw [z,hn] at e; cases e
  refine I.step (g':=s.gens) (d':=s.drawn) (ch:=[it]) (fun b hb => ?_) (fun b o _ _ hc e _=>k b o (fun z=>hc (by simp [z])) e) (fun b o _ _ hc e _=>⟨o.slots,k b o (fun z=>hc (by simp [z])) e⟩) (fun _ _ _ _ n=>n)
    (fun b o hc e=>⟨o,k b o (fun z=>hc (by simp [z])) e⟩) (fun _ _ e=>e) (fun _ _ _ e=>e) (fun b ps e=>⟨#[],by rw [e]; simp⟩) (fun m hm => ?_) (fun b u e => ?_) I.bare
  · have e : b = it := by simpa using hb
    subst e
    exact ⟨h1,hL,h2,h3⟩
  · obtain ⟨o, es, ep, ho, r⟩ := hm
    exact ⟨o,es,ep,k _ o (Ne.symm hL) ho,r⟩
  · refine (I.hok b u e).stay (fun c v hc q => k c v ?_ q) (fun _ q => q) fun _ _ q => q
    rcases hc with z | z
    · rw [z]; exact nit b u e
    · exact nit c _ z
theorem Inv.tok (I:Inv X pins σ H s) (t:Nat):Inv X pins σ H { s with toks:=t }:=I.un (h':=s.heap) (t':=t) Un.refl I.hok
theorem Inv.kept {t':Nat} (I:Inv X pins σ H s) (k:∀ b u,s.heap.get? b=some u→h'.get? b=some u):Inv X pins σ H { s with heap:=h',toks:=t' }:=I.un (Un.kept k) (I.hok.kept k)
theorem Inv.laid {a:Addr} {o:HO} {t':Nat} (I:Inv X pins σ H s) (k:∀ b u,s.heap.get? b=some u→h'.get? b=some u) (hp:s.heap.objs.size≤a) (new:ObjOk X.prog X.w (upd H a o) h' a o) :
    Inv X pins σ (upd H a o) { s with heap:=h',toks:=t' }:=I.un (Un.laid k hp (I.hok.fresh hp)) (I.hok.laid k hp new)
theorem Inv.write {x e:Addr} {o:HO} {t':Nat} (I:Inv X pins σ H s) (mu:Mut (H x)) (he:e=x∨H e=some (.own x)) (k:∀ b u,b≠e→s.heap.get? b=some u→h'.get? b=some u) (heo:∃ u,h'.get? e=some u)
    (new:ObjOk X.prog X.w (upd H x o) h' x o):Inv X pins σ (upd H x o) { s with heap:=h',toks:=t' }:=I.un (Un.write mu he k heo) (I.hok.write mu he k heo new)
theorem Inv.weak {σ':List (Option V)} (I:Inv X pins σ H s) (hl:σ'.length=σ.length) (w:∀ (i:Nat) v,σ'[i]? = some (some v)→σ[i]? = some (some v)):Inv X pins σ' H s :=
  ⟨I.ok,I.os,I.bare,I.base,let ⟨m,hn,hl'⟩:=I.loc; ⟨m,hn,fun i x v e1 e2 e3=>hl' i x v e1 (w i v e2) e3⟩,I.cell,I.free,I.freeC,I.pin,I.hok,hl.trans I.len⟩
theorem Inv.pins_of {pins':gC} (I:Inv X pins σ H s) (h:∀ p∈pins',s.heap.get? p.1=some p.2∧H p.1=none∧p.1≠X.env.locals∧p.1∉X.fs∧∀ v,p.2.data ≠ .cell v):Inv X pins' σ H s :=
  ⟨I.ok,I.os,I.bare,I.base,I.loc,I.cell,I.free,I.freeC,fun p hp=>(bZ.mp hp).elim (fun z=>I.pin p (bH _ z)) (h p),I.hok,I.len⟩
theorem pH {N:List Str} (hN:N.Nodup) {i j:Nat} {x:Str} (a:N[i]? = some x) (b:N[j]? = some x):i=j:=by
  obtain ⟨h1,e1⟩:=aK.mp a
  obtain ⟨h2,e2⟩:=aK.mp b
  exact (List.getElem_inj hN).mp (e1.trans e2.symm)
theorem hy_ {M:Model} {A:Around} {E:gU} {i:Nat} {x:Str} {v:V} {u:Value} {Q:Unit→Shared→Prop} (I:Inv X pins σ H s) (hN:X.N.Nodup) (hi:X.N[i]? = some x) (hx:Loc X.env.scope x) (r:RelV v u)
    (h:∀ s',Inv X pins (σ.set i (some v)) H s'→(∃ a,Heap.SameBut a s.heap s'.heap∧(a=X.env.locals∨X.env.cells.lookup x=some a))→Q () s') (hf:X.fn x=true∨X.env.scope.names.lookup x=some .local:=by first | exact .inl rfl | exact .inr rfl | assumption):wpAny M A (storeName X.env x u) Q E s:=by
  obtain ⟨m,hn,hl⟩:=id I.loc
  have hcls:(X.env.scope.kind == .class || (X.env.scope.kind == .module && X.env.locals != X.env.globals))=false:=by rw [I.ok.kind]; rfl
  have hiσ:i < σ.length:=by rw [I.len]; exact (aK.mp hi).1
  have cne:=I.cne
  have tracked:∀ {a:Addr} {h':Heap},(∃ o,s.heap.get? a=some o∧H a=none)→Heap.SameBut a s.heap h'→HOk X.prog X.w H h':=fun {a h'} ha hs b ob e=>by
    obtain ⟨_,_,hfree⟩:=ha
    refine (I.hok b ob e).stay (fun c w' hc q=>(hs.2 c ?_).trans q) (fun _ q=>q) fun _ _ q=>q
    rintro rfl
    rcases hc with rfl | hc
    · rw [hfree] at e; cases e
    · rw [hfree] at hc; cases hc
  rcases hx with hk | hk
  · refine wpAny_storeName_local hk hn (fun h' hn' hs => ?_) hcls
    obtain ⟨oL,_,_,hoL,_⟩:=id hn
    refine h _ ⟨I.ok,I.os,I.bare,⟨fun b o e n hb hx => ?_,fun b o e n hb hx => ?_,I.base.free,fun b o e hx => ?_,I.base.tups,I.base.frzs,I.base.tbls⟩,⟨_,hn',fun j y v' e1 e2 e3 => ?_⟩,fun y c e => ?_,I.free,I.freeC,fun p hp => ?_,tracked ⟨oL,hoL,I.free⟩ hs,by simpa using I.len⟩ ⟨_,hs,.inl rfl⟩
    · exact (hs.2 b (cW (bL (aR e) I.ok.above))).trans (I.base.keep b o e n hb hx)
    · obtain ⟨sl, e1⟩ := I.base.slot b o e n hb hx
      exact ⟨sl,(hs.2 b (cW (bL (aR e) I.ok.above))).trans e1⟩
    · obtain ⟨o', e1⟩ := I.base.there b o e hx
      exact ⟨o',(hs.2 b (cW (bL (aR e) I.ok.above))).trans e1⟩
    · by_cases hj : j = i
      · subst hj
        rw [hi] at e1; cases e1
        rw [eQ hiσ] at e2
        cases e2
        exact ⟨u,r,.inl ⟨hk,by simp⟩⟩
      · rw [dF (Ne.symm hj)] at e2
        obtain ⟨u',r',q⟩:=hl j y v' e1 e2 e3
        refine ⟨u',r',?_⟩
        rcases q with ⟨k,e⟩ | ⟨k,c,e,z⟩
        · refine .inl ⟨k, ?_⟩
          have:y≠x:=fun e=>hj (pH hN e1 (e ▸ hi))
          simp [this,e]
        · exact .inr ⟨k,c,e,z.sameBut hs (cne y c e)⟩
    · obtain ⟨w', z⟩ := I.cell y c e
      exact ⟨w',z.sameBut hs (cne y c e)⟩
    · obtain ⟨e, n, ne, nf, d⟩ := I.pin p hp
      exact ⟨(hs.2 p.1 ne).trans e,n,ne,nf,d⟩
  · have hfn : X.fn x = true := by
      rcases hf with z | z
      · exact z
      · rw [z] at hk; cases hk
    obtain ⟨c,hc⟩:=I.ok.has x (.inl hk)
    obtain ⟨w',z⟩:=I.cell x c hc
    refine wpAny_storeName_cell I.ok.kind hk hc z (fun h' hc' hs => ?_)
    obtain ⟨oc,hoc,hocd⟩:=id z
    refine h { s with heap:=h' } ⟨I.ok,I.os,I.bare,⟨fun b o e n hb hx => ?_,fun b o e n hb hx => ?_,I.base.free,fun b o e hx => ?_,I.base.tups,I.base.frzs,I.base.tbls⟩,⟨m,hn.sameBut hs (Ne.symm (cne x c hc)),fun j y v' e1 e2 e3 => ?_⟩,fun y c' e => ?_,I.free,I.freeC,fun p hp => ?_,tracked ⟨oc,hoc,I.freeC x c hc⟩ hs,by simpa using I.len⟩ ⟨c,hs,.inr hc⟩
    · exact (hs.2 b (cW (bL (aR e) (I.ok.cab x c hfn hc)))).trans (I.base.keep b o e n hb hx)
    · obtain ⟨sl, e1⟩ := I.base.slot b o e n hb hx
      exact ⟨sl,(hs.2 b (cW (bL (aR e) (I.ok.cab x c hfn hc)))).trans e1⟩
    · obtain ⟨o', e1⟩ := I.base.there b o e hx
      exact ⟨o',(hs.2 b (cW (bL (aR e) (I.ok.cab x c hfn hc)))).trans e1⟩
    · by_cases hj : j = i
      · subst hj
        rw [hi] at e1; cases e1
        rw [eQ hiσ] at e2
        cases e2
        exact ⟨u,r,.inr ⟨.inl hk,c,hc,hc'⟩⟩
      · rw [dF (Ne.symm hj)] at e2
        obtain ⟨u',r',q⟩:=hl j y v' e1 e2 e3
        refine ⟨u',r',?_⟩
        rcases q with q | ⟨k,c',e,z'⟩
        · exact .inl q
        · refine .inr ⟨k, c', e, z'.sameBut hs ?_⟩
          rintro rfl
          exact hj (pH hN e1 (I.ok.inj _ _ _ e hc ▸ hi))
    · by_cases hcc : c' = c
      · subst hcc; exact ⟨_,hc'⟩
      · obtain ⟨w2, z2⟩ := I.cell y c' e
        exact ⟨w2,z2.sameBut hs hcc⟩
    · obtain ⟨e, n, ne, nf, d⟩ := I.pin p hp
      refine ⟨(hs.2 p.1 ?_).trans e,n,ne,nf,d⟩
      intro q
      rw [q,hoc] at e
      have q':oc=p.2:=Option.some.inj e
      exact d w' (by rw [← q']; exact hocd)
theorem wN {M:Model} {A:Around} {E:gU} {i:Nat} {x:Str} {v:V} {u:Value} {Q:Unit→Shared→Prop} (I:Inv X pins σ H s) (hN:X.N.Nodup) (hi:X.N[i]? = some x) (hx:Loc X.env.scope x) (r:RelV v u)
    (h:∀ s',Inv X pins (σ.set i (some v)) H s'→Q () s') (hf:X.fn x=true∨X.env.scope.names.lookup x=some .local:=by first | exact .inl rfl | exact .inr rfl | assumption):wpAny M A (storeName X.env x u) Q E s :=
  hy_ I hN hi hx r (fun s' I' _=>h s' I') hf
theorem Inv.call' {s':Shared} {ch:List Addr} (I:Inv X pins σ H s) (ho:s'.os=s.os) (u:Un (frs X.stack) ch H H' s.heap s'.heap) (hok:HOk X.prog X.w H' s'.heap) (hg:AllBare s'.gens)
    (hch:∀ b∈ch,(b∈X.ex∨X.s₀.heap.objs.size≤b)∧b≠X.env.locals∧(∀ x c,X.env.cells.lookup x=some c→c≠b)∧∀ p∈X.pn ++ pins,p.1≠b):Inv X pins σ H' s':=by
  obtain ⟨h',g',d',t',o'⟩:=s'
  have e:o'=s.os:=ho
  subst e
  exact I.call (g':=g') (t':=t') (d':=d') u hok hg hch
end
abbrev XK:=Value→Option Addr→Hp→Prop
abbrev St:=List (Option V)
abbrev VK:=V→Hp→Prop
abbrev TE:=St→Hp→VK→Prop
abbrev TT:=St→Hp→(Bool→Hp→Prop)→Prop
abbrev TA:=St→Hp→(List V→Hp→Prop)→Prop
structure Ends where
  nx:St→Hp→Prop
  rt:VK
  bk:St→Hp→Prop:=fun _ _=>False
  ct:St→Hp→Prop:=fun _ _=>False
abbrev TS:=Ends→St→Hp→Prop
def EP (X:Cx) (pins:gC) (σ:St) (Q:VK) (u:Value) (s':Shared):Prop := ∃ v H',Inv X pins σ H' s'∧RelV v u∧Q v H'
def TP (X:Cx) (pins:gC) (σ:St) (Q:Bool→Hp→Prop) (b:Bool) (s':Shared):Prop := ∃ H',Inv X pins σ H' s'∧Q b H'
def AP (X:Cx) (pins:gC) (σ:St) (Q:List V→Hp→Prop) (us:List Value) (s':Shared):Prop := ∃ vs H',Inv X pins σ H' s'∧Vals vs us∧Q vs H'
def SP (X:Cx) (pins:gC) (D:Ends) (f:Flow) (s':Shared):Prop :=
  match f with
  | .next => ∃ σ' H',Inv X pins σ' H' s'∧D.nx σ' H'
  | .brk => ∃ σ' H',Inv X pins σ' H' s'∧D.bk σ' H'
  | .cont => ∃ σ' H',Inv X pins σ' H' s'∧D.ct σ' H'
  | .ret u => ∃ v σ' H',Inv X pins σ' H' s'∧RelV v u∧D.rt v H'
def PE (X:Cx) (e:Expr) (t:TE):Prop :=
  ∀ (pins:gC) (s:Shared) (σ:St) (H:Hp) (Q:VK),Inv X pins σ H s→t σ H Q→wpAny (model X.prog X.w) X.A (eval e X.env) (EP X pins σ Q) X.xe s
def PT (X:Cx) (e:Expr) (t:TT):Prop :=
  ∀ (pins:gC) (s:Shared) (σ:St) (H:Hp) (Q:Bool→Hp→Prop),Inv X pins σ H s→t σ H Q→wpAny (model X.prog X.w) X.A (isTrue e X.env (eval e X.env)) (TP X pins σ Q) X.xe s
def PW (X:Cx) (e:Expr) (t:TT):Prop :=
  ∀ (whole:Sem Value) (pins:gC) (s:Shared) (σ:St) (H:Hp) (Q:Bool→Hp→Prop),Inv X pins σ H s→t σ H Q→wpAny (model X.prog X.w) X.A (isTrue e X.env whole) (TP X pins σ Q) X.xe s
theorem PW.pt {X:Cx} {e:Expr} {t:TT} (h:PW X e t):PT X e t:=h _
def PA (X:Cx) (es:List Expr) (t:TA):Prop :=
  ∀ (pos:Pos) (pins:gC) (s:Shared) (σ:St) (H:Hp) (Q:List V→Hp→Prop),Inv X pins σ H s→t σ H Q→wpAny (model X.prog X.w) X.A (spliced (backTo pos (starEach es X.env))) (AP X pins σ Q) X.xe s
def PS (X:Cx) (st:Stmt) (t:TS):Prop :=
  ∀ (pins:gC) (s:Shared) (σ:St) (H:Hp) (D:Ends),Inv X pins σ H s→t D σ H→wpAny (model X.prog X.w) X.A (exec st X.env) (SP X pins D) X.xe s
def PSs (X:Cx) (st:List Stmt) (t:TS):Prop :=
  ∀ (pins:gC) (s:Shared) (σ:St) (H:Hp) (D:Ends),Inv X pins σ H s→t D σ H→wpAny (model X.prog X.w) X.A (execs st X.env) (SP X pins D) X.xe s
theorem fL {α:Type} {t:Sem α} {Q Q':α→Shared→Prop} {M:Model} {A:Around} {E:gU} {s:Shared} (h:wpAny M A t Q E s) (hQ:∀ a s,Q a s→Q' a s):wpAny M A t Q' E s:=wpAny_mono h hQ fun _ _ x=>x
section
variable {X:Cx}
def kA (i:Nat):TE:=fun σ H Q => ∃ v,σ[i]? = some (some v)∧Q v H
def tC (v:V):TE:=fun _ H Q=>Q v H
theorem aOa {i:Nat} {x:Str} {pos:Pos} (hN:X.N[i]? = some x) (hv:Vis X.env.scope x) (hd:(x == ("__debug__" : Str))=false:=by decide) (hcd:(x == ("__classdict__" : Str))=false:=by decide):PE X (.Name x pos) (kA i):=by
  intro pins s σ H Q I h
  obtain ⟨v,e,h⟩:=h
  obtain ⟨m,hn,hl⟩:=I.loc
  obtain ⟨u,r,l⟩:=hl i x v hN e hv
  have fin:EP X pins σ Q u s:=⟨v,H,I,r,h⟩
  rcases l with ⟨hk,hm⟩ | ⟨hk,c,hc,hcell⟩
  · exact wpAny_Name (wpAny_loadName_local I.ok.kind hk hn hm fin) hd
  · rcases hk with hk | hk
    · exact wpAny_Name (wpAny_loadName_cell I.ok.kind hk hc hcell fin) hd
    · exact wpAny_Name (wpAny_loadName_free I.ok.kind hk hc hcell fin hcd) hd
theorem jE {i j pos}:PE X (.Constant (.int i) j pos) (tC (.int i)):=fun _ _ _ H _ I h=>wpAny_Constant_int ⟨.int i,H,I.tok _,⟨_,rfl⟩,h⟩
theorem aTd {b j pos}:PE X (.Constant (.bool b) j pos) (tC (.bl b)):=fun _ _ _ H _ I h=>Constant_bool ⟨.bl b,H,I,rfl,h⟩
theorem aOd {j pos}:PE X (.Constant .none j pos) (tC .non):=fun _ _ _ H _ I h=>Constant_none ⟨.non,H,I,rfl,h⟩
theorem he_ {x j pos}:PE X (.Constant (.str x) j pos) (tC (.str x)):=fun _ _ _ H _ I h=>Calls.Constant_str ⟨.str x,H,I.tok _,⟨_,rfl⟩,h⟩
def Gl (X:Cx) (x:Str):Prop:=X.env.kindOf x=some .globalImplicit
theorem in_ {E:gU} {pins:gC} {s:Shared} {σ:St} {H:Hp} {x:Str} {u:Value} {pos:Pos} {Q:gU} (I:Inv X pins σ H s) (hg:Gl X x) (hm:X.mg x=some u) (h:Q u s)
    (hd:(x == ("__debug__" : Str))=false:=by decide):wpAny (model X.prog X.w) X.A (eval (.Name x pos) X.env) Q E s :=
  Calls.Name_function_global I.ok.kind hg (Calls.loadGlobal_global (by rw [I.ok.glob]; exact I.mod.glob.keeps I.bk) hm h) hd
theorem gh_ {E:gU} {pins:gC} {s:Shared} {σ:St} {H:Hp} {x:Str} {u:Value} {pos:Pos} {Q:gU} (I:Inv X pins σ H s) (hg:Gl X x) (hm:X.mg x=none) (hv:bootBuiltins x=some u) (h:Q u s)
    (hn:x ≠ "__name__" := by decide) (hd:(x == ("__debug__" : Str))=false:=by decide):wpAny (model X.prog X.w) X.A (eval (.Name x pos) X.env) Q E s:=by
  obtain ⟨mb,h1,h2⟩:=I.mod.blt
  exact Calls.Name_function_global I.ok.kind hg (Calls.loadGlobal_builtin (by rw [I.ok.glob]; exact I.mod.glob.keeps I.bk) hm (by rw [I.ok.blt]; exact h1.keeps I.bk) ((h2 x hn).trans hv) h) hd
theorem aJb {x:Str} {v:V} {u:Value} {pos:Pos} (hg:Gl X x) (hm:X.mg x=some u) (r:RelV v u) (hd:(x == ("__debug__" : Str))=false:=by decide):PE X (.Name x pos) (tC v) :=
  fun _ _ _ H _ I h=>in_ I hg hm ⟨v,H,I,r,h⟩ hd
theorem qZ {x:Str} {v:V} {u:Value} {pos:Pos} (hg:Gl X x) (hm:X.mg x=none) (hv:bootBuiltins x=some u) (r:RelV v u) (hn:x ≠ "__name__" := by decide) (hd:(x == ("__debug__" : Str))=false:=by decide):PE X (.Name x pos) (tC v) :=
  fun _ _ _ H _ I h=>gh_ I hg hm hv ⟨v,H,I,r,h⟩ hn hd
variable {a b:Expr} {ta tb:TE} {pos:Pos}
def PC (X:Cx) (op:CmpOp) (a b:Expr) (t:TE):Prop :=
  ∀ (pins : gC) (s : Shared) (σ : St) (H : Hp) (Q : VK), Inv X pins σ H s → t σ H Q →
    wpAny (model X.prog X.w) X.A (eval a X.env) (fun v s₁=>wpAny (model X.prog X.w) X.A (eval b X.env) (fun u s₂=>wpAny (model X.prog X.w) X.A (compareOp op v u) (EP X pins σ Q) X.xe s₂) X.xe s₁) X.xe s
theorem xE (b:Expr) {op:CmpOp} (h:op ≠ .In) (h2:op ≠ .NotIn):behindInMarks op b=false:=by
  have e1:(op == CmpOp.In)=false:=by cases op <;> first | rfl | exact absurd rfl h
  have e2:(op == CmpOp.NotIn)=false:=by cases op <;> first | rfl | exact absurd rfl h2
  cases b <;> simp [behindInMarks,e1,e2]
def tB (t:TE):TT:=fun σ H Q=>t σ H fun x H1 => ∃ c,x=.bl c∧Q c H1
theorem aOf {op:CmpOp} {t:TE} (h:PC X op a b t) (h1:behindInMarks op b=false:=by first | exact xE _ (by decide) (by decide) | rfl):PE X (.Compare a [op] [b] pos) t:=fun pins s σ H Q I hw=>wpAny_Compare1 (h pins s σ H Q I hw) h1
theorem aNy {op:CmpOp} {t:TE} (h:PC X op a b t) (h1:behindInMarks op b=false:=by first | exact xE _ (by decide) (by decide) | rfl):PT X (.Compare a [op] [b] pos) (tB t):=by
  intro pins s σ H Q I hw
  refine wpAny_isTrue_Compare1 (fL (h pins s σ H _ I hw) fun v s1 h1=>fL h1 fun u s2 h2=>fL h2 fun c s3 ⟨x,H1,I1,r1,q1⟩ => ?_) h1
  obtain ⟨d,rfl,q⟩:=q1
  cases r1
  exact wpAny_truthy_bool ⟨H1,I1,q⟩
theorem aNw {e:Expr} {t:TE} (h:PE X e t) (he:∀ whole,isTrue e X.env whole=(do let v ← whole; standAt e.pos; holding [v] (truthy v)):=by intro _; rfl):PT X e (tB t):=by
  intro pins s σ H Q I hw
  refine isTrue_plain (fL (h pins s σ H _ I hw) fun v s1 ⟨x,H1,I1,r1,q1⟩ => ?_) (he _)
  obtain ⟨d,rfl,q⟩:=q1
  cases r1
  exact wpAny_truthy_bool ⟨H1,I1,q⟩
variable {tA tB':TT} {rest:List Expr}
def aXk (t u:TT):TT:=fun σ H Q=>t σ H fun c H1=>if c=true then u σ H1 Q else Q false H1
def tOr (t u:TT):TT:=fun σ H Q=>t σ H fun c H1=>if c=true then Q true H1 else u σ H1 Q
def aXd (t:TT):TT:=fun σ H Q=>t σ H fun c H1=>Q (!c) H1
theorem q_ (ha:PT X a tA):PW X (.BoolOp .And [a] pos) tA:=by
  intro wh pins s σ H Q I h
  refine isTrue_and (fL (ha pins s σ H Q I h) fun c s1 e => ?_)
  cases c with
  | true=>exact isTrue_and_nil e
  | false=>exact e
theorem aNv (ha:PT X a tA):PW X (.BoolOp .Or [a] pos) tA:=by
  intro wh pins s σ H Q I h
  refine isTrue_or (fL (ha pins s σ H Q I h) fun c s1 e => ?_)
  cases c with
  | false=>exact isTrue_or_nil e
  | true=>exact e
theorem aEp (ha:PT X a tA) (hb:PW X (.BoolOp .And (b :: rest) pos) tB'):PW X (.BoolOp .And (a :: b :: rest) pos) (aXk tA tB'):=by
  intro wh pins s σ H Q I h
  refine isTrue_and (fL (ha pins s σ H _ I h) fun c s1 ⟨H1,I1,q1⟩ => ?_)
  cases c with
  | true=>exact hb wh pins s1 σ H1 Q I1 q1
  | false=>exact ⟨H1,I1,q1⟩
theorem aTb (ha:PT X a tA) (hb:PW X (.BoolOp .Or (b :: rest) pos) tB'):PW X (.BoolOp .Or (a :: b :: rest) pos) (tOr tA tB'):=by
  intro wh pins s σ H Q I h
  refine isTrue_or (fL (ha pins s σ H _ I h) fun c s1 ⟨H1,I1,q1⟩ => ?_)
  cases c with
  | true=>exact ⟨H1,I1,q1⟩
  | false=>exact hb wh pins s1 σ H1 Q I1 q1
theorem aNx (ha:PT X a tA):PT X (.UnaryOp .Not a pos) (aXd tA):=by
  intro pins s σ H Q I h
  exact isTrue_not (ha pins s σ H (fun c H1=>Q (!c) H1) I h)
def aSw (ta tb:TE):TE:=fun σ H Q=>ta σ H fun x H1 => ∃ c,x=.bl c∧if c=true then tb σ H1 Q else Q (.bl false) H1
def aSr (ta:TE):TE:=fun σ H Q=>ta σ H fun x H1 => ∃ c,x=.bl c∧Q (.bl (!c)) H1
theorem aOb {op} {t:TE} (h:PE X a t):PE X (.BoolOp op [a] pos) t:=fun pins s σ H Q I hw=>BoolOp_one (h pins s σ H Q I hw)
theorem aOh (ha:PE X a ta) (hb:PE X (.BoolOp .And (b :: rest) pos) tb):PE X (.BoolOp .And (a :: b :: rest) pos) (aSw ta tb):=by
  intro pins s σ H Q I h
  refine BoolOp_and (fL (ha pins s σ H _ I h) fun v s1 ⟨x,H1,I1,r1,q1⟩ => ?_)
  obtain ⟨c,rfl,q1⟩:=q1
  cases r1
  refine wpAny_truthy_bool ?_
  cases c with
  | true=>exact hb pins s1 σ H1 Q I1 q1
  | false=>exact ⟨.bl false,H1,I1,rfl,q1⟩
theorem aOc (ha:PE X a ta):PE X (.UnaryOp .Not a pos) (aSr ta):=by
  intro pins s σ H Q I h
  refine UnaryOp_ (fL (ha pins s σ H _ I h) fun v s1 ⟨x,H1,I1,r1,q1⟩ => ?_)
  obtain ⟨c,rfl,q1⟩:=q1
  cases r1
  exact not_of (wpAny_truthy_bool ⟨.bl (!c),H1,I1,rfl,q1⟩)
end
def SqL (K:dH) (H:Hp) (a:Addr) (xs:List V):Prop :=
  Rd H a (.lst xs) ∨
    ∃ (o:Obj) (its:Array Value) (n:Nat),K.lookup a=some o∧o.cls=.type "list" ∧ o.dict=none∧o.data=.seq its n∧its.size≤sizeLine∧Vals xs its.toList
def SqT (K:dH) (H:Hp) (a:Addr) (xs:List V):Prop :=
  Rd H a (.tup xs) ∨
    ∃ (o:Obj) (its:Array Value) (n:Nat),K.lookup a=some o∧o.cls=.type "tuple" ∧ o.data=.seq its n∧its.size≤sizeLine∧Vals xs its.toList
def aLu:Value→Option V
  | .none=>some .non
  | .bool b=>some (.bl b)
  | .int i _=>some (.int i)
  | .str x _=>some (.str x)
  | .bytes b _=>some (.byt b)
  | .float b _=>some (.flt b)
  | .ref a=>some (.ref a)
  | .type n=>some (.ty n)
  | _=>none
theorem RelV.abs {x:V} {u:Value} (r:RelV x u):aLu u=some x:=by
  cases x with
  | non=>cases r; rfl
  | bl _=>cases r; rfl
  | int _=>obtain ⟨t,rfl⟩:=r; rfl
  | str _=>obtain ⟨t,rfl⟩:=r; rfl
  | byt _=>obtain ⟨t,rfl⟩:=r; rfl
  | flt _=>obtain ⟨t,rfl⟩:=r; rfl
  | ref _=>cases r; rfl
  | ty _=>cases r; rfl
theorem RelV.inj {x y:V} {u:Value} (r:RelV x u) (q:RelV y u):x=y:=Option.some.inj (r.abs.symm.trans q.abs)
theorem Vals.inj:∀ {xs ys:List V} {us:List Value},Vals xs us→Vals ys us→xs=ys
  | _,_,_,.nil,.nil=>rfl
  | _,_,_,.cons r t,.cons r' t'=>by rw [r.inj r',Vals.inj t t']
section
variable {X:Cx} {pins:gC} {σ:St} {H:Hp} {s:Shared} {a:Addr} {xs ys:List V}
theorem SqL.of {K:dH} (h:H a=some (.lst xs)):SqL K H a xs:=.inl (.inl h)
theorem SqT.of {K:dH} (h:H a=some (.tup xs)):SqT K H a xs:=.inl (.inl h)
theorem Inv.list (I:Inv X pins σ H s) (h:SqL X.K H a xs):∃ its:List Value,Vals xs its∧PlainL s.heap a its.toArray∧xs.length≤sizeLine:=by
  rcases h with h | ⟨o,its,n,hk,hc,hd,hs,hz,r⟩
  · obtain ⟨z, its, n, r, e⟩ := h.ok I.hok
    exact ⟨its,r,⟨_,n,e,rfl,rfl,rfl⟩,z⟩
  · refine ⟨its.toList, r, ⟨o, n, I.kIn a o hk, hc, hd, by simpa using hs⟩, ?_⟩
    have e:=r.length
    simp only [Array.length_toList] at e
    omega
theorem Inv.tuple (I:Inv X pins σ H s) (h:SqT X.K H a xs):∃ its:List Value,Vals xs its∧IsTup s.heap a its.toArray∧xs.length≤sizeLine:=by
  rcases h with h | ⟨o,its,n,hk,hc,hs,hz,r⟩
  · obtain ⟨z, its, r, p⟩ := h.ok I.hok
    exact ⟨its,r,p,z⟩
  · refine ⟨its.toList, r, ⟨o, I.kIn a o hk, hc, n, by simpa using hs⟩, ?_⟩
    have e:=r.length
    simp only [Array.length_toList] at e
    omega
theorem Inv.list_inj (I:Inv X pins σ H s) (h:SqL X.K H a xs) (h':SqL X.K H a ys):xs=ys:=by
  obtain ⟨its,r,⟨o,n,e,_,_,d⟩,_⟩:=I.list h
  obtain ⟨its',r',⟨o',n',e',_,_,d'⟩,_⟩:=I.list h'
  rw [e] at e'; cases e'
  rw [d] at d'
  injection d' with d1 _
  have:its=its':=by simpa using congrArg Array.toList d1
  subst this
  exact r.inj r'
theorem Inv.tuple_inj (I:Inv X pins σ H s) (h:SqT X.K H a xs) (h':SqT X.K H a ys):xs=ys:=by
  obtain ⟨its,r,⟨o,e,_,n,d⟩,_⟩:=I.tuple h
  obtain ⟨its',r',⟨o',e',_,n',d'⟩,_⟩:=I.tuple h'
  rw [e] at e'; cases e'
  rw [d] at d'
  injection d' with d1 _
  have:its=its':=by simpa using congrArg Array.toList d1
  subst this
  exact r.inj r'
end
abbrev Cx.wish (X:Cx) (E:gU):Cx:={ X with xe:=E }
abbrev Cx.nox (X:Cx):Cx:=X.wish fun _ _=>False
theorem Cx.Ok.wish {X:Cx} (ok:X.Ok) (E:gU):(X.wish E).Ok :=
  ⟨ok.mod,ok.kind,ok.glob,ok.blt,ok.above,ok.inj,ok.has,ok.cab,ok.hd,ok.frames,ok.stk,ok.exf,ok.bs,ok.bsz,ok.noex,ok.exfs,ok.funs,ok.frf⟩
theorem Cx.Ok.unwish {X:Cx} {E:gU} (ok:(X.wish E).Ok):X.Ok :=
  ⟨ok.mod,ok.kind,ok.glob,ok.blt,ok.above,ok.inj,ok.has,ok.cab,ok.hd,ok.frames,ok.stk,ok.exf,ok.bs,ok.bsz,ok.noex,ok.exfs,ok.funs,ok.frf⟩
section
variable {X:Cx} {pins:gC} {σ:St} {H:Hp} {s:Shared} {E:gU}
theorem Inv.wish (I:Inv X pins σ H s) (E:gU):Inv (X.wish E) pins σ H s:=⟨I.ok.wish E,I.os,I.bare,I.base,I.loc,I.cell,I.free,I.freeC,I.pin,I.hok,I.len⟩
theorem Inv.unwish (I:Inv (X.wish E) pins σ H s):Inv X pins σ H s:=⟨I.ok.unwish,I.os,I.bare,I.base,I.loc,I.cell,I.free,I.freeC,I.pin,I.hok,I.len⟩
theorem SP.unwish {D:Ends} {f:Flow} {s':Shared} (h:SP (X.wish E) pins D f s'):SP X pins D f s':=by
  cases f with
  | next=>obtain ⟨σ',H',I,q⟩:=h; exact ⟨σ',H',I.unwish,q⟩
  | brk=>obtain ⟨σ',H',I,q⟩:=h; exact ⟨σ',H',I.unwish,q⟩
  | cont=>obtain ⟨σ',H',I,q⟩:=h; exact ⟨σ',H',I.unwish,q⟩
  | ret u=>obtain ⟨v,σ',H',I,r,q⟩:=h; exact ⟨v,σ',H',I.unwish,r,q⟩
theorem PSs.nox {st:List Stmt} {t:TS} (h:PSs X.nox st t):PSs X st t:=fun pins s σ H D I hw =>
  wpAny_mono (h pins s σ H D (I.wish _) hw) (fun _ _ q=>q.unwish) fun _ _ z=>False.elim z
end
section
variable {X:Cx} {st:Stmt} {rest:List Stmt} {t u:TS} {e:Expr} {te:TE} {pos:Pos}
def aSs:TS:=fun D σ H=>D.nx σ H
def aXb (t u:TS):TS:=fun D σ H=>t { D with nx:=u D } σ H
theorem nU:PSs X [] aSs:=fun _ _ σ H _ I h=>wpAny_execs_nil ⟨σ,H,I,h⟩
theorem rB (h1:PS X st t) (h2:PSs X rest u):PSs X (st :: rest) (aXb t u):=by
  intro pins s σ H D I h
  refine wpAny_execs_cons (fL (h1 pins s σ H { D with nx:=u D } I h) fun f s1 q => ?_)
  cases f with
  | next =>
    obtain ⟨σ',H',I',q⟩:=q
    exact h2 pins s1 σ' H' D I' q
  | ret v=>exact q
  | brk=>exact q
  | cont=>exact q
theorem eu_ (h1:PS X st t):PSs X [st] t:=by
  intro pins s σ H D I h
  refine wpAny_execs_cons (fL (h1 pins s σ H D I h) fun f s1 q => ?_)
  cases f with
  | next=>exact wpAny_execs_nil q
  | ret v=>exact q
  | brk=>exact q
  | cont=>exact q
theorem Inv.quiet {pins:gC} {σ:St} {H:Hp} {s:Shared} (I:Inv X pins σ H s):interactive X.env=false:=by simp [interactive,I.ok.kind]
def aLy (te:TE):TS:=fun D σ H=>te σ H fun _ H1=>D.nx σ H1
theorem if_ (he:PE X e te) (hs:swapsWith e none pos.line X.env=pure false:=by rfl):PS X (.Expr e pos) (aLy te):=by
  intro pins s σ H D I h
  exact wpAny_Expr_any (fL (he pins s σ H _ I h) fun v s1 ⟨x,H1,I1,r1,q1⟩=>⟨σ,H1,I1,q1⟩) I.quiet hs
def aXc (te:TE):TS:=fun D σ H=>te σ H D.rt
theorem uH (he:PE X e te):PS X (.Return (some e) pos) (aXc te):=by
  intro pins s σ H D I h
  exact wpAny_Return_some (fL (he pins s σ H _ I h) fun v s1 ⟨x,H1,I1,r1,q1⟩=>⟨x,σ,H1,I1,r1,q1⟩)
def aXg (c:TT) (t u:TS):TS:=fun D σ H=>c σ H fun b H1=>if b=true then t D σ H1 else u D σ H1
theorem s_ {c:Expr} {a b:List Stmt} {tc:TT} (hc:PT X c tc) (ha:PSs X a t) (hb:PSs X b u):PS X (.If c a b pos) (aXg tc t u):=by
  intro pins s σ H D I h
  refine wpAny_If (fL (hc pins s σ H _ I h) fun d s1 ⟨H1,I1,q1⟩ => ?_)
  cases d with
  | true=>exact ha pins s1 σ H1 D I1 q1
  | false=>exact hb pins s1 σ H1 D I1 q1
def aNm:TS:=fun _ _ _=>False
theorem aEv:PS X st aNm:=fun _ _ _ _ _ _ h=>h.elim
end
abbrev TG:=V→St→Hp→(St→Hp→Prop)→Prop
abbrev TGs:=List V→St→Hp→(St→Hp→Prop)→Prop
def PG (X:Cx) (target:Expr) (t:TG):Prop :=
  ∀ (pins : gC) (s : Shared) (σ : St) (H : Hp) (v : V) (u : Value) (Q : St → Hp → Prop), Inv X pins σ H s → RelV v u → t v σ H Q →
    wpAny (model X.prog X.w) X.A (assign target X.env u) (fun _ s' => ∃ σ' H',Inv X pins σ' H' s'∧Q σ' H') X.xe s
def PGs (X:Cx) (ts:List Expr) (t:TGs):Prop :=
  ∀ (pins : gC) (s : Shared) (σ : St) (H : Hp) (vs : List V) (us : List Value) (Q : St → Hp → Prop), Inv X pins σ H s → Vals vs us → t vs σ H Q →
    wpAny (model X.prog X.w) X.A (assignInOrder ((assignEach ts X.env).map (·.2)) us) (fun _ s' => ∃ σ' H',Inv X pins σ' H' s'∧Q σ' H') X.xe s
abbrev aRh:=V→V→V→Hp→(Hp→Prop)→Prop
def aVj (X:Cx) (t:aRh):Prop :=
  ∀ (pins : gC) (s : Shared) (σ : St) (H : Hp) (o i v : V) (ov iv u : Value) (Q : Hp → Prop), Inv X pins σ H s → RelV o ov → RelV i iv → RelV v u → t o i v H Q →
    wpAny (model X.prog X.w) X.A (setItem ov iv u) (fun _ s' => ∃ H',Inv X pins σ H' s'∧Q H') X.xe s
section
variable {X:Cx} {pos:Pos}
def kG (i:Nat):TG:=fun v σ H Q=>Q (σ.set i (some v)) H
theorem gN {i:Nat} {x:Str} (hN:X.N.Nodup) (hi:X.N[i]? = some x) (hx:Loc X.env.scope x) (hf:X.fn x=true∨X.env.scope.names.lookup x=some .local:=by first | exact .inl rfl | exact .inr rfl | assumption):PG X (.Name x pos) (kG i):=by
  intro pins s σ H v u Q I r h
  exact wpAny_assign_Name (wN I hN hi hx r (fun s' I'=>⟨_,H,I',h⟩) hf)
def aGu:TGs:=fun vs σ H Q=>vs=[]∧Q σ H
def xV (t:TG) (u:TGs):TGs:=fun vs σ H Q => ∃ v r,vs=v :: r∧t v σ H fun σ' H'=>u r σ' H' Q
theorem vW:PGs X [] aGu:=by
  intro pins s σ H vs us Q I r h
  obtain ⟨e,h⟩:=h
  subst e
  cases r
  exact assignInOrder_nil ⟨σ,H,I,h⟩
theorem jT {e:Expr} {es:List Expr} {t:TG} {u:TGs} (h1:PG X e t) (h2:PGs X es u)
    (hs:(assignEach (e :: es) X.env).map (·.2)=assign e X.env :: (assignEach es X.env).map (·.2):=by rfl):PGs X (e :: es) (xV t u):=by
  intro pins s σ H vs us Q I r h
  obtain ⟨v,vr,e1,h⟩:=h
  subst e1
  cases r with
  | cons r rr =>
    rw [hs]
    refine assignInOrder_cons (fL (h1 pins s σ H _ _ _ I r h) fun _ s1 ⟨σ1,H1,I1,q1⟩ => ?_)
    exact h2 pins s1 σ1 H1 _ _ Q I1 rr q1
def aGt (K:dH) (n:Nat) (t:TGs):TG:=fun v σ H Q => ∃ a xs,v=.ref a∧SqT K H a xs∧xs.length=n∧t xs σ H Q
theorem fu_ {es:List Expr} {k:Nat} {t:TGs} {n:Nat} (hc:X.calm=true) (h:PGs X es t)
    (hn:(assignEach es X.env).length=n:=by rfl) (hst:(assignEach es X.env).findIdx? (·.1)=none:=by rfl):PG X (.Tuple es k pos) (aGt X.K n t):=by
  intro pins s σ H v u Q I r hw
  obtain ⟨a,xs,e1,hq,hl,hw⟩:=hw
  subst e1
  cases r
  obtain ⟨its,rv,ht,hz⟩:=I.tuple hq
  refine assign_Tuple_tuple (I.ok.hd hc) ht (by simp [hn,← hl,rv.length]) hst fun h' hx => ?_
  have I1:Inv X pins σ H { s with heap:=h' }:=I.kept (t':=s.toks) fun b o e=>hx b o (cW (aR e)) e
  exact h pins _ σ H xs _ Q I1 (by simpa using rv) hw
def aUj (to ti:TE) (t:aRh):TG:=fun v σ H Q=>to σ H fun o H1=>ti σ H1 fun i H2=>t o i v H2 fun H3=>Q σ H3
theorem lZ {o i:Expr} {to ti:TE} {t:aRh} (ho:PE X o to) (hi:PE X i ti) (hs:aVj X t)
    (ha:∀ v,assign (.Subscript o i pos) X.env v=(do
      let ov ← holding [v] (eval o X.env)
      let iv ← holding [v,ov] (eval i X.env)
      standAt pos
      holding [v,ov,iv] (setItem ov iv v)
      release [v,ov,iv] []):=by intro _; rfl):PG X (.Subscript o i pos) (aUj to ti t):=by
  intro pins s σ H v u Q I r h
  rw [ha]
  refine wpAny_bind (wpAny_holding (fL (ho pins s σ H _ I h) fun ov s1 ⟨x,H1,I1,r1,q1⟩ => ?_))
  refine wpAny_bind (wpAny_holding (fL (hi pins s1 σ H1 _ I1 q1) fun iv s2 ⟨y,H2,I2,r2,q2⟩ => ?_))
  refine wpAny_bind (wpAny_standAt (wpAny_bind (wpAny_holding (fL (hs pins s2 σ H2 x y v ov iv u _ I2 r1 r2 r q2) fun _ s3 ⟨H3,I3,q3⟩ => ?_))))
  exact wpAny_release ⟨σ,H3,I3,q3⟩
def zX (te:TE) (g:TG):TS:=fun D σ H=>te σ H fun x H1=>g x σ H1 D.nx
theorem gd_ {tg e:Expr} {te:TE} {g:TG} (he:PE X e te) (hg:PG X tg g) (hs:swapsWithSole [tg] e pos.line X.env=pure false:=by rfl) (hw:swappedStores [tg] e X.env=pure none:=by rfl)
    (h1:(assignEach [tg] X.env).map (·.2)=[assign tg X.env]:=by rfl):PS X (.Assign [tg] e pos) (zX te g):=by
  intro pins s σ H D I h
  refine wpAny_Assign_stores (fL (he pins s σ H _ I h) fun v s1 ⟨x,H1,I1,r1,q1⟩ => ?_) hs hw
  rw [h1]
  exact fL (hg pins s1 σ H1 x v _ I1 r1 q1) fun _ s2 q=>q
theorem fS {i:Nat} {x:Str} {e:Expr} {te:TE} {pos':Pos} (hN:X.N.Nodup) (hi:X.N[i]? = some x) (hx:Loc X.env.scope x) (he:PE X e te) (hs:swapsWith e (some (.Name x pos')) pos.line X.env=pure false:=by rfl) (hf:X.fn x=true∨X.env.scope.names.lookup x=some .local:=by first | exact .inl rfl | exact .inr rfl | assumption) :
    PS X (.Assign [.Name x pos'] e pos) (zX te (kG i)):=by
  intro pins s σ H D I h
  refine wpAny_Assign_Name (fL (he pins s σ H _ I h) fun v s1 ⟨y,H1,I1,r1,q1⟩ => ?_) hs
  exact wN I1 hN hi hx r1 (fun s2 I2=>⟨_,H1,I2,q1⟩) hf
end
section
variable {X:Cx} {pos:Pos}
def aNl (c:TT) (tb:TS):TS:=fun D σ H => ∃ W:Nat→St→Hp→Prop,(∃ m,W m σ H)∧∀ m σ H,W m σ H →
  c σ H fun b H1=>if b=true then ∃ N:St→Hp→Prop,(∀ σ' H',N σ' H'→∃ m',m' < m∧W m' σ' H')∧tb { D with nx:=N,ct:=N,bk:=D.nx } σ H1 else D.nx σ H1
theorem aEu {c:Expr} {body:List Stmt} {tc:TT} {tb:TS} (hp:PassesOwn (model X.prog X.w) X.A X.env X.xe) (hc:PT X c tc) (hb:PSs X body tb):PS X (.While c body [] pos) (aNl tc tb):=by
  intro pins s σ H D I h
  obtain ⟨W,⟨m0,w0⟩,turn⟩:=h
  refine wpAny_While (codeAny_whileLoop (fun n s' => ∃ σ' H',Inv X pins σ' H' s'∧W n σ' H') ?_ m0 ⟨σ,H,I,w0⟩)
  rintro n s1 ⟨σ1,H1,I1,w1⟩
  refine wpAny_passesOwn hp (fL (hc pins s1 σ1 H1 _ I1 (turn n σ1 H1 w1)) fun b s2 ⟨H2,I2,q2⟩ => ?_)
  cases b with
  | true =>
    obtain ⟨N,hN,q2⟩:=q2
    rw [if_pos rfl]
    refine wpAny_passesOwn hp (fL (hb pins s2 σ1 H2 _ I2 q2) fun f s3 q3 => ?_)
    cases f with
    | next =>
      obtain ⟨σ3,H3,I3,n3⟩:=q3
      obtain ⟨m',hm,w3⟩:=hN σ3 H3 n3
      exact ⟨m',hm,σ3,H3,I3,w3⟩
    | cont =>
      obtain ⟨σ3,H3,I3,n3⟩:=q3
      obtain ⟨m',hm,w3⟩:=hN σ3 H3 n3
      exact ⟨m',hm,σ3,H3,I3,w3⟩
    | brk=>exact q3
    | ret v=>exact q3
  | false =>
    rw [if_neg aW]
    exact wpAny_execs_nil ⟨σ1,H2,I2,q2⟩
end
structure It where
  go:Nat→Hp→Prop
  yld:Nat→Hp→V→Hp→Prop
  stop:Nat→Hp→Prop
def kJ (X:Cx) (pins:gC) (H:Hp) (b:Addr):Prop :=
  H b=none∧b≠X.env.locals∧b∉X.fs∧(b∈X.ex∨X.s₀.heap.objs.size≤b)∧(∀ x c,X.env.cells.lookup x=some c→c≠b)∧∀ p∈X.pn ++ pins,p.1≠b
theorem Inv.fpOk {X:Cx} {pins:gC} {σ:St} {H H':Hp} {s:Shared} {b:Addr} (I:Inv X pins σ H s) (hb:s.heap.objs.size≤b) (hn:H' b=none):kJ X pins H' b:=by
  refine ⟨hn,fU (bL I.lt hb),I.nofs hb,.inr (bP I.sz hb),fun x c e z => ?_,fun p hp z => ?_⟩
  · obtain ⟨v, q⟩ := I.cell x c e
    exact absurd (bL q.lt (by rw [z]; exact hb)) (eO _)
  · exact absurd (bL (aR (I.pin p hp).1) (by rw [z]; exact hb)) (eO _)
structure Turn (P:Program) (w:World) (K:dH) (tg:Expr) (J:It) (fp:List Addr) (it:Addr) (tn:Nat→Heap→Prop):Prop where
  mem:it∈fp
  obj:∀ i h,tn i h→∀ b∈fp,∃ o,h.get? b=some o∧∀ v,o.data ≠ .cell v
  keep:∀ i h h',tn i h→(∀ b∈fp,∀ o,h.get? b=some o→h'.get? b=some o)→tn i h'
  item:∀ (X:Cx),X.prog=P→X.w=w→X.K=K→X.calm=true→∀ (i:Nat) (pins:gC) (s:Shared) (σ:St) (H:Hp) (E:gU),Inv X pins σ H s→(∀ b∈fp,kJ X pins H b)→tn i s.heap→J.go i H →
    wpAny (model P w) X.A (pyNext (.ref it)) (fun r s1 => ∃ u,r=some u ∧
      wpAny (model P w) X.A (letOwnedTupleGo tg (.ref it) u) (fun _ s2 => ∃ x H',Inv X pins σ H' s2∧RelV x u∧J.yld i H x H'∧tn (i + 1) s2.heap∧∀ b∈fp,H' b=none) E s1) E s
  done:∀ (X:Cx),X.prog=P→X.w=w→X.K=K→X.calm=true→∀ (i:Nat) (pins:gC) (s:Shared) (σ:St) (H:Hp) (E:gU),Inv X pins σ H s→(∀ b∈fp,kJ X pins H b)→tn i s.heap→J.stop i H →
    wpAny (model P w) X.A (pyNext (.ref it)) (fun r s1=>r=none∧Inv X pins σ H s1) E s
  self:∀ (A:Around) (i:Nat) (s:Shared) (Q:gU) (E:gU),tn i s.heap→Q (.ref it) s→wpAny (model P w) A (pyIter (.ref it)) Q E s
abbrev TI:=St→Hp→(It→Hp→Prop)→Prop
def PIE (X:Cx) (pins:gC) (σ:St) (tg:Expr) (R:It→Hp→Prop) (itv:Value) (s2:Shared):Prop :=
  ∃ (it:Addr) (fp:List Addr) (tn:Nat→Heap→Prop) (J:It) (H':Hp),itv=.ref it∧Inv X pins σ H' s2∧Turn X.prog X.w X.K tg J fp it tn∧tn 0 s2.heap∧(∀ b∈fp,kJ X pins H' b)∧R J H'
def PI (X:Cx) (tg iter:Expr) (wi:TI):Prop :=
  ∀ (pins : gC) (s : Shared) (σ : St) (H : Hp) (R : It → Hp → Prop), Inv X pins σ H s → wi σ H R →
    wpAny (model X.prog X.w) X.A (eval iter X.env) (fun v s1=>wpAny (model X.prog X.w) X.A (pyIter v) (PIE X pins σ tg R) X.xe s1) X.xe s
theorem x6 {M:Model} {A:Around} {E:gU} {s:Shared} {tg:Expr} {it:Addr} {u:Value} {o:Obj} {n:String} {vs:Array Value} {Q:Unit→Shared→Prop} (ho:s.heap.get? it=some o) (hc:o.cls=.type n) (hd:o.data=.fields vs)
    (hn:["enumerate", "zip", "dict_itemiterator", "dict_reverseitemiterator", "odict_iterator", "itertools.zip_longest", "itertools.pairwise"].contains n=false) (hQ:Q () s):wpAny M A (letOwnedTupleGo tg (.ref it) u) Q E s:=by
  unfold letOwnedTupleGo
  cases tg <;> first
    | exact wpAny_pure hQ
    | (cases u <;> first
        | exact wpAny_pure hQ
        | (refine wpAny_bind (wpAny_load ho ?_)
           rw [hc,hd]
           show wpAny M A (if (["enumerate", "zip", "dict_itemiterator", "dict_reverseitemiterator", "odict_iterator", "itertools.zip_longest", "itertools.pairwise"].contains n && vs[0]? == some (rawInt _))=true then _ else _) Q E s
           rw [if_neg (by intro h; rw [hn,gS] at h; cases h)]
           exact wpAny_pure hQ))
def Itl (K:dH) (a:Addr):It :=
  ⟨fun i H => ∃ xs x,SqL K H a xs∧xs[i]? = some x,fun i H x H'=>H'=H∧∀ xs,SqL K H a xs→xs[i]? = some x,fun i H => ∃ xs,SqL K H a xs∧xs.length≤i⟩
def Itr (lo:Int) (n:Nat):It:=⟨fun i _=>i < n,fun i H x H'=>H'=H∧x=.int (lo + i),fun i _=>n≤i⟩
theorem aBa {P:Program} {w:World} {K:dH} {tg:Expr} (a it:Addr):Turn P w K tg (Itl K a) [it] it (fun i h=>h.IsListIter it a i) where
  mem:=by simp
  obj:=fun i h st b hb=>by
    have e:b=it:=by simpa using hb
    subst e
    obtain ⟨o,e,c,d⟩:=st
    exact ⟨o,e,fun v z=>by rw [d] at z; cases z⟩
  keep:=fun i h h' st k=>st.at fun o e=>k it (by simp) o e
  item:=by
    intro X hP hw hK hc i pins s σ H E I hf st hg
    subst hP hw hK
    obtain ⟨xs,x,hq,hx⟩:=hg
    obtain ⟨its,rv,p,hz⟩:=I.list hq
    obtain ⟨u,hu,ru⟩:=rv.get hx
    obtain ⟨f0,f1,f2,f3,f4,f5⟩:=hf it (by simp)
    refine wpAny_pyNext_list_item st p.isList (x:=u) (by simpa using hu) fun h' st' sb => ?_
    have I1:Inv X pins σ H { s with heap:=h' }:=I.turned (t':=s.toks) (fun b o hb e=>(sb.2 b hb).trans e) f0 f1 f3 f4 f5
    obtain ⟨o,e,c,d⟩:=id st'
    exact ⟨u,rfl,x6 (s:={ s with heap:=h' }) e c d (by decide) ⟨x,H,I1,ru,⟨rfl,fun ys hy=>by rw [I.list_inj hy hq]; exact hx⟩,st',fun b hb=>(hf b hb).1⟩⟩
  done:=by
    intro X hP hw hK hc i pins s σ H E I hf st hg
    subst hP hw hK
    obtain ⟨xs,hq,hx⟩:=hg
    obtain ⟨its,rv,p,hz⟩:=I.list hq
    obtain ⟨f0,f1,f2,f3,f4,f5⟩:=hf it (by simp)
    have hl:=rv.length
    exact wpAny_pyNext_list_end (I.ok.hd hc) st p.isList (by simp; omega) fun h' eb=>⟨rfl,I.turned (t':=s.toks) (fun b o hb e=>eb b o hb e) f0 f1 f3 f4 f5⟩
  self:=fun _ _ _ _ _ st h=>wpAny_pyIter_listiter st h
theorem zU {P:Program} {w:World} {K:dH} {tg:Expr} (it:Addr) (lo:Int) (n:Nat):Turn P w K tg (Itr lo n) [it] it (fun i h=>IsRangeIter h it (lo + (i:Nat) * 1) ((n:Int) - (i:Nat)) 1) where
  mem:=by simp
  obj:=fun i h st b hb=>by
    have e:b=it:=by simpa using hb
    subst e
    exact ⟨_,st,fun v z=>by
      have z':Data.fields _=Data.cell v:=z
      cases z'⟩
  keep:=fun i h h' st k=>k it (by simp) _ st
  item:=by
    intro X hP hw hK hc i pins s σ H E I hf st hg
    subst hP hw hK
    obtain ⟨f0,f1,f2,f3,f4,f5⟩:=hf it (by simp)
    have W:=Walks.range (prog:=X.prog) (w:=X.w) (I.ok.hd hc) it lo 1 n
    refine W.item i s _ _ hg st fun v h' tk hv st' kk => ?_
    obtain ⟨t,rfl⟩:=hv
    have I1:Inv X pins σ H { s with heap:=h',toks:=tk }:=I.turned (fun b o hb e=>kk b o (by simpa using hb) e) f0 f1 f3 f4 f5
    refine ⟨_,rfl,x6 (s:={ s with heap:=h',toks:=tk }) (n := "range_iterator") st' rfl rfl (by decide) ⟨.int (lo + i),H,I1,⟨t,?_⟩,⟨rfl,rfl⟩,st',fun b hb=>(hf b hb).1⟩⟩
    rw [Int.mul_one]
  done:=by
    intro X hP hw hK hc i pins s σ H E I hf st hg
    subst hP hw hK
    obtain ⟨f0,f1,f2,f3,f4,f5⟩:=hf it (by simp)
    exact wpAny_pyNext_range_end (I.ok.hd hc) st (by have:n≤i:=hg; omega) fun h' eb=>⟨rfl,I.turned (t':=s.toks) (fun b o hb e=>eb b o hb e) f0 f1 f3 f4 f5⟩
  self:=fun _ _ _ _ _ st h=>wpAny_pyIter_rangeiter st h
section
variable {X:Cx} {tg:Expr}
def aTz (K:dH) (tl:TE):TI:=fun σ H R=>tl σ H fun x H1 => ∃ a,x=.ref a∧(∃ xs,SqL K H1 a xs)∧R (Itl K a) H1
theorem aIy {l:Expr} {tl:TE} (hl:PE X l tl):PI X tg l (aTz X.K tl):=by
  intro pins s σ H R I h
  refine fL (hl pins s σ H _ I h) fun v s1 ⟨x,H1,I1,r1,q1⟩ => ?_
  obtain ⟨a,e,⟨xs,hq⟩,q⟩:=q1
  subst e
  cases r1
  obtain ⟨its,rv,p,hz⟩:=I1.list hq
  refine wpAny_pyIter_list p.isList ?_
  refine ⟨s1.heap.objs.size,[s1.heap.objs.size],_,_,H1,rfl,I1.kept (t':=s1.toks) fun b o e=>aA _ e,aBa a _,⟨_,aU _ rfl,rfl,rfl⟩,fun b hb => ?_,q⟩
  have e:b=s1.heap.objs.size:=by simpa using hb
  subst e
  exact I1.fpOk (bJ _) (I1.hok.fresh (bJ _))
theorem aEl {pins:gC} {σ:St} {H:Hp} {s:Shared} {R:It→Hp→Prop} {E:gU} {lo hi:Int} {t u v:Tok} {tk:Nat} (I:Inv X pins σ H s) (h1 : -(2 ^ 62)≤lo) (h2:lo < 2 ^ 62) (h3 : -(2 ^ 62)≤hi) (h4:hi < 2 ^ 62)
    (q:R (Itr lo (hi - lo).toNat) H):wpAny (model X.prog X.w) X.A (pyIter (.ref s.heap.objs.size)) (PIE X pins σ tg R) E { s with heap:=s.heap.push { cls:=.type "range",data:=.fields #[.int lo t,.int hi u,.int 1 v] },toks:=tk }:=by
  refine wpAny_pyIter_range (IsRange.new ..) (small_one h1 h2 h3 h4) ?_
  have I1:Inv X pins σ H { s with heap:=s.heap.push { cls:=.type "range",data:=.fields #[.int lo t,.int hi u,.int 1 v] },toks:=tk }:=I.kept fun b o e=>aA _ e
  refine ⟨(s.heap.push { cls:=.type "range",data:=.fields #[.int lo t,.int hi u,.int 1 v] }).objs.size,[(s.heap.push { cls:=.type "range",data:=.fields #[.int lo t,.int hi u,.int 1 v] }).objs.size],_,_,H,rfl,
    I1.kept (t':=tk) fun b o e=>aA _ e,zU _ lo (hi - lo).toNat,?_,fun b hb => ?_,q⟩
  · have e1 : lo + ((0 : Nat) : Int) * 1 = lo := by simp
    have e2:(((hi - lo).toNat:Nat):Int) - ((0:Nat):Int)=Builtin.Range.rangeSize lo hi 1:=by rw [rangeSize_one]; split <;> omega
    show IsRangeIter _ _ (lo + ((0:Nat):Int) * 1) ((((hi - lo).toNat:Nat):Int) - ((0:Nat):Int)) 1
    rw [e1,e2]
    exact aU _ rfl
  · have e : b = (s.heap.push { cls := .type "range", data := .fields #[.int lo t, .int hi u, .int 1 v] }).objs.size := by simpa using hb
    subst e
    exact I1.fpOk (bJ _) (I1.hok.fresh (bJ _))
def aTy (ta:TA):TI:=fun σ H R=>ta σ H fun vs H1 => ∃ j:Int,vs=[.int j] ∧ -(2 ^ 62)≤j∧j < 2 ^ 62∧R (Itr 0 j.toNat) H1
theorem ig_ {a:Expr} {ta:TA} {p pos:Pos} (hg:Gl X "range") (hm:X.mg "range" = none) (ha:PA X [a] ta) (hs:starEach [a] X.env=[(false,eval a X.env)]:=by rfl):PI X tg (.Call (.Name "range" p) [a] [] pos) (aTy ta):=by
  intro pins s σ H R I h
  refine Call_ (gh_ I hg hm boot_range (eG (fL (ha pos pins s σ H _ I h) fun us s1 ⟨vs,H1,I1,r1,q1⟩ => ?_) hs rfl))
  obtain ⟨j,e,q1,q2,q⟩:=q1
  subst e
  cases r1 with
  | cons r rr =>
    cases rr
    obtain ⟨t,rfl⟩:=r
    exact call_range_1 (aEl I1 (by omega) (by omega) q1 q2 (by simpa using q))
def aSt (wi:TI) (g:TG) (tb:TS):TS:=fun D σ H=>wi σ H fun J H1 => ∃ W:Nat→Nat→St→Hp→Prop,(∃ m,W 0 m σ H1)∧∀ i m σ H,W i m σ H →
  (J.stop i H∧D.nx σ H)∨(J.go i H∧∃ N:St→Hp→Prop,(∀ σ' H',N σ' H'→∃ m',m' < m∧W (i + 1) m' σ' H')∧∀ x H',J.yld i H x H'→g x σ H' fun σ2 H2=>tb { D with nx:=N,ct:=N,bk:=D.nx } σ2 H2)
def oZ (fp:List Addr) (h:Heap):List (Addr×Obj):=fp.filterMap fun b=>(h.get? b).map fun o=>(b,o)
theorem fp_ {fp:List Addr} {h:Heap} {b:Addr} {o:Obj} (hb:b∈fp) (e:h.get? b=some o):(b,o)∈oZ fp h:=List.mem_filterMap.mpr ⟨b,hb,by rw [e]; rfl⟩
theorem aBo {fp:List Addr} {h:Heap} {p:Addr×Obj} (hp:p∈oZ fp h):p.1∈fp∧h.get? p.1=some p.2:=by
  obtain ⟨b,hb,e⟩:=List.mem_filterMap.mp hp
  cases q:h.get? b with
  | none=>rw [q] at e; cases e
  | some o =>
    rw [q] at e
    have e':(b,o)=p:=Option.some.inj e
    subst e'
    exact ⟨hb,q⟩
theorem Inv.pinned {pins:gC} {σ:St} {H:Hp} {s:Shared} {fp:List Addr} (I:Inv X pins σ H s) (hf:∀ b∈fp,kJ X pins H b) (ho:∀ b∈fp,∃ o,s.heap.get? b=some o∧∀ v,o.data ≠ .cell v):Inv X (pins ++ oZ fp s.heap) σ H s :=
  I.pins_of fun p hp=>(bZ.mp hp).elim (fun z=>I.pin p (aJ _ z)) fun z=>by
    obtain ⟨hb,e⟩:=aBo z
    obtain ⟨f0,f1,f2,_⟩:=hf p.1 hb
    obtain ⟨o,e',d⟩:=ho p.1 hb
    rw [e] at e'; cases e'
    exact ⟨e,f0,f1,f2,d⟩
theorem Inv.unpinned {pins pl:gC} {σ:St} {H:Hp} {s:Shared} (I:Inv X (pins ++ pl) σ H s):Inv X pins σ H s:=I.pins_of fun p hp=>I.pin p (aJ _ (bH _ hp))
theorem aEx {iter:Expr} {body:List Stmt} {wi:TI} {g:TG} {tb:TS} {pos:Pos} (hp:PassesOwn (model X.prog X.w) X.A X.env X.xe) (hc:X.calm=true) (hi:PI X tg iter wi) (hg:PG X tg g) (hb:PSs X body tb)
    (hs:∀ x,foldedSetIterable iter X.env x=pure x:=by intro _; rfl):PS X (.For tg iter body [] pos) (aSt wi g tb):=by
  intro pins s σ H D I h
  refine wpAny_For (fL (hi pins s σ H _ I h) fun v s1 h1=>fL h1 fun itv s2 h2 => ?_) hs
  obtain ⟨it,fp,tn,J,H2,e,I2,T,st2,f2,W,⟨m0,w0⟩,turn⟩:=h2
  subst e
  have stat:∀ {H':Hp},(∀ b∈fp,H' b=none)→∀ b∈fp,kJ X pins H' b:=fun hn b hb=>⟨hn b hb,(f2 b hb).2⟩
  refine codeAny_forLoop_any (fun n s' => ∃ i σ' H',Inv X pins σ' H' s'∧tn i s'.heap∧(∀ b∈fp,H' b=none)∧W i n σ' H') ?_ m0 ⟨0,σ,H2,I2,st2,fun b hb=>(f2 b hb).1,w0⟩
  rintro n s3 ⟨i,σ3,H3,I3,st3,fr3,w3⟩
  rcases turn i n σ3 H3 w3 with ⟨stop,qn⟩ | ⟨go,N,hN,step⟩
  · refine wpAny_passesOwn hp (fL (T.done X rfl rfl rfl hc i pins s3 σ3 H3 X.xe I3 (stat fr3) st3 stop) fun r s4 ⟨hr, I4⟩ => ?_)
    subst hr
    exact wpAny_execs_nil ⟨σ3,H3,I4,qn⟩
  · refine wpAny_passesOwn hp (fL (T.item X rfl rfl rfl hc i pins s3 σ3 H3 X.xe I3 (stat fr3) st3 go) fun r s4 ⟨u, hr, h4⟩ => ?_)
    subst hr
    refine wpAny_passesOwn hp (fL h4 fun _ s5 ⟨x,H5,I5,r5,y5,st5,fr5⟩ => ?_)
    have I5':=I5.pinned (stat fr5) (T.obj _ _ st5)
    refine wpAny_passesOwn hp (fL (hg _ s5 σ3 H5 x u _ I5' r5 (step x H5 y5)) fun _ s6 ⟨σ6,H6,I6,q6⟩ => ?_)
    refine wpAny_passesOwn hp (fL (hb _ s6 σ6 H6 _ I6 q6) fun f s7 q7 => ?_)
    have again:∀ {σ7:St} {H7:Hp},Inv X (pins ++ oZ fp s5.heap) σ7 H7 s7→N σ7 H7→∃ m,m < n∧∃ i σ' H',Inv X pins σ' H' s7∧tn i s7.heap∧(∀ b∈fp,H' b=none)∧W i m σ' H':=fun {σ7 H7} I7 n7=>by
      obtain ⟨m',hm,w7⟩:=hN σ7 H7 n7
      refine ⟨m',hm,i + 1,σ7,H7,I7.unpinned,T.keep _ _ _ st5 fun b hb o e=>(I7.pin (b,o) (aJ _ (aJ _ (fp_ hb e)))).1,fun b hb => ?_,w7⟩
      obtain ⟨o,e,d⟩:=T.obj _ _ st5 b hb
      exact (I7.pin (b,o) (aJ _ (aJ _ (fp_ hb e)))).2.1
    cases f with
    | next=>obtain ⟨σ7,H7,I7,n7⟩:=q7; exact again I7 n7
    | cont=>obtain ⟨σ7,H7,I7,n7⟩:=q7; exact again I7 n7
    | brk=>obtain ⟨σ7,H7,I7,q7⟩:=q7; exact ⟨σ7,H7,I7.unpinned,q7⟩
    | ret v=>obtain ⟨x7,σ7,H7,I7,r7,q7⟩:=q7; exact ⟨x7,σ7,H7,I7.unpinned,r7,q7⟩
end
theorem aCd {lo:Int} {n:Nat} {g:TG} {tb:TS} {D:Ends} {σ:St} {H:Hp} (Pv:Nat→St→Hp→Prop) (h0:Pv 0 σ H)
    (hs:∀ i σ H,i < n→Pv i σ H→g (.int (lo + i)) σ H fun σ2 H2=>tb { D with nx:=Pv (i + 1),ct:=Pv (i + 1),bk:=D.nx } σ2 H2) (hd:∀ σ H,Pv n σ H→D.nx σ H) :
    ∃ W : Nat → Nat → St → Hp → Prop, (∃ m, W 0 m σ H) ∧ ∀ i m σ H, W i m σ H →
      ((Itr lo n).stop i H∧D.nx σ H)∨((Itr lo n).go i H∧∃ N:St→Hp→Prop,(∀ σ' H',N σ' H'→∃ m',m' < m∧W (i + 1) m' σ' H')∧∀ x H',(Itr lo n).yld i H x H'→g x σ H' fun σ2 H2=>tb { D with nx:=N,ct:=N,bk:=D.nx } σ2 H2):=by
  refine ⟨fun i m σ H=>m=n - i∧i≤n∧Pv i σ H,⟨n,by simp,dB _,h0⟩,?_⟩
  rintro i m σ H ⟨rfl,hi,p⟩
  by_cases hlt:i < n
  · refine .inr ⟨hlt, Pv (i + 1), fun σ' H' p' => ⟨n - (i + 1), by omega, rfl, hlt, p'⟩, fun x H' y => ?_⟩
    obtain ⟨e,y⟩:=y
    subst e y
    exact hs i σ _ hlt p
  · have e : i = n := by omega
    subst e
    exact .inl ⟨bJ _,hd σ H p⟩
abbrev R2:=V→V→Hp→VK→Prop
def OpR (X:Cx) (f:Value→Value→Sem Value) (r:R2):Prop :=
  ∀ (pins : gC) (s : Shared) (σ : St) (H : Hp) (x y : V) (v u : Value) (Q : VK), Inv X pins σ H s → RelV x v → RelV y u → r x y H Q →
    wpAny (model X.prog X.w) X.A (f v u) (EP X pins σ Q) X.xe s
def UnR (X:Cx) (f:Value→Sem Value) (r:V→Hp→VK→Prop):Prop :=
  ∀ (pins : gC) (s : Shared) (σ : St) (H : Hp) (x : V) (v : Value) (Q : VK), Inv X pins σ H s → RelV x v → r x H Q →
    wpAny (model X.prog X.w) X.A (f v) (EP X pins σ Q) X.xe s
def CallR (X:Cx) (f:Value) (r:List V→Hp→VK→Prop):Prop :=
  ∀ (pins : gC) (s : Shared) (σ : St) (H : Hp) (xs : List V) (us : List Value) (Q : VK), Inv X pins σ H s → Vals xs us → r xs H Q →
    wpAny (model X.prog X.w) X.A (call f us) (EP X pins σ Q) X.xe s
def tOp (r:R2) (ta tb:TE):TE:=fun σ H Q=>ta σ H fun x H1=>tb σ H1 fun y H2=>r x y H2 Q
def tUn (r:V→Hp→VK→Prop) (ta:TE):TE:=fun σ H Q=>ta σ H fun x H1=>r x H1 Q
def rI (C:Int→Int→Prop) (g:Int→Int→V):R2:=fun x y H Q => ∃ i j,x=.int i∧y=.int j∧C i j∧Q (g i j) H
def rI0 (g:Int→Int→V):R2:=fun x y H Q => ∃ i j,x=.int i∧y=.int j∧Q (g i j) H
def rU (g:Int→V):V→Hp→VK→Prop:=fun x H Q => ∃ i,x=.int i∧Q (g i) H
section
variable {X:Cx} {a b c:Expr} {ta tb tc:TE} {pos:Pos}
theorem aRc (ha:PE X a ta) (hb:PE X b tb) {pins:gC} {s:Shared} {σ:St} {H:Hp} {R:V→V→Hp→Prop} (I:Inv X pins σ H s)
    (h:ta σ H fun x H1=>tb σ H1 fun y H2=>R x y H2) {Q:gU} {f:Value→Value→Sem Value}
    (hf:∀ v u s2 x y H2,Inv X pins σ H2 s2→RelV x v→RelV y u→R x y H2→wpAny (model X.prog X.w) X.A (f v u) Q X.xe s2) :
    wpAny (model X.prog X.w) X.A (eval a X.env) (fun v s₁=>wpAny (model X.prog X.w) X.A (eval b X.env) (fun u s₂=>wpAny (model X.prog X.w) X.A (f v u) Q X.xe s₂) X.xe s₁) X.xe s:=by
  refine fL (ha pins s σ H _ I h) fun v s1 ⟨x,H1,I1,r1,q1⟩ => ?_
  refine fL (hb pins s1 σ H1 _ I1 q1) fun u s2 ⟨y,H2,I2,r2,q2⟩ => ?_
  exact hf v u s2 x y H2 I2 r1 r2 q2
theorem mR {op:Operator} {r:R2} (ho:OpR X (binaryOp op) r) (ha:PE X a ta) (hb:PE X b tb):PE X (.BinOp a op b pos) (tOp r ta tb):=by
  intro pins s σ H Q I h
  exact wpAny_BinOp (aRc ha hb I h fun v u s2 x y H2 I2 rx ry q=>ho pins s2 σ H2 x y v u Q I2 rx ry q)
theorem t6 {op:UnaryOp} {r:V→Hp→VK→Prop} (ho:UnR X (unaryOp op) r) (ha:PE X a ta):PE X (.UnaryOp op a pos) (tUn r ta):=by
  intro pins s σ H Q I h
  exact UnaryOp_ (fL (ha pins s σ H _ I h) fun v s1 ⟨x,H1,I1,r1,q1⟩=>ho pins s1 σ H1 x v Q I1 r1 q1)
theorem opI {f:Value→Value→Sem Value} {C:Int→Int→Prop} {g:Int→Int→Int}
    (rule:∀ (i j:Int) (t u:Tok) (s:Shared) (Q:gU) (E:gU),C i j→Q (.int (g i j) s.toks) { s with toks:=s.toks + 1 }→wpAny (model X.prog X.w) X.A (f (.int i t) (.int j u)) Q E s) :
    OpR X f (rI C fun i j=>.int (g i j)):=by
  intro pins s σ H x y v u Q I rx ry h
  obtain ⟨i,j,rfl,rfl,hc,q⟩:=h
  obtain ⟨t,rfl⟩:=rx
  obtain ⟨t',rfl⟩:=ry
  exact rule i j t t' s _ _ hc ⟨.int (g i j),H,I.tok _,⟨_,rfl⟩,q⟩
theorem aTi {f:Value→Value→Sem Value} {g:Int→Int→Int}
    (rule:∀ (i j:Int) (t u:Tok) (s:Shared) (Q:gU) (E:gU),Q (.int (g i j) s.toks) { s with toks:=s.toks + 1 }→wpAny (model X.prog X.w) X.A (f (.int i t) (.int j u)) Q E s) :
    OpR X f (rI0 fun i j=>.int (g i j)):=by
  intro pins s σ H x y v u Q I rx ry h
  obtain ⟨i,j,rfl,rfl,q⟩:=h
  obtain ⟨t,rfl⟩:=rx
  obtain ⟨t',rfl⟩:=ry
  exact rule i j t t' s _ _ ⟨.int (g i j),H,I.tok _,⟨_,rfl⟩,q⟩
theorem aJj {f:Value→Value→Sem Value} {g:Int→Int→Bool}
    (rule:∀ (i j:Int) (t u:Tok) (s:Shared) (Q:gU) (E:gU),Q (.bool (g i j)) s→wpAny (model X.prog X.w) X.A (f (.int i t) (.int j u)) Q E s) :
    OpR X f (rI0 fun i j=>.bl (g i j)):=by
  intro pins s σ H x y v u Q I rx ry h
  obtain ⟨i,j,rfl,rfl,q⟩:=h
  obtain ⟨t,rfl⟩:=rx
  obtain ⟨t',rfl⟩:=ry
  exact rule i j t t' s _ _ ⟨.bl (g i j),H,I,rfl,q⟩
def aRm (i j:Int):Prop:=0≤j∧j≤1000000∧i.natAbs < 2 ^ 64
theorem jO:OpR X (binaryOp .Add) (rI0 fun i j=>.int (i + j)):=aTi fun _ _ _ _ _ _ _ q=>add_int q
theorem aOk:OpR X (binaryOp .Sub) (rI0 fun i j=>.int (i - j)):=aTi fun _ _ _ _ _ _ _ q=>sub_int q
theorem mB:OpR X (binaryOp .Mod) (rI (fun _ j=>0 < j) fun i j=>.int (i % j)):=opI fun i j _ _ _ _ _ hc q=>by
  have h1:(0:Int) < j:=hc
  exact mod_int' (by omega) (by rw [Int.fmod_eq_emod_of_nonneg i (by omega)]; exact q)
theorem aOm:OpR X (binaryOp .Pow) (rI aRm fun i j=>.int (i ^ j.toNat)):=opI fun _ _ _ _ _ _ _ hc q=>pow_int_small hc.1 hc.2.1 hc.2.2 q
theorem unI {f:Value→Sem Value} {g:Int→Int}
    (rule:∀ (i:Int) (t:Tok) (s:Shared) (Q:gU) (E:gU),Q (.int (g i) s.toks) { s with toks:=s.toks + 1 }→wpAny (model X.prog X.w) X.A (f (.int i t)) Q E s) :
    UnR X f (rU fun i=>.int (g i)):=by
  intro pins s σ H x v Q I rx h
  obtain ⟨i,rfl,q⟩:=h
  obtain ⟨t,rfl⟩:=rx
  exact rule i t s _ _ ⟨.int (g i),H,I.tok _,⟨_,rfl⟩,q⟩
theorem tO:UnR X (unaryOp .USub) (rU fun i=>.int (-i)):=unI fun _ _ _ _ _ q=>neg_int q
end
def aNp:V→V→Bool
  | .non,.non=>true | .non,.int _=>true | .int _,.non=>true | .non,.bl _=>true | .bl _,.non=>true | .non,.str _=>true | .str _,.non=>true
  | .int _,.int _=>true | .bl _,.bl _=>true | .str _,.str _=>true | .byt _,.byt _=>true
  | .int _,.str _=>true | .str _,.int _=>true | .bl _,.str _=>true | .str _,.bl _=>true
  | _,_=>false
def rEq:R2:=fun x y H Q=>aNp x y=true∧Q (.bl (decide (x=y))) H
def rNe:R2:=fun x y H Q=>aNp x y=true∧Q (.bl (!decide (x=y))) H
theorem aAa {i j:Int}:decide (V.int i=V.int j)=(i == j):=by
  rw [Bool.eq_iff_iff]
  simp
theorem aHh {i j:Bool}:decide (V.bl i=V.bl j)=(i == j):=by
  rw [Bool.eq_iff_iff]
  simp
theorem z_ {i j:Str}:decide (V.str i=V.str j)=(i == j):=by
  rw [Bool.eq_iff_iff]
  simp
theorem aAb {i j:Array UInt8}:decide (V.byt i=V.byt j)=(i.toList == j.toList):=by
  rw [Bool.eq_iff_iff]
  cases i
  cases j
  simp
section
variable {X:Cx} {a b c:Expr} {ta tb tc:TE} {pos:Pos}
theorem kI {pins:gC} {σ:St} {H:Hp} {s:Shared} {Q:VK} {k k':Bool} (I:Inv X pins σ H s) (q:Q (.bl k) H) (e:k=k'):EP X pins σ Q (.bool k') s:=by
  subst e
  exact ⟨.bl k,H,I,rfl,q⟩
theorem t_:OpR X (compareOp .Eq) rEq:=by
  intro pins s σ H x y v u Q I rx ry h
  obtain ⟨hs,q⟩:=h
  cases x with
  | non =>
    cases rx
    cases y with
    | non=>cases ry; exact PySem.EqNone.eq_none_none (kI I q (by simp))
    | bl j=>cases ry; exact PySem.EqNone.eq_none_bool (kI I q (by simp))
    | int j=>obtain ⟨t',rfl⟩:=ry; exact PySem.EqNone.eq_none_int (kI I q (by simp))
    | str j=>obtain ⟨t',rfl⟩:=ry; exact PySem.EqNone.eq_none_str (kI I q (by simp))
    | _=>exact absurd (show false=true from hs) aW
  | bl i =>
    cases rx
    cases y with
    | non=>cases ry; exact PySem.EqNone.eq_bool_none (kI I q (by simp))
    | bl j=>cases ry; exact eq_bool (kI I q aHh)
    | str j=>obtain ⟨t',rfl⟩:=ry; exact PySem.EqMixed.eq_bool_str (kI I q (by simp))
    | _=>exact absurd (show false=true from hs) aW
  | int i =>
    obtain ⟨t,rfl⟩:=rx
    cases y with
    | non=>cases ry; exact PySem.EqNone.eq_int_none (kI I q (by simp))
    | int j=>obtain ⟨t',rfl⟩:=ry; exact eq_int (kI I q aAa)
    | str j=>obtain ⟨t',rfl⟩:=ry; exact PySem.EqMixed.eq_int_str (kI I q (by simp))
    | _=>exact absurd (show false=true from hs) aW
  | str i =>
    obtain ⟨t,rfl⟩:=rx
    cases y with
    | non=>cases ry; exact PySem.EqNone.eq_str_none (kI I q (by simp))
    | bl j=>cases ry; exact PySem.EqMixed.eq_str_bool (kI I q (by simp))
    | int j=>obtain ⟨t',rfl⟩:=ry; exact PySem.EqMixed.eq_str_int (kI I q (by simp))
    | str j=>obtain ⟨t',rfl⟩:=ry; exact eq_str (kI I q z_)
    | _=>exact absurd (show false=true from hs) aW
  | byt i =>
    obtain ⟨t,rfl⟩:=rx
    cases y with
    | byt j=>obtain ⟨t',rfl⟩:=ry; exact PySem.W.eq_bytes (kI I q aAb)
    | _=>exact absurd (show false=true from hs) aW
  | _=>cases y <;> exact absurd (show false=true from hs) aW
theorem aTg:OpR X (compareOp .NotEq) rNe:=by
  intro pins s σ H x y v u Q I rx ry h
  obtain ⟨hs,q⟩:=h
  cases x with
  | non =>
    cases rx
    cases y with
    | non=>cases ry; exact PySem.EqNone.ne_none_none (kI I q (by simp))
    | bl j=>cases ry; exact PySem.EqNone.ne_none_bool (kI I q (by simp))
    | int j=>obtain ⟨t',rfl⟩:=ry; exact PySem.EqNone.ne_none_int (kI I q (by simp))
    | str j=>obtain ⟨t',rfl⟩:=ry; exact PySem.EqNone.ne_none_str (kI I q (by simp))
    | _=>exact absurd (show false=true from hs) aW
  | bl i =>
    cases rx
    cases y with
    | non=>cases ry; exact PySem.EqNone.ne_bool_none (kI I q (by simp))
    | bl j=>cases ry; exact ne_bool (kI I q (congrArg not aHh))
    | str j=>obtain ⟨t',rfl⟩:=ry; exact PySem.EqMixed.ne_bool_str (kI I q (by simp))
    | _=>exact absurd (show false=true from hs) aW
  | int i =>
    obtain ⟨t,rfl⟩:=rx
    cases y with
    | non=>cases ry; exact PySem.EqNone.ne_int_none (kI I q (by simp))
    | int j=>obtain ⟨t',rfl⟩:=ry; exact ne_int (kI I q (congrArg not aAa))
    | str j=>obtain ⟨t',rfl⟩:=ry; exact PySem.EqMixed.ne_int_str (kI I q (by simp))
    | _=>exact absurd (show false=true from hs) aW
  | str i =>
    obtain ⟨t,rfl⟩:=rx
    cases y with
    | non=>cases ry; exact PySem.EqNone.ne_str_none (kI I q (by simp))
    | bl j=>cases ry; exact PySem.EqMixed.ne_str_bool (kI I q (by simp))
    | int j=>obtain ⟨t',rfl⟩:=ry; exact PySem.EqMixed.ne_str_int (kI I q (by simp))
    | str j=>obtain ⟨t',rfl⟩:=ry; exact ne_str (kI I q (congrArg not z_))
    | _=>exact absurd (show false=true from hs) aW
  | byt i =>
    obtain ⟨t,rfl⟩:=rx
    cases y with
    | byt j=>obtain ⟨t',rfl⟩:=ry; exact PySem.W.ne_bytes (kI I q (congrArg not aAb))
    | _=>exact absurd (show false=true from hs) aW
  | _=>cases y <;> exact absurd (show false=true from hs) aW
theorem rV:OpR X (compareOp .Lt) (rI0 fun i j=>.bl (decide (i < j))):=aJj fun _ _ _ _ _ _ _ q=>lt_int q
theorem aFk:OpR X (compareOp .LtE) (rI0 fun i j=>.bl (decide (i≤j))):=aJj fun _ _ _ _ _ _ _ q=>le_int q
theorem aTh:OpR X (compareOp .Gt) (rI0 fun i j=>.bl (decide (j < i))):=aJj fun _ _ _ _ _ _ _ q=>gt_int q
theorem aFl:OpR X (compareOp .GtE) (rI0 fun i j=>.bl (decide (j≤i))):=aJj fun _ _ _ _ _ _ _ q=>ge_int q
theorem aJi:OpR X (compareOp .IsNot) (fun x y H Q=>y=.non∧Q (.bl (!decide (x=.non))) H):=by
  intro pins s σ H x y v u Q I rx ry h
  obtain ⟨rfl,q⟩:=h
  cases ry
  refine isnot_none_gen (kI I q ?_)
  cases x <;> first
    | (cases rx; rfl)
    | (obtain ⟨t,rfl⟩:=rx; rfl)
theorem OpR.or {f:Value→Value→Sem Value} {r r':R2} (h:OpR X f r) (h':OpR X f r'):OpR X f (fun x y H Q=>r x y H Q∨r' x y H Q):=by
  intro pins s σ H x y v u Q I rx ry q
  rcases q with q | q
  · exact h pins s σ H x y v u Q I rx ry q
  · exact h' pins s σ H x y v u Q I rx ry q
theorem cH (b:Expr) {op:CmpOp} (h:op ≠ .In:=by decide) (h2:op ≠ .NotIn:=by decide):behindInMarks op b=false:=by
  have e1:(op == CmpOp.In)=false:=by cases op <;> first | rfl | exact absurd rfl h
  have e2:(op == CmpOp.NotIn)=false:=by cases op <;> first | rfl | exact absurd rfl h2
  cases b <;> simp [behindInMarks,e1,e2]
theorem aJe {op:CmpOp} {r:R2} (ho:OpR X (compareOp op) r) (ha:PE X a ta) (hb:PE X b tb) (hm:behindInMarks op b=false):PE X (.Compare a [op] [b] pos) (tOp r ta tb):=by
  intro pins s σ H Q I h
  exact wpAny_Compare1 (aRc ha hb I h fun v u s2 x y H2 I2 rx ry q=>ho pins s2 σ H2 x y v u Q I2 rx ry q) hm
def aDz (t:TE):TT:=fun σ H Q=>t σ H fun x H' => ∃ k,x=.bl k∧Q k H'
theorem gx_ {op:CmpOp} {r:R2} (ho:OpR X (compareOp op) r) (ha:PE X a ta) (hb:PE X b tb) (hm:behindInMarks op b=false):PT X (.Compare a [op] [b] pos) (aDz (tOp r ta tb)):=by
  intro pins s σ H Q I h
  refine wpAny_isTrue_Compare1 (fL (ha pins s σ H _ I h) fun v s1 ⟨x,H1,I1,r1,q1⟩=>fL (hb pins s1 σ H1 _ I1 q1) fun u s2 ⟨y,H2,I2,r2,q2⟩ =>
    fL (ho pins s2 σ H2 x y v u _ I2 r1 r2 q2) fun c s3 ⟨z,H3,I3,r3,k,e,q3⟩ => ?_) hm
  subst e
  cases r3
  exact wpAny_truthy_bool ⟨H3,I3,q3⟩
def zW (r r':R2) (ta tb tc:TE):TE:=fun σ H Q=>ta σ H fun x H1=>tb σ H1 fun y H2=>r x y H2 fun z H3 => ∃ k,z=.bl k ∧
  (if k=true then tc σ H3 fun w' H4=>r' y w' H4 Q else Q (.bl false) H3)
theorem aFa {op op':CmpOp} {r r':R2} (ho:OpR X (compareOp op) r) (ho':OpR X (compareOp op') r') (ha:PE X a ta) (hb:PE X b tb) (hc:PE X c tc)
    (hm:lastMarks [op,op'] [b,c]=false:=by with_unfolding_all rfl):PE X (.Compare a [op,op'] [b,c] pos) (zW r r' ta tb tc):=by
  intro pins s σ H Q I h
  refine Compare_chain (fL (ha pins s σ H _ I h) fun v s1 ⟨x,H1,I1,r1,q1⟩=>chain_link (fL (hb pins s1 σ H1 _ I1 q1) fun u s2 ⟨y,H2,I2,r2,q2⟩ =>
    fL (ho pins s2 σ H2 x y v u _ I2 r1 r2 q2) fun d s3 ⟨z,H3,I3,r3,k,e,q3⟩ => ?_)) hm
  subst e
  cases r3
  refine wpAny_truthy_bool ?_
  cases k with
  | false=>exact ite_ff ⟨.bl false,H3,I3,rfl,q3⟩
  | true=>exact ite_tt (chain_last (fL (hc pins s3 σ H3 _ I3 q3) fun w' s4 ⟨z',H4,I4,r4,q4⟩=>ho' pins s4 σ H4 y z' u w' Q I4 r2 r4 q4))
theorem aEt {op op':CmpOp} {r r':R2} (ho:OpR X (compareOp op) r) (ho':OpR X (compareOp op') r') (ha:PE X a ta) (hb:PE X b tb) (hc:PE X c tc)
    (hm:lastMarks [op,op'] [b,c]=false:=by with_unfolding_all rfl):PT X (.Compare a [op,op'] [b,c] pos) (aDz (zW r r' ta tb tc)):=by
  intro pins s σ H Q I h
  refine isTrue_chain (fL (ha pins s σ H _ I h) fun v s1 ⟨x,H1,I1,r1,q1⟩=>test_link (fL (hb pins s1 σ H1 _ I1 q1) fun u s2 ⟨y,H2,I2,r2,q2⟩ =>
    fL (ho pins s2 σ H2 x y v u _ I2 r1 r2 q2) fun d s3 ⟨z,H3,I3,r3,k,e,q3⟩ => ?_)) hm
  subst e
  cases r3
  refine wpAny_truthy_bool ?_
  cases k with
  | false =>
    obtain ⟨k',e',q'⟩:=q3
    cases e'
    exact ite_ff ⟨H3,I3,q'⟩
  | true =>
    refine ite_tt (test_last (fL (hc pins s3 σ H3 _ I3 q3) fun w' s4 ⟨z',H4,I4,r4,q4⟩=>fL (ho' pins s4 σ H4 y z' u w' _ I4 r2 r4 q4) fun d' s5 ⟨z2,H5,I5,r5,k2,e2,q5⟩ => ?_))
    subst e2
    cases r5
    exact wpAny_truthy_bool ⟨H5,I5,q5⟩
theorem mD:(sizeLine:Nat) < 2 ^ 63:=by rw [sizeLine_eq]; decide
theorem jN:OpR X (binaryOp .Add) (fun x y H Q => ∃ i j,x=.str i∧y=.str j∧i.length + j.length≤sizeLine∧Q (.str (i ++ j)) H):=by
  intro pins s σ H x y v u Q I rx ry h
  obtain ⟨i,j,rfl,rfl,hz,q⟩:=h
  obtain ⟨t,rfl⟩:=rx
  obtain ⟨t',rfl⟩:=ry
  exact add_str (fun t' tk=>⟨.str (i ++ j),H,I.tok _,⟨_,rfl⟩,q⟩) hz
theorem jZ {x:V} {us:List Value} (r:Vals [x] us):∃ u,us=[u]∧RelV x u:=by
  cases r with
  | cons r1 r2=>cases r2; exact ⟨_,rfl,r1⟩
theorem wI {x y:V} {us:List Value} (r:Vals [x,y] us):∃ u w',us=[u,w']∧RelV x u∧RelV y w':=by
  cases r with
  | cons r1 r2 =>
    cases r2 with
    | cons r3 r4=>cases r4; exact ⟨_,_,rfl,r1,r3⟩
theorem aCp (hc:X.calm=true):CallR X (.builtin "max") (fun xs H Q => ∃ i j,xs=[.int i,.int j]∧Q (.int (if j > i then j else i)) H):=by
  intro pins s σ H xs us Q I r h
  obtain ⟨i,j,rfl,q⟩:=h
  obtain ⟨u,w',rfl,⟨t,rfl⟩,⟨t',rfl⟩⟩:=wI r
  refine max_two_ints (I.ok.hd hc) fun h' tk k=>⟨_,H,I.kept k,?_,q⟩
  by_cases hj:j > i
  · rw [if_pos hj,if_pos hj]; exact ⟨_,rfl⟩
  · rw [if_neg hj,if_neg hj]; exact ⟨_,rfl⟩
theorem aCl (hc:X.calm=true):CallR X (.builtin "min") (fun xs H Q => ∃ i j,xs=[.int i,.int j]∧Q (.int (if j < i then j else i)) H):=by
  intro pins s σ H xs us Q I r h
  obtain ⟨i,j,rfl,q⟩:=h
  obtain ⟨u,w',rfl,⟨t,rfl⟩,⟨t',rfl⟩⟩:=wI r
  refine min_two_ints (I.ok.hd hc) fun h' tk k=>⟨_,H,I.kept k,?_,q⟩
  by_cases hj:j < i
  · rw [if_pos hj,if_pos hj]; exact ⟨_,rfl⟩
  · rw [if_neg hj,if_neg hj]; exact ⟨_,rfl⟩
theorem aCr:CallR X (.type "int") (fun xs H Q=>(∃ i,xs=[.int i]∧Q (.int i) H)∨∃ k,xs=[.bl k]∧Q (.int (if k then 1 else 0)) H):=by
  intro pins s σ H xs us Q I r h
  rcases h with ⟨i,rfl,q⟩ | ⟨k,rfl,q⟩
  · obtain ⟨u, rfl, t, rfl⟩ := jZ r
    exact call_int_int ⟨.int i,H,I,⟨_,rfl⟩,q⟩
  · obtain ⟨u, rfl, r1⟩ := jZ r
    cases r1
    exact call_int_bool ⟨.int (if k then 1 else 0),H,I.tok _,⟨_,rfl⟩,q⟩
end
structure ObjM (h:Heap) (x dx C:Addr) (mA:gO):Prop where
  obj:h.get? x=some (PySem.W.instObj C dx)
  ns:h.Ns1 dx mA
  ne:dx≠x
theorem aBs {h:Heap} {dx:Addr} {mA:gO} (n:h.Ns1 dx mA):∃ od,h.get? dx=some od∧∀ name,PySem.W.lookIn name od=some (mA name):=by
  obtain ⟨o,es,ep,ho,hd,hk,_,hm⟩:=n
  refine ⟨o,ho,fun name => ?_⟩
  have e:=hm name
  unfold nsFind findBy at e
  rw [← Array.find?_toList] at e
  unfold PySem.W.lookIn
  rw [hd]
  dsimp only
  split
  · rename_i y q
    rw [q] at e
    exact congrArg some e
  · rename_i q
    rw [q] at e
    have a:es.toList.any (·.refKey)=false:=by
      rw [List.any_eq_false]
      intro y hy
      obtain ⟨z,t,hkey⟩:=hk y (Array.mem_toList_iff.mp hy)
      simp [DictEntry.refKey,hkey]
    have a':¬ es.toList.any (·.refKey)=true:=by rw [a]; exact aW
    rw [if_neg a']
    exact congrArg some e
theorem ObjM.look {h:Heap} {x dx C:Addr} {mA:gO} (I:ObjM h x dx C mA):∃ od,PySem.W.InstAt h x (PySem.W.instObj C dx) C (some od)∧∀ name,PySem.W.lookIn name od=some (mA name) :=
  let ⟨od,ho,hl⟩:=aBs I.ns
  ⟨od,⟨I.obj,rfl,rfl,ho⟩,hl⟩
theorem RelO.some_of {v:V} {o:Option Value} (r:RelO (some v) o):∃ u,o=some u∧RelV v u:=by
  cases o with
  | none=>exact (show False from r).elim
  | some u=>exact ⟨u,rfl,r⟩
section
variable {P:Program} {w:World} {H H':Hp} {h h':Heap} {a C dx:Addr} {fs fs':List (Str×V)}
theorem w6 (hok:HOk P w H h) (e:H a=some (.ins C dx fs)):∃ mA,ObjM h a dx C mA∧(∀ f,RelO (fs.lookup f) (mA f))∧PySem.Within mA (fs.map (·.1))∧fs.length≤1000∧H dx=some (.own a):=by
  obtain ⟨d,z,ne,ob,mA,n,r,q⟩:=(show ObjOk P w H h a (.ins C dx fs) from hok a _ e)
  exact ⟨mA,⟨ob,n,ne⟩,r,q,z,d⟩
end
structure Cls (K:dH) (C:Addr):Prop where
  pg:PySem.W.plainGet K C Str.empty=true
  hd:PySem.W.hasDictIn K C=true
  po:PySem.W.plainOver K C=true
  sa:PySem.W.findIn K (.ref C) "__setattr__" = some (some (.builtin "object.__setattr__"))
theorem Cls.get {K:dH} {C:Addr} (c:Cls K C) (f:Str):PySem.W.plainGet K C f=true:=c.pg
section
variable {X:Cx} {pins:gC} {σ:St} {H:Hp} {s:Shared} {A:Around} {E:gU} {Q:gU} {c:Value} {b:Bool}
inductive TyOf (K:dH) (H:Hp):V→Value→Prop where
  | non:TyOf K H .non (.type "NoneType")
  | bl (x:Bool):TyOf K H (.bl x) (.type "bool")
  | int (i:Int):TyOf K H (.int i) (.type "int")
  | str (x:Str):TyOf K H (.str x) (.type "str")
  | flt (x:UInt64):TyOf K H (.flt x) (.type "float")
  | lst {a:Addr} {xs:List V} (e:H a=some (.lst xs)):TyOf K H (.ref a) (.type "list")
  | frz {a:Addr} {o:Obj} {xs:List V} (e:H a=some (.frz o (.lst xs))):TyOf K H (.ref a) (.type "list")
  | tup {a:Addr} {xs:List V} (e:H a=some (.tup xs)):TyOf K H (.ref a) (.type "tuple")
  | dK {a:Addr} {kvs:List (Key×V)} (e:H a=some (.dK kvs)):TyOf K H (.ref a) (.type "dict")
  | dT {a:Addr} {kvs:List (List Key×V)} (e:H a=some (.dT kvs)):TyOf K H (.ref a) (.type "dict")
  | ins {a C dx:Addr} {fs:List (Str×V)} (e:H a=some (.ins C dx fs)) (cl:Cls K C) (ha:PySem.W.findIn K (.ref C) "__class__" = some (some (.builtin "object.__class__")))
      (hn:PySem.W.specialIn K (.builtin "object.__class__") "__get__" = some (some (.builtin "getset_descriptor.__get__"))) (htk:PySem.W.takesIn K (.builtin "object.__class__")=some true)
      (hm:PySem.W.mroIn K C (.type "object")=some true):TyOf K H (.ref a) (.ref C)
theorem dz_ {x:V} {u t:Value} (I:Inv X pins σ H s) (rx:RelV x u) (ty:TyOf X.K H x t) (e:PySem.W.kitOne X.K t c=some b) (h:∀ tk,Q (.bool b) { s with toks:=tk }) :
    wpAny (model X.prog X.w) A (call (.builtin "isinstance") [u,c]) Q E s:=by
  cases ty with
  | non=>cases (show u=Value.none from rx); exact PySem.W.kia_one PySem.W.kitx_none I.kIn True.intro e (fun z=>nomatch z) h
  | bl y=>cases (show u=Value.bool y from rx); exact PySem.W.kia_one PySem.W.kitx_bool I.kIn True.intro e (fun z=>nomatch z) h
  | int i=>obtain ⟨t,q⟩:=(show ∃ t,u=Value.int i t from rx); cases q; exact PySem.W.kia_one PySem.W.kitx_int I.kIn True.intro e (fun z=>nomatch z) h
  | str y=>obtain ⟨t,q⟩:=(show ∃ t,u=Value.str y t from rx); cases q; exact PySem.W.kia_one PySem.W.kitx_str I.kIn True.intro e (fun z=>nomatch z) h
  | flt y=>obtain ⟨t,q⟩:=(show ∃ t,u=Value.float y t from rx); cases q; exact PySem.W.kia_one PySem.W.kitx_float I.kIn True.intro e (fun z=>nomatch z) h
  | @lst a xs ea =>
    cases (show u=Value.ref a from rx)
    obtain ⟨_,_,n,_,h1⟩:=(show ObjOk X.prog X.w H s.heap a (.lst xs) from I.hok a _ ea)
    exact PySem.W.kia_one PySem.W.kitx_list I.kIn ⟨_,h1,rfl⟩ e (fun z=>nomatch z) h
  | @frz a ob xs ea =>
    cases (show u=Value.ref a from rx)
    obtain ⟨_,_,_,n,_,h1⟩:=(show ObjOk X.prog X.w H s.heap a (.frz ob (.lst xs)) from I.hok a _ ea)
    exact PySem.W.kia_one PySem.W.kitx_list I.kIn ⟨_,h1,rfl⟩ e (fun z=>nomatch z) h
  | @tup a xs ea =>
    cases (show u=Value.ref a from rx)
    obtain ⟨_,_,_,p⟩:=(show ObjOk X.prog X.w H s.heap a (.tup xs) from I.hok a _ ea)
    obtain ⟨o,h1,h2,_⟩:=p
    exact PySem.W.kia_one PySem.W.kitx_tuple I.kIn ⟨o,h1,h2⟩ e (fun z=>nomatch z) h
  | @dK a kvs ea =>
    cases (show u=Value.ref a from rx)
    obtain ⟨_,_,vs,_,p⟩:=(show ObjOk X.prog X.w H s.heap a (.dK kvs) from I.hok a _ ea)
    obtain ⟨o,es,ep,h1,h2,_⟩:=p
    exact PySem.W.kia_one PySem.W.kitx_dict I.kIn ⟨o,h1,h2.1⟩ e (fun z=>nomatch z) h
  | @dT a kvs ea =>
    cases (show u=Value.ref a from rx)
    obtain ⟨_,_,xs,_,o,es,ep,h1,h2,_⟩:=(show ObjOk X.prog X.w H s.heap a (.dT kvs) from I.hok a _ ea)
    exact PySem.W.kia_one PySem.W.kitx_dict I.kIn ⟨o,h1,h2.1⟩ e (fun z=>nomatch z) h
  | @ins a C dx fs ea cl ha hn htk hm =>
    cases (show u=Value.ref a from rx)
    obtain ⟨mA,O,_⟩:=w6 I.hok ea
    obtain ⟨od,J,_⟩:=O.look
    exact PySem.W.kia_one (PySem.W.kitx_own (cl.get _) cl.hd ha hn htk hm) I.kIn J e (fun z=>nomatch z) h
end
structure Room (k:Nat) (A:Around):Prop where
  hd:A.handled=none
  dp:A.depth + 3 * k + 5 < recursionLimit
  un:A.units + 16 * k + 200 < cLine
theorem Room.mono {j k:Nat} {A:Around} (r:Room k A) (h:j≤k):Room j A:=⟨r.hd,by have:=r.dp; omega,by have:=r.un; omega⟩
theorem Room.deeper {k:Nat} {A:Around} (r:Room (k + 1) A) (env:Env):Room k (A.deeper env) :=
  ⟨r.hd,by have:=r.dp; show A.depth + 1 + 3 * k + 5 < _; omega,by have:=r.un; show A.units + 3 + 16 * k + 200 < _; omega⟩
theorem Room.depth {k:Nat} {A:Around} (r:Room k A):A.depth < recursionLimit:=by have:=r.dp; omega
theorem Room.units {k:Nat} {A:Around} (r:Room k A):A.units + 64 < cLine:=by have:=r.un; omega
theorem Room.units0 {k:Nat} {A:Around} (r:Room k A):A.units < cLine:=by have:=r.un; omega
def zV:TA:=fun _ H Q=>Q [] H
def kX (ta:TE) (tr:TA):TA:=fun σ H Q=>ta σ H fun x H1=>tr σ H1 fun xs H2=>Q (x :: xs) H2
section
variable {X:Cx} {e:Expr} {es:List Expr} {te:TE} {t:TA} {pos:Pos}
theorem nF:PA X [] zV:=fun _ _ _ _ H Q I h=>Calls.spliced_nil ⟨[],H,I,.nil,h⟩
theorem jG (ha:PE X e te) (hr:PA X es t) (hs:starEach (e :: es) X.env=(false,eval e X.env) :: starEach es X.env:=by rfl):PA X (e :: es) (kX te t):=by
  intro pos pins s σ H Q I h
  rw [hs]
  show wpAny _ _ (spliced ((false,eval e X.env) :: backTo pos (starEach es X.env))) _ _ s
  refine Calls.spliced_cons (fL (ha pins s σ H _ I h) fun u s1 ⟨x,H1,I1,r1,q1⟩ => ?_)
  exact fL (hr pos pins s1 σ H1 _ I1 q1) fun us s2 ⟨xs,H2,I2,r2,q2⟩=>⟨x :: xs,H2,I2,.cons r1 r2,q2⟩
def aSo (t:TA):TE:=fun σ H Q=>t σ H fun xs H1=>xs.length≤sizeLine∧∀ p,H1 p=none→Q (.ref p) (upd H1 p (.tup xs))
def aXf (t:TA):TE:=fun σ H Q=>t σ H fun xs H1=>xs.length≤sizeLine∧∀ p,H1 p=none→Q (.ref p) (upd H1 p (.lst xs))
theorem c_ {x1} (h:PA X es t):PE X (.Tuple es x1 pos) (aSo t):=by
  intro pins s σ H Q I hq
  refine wpAny_Tuple_spliced (fL (h pos pins s σ H _ I hq) fun us s1 ⟨xs,H1,I1,r,z,q⟩=>⟨by rw [← r.length]; exact z,?_⟩)
  have hf:H1 s1.heap.objs.size=none:=I1.hok.fresh (bJ _)
  refine ⟨.ref s1.heap.objs.size,upd H1 s1.heap.objs.size (.tup xs),I1.laid (t':=s1.toks) (fun b u e=>aA _ e) (bJ _) ?_,rfl,q _ hf⟩
  exact ⟨z,us,r,⟨_,aU _ rfl,rfl,_,rfl⟩⟩
theorem uM (h:PA X es t):PE X (.List es pos) (aXf t):=by
  intro pins s σ H Q I hq
  refine wpAny_List_spliced (fL (h pos pins s σ H _ I hq) fun us s1 ⟨xs,H1,I1,r,z,q⟩=>⟨by rw [← r.length]; exact z,?_⟩)
  have hf:H1 s1.heap.objs.size=none:=I1.hok.fresh (bJ _)
  refine ⟨.ref s1.heap.objs.size,upd H1 s1.heap.objs.size (.lst xs),I1.laid (t':=s1.toks) (fun b u e=>aA _ e) (bJ _) ?_,rfl,q _ hf⟩
  exact ⟨z,us,0,r,aU _ rfl⟩
end
abbrev Sp:=List V→Hp→VK→XK→Prop
abbrev CXT:=List Env→Hp→Shared→XK→Value→Shared→Prop
structure Env0 (P:Program) (w:World) (K:dH) (mg:gO) (base:Heap) (A:Around) (outer:List Env) (s:Shared) (H:Hp):Prop where
  frames:A.frames=some outer
  mod:Mod K mg base
  bs:∀ b o,base.get? b=some o→s.heap.get? b=some o∧H b=none
  bsz:base.objs.size≤s.heap.objs.size
  funs:s.heap.FunFrames base outer
  frf:∀ b∈frs outer,H b=none
  hok:HOk P w H s.heap
  bare:AllBare s.gens
def CE (outer:List Env) (P:Program) (w:World) (H:Hp) (s:Shared) (Q:VK) (u:Value) (s':Shared):Prop :=
  ∃ v H',s'.os=s.os∧AllBare s'.gens∧Un (frs outer) [] H H' s.heap s'.heap∧HOk P w H' s'.heap∧RelV v u∧Q v H'
def CR (CX:CXT) (outer:List Env) (P:Program) (w:World) (H:Hp) (s:Shared) (Q:VK) (E:XK) (r:Result) (s':Shared):Prop :=
  match r with
  | .ok (.ret u)=>CE outer P w H s Q u s'
  | .ok _=>False
  | .error e=>CX outer H s E e s'
structure FnOk (P:Program) (w:World) (K:dH) (mg:gO) (base:Heap) (CX:CXT) (k:Nat) (f:Addr) (fd:FuncData) (ps:List Str) (sp:Sp):Prop where
  len:∀ vs H Q E,sp vs H Q E→vs.length=ps.length
  run:∀ (A:Around) (outer:List Env) (s:Shared) (H:Hp) (args:Args) (us:List Value) (vs:List V) (Q:VK) (E:XK),Room k A→Env0 P w K mg base A outer s H→BindsTo s fd args (ps.zip us)→Vals vs us→sp vs H Q E →
    codeAny (model P w) A (.call (.ref f) args) (CR CX outer P w H s Q E) s
theorem FnOk.mono {P:Program} {w:World} {K:dH} {mg:gO} {base:Heap} {CX:CXT} {j k:Nat} {f:Addr} {fd:FuncData} {ps:List Str} {sp:Sp} (F:FnOk P w K mg base CX j f fd ps sp) (h:j≤k) :
    FnOk P w K mg base CX k f fd ps sp:=⟨F.len,fun A outer s H args us vs Q E hr=>F.run A outer s H args us vs Q E (hr.mono h)⟩
theorem FnOk.imp {P:Program} {w:World} {K:dH} {mg:gO} {base:Heap} {CX:CXT} {k:Nat} {f:Addr} {fd:FuncData} {ps:List Str} {sp sp':Sp} (F:FnOk P w K mg base CX k f fd ps sp)
    (h:∀ vs H Q E,sp' vs H Q E→sp vs H Q E):FnOk P w K mg base CX k f fd ps sp' :=
  ⟨fun vs H Q E q=>F.len vs H Q E (h _ _ _ _ q),fun A outer s H args us vs Q E hr he hb hv hs=>F.run A outer s H args us vs Q E hr he hb hv (h _ _ _ _ hs)⟩
section
variable {X:Cx} {pins:gC} {σ:St} {H:Hp} {s s':Shared}
theorem Inv.env0 (I:Inv X pins σ H s):Env0 X.prog X.w X.K X.mg X.base X.A X.stack s H :=
  ⟨I.ok.frames,I.ok.mod,I.bs,bP I.ok.bsz I.sz,I.stack,I.stkFree,I.hok,I.bare⟩
theorem Inv.after {Q:VK} {u:Value} (I:Inv X pins σ H s) (h:CE X.stack X.prog X.w H s Q u s'):EP X pins σ Q u s':=by
  obtain ⟨v,H',os,bare,un,hok,r,q⟩:=h
  obtain ⟨hh,g,d,t,os'⟩:=s'
  obtain rfl:os'=s.os:=os
  exact ⟨v,H',I.call (h':=hh) (g':=g) (d':=d) (t':=t) (ch:=[]) un hok bare (fun b z=>absurd z (by simp)),r,q⟩
end
def aLz (sp:Sp) (dvs:List V) (E:XK) (t:TA):TE:=fun σ H Q=>t σ H fun vs H1=>sp (vs ++ dvs) H1 Q E
def Binds (K:dH) (fd:FuncData) (ps:List Str) (ds:List Value):Prop :=
  ∀ (s:Shared) (us:List Value),K.In s.heap→(us ++ ds).length=ps.length→BindsTo s fd ⟨us,[]⟩ (ps.zip (us ++ ds))
theorem Binds.all {K:dH} {fd:FuncData} {ps:List Str} (h:∀ us:List Value,us.length=ps.length→bindArgs fd ⟨us,[]⟩=pure (ps.zip us)):Binds K fd ps []:=fun s us _ hl=>by
  rw [cR] at hl ⊢
  exact .of_eq (h us hl)
def k_ (CX:CXT) (X:Cx) (E:XK):Prop := ∀ (pins:gC) (σ:St) (H:Hp) (s:Shared) (e:Value) (s':Shared),Inv X pins σ H s→CX X.stack H s E e s'→X.xe e s'
section
variable {X:Cx} {CX:CXT} {k:Nat} {f C:Addr} {fd:FuncData} {ps:List Str} {sp:Sp} {dvs:List V} {ds:List Value} {E:XK} {x m:Str} {p pos apos:Pos} {e o:Expr} {es:List Expr} {ta:TE} {t:TA}
theorem aNq {pins:gC} {σ:St} {H:Hp} {s:Shared} {Q:VK} {us:List Value} {vs:List V} (F:FnOk X.prog X.w X.K X.mg X.base CX k f fd ps sp) (hr:Room k X.A) (hb:Binds X.K fd ps ds) (hd:Vals dvs ds) (hx:k_ CX X E)
    (I:Inv X pins σ H s) (r:Vals vs us) (h:sp (vs ++ dvs) H Q E):wpAny (model X.prog X.w) X.A (call (.ref f) us) (EP X pins σ Q) X.xe s:=by
  have r2:Vals (vs ++ dvs) (us ++ ds):=r.append hd
  have hl:(us ++ ds).length=ps.length:=by rw [← r2.length]; exact F.len _ _ _ _ h
  refine wpAny_call (codeAny_mono (F.run X.A X.stack s H ⟨us,[]⟩ (us ++ ds) (vs ++ dvs) Q E hr I.env0 (hb s us I.kIn hl) r2 h) fun r s' hq => ?_)
  cases r with
  | error e=>exact hx pins σ H s e s' I hq
  | ok fl =>
    cases fl with
    | ret u=>exact I.after hq
    | next=>exact False.elim hq
    | brk=>exact False.elim hq
    | cont=>exact False.elim hq
theorem ev_ (F:FnOk X.prog X.w X.K X.mg X.base CX k f fd ps sp) (hr:Room k X.A) (hg:Gl X x) (hm:X.mg x=some (.ref f)) (hk:PySem.W.keepIn X.K (.ref f)=true) (hb:Binds X.K fd ps ds) (hd:Vals dvs ds) (hx:k_ CX X E)
    (ha:PA X (e :: es) t) (hdb:(x == ("__debug__" : Str))=false:=by decide) (he:starEach (e :: es) X.env=(false,eval e X.env) :: starEach es X.env:=by rfl) (hpl:(backTo pos (starEach es X.env)).any (·.1)=false:=by rfl) :
    PE X (.Call (.Name x p) (e :: es) [] pos) (aLz sp dvs E t):=by
  intro pins s σ H Q I h
  refine wpAny_Call_Name_kw (in_ I hg hm ?_ hdb)
  refine PySem.W.callWith_K (h₀:=X.base) I.ok.mod.kin hk (fL (ha pos pins s σ H _ I h) fun us s1 ⟨vs,H1,I1,r,q⟩=>⟨I1.kIn,?_⟩) he hpl
  exact aNq F hr hb hd hx I1 r q
end
def PK (X:Cx) (kws:List Keyword) (t:TA):Prop :=
  ∀ (pos:Pos) (pins:gC) (s:Shared) (σ:St) (H:Hp) (Q:List V→Hp→Prop),Inv X pins σ H s→t σ H Q→wpAny (model X.prog X.w) X.A (evalAll ((backToKw pos (keywordEach kws X.env)).map (·.2))) (AP X pins σ Q) X.xe s
section
variable {X:Cx} {CX:CXT} {k:Nat} {f C:Addr} {fd:FuncData} {ps ks:List Str} {sp:Sp} {E:XK} {x m:Str} {p pos apos kpos:Pos} {e o:Expr} {es:List Expr} {kws:List Keyword} {te ta:TE} {t tk:TA} {nm:Option Str}
theorem c7:PK X [] zV:=fun _ _ _ _ H Q I h=>wpAny_evalAll_nil ⟨[],H,I,.nil,h⟩
theorem uK (ha:PE X e te) (hr:PK X kws t):PK X (⟨nm,e,kpos⟩ :: kws) (kX te t):=by
  intro pos pins s σ H Q I h
  show wpAny _ _ (evalAll ((do let v ← eval e X.env; standAt pos; pure v) :: (backToKw pos (keywordEach kws X.env)).map (·.2))) _ _ s
  refine wpAny_evalAll_cons (wpAny_bind (fL (ha pins s σ H _ I h) fun u s1 ⟨x,H1,I1,r1,q1⟩=>wpAny_bind (wpAny_standAt (wpAny_pure ?_))))
  exact fL (hr pos pins s1 σ H1 _ I1 q1) fun us s2 ⟨xs,H2,I2,r2,q2⟩=>⟨x :: xs,H2,I2,.cons r1 r2,q2⟩
variable {g:List Value→List Value→List Value} {gV:List V→List V→List V}
end
structure FnScope (N P:List Str) (sc:Scope):Prop where
  kind:sc.kind=.function
  co:sc.isCoroutine=false
  gen:sc.isGenerator=false
  nd:N.Nodup
  pre:N.take P.length=P
  par:∀ x∈P,sc.names.lookup x=some .local∨sc.names.lookup x=some .cell
  nofree:∀ y∈sc.names,y.2 ≠ .free
theorem sV {kindOf:Str→Option NameKind} {x:Str}:∀ {binds:List (Str×Value)} {m:gO},(∀ v,(x,v)∉binds)→bindL kindOf binds m x=m x
  | [],_,_=>rfl
  | (n, v) :: r, m, h => by
    unfold bindL
    rw [sV fun w hw=>h w (aC _ hw)]
    split
    · have : x ≠ n := by rintro rfl; exact h v aB
      simp [this]
    · rfl
theorem sX {kindOf:Str→Option NameKind} {x:Str}:∀ {binds:List (Str×Value)} {m:gO},(∀ v,(x,v)∉binds)→bindC kindOf binds m x=m x
  | [],_,_=>rfl
  | (n, v) :: r, m, h => by
    unfold bindC
    rw [sX fun w hw=>h w (aC _ hw)]
    split
    · rfl
    · have : x ≠ n := by rintro rfl; exact h v aB
      simp [this]
theorem sW {kindOf:Str→Option NameKind} {x:Str} {v:Value}:∀ {P:List Str} {vs:List Value} {i:Nat} {m:gO},P.Nodup→P[i]? = some x→vs[i]? = some v→kindOf x=some .local →
    bindL kindOf (P.zip vs) m x=some v
  | [],_,_,_,_,h,_,_=>by simp at h
  | _ :: _,[],_,_,_,_,h,_=>by simp at h
  | p :: P, w :: vs, 0, m, nd, h1, h2, hk => by
    simp at h1 h2; subst h1; subst h2
    show bindL kindOf ((p,w) :: P.zip vs) m p=_
    unfold bindL
    rw [sV fun v hv=>(dC.mp nd).1 (List.of_mem_zip hv).1,if_pos hk]
    simp
  | p :: P, w :: vs, i + 1, m, nd, h1, h2, hk => by
    show bindL kindOf ((p,w) :: P.zip vs) m x=_
    unfold bindL
    exact sW (i:=i) (dC.mp nd).2 (by simpa using h1) (by simpa using h2) hk
theorem sY {kindOf:Str→Option NameKind} {x:Str} {v:Value}:∀ {P:List Str} {vs:List Value} {i:Nat} {m:gO},P.Nodup→P[i]? = some x→vs[i]? = some v→kindOf x≠some .local →
    bindC kindOf (P.zip vs) m x=some v
  | [],_,_,_,_,h,_,_=>by simp at h
  | _ :: _,[],_,_,_,_,h,_=>by simp at h
  | p :: P, w :: vs, 0, m, nd, h1, h2, hk => by
    simp at h1 h2; subst h1; subst h2
    show bindC kindOf ((p,w) :: P.zip vs) m p=_
    unfold bindC
    rw [sX fun v hv=>(dC.mp nd).1 (List.of_mem_zip hv).1,if_neg hk]
    simp
  | p :: P, w :: vs, i + 1, m, nd, h1, h2, hk => by
    show bindC kindOf ((p,w) :: P.zip vs) m x=_
    unfold bindC
    exact sY (i:=i) (dC.mp nd).2 (by simpa using h1) (by simpa using h2) hk
def start (N:List Str) (vs:List V):St:=vs.map some ++ List.replicate (N.length - vs.length) none
def nB (CX:CXT) (P:Program) (w:World) (K:dH) (mg:gO) (base:Heap) (N:List Str) (qual:Str) (scope:Scope) (f:Addr) (cd:Value) (A:Around) (outer:List Env) (s:Shared) (H:Hp) (E:XK):Cx where
  prog:=P
  w:=w
  K:=K
  mg:=mg
  base:=base
  A:=A.deeper (envOfC qual scope s.heap.objs.size f cd)
  N:=N
  s₀:=s
  H₀:=H
  env:=envOfC qual scope s.heap.objs.size f cd
  outer:=outer
  stack:=envOfC qual scope s.heap.objs.size f cd :: outer
  ex:=[]
  calm:=true
  fn:=fun _=>true
  pn:=[]
  xe:=fun e s'=>wpAny (model P w) (A.deeper (envOfC qual scope s.heap.objs.size f cd)) (leaving (envOfC qual scope s.heap.objs.size f cd) e) (fun _ s''=>CX outer H s E e s'') (fun e' s''=>CX outer H s E e' s'') s'
theorem yV {sc:Scope} {n:Nat} {x:Str} (h:sc.names.lookup x=some .cell):∃ c,(cellsFrom n sc.names []).lookup x=some c:=by
  have q:=PySem.W.cellsFrom_some sc.names n [] (.inl h)
  exact gJ.mp q
theorem aBz {CX:CXT} {P:Program} {w:World} {K:dH} {mg:gO} {base:Heap} {N ps:List Str} {qual:Str} {scope:Scope} {f:Addr} {cd:Value} {A:Around} {outer:List Env} {s s1:Shared} {H:Hp} {E:XK} {us:List Value} {vs:List V}
    (S:FnScope N ps scope) (hd:A.handled=none) (e0:Env0 P w K mg base A outer s H) (hl:vs.length=ps.length) (r:Vals vs us)
    (x:InCallC s s.heap.objs.size (bindL (envOfC qual scope s.heap.objs.size f cd).kindOf (ps.zip us) fun _=>none) (cellsFrom (s.heap.objs.size + 1) scope.names []) (bindC (envOfC qual scope s.heap.objs.size f cd).kindOf (ps.zip us) fun _=>none) s1) :
    Inv (nB CX P w K mg base N qual scope f cd A outer s H E) [] (start N vs) H s1:=by
  have hpl:ps.length≤N.length:=by have:=congrArg List.length S.pre; rw [cI] at this; omega
  obtain ⟨h1,tk,rfl,hk⟩:=x.done
  have noA:∀ b:Addr,b∉(nB CX P w K mg base N qual scope f cd A outer s H E).ex:=fun b z=>absurd (show b∈([]:List Addr) from z) (by simp)
  refine ⟨⟨e0.mod,S.kind,rfl,rfl,bJ _,fun y z c h1 h2 => ?_,fun y hy => ?_,fun y c _ h => ?_,fun _=>hd,Around.frames_deeper e0.frames,.inr ⟨rfl,rfl⟩,fun b z=>absurd z (noA b),e0.bs,e0.bsz,fun b _ _=>noA b,fun b z=>absurd z (noA b),e0.funs,e0.frf⟩,
    rfl,e0.bare,Un.kept hk,⟨_,x.toInCall.ns,fun i y v h1 h2 h3 => ?_⟩,fun y c h=>⟨_,x.cell y c h⟩,e0.hok.fresh (bJ _),fun y c h => ?_,fun p hp=>absurd (show p∈([]:gC) from hp) (by simp),e0.hok.kept hk,?_⟩
  · exact name_of_addr x.apart (PySem.mem_of_lookup h1) (PySem.mem_of_lookup h2)
  · have hy : scope.names.lookup y = some .cell ∨ scope.names.lookup y = some .free := hy
    rcases hy with hy | hy
    · exact yV hy
    · exact absurd rfl (S.nofree _ (PySem.mem_of_lookup hy))
  · exact Nat.le_of_lt (x.above y c (PySem.mem_of_lookup h))
  · have hi : i < vs.length := by
      unfold start at h2
      by_cases hi:i < vs.length
      · exact hi
      · rw [bD (by simpa using hi)] at h2
        rw [bI] at h2
        split at h2 <;> cases h2
    have ha:vs[i]? = some v:=by
      unfold start at h2
      rw [bY (by simpa using hi),cE] at h2
      cases e:vs[i]? with
      | none=>rw [e] at h2; cases h2
      | some a=>rw [e] at h2; cases h2; rfl
    obtain ⟨u,hu,rv⟩:=r.get ha
    have hp:ps[i]? = some y:=by
      rw [← S.pre,List.getElem?_take_of_lt (by omega)]; exact h1
    have ndP:ps.Nodup:=by rw [← S.pre]; exact S.nd.sublist (List.take_sublist _ _)
    refine ⟨u,rv,?_⟩
    rcases S.par y (aS hp) with k | k
    · exact .inl ⟨k,sW ndP hp hu k⟩
    · obtain ⟨c, e⟩ := yV (n := s.heap.objs.size + 1) k
      refine .inr ⟨.inl k,c,e,?_⟩
      have q:=x.cell y c e
      rw [sY ndP hp hu (by show scope.names.lookup y≠_; rw [k]; decide)] at q
      exact q
  · exact e0.hok.fresh (Nat.le_of_lt (x.above y c (PySem.mem_of_lookup h)))
  · unfold start
    show _=N.length
    rw [aI,aE,aG]
    omega
theorem aMm {CX:CXT} {P:Program} {w:World} {K:dH} {mg:gO} {base:Heap} {k:Nat} {f:Addr} {name qual:Str} {params:Arguments} {body:List Stmt} {scope:Scope} {dV kV doc pm cdv ct oc:Value} {an od:Option Addr}
    {osl:Array (Option Value)} {N ps:List Str} {sp:Sp} (lk:K.lookup f=some ⟨oc,od,.func (PySem.W.fnOf name qual params body scope dV kV doc pm an cdv ct),osl⟩) (hcd:PySem.W.codeIn K cdv qual=true) (S:FnScope N ps scope)
    (len:∀ vs H Q E,sp vs H Q E→vs.length=ps.length)
    (hbody:∀ (A:Around) (outer:List Env) (s:Shared) (H:Hp) (vs:List V) (Q:VK) (E:XK),Room k (A.deeper (envOfC qual scope s.heap.objs.size f cdv))→sp vs H Q E →
      ∃ t,PSs (nB CX P w K mg base N qual scope f cdv A outer s H E) body t∧t { nx:=fun _ H'=>Q .non H',rt:=Q } (start N vs) H) :
    FnOk P w K mg base CX (k + 1) f (PySem.W.fnOf name qual params body scope dV kV doc pm an cdv ct) ps sp:=by
  refine ⟨len,fun A outer s H args us vs Q E hr e0 hb r hsp => ?_⟩
  have hl:=len _ _ _ _ hsp
  have KX:K.In s.heap:=e0.mod.kin.keeps fun b o e=>(e0.bs b o e).1
  have lim:s.heap.NoLimit:=e0.mod.nolimit.keeps fun b o e=>(e0.bs b o e).1
  have hkind:∀ y∈ps.zip us,scope.names.lookup y.1=some .local∨(scope.names.lookup y.1=some .cell∧((cellsFrom (s.heap.objs.size + 1) scope.names []).lookup y.1).isSome=true):=fun ⟨n,v⟩ hy=>by
    rcases S.par n (List.of_mem_zip hy).1 with q | q
    · exact .inl q
    · exact .inr ⟨q,PySem.W.cellsFrom_some _ _ _ (.inl q)⟩
  refine codeAny_call_function hr.depth (KX _ _ lk) rfl S.co S.gen rfl (PySem.W.codeRec_of KX hcd) (hb _ _ _ _ ?_)
  refine wpAny_newFunctionEnv_cells S.kind hkind fun env he s1 x => ?_
  subst he
  refine ⟨lim.keeps x.toInCall.keep,codeAny_func ?_⟩
  obtain ⟨t,ht,hq⟩:=hbody A outer s H vs Q E (hr.deeper _) hsp
  have I:Inv (nB CX P w K mg base N qual scope f cdv A outer s H E) [] (start N vs) H s1:=aBz S hr.hd e0 hl r x
  refine wpAny_mono (ht [] s1 (start N vs) H _ I hq) (fun fl s' hs => ?_) fun e s' hs=>hs
  have fin:∀ {σ':St} {H':Hp} {v:V} {u:Value},Inv (nB CX P w K mg base N qual scope f cdv A outer s H E) [] σ' H' s'→RelV v u→Q v H'→CE outer P w H s Q u s' :=
    fun {σ' H' v u} J rv q=>⟨v,H',J.os,J.bare,J.base,J.hok,rv,q⟩
  cases fl with
  | ret u =>
    obtain ⟨v,σ',H',J,rv,q⟩:=hs
    exact fin J rv q
  | next =>
    obtain ⟨σ',H',J,q⟩:=hs
    exact fin (v:=V.non) (u:=Value.none) J rfl q
  | brk =>
    obtain ⟨_,_,_,q⟩:=hs
    exact False.elim q
  | cont =>
    obtain ⟨_,_,_,q⟩:=hs
    exact False.elim q
section
variable {X:Cx} {x:Str} {p pos:Pos} {e:Expr} {es:List Expr} {t:TA} {id T:String} {r:List V→Hp→VK→Prop}
def tCB (r:List V→Hp→VK→Prop) (t:TA):TE:=fun σ H Q=>t σ H fun vs H1=>r vs H1 Q
theorem hm_ (hc:CallR X (.builtin id) r) (hg:Gl X x) (hm:X.mg x=none) (hv:bootBuiltins x=some (.builtin id)) (ha:PA X (e :: es) t) (hn:x ≠ "__name__" := by decide) (hdb:(x == ("__debug__" : Str))=false:=by decide)
    (he:starEach (e :: es) X.env=(false,eval e X.env) :: starEach es X.env:=by rfl) (hpl:(backTo pos (starEach es X.env)).any (·.1)=false:=by rfl):PE X (.Call (.Name x p) (e :: es) [] pos) (tCB r t):=by
  intro pins s σ H Q I h
  refine wpAny_Call_Name_kw (gh_ I hg hm hv ?_ hn hdb)
  exact PyProof.Rows.callWith_builtin1 (fL (ha pos pins s σ H _ I h) fun us s1 ⟨vs,H1,I1,r1,q1⟩=>hc pins s1 σ H1 vs us Q I1 r1 q1) he hpl
theorem aBj (hc:CallR X (.type T) r) (hg:Gl X x) (hm:X.mg x=none) (hv:bootBuiltins x=some (.type T)) (ha:PA X (e :: es) t) (hn:x ≠ "__name__" := by decide) (hdb:(x == ("__debug__" : Str))=false:=by decide)
    (he:starEach (e :: es) X.env=(false,eval e X.env) :: starEach es X.env:=by rfl) (hpl:(backTo pos (starEach es X.env)).any (·.1)=false:=by rfl):PE X (.Call (.Name x p) (e :: es) [] pos) (tCB r t):=by
  intro pins s σ H Q I h
  refine wpAny_Call_Name_kw (gh_ I hg hm hv ?_ hn hdb)
  exact eG (fL (ha pos pins s σ H _ I h) fun us s1 ⟨vs,H1,I1,r1,q1⟩=>hc pins s1 σ H1 vs us Q I1 r1 q1) he hpl
end
end L2
namespace HT
open PySem PyProof.Rows
section
open PySem.SeqAt
open PySem.AutoSeq1 (wpAny_loadPart')
open PySem.MeetsSeq PySem.MeetsSeq2 PySem.MeetsSeq3
end
section
variable {prog:Program} {w:World} {A:Around} {E:gU} {s:Shared}
def sIx (n d:Nat):Option Int→Nat
  | none=>d
  | some v=>if v < 0 then (v + (n:Int)).toNat else min v.toNat n
theorem sIx_nat (n d k:Nat):sIx n d (some (k:Int))=min k n:=by
  show (if (k:Int) < 0 then ((k:Int) + (n:Int)).toNat else min (k:Int).toNat n)=min k n
  rw [if_neg (by omega),dA]
end
end HT
namespace L2
open PySem PySem.Spec PyProof.Rows
abbrev TO:=St→Hp→(Option Int→Hp→Prop)→Prop
def PO (X:Cx) (e:Option Expr) (t:TO):Prop :=
  ∀ (pins : gC) (s : Shared) (σ : St) (H : Hp) (Q : Option Int → Hp → Prop), Inv X pins σ H s → t σ H Q →
    wpAny (model X.prog X.w) X.A (evalPart e X.env) (fun u s' => ∃ o H',Inv X pins σ H' s'∧IsPart u o∧Q o H') X.xe s
def aIn:TO:=fun _ H Q=>Q none H
def aSq (t:TE):TO:=fun σ H Q=>t σ H fun x H1 => ∃ i,x=.int i∧Q (some i) H1
theorem pU {ns:List Int}:∀ {us:List Value},Vals (ns.map V.int) us→IntsAre us ns:=by
  induction ns with
  | nil=>intro us r; rw [bM] at r; cases r; exact .nil
  | cons n ns ih =>
    intro us r
    rw [aP] at r
    cases r with
    | cons r1 r2 =>
      obtain ⟨t,e⟩:=r1
      subst e
      exact .cons n t (ih r2)
section
variable {X:Cx} {e:Expr} {te:TE} {lo hi:Option Expr} {tl th:TO} {pos p2:Pos}
theorem nW:PO X none aIn:=by
  intro pins s σ H Q I h
  rw [evalPart_none]
  exact wpAny_pure ⟨none,H,I,.none,h⟩
theorem nV (h:PE X e te):PO X (some e) (aSq te):=by
  intro pins s σ H Q I hw
  rw [evalPart_some]
  refine fL (h pins s σ H _ I hw) fun u s1 ⟨x,H1,I1,r1,q1⟩ => ?_
  obtain ⟨i,rfl,q⟩:=q1
  obtain ⟨t,rfl⟩:=r1
  exact ⟨some i,H1,I1,.int i t,q⟩
def SlR (X:Cx) (r:V→Option Int→Option Int→Hp→VK→Prop):Prop :=
  ∀ (pins : gC) (s : Shared) (σ : St) (H : Hp) (x : V) (v vl vu : Value) (lo hi : Option Int) (sl : Addr) (Q : VK), Inv X pins σ H s → RelV x v → s.heap.IsSliceOf sl vl vu .none → IsPart vl lo → IsPart vu hi → r x lo hi H Q →
    ∃ T id,typeLookup (.type T) "__getitem__" = pure (some (.builtin id))∧s.TypeIs v T∧wpAny (model X.prog X.w) X.A (getItem v (.ref sl)) (EP X pins σ Q) X.xe s
theorem SlR.or {r r':V→Option Int→Option Int→Hp→VK→Prop} (h:SlR X r) (h':SlR X r'):SlR X (fun x lo hi H Q=>r x lo hi H Q∨r' x lo hi H Q):=by
  intro pins s σ H x v vl vu lo hi sl Q I rx hs pl pu q
  rcases q with q | q
  · exact h pins s σ H x v vl vu lo hi sl Q I rx hs pl pu q
  · exact h' pins s σ H x v vl vu lo hi sl Q I rx hs pl pu q
def tSl (r:V→Option Int→Option Int→Hp→VK→Prop) (te:TE) (tl th:TO):TE:=fun σ H Q=>te σ H fun x H1=>tl σ H1 fun l H2=>th σ H2 fun u H3=>r x l u H3 Q
theorem hl_ {r:V→Option Int→Option Int→Hp→VK→Prop} (hr:SlR X r) (he:PE X e te) (hl:PO X lo tl) (hu:PO X hi th):PE X (.Subscript e (.Slice lo hi none p2) pos) (tSl r te tl th):=by
  intro pins s σ H Q I h
  refine Subscript_ (fL (he pins s σ H _ I h) fun v s1 ⟨x,H1,I1,r1,q1⟩ => ?_)
  refine wpAny_Slice (fL (hl pins s1 σ H1 _ I1 q1) fun vl s2 ⟨l,H2,I2,pl,q2⟩=>fL (hu pins s2 σ H2 _ I2 q2) fun vu s3 ⟨u,H3,I3,pu,q3⟩ => ?_)
  rw [evalPart_none]
  refine wpAny_pure ?_
  have I4:Inv X pins σ H3 { s3 with heap:=s3.heap.push { cls:=.type "slice",data:=.fields #[vl,vu,.none] } }:=I3.kept (t':=s3.toks) fun b ob q=>aA _ q
  obtain ⟨T,id,hT,ht,hg⟩:=hr pins { s3 with heap:=s3.heap.push { cls:=.type "slice",data:=.fields #[vl,vu,.none] } } σ H3 x v vl vu l u s3.heap.objs.size Q I4 r1 (Heap.IsSliceOf.new ..) pl pu q3
  show wpAny (model X.prog X.w) X.A (subscriptTail e (.Slice lo hi none p2) v (.ref s3.heap.objs.size)) (EP X pins σ Q) X.xe { s3 with heap:=s3.heap.push { cls:=.type "slice",data:=.fields #[vl,vu,.none] } }
  exact tail_any (ops:=[.ref s3.heap.objs.size,v]) ht hT hg (by with_unfolding_all rfl)
def aHi (xs:List V) (lo hi:Option Int):List V:=(xs.drop (HT.sIx xs.length 0 lo)).take (HT.sIx xs.length xs.length hi - HT.sIx xs.length 0 lo)
theorem yS (xs:List V) (lo hi:Option Int):(aHi xs lo hi).length≤xs.length:=by
  unfold aHi
  rw [cI,List.length_drop]
  omega
end
def ixN (n:Nat) (i:Int):Option Nat:=if 0≤i then (if i < n then some i.toNat else none) else if -(n:Int)≤i then some (i + n).toNat else none
def atI {α:Type} (xs:List α) (i:Int):Option α:=(ixN xs.length i).bind fun j=>xs[j]?
theorem v4 {n:Nat} {i:Int} {j:Nat} (h:ixN n i=some j):seqIndex? i n=some j∧j < n ∧ -(n:Int)≤i∧i < n:=by
  unfold ixN at h
  by_cases h0:0≤i
  · rw [if_pos h0] at h
    by_cases h1:i < n
    · rw [if_pos h1] at h
      have e:i.toNat=j:=Option.some.inj h
      exact ⟨by rw [seqIndex_of h0 h1,e],by omega,by omega,h1⟩
    · rw [if_neg h1] at h; cases h
  · rw [if_neg h0] at h
    by_cases h1 : -(n:Int)≤i
    · rw [if_pos h1] at h
      have e:(i + n).toNat=j:=Option.some.inj h
      exact ⟨by rw [seqIndex_neg (by omega) h1,e],by omega,h1,by omega⟩
    · rw [if_neg h1] at h; cases h
theorem wA {α:Type} {xs:List α} {i:Int} {v:α} (h:atI xs i=some v):∃ j,seqIndex? i xs.length=some j∧xs[j]? = some v∧j < xs.length ∧ -(xs.length:Int)≤i∧i < xs.length:=by
  unfold atI at h
  cases e:ixN xs.length i with
  | none=>rw [e] at h; cases h
  | some j =>
    rw [e] at h
    obtain ⟨h1,h2,h3,h4⟩:=v4 e
    exact ⟨j,h1,h,h2,h3,h4⟩
theorem fj_ {α:Type} {xs:List α} {j:Nat} {v:α} (h:xs[j]? = some v):atI xs (j:Int)=some v:=by
  have hj:j < xs.length:=(aK.mp h).1
  have e:ixN xs.length (j:Int)=some j:=by
    unfold ixN
    rw [if_pos (by omega),if_pos (by omega)]; simp
  unfold atI; rw [e]; exact h
theorem aHw {α:Type} (xs:List α) (v:α):atI (xs ++ [v]) (-1)=some v:=by
  have hl:(xs ++ [v]).length=xs.length + 1:=by simp
  have e:ixN (xs ++ [v]).length (-1)=some xs.length:=by
    unfold ixN
    rw [hl,if_neg (by decide),if_pos (by omega)]
    congr 1
    omega
  unfold atI
  rw [e]
  show (xs ++ [v])[xs.length]? = some v
  simp
def oK (b:Expr):Prop := ∀ o i,subscripted b false o i=operate [o,i] (getItem o i)
def IxR (X:Cx) (r:R2):Prop :=
  ∀ (value slice : Expr) (pins : gC) (s : Shared) (σ : St) (H : Hp) (x y : V) (v u : Value) (Q : VK), Inv X pins σ H s → RelV x v → RelV y u → r x y H Q →
    subscripted slice false v u=operate [v,u] (getItem v u)→wpAny (model X.prog X.w) X.A (subscriptTail value slice v u) (EP X pins σ Q) X.xe s
def MtR (X:Cx) (id:String) (r:V→List V→Hp→VK→Prop):Prop :=
  ∀ (pins : gC) (s : Shared) (σ : St) (H : Hp) (x : V) (xs : List V) (v : Value) (us : List Value) (Q : VK), Inv X pins σ H s → RelV x v → Vals xs us → r x xs H Q →
    wpAny (model X.prog X.w) X.A (call (.builtin id) (v :: us)) (EP X pins σ Q) X.xe s
section
variable {X:Cx} {a b:Expr} {ta tb:TE} {pos:Pos}
theorem IxR.or {r r':R2} (h:IxR X r) (h':IxR X r'):IxR X (fun x y H Q=>r x y H Q∨r' x y H Q):=by
  intro value slice pins s σ H x y v u Q I rx ry q hs
  rcases q with q | q
  · exact h value slice pins s σ H x y v u Q I rx ry q hs
  · exact h' value slice pins s σ H x y v u Q I rx ry q hs
theorem yE {r:R2} (hr:IxR X r) (ha:PE X a ta) (hb:PE X b tb) (hs:oK b):PE X (.Subscript a b pos) (tOp r ta tb):=by
  intro pins s σ H Q I h
  exact Subscript_ (aRc ha hb I h fun v u s2 x y H2 I2 rx ry q=>hr a b pins s2 σ H2 x y v u Q I2 rx ry q (hs _ _))
def aEn (K:dH):R2:=fun x y H Q => ∃ p xs i v,x=.ref p∧y=.int i∧SqL K H p xs∧atI xs i=some v∧Q v H
def aNt (K:dH):R2:=fun x y H Q => ∃ p xs i v,x=.ref p∧y=.int i∧SqT K H p xs∧atI xs i=some v∧Q v H
def aTa:R2:=fun x y H Q => ∃ z i c,x=.str z∧y=.int i∧z.length≤sizeLine∧atI z.cps.toList i=some c∧Q (.str ⟨#[c]⟩) H
theorem dj_:IxR X (aEn X.K):=by
  intro value slice pins s σ H x y v u Q I rx ry h hs
  obtain ⟨p,xs,i,z,rfl,rfl,hq,he,q⟩:=h
  cases rx
  obtain ⟨t,rfl⟩:=ry
  obtain ⟨its,r,pl,hz⟩:=I.list hq
  obtain ⟨j,h1,h2,h3,h4,h5⟩:=wA he
  obtain ⟨w,ew,rw'⟩:=r.get h2
  have hl:=r.length
  have hn:=mD
  have fin:EP X pins σ Q w s:=⟨z,H,I,rw',q⟩
  by_cases h0:0≤i
  · have hj : i.toNat = j := by
      rw [seqIndex_of h0 h5] at h1
      exact Option.some.inj h1
    exact item_listR pl.isList h0 (by omega) (by rw [hj]; simpa using ew) fin hs
  · have hj : (i + (its.toArray.size : Int)).toNat = j := by
      rw [seqIndex_neg (by omega) h4] at h1
      rw [bA,← hl]
      exact Option.some.inj h1
    exact subscriptTail_builtinR (x:=w) pl.isList.typeIs slot_list_getitem.lookup
      (wpAny_getItem_list_neg (Q:=fun r s'=>r=w∧EP X pins σ Q r s') pl.isList (by omega) (by rw [bA] <;> omega) (by omega) (by rw [hj]; simpa using ew) ⟨rfl,fin⟩) hs
theorem aQb:IxR X (aNt X.K):=by
  intro value slice pins s σ H x y v u Q I rx ry h hs
  obtain ⟨p,xs,i,z,rfl,rfl,hq,he,q⟩:=h
  cases rx
  obtain ⟨t,rfl⟩:=ry
  obtain ⟨its,r,pl,hz⟩:=I.tuple hq
  obtain ⟨j,h1,h2,h3,h4,h5⟩:=wA he
  obtain ⟨w,ew,rw'⟩:=r.get h2
  have hl:=r.length
  have hn:=mD
  have fin:EP X pins σ Q w s:=⟨z,H,I,rw',q⟩
  exact subscriptTail_builtinR (x:=w) pl.typeIs slot_tuple_getitem.lookup
    (getItem_tuple (j:=j) (Q:=fun r s'=>r=w∧EP X pins σ Q r s') pl (by omega) (by omega) (by rw [bA,← hl]; exact h1) (by simpa using ew) ⟨rfl,fin⟩) hs
theorem pR:IxR X aTa:=by
  intro value slice pins s σ H x y v u Q I rx ry h hs
  obtain ⟨z,i,c,rfl,rfl,hz,he,q⟩:=h
  obtain ⟨t,rfl⟩:=rx
  obtain ⟨t',rfl⟩:=ry
  obtain ⟨j,h1,h2,h3,h4,h5⟩:=wA he
  have hl:z.cps.toList.length=z.length:=by simp [Str.length]
  rw [hl] at h1 h4 h5
  have hn:=mD
  exact tail_any (typeIs_str s z t) slot_str_getitem.lookup (getItem_str (c:=c) (by
    have e1:decide (i < -(2 ^ 63:Int))=false:=decide_eq_false (by omega)
    have e2:decide (i≥2 ^ 63)=false:=decide_eq_false (by omega)
    rw [e1,e2,Bool.or_false]) (by rw [h1]; simpa using h2) ⟨.str ⟨#[c]⟩,H,I.tok _,⟨_,rfl⟩,q⟩) hs
theorem h_ (its:List Value) (n j:Nat) (u:Value):Obj.mapSeq (·.setIfInBounds j u) { cls:=.type "list",data:=.seq its.toArray n }={ cls:=.type "list",data:=.seq (its.set j u).toArray n }:=by
  simp [Obj.mapSeq]
theorem Inv.lst {pins:gC} {σ:St} {H:Hp} {s:Shared} {p:Addr} {xs:List V} (I:Inv X pins σ H s) (h:H p=some (.lst xs)) :
    ∃ (its:List Value) (n:Nat),Vals xs its∧s.heap.get? p=some { cls:=.type "list",data:=.seq its.toArray n }∧xs.length≤sizeLine:=by
  obtain ⟨z,its,n,r,e⟩:=I.hok p _ h
  exact ⟨its,n,r,e,z⟩
theorem Inv.lstUpd {pins:gC} {σ:St} {H:Hp} {s:Shared} {p:Addr} {xs ys:List V} {its its':List Value} {n n':Nat} {f:Obj→Obj} (I:Inv X pins σ H s) (h:H p=some (.lst xs))
    (ho:s.heap.get? p=some { cls:=.type "list",data:=.seq its.toArray n }) (hf:f { cls:=.type "list",data:=.seq its.toArray n }={ cls:=.type "list",data:=.seq its'.toArray n' }) (r:Vals ys its') (hz:ys.length≤sizeLine) (t:Nat) :
    Inv X pins σ (upd H p (.lst ys)) { s with heap:=s.heap.update p f,toks:=t }:=by
  have e:(s.heap.update p f).get? p=some { cls:=.type "list",data:=.seq its'.toArray n' }:=by
    rw [eZ f ho (by rw [hf] <;> rfl),hf]
  refine I.write (x:=p) (e:=p) (by rw [h]; trivial) (.inl rfl) (fun b u hb q=>(bR _ _ (Ne.symm hb)).trans q) ⟨_,e⟩ ?_
  exact ⟨hz,its',n',r,e⟩
def aMf:V→V→V→Hp→(Hp→Prop)→Prop:=fun o i v H Q => ∃ p xs k j,o=.ref p∧i=.int k∧H p=some (.lst xs)∧ixN xs.length k=some j∧Q (upd H p (.lst (xs.set j v)))
theorem fm_:aVj X aMf:=by
  intro pins s σ H o i v ov iv u Q I ro ri rv h
  obtain ⟨p,xs,k,j,rfl,rfl,hp,hj,q⟩:=h
  cases ro
  obtain ⟨t,rfl⟩:=ri
  obtain ⟨its,n,r,ho,hz⟩:=I.lst hp
  obtain ⟨h1,h2,h3,h4⟩:=v4 hj
  have hl:=r.length
  have hn:=mD
  have I':Inv X pins σ (upd H p (.lst (xs.set j v))) { s with heap:=s.heap.update p (Obj.mapSeq (·.setIfInBounds j u)) } :=
    I.lstUpd hp ho (h_ its n j u) (r.set rv j) (by rw [bF]; exact hz) s.toks
  by_cases h0:0≤k
  · have hk : k.toNat = j := by
      rw [seqIndex_of h0 h4] at h1
      exact Option.some.inj h1
    exact PySem.W.ki_setAt ho h0 (by omega) (by rw [bA,← hl]; exact h4) (by rw [hk]; exact ⟨_,I',q⟩)
  · have hk : (k + (its.toArray.size : Int)).toNat = j := by
      rw [seqIndex_neg (by omega) h3] at h1
      rw [bA,← hl]
      exact Option.some.inj h1
    exact PySem.W.ki_setBack ho (by omega) (by rw [bA,← hl]; exact h3) (by omega) (by rw [hk]; exact ⟨_,I',q⟩)
theorem tS (lo hi:Option Int) (n:Nat):(sliceBounds lo hi none n).1=((HT.sIx n 0 lo:Nat):Int)∧(sliceBounds lo hi none n).2.1=((HT.sIx n n hi:Nat):Int)∧(sliceBounds lo hi none n).2.2=1:=by
  refine ⟨?_,?_,rfl⟩
  · cases lo with
    | none=>simp [sliceBounds,HT.sIx]
    | some i =>
      simp only [sliceBounds,HT.sIx,Option.getD_none,show (1:Int) > 0 by decide,if_true]
      by_cases h:i < 0
      · simp only [h,if_true] <;> omega
      · simp only [h,if_false] <;> omega
  · cases hi with
    | none=>simp [sliceBounds,HT.sIx]
    | some i =>
      simp only [sliceBounds,HT.sIx,Option.getD_none,show (1:Int) > 0 by decide,if_true]
      by_cases h:i < 0
      · simp only [h,if_true] <;> omega
      · simp only [h,if_false] <;> omega
theorem qR (its:List Value) (lo hi:Option Int):slicePick its.toArray lo hi none=((its.drop (HT.sIx its.length 0 lo)).take (HT.sIx its.length its.length hi - HT.sIx its.length 0 lo)).toArray:=by
  obtain ⟨h1,h2,h3⟩:=tS lo hi its.toArray.size
  unfold slicePick
  rw [h1,h2,h3]
  simp only [sliceRange_one,pick_run,bA] <;> rfl
def aSy (K:dH):V→Option Int→Option Int→Hp→VK→Prop:=fun x lo hi H Q => ∃ a xs,x=.ref a∧SqL K H a xs∧∀ p,H p=none→Q (.ref p) (upd H p (.lst (aHi xs lo hi)))
theorem aIr:SlR X (aSy X.K):=by
  intro pins s σ H x v vl vu lo hi sl Q I rx hs pl pu h
  obtain ⟨a,xs,rfl,hx,q⟩:=h
  cases rx
  obtain ⟨its,r,ht,hz⟩:=I.list hx
  have hlen:=r.length
  refine ⟨"list",_,slot_list_getitem.lookup,ht.isList.typeIs,?_⟩
  refine wpAny_getItem_list_slice ht.isList hs pl pu .none (by simp) ?_ (by rw [bA] <;> omega)
  rw [qR,← hlen]
  refine ⟨.ref s.heap.objs.size,_,I.laid (t':=s.toks) (o:=.lst (aHi xs lo hi)) (fun b ob q=>aA _ q) (bJ _) ?_,rfl,q _ (I.hok.fresh (bJ _))⟩
  exact ⟨bP (yS xs lo hi) hz,_,0,(r.drop (HT.sIx xs.length 0 lo)).take (HT.sIx xs.length xs.length hi - HT.sIx xs.length 0 lo),aU _ rfl⟩
def lH:V→Bool
  | .non=>true
  | .bl _=>true
  | .int _=>true
  | .str _=>true
  | _=>false
def eqV:V→V→Bool
  | .non,.non=>true
  | .bl a,.bl b=>a == b
  | .bl a,.int b=>(if a then 1 else 0) == b
  | .int a,.bl b=>a == (if b then 1 else 0)
  | .int a,.int b=>a == b
  | .str a,.str b=>a == b
  | _,_=>false
theorem aQo {A:Around} {s:Shared} {y x:V} {u v:Value} (ry:RelV y u) (rx:RelV x v) (fy:lH y=true) (fx:lH x=true):SeqAt.EqAt A s u v (eqV y x):=by
  cases y with
  | non =>
    cases ry
    cases x with
    | non=>cases rx; exact SeqAt.EqAt.same _
    | bl b=>cases rx; exact SeqAt.EqAt.none_bool b
    | int b=>obtain ⟨t,rfl⟩:=rx; exact SeqAt.EqAt.none_int b t
    | str b=>obtain ⟨t,rfl⟩:=rx; exact SeqAt.EqAt.none_str b t
    | _=>exact absurd (show false=true from fx) aW
  | bl a =>
    cases ry
    cases x with
    | non=>cases rx; exact SeqAt.EqAt.bool_none a
    | bl b=>cases rx; exact SeqAt.EqAt.bool_bool a b
    | int b=>obtain ⟨t,rfl⟩:=rx; exact SeqAt.EqAt.bool_int a b t
    | str b=>obtain ⟨t,rfl⟩:=rx; exact SeqAt.EqAt.bool_str a b t
    | _=>exact absurd (show false=true from fx) aW
  | int a =>
    obtain ⟨t',rfl⟩:=ry
    cases x with
    | non=>cases rx; exact SeqAt.EqAt.int_none a t'
    | bl b=>cases rx; exact SeqAt.EqAt.int_bool a t' b
    | int b=>obtain ⟨t,rfl⟩:=rx; exact SeqAt.EqAt.int_int a t' b t
    | str b=>obtain ⟨t,rfl⟩:=rx; exact SeqAt.EqAt.int_str a t' b t
    | _=>exact absurd (show false=true from fx) aW
  | str a =>
    obtain ⟨t',rfl⟩:=ry
    cases x with
    | non=>cases rx; exact SeqAt.EqAt.str_none a t'
    | bl b=>cases rx; exact SeqAt.EqAt.str_bool a t' b
    | int b=>obtain ⟨t,rfl⟩:=rx; exact SeqAt.EqAt.str_int a t' b t
    | str b=>obtain ⟨t,rfl⟩:=rx; exact SeqAt.EqAt.str_str a t' b t
    | _=>exact absurd (show false=true from fx) aW
  | _=>exact absurd (show false=true from fy) aW
def eqU (x:V) (u:Value):Bool:=match u with
  | .none=>eqV .non x
  | .bool b=>eqV (.bl b) x
  | .int i _=>eqV (.int i) x
  | .str z _=>eqV (.str z) x
  | _=>false
theorem aHc {x y:V} {u:Value} (r:RelV y u) (f:lH y=true):eqU x u=eqV y x:=by
  cases y with
  | non=>cases r; rfl
  | bl b=>cases r; rfl
  | int i=>obtain ⟨t,rfl⟩:=r; rfl
  | str z=>obtain ⟨t,rfl⟩:=r; rfl
  | _=>exact absurd (show false=true from f) aW
theorem wB {x:V}:∀ {xs:List V} {us:List Value},Vals xs us→xs.all lH=true→us.any (eqU x)=xs.any fun y=>eqV y x
  | _,_,.nil,_=>rfl
  | y :: xs, u :: us, .cons r t, f => by
    rw [List.all_cons,fF] at f
    rw [fW,fW,aHc r f.1,wB t f.2]
theorem pL {A:Around} {s:Shared} {x:V} {v:Value} (rx:RelV x v) (fx:lH x=true):∀ {xs:List V} {us:List Value},Vals xs us→xs.all lH=true→∀ u∈us,SeqAt.EqAt A s u v (eqU x u)
  | _,_,.nil,_=>fun u hu=>by cases hu
  | y :: xs, u :: us, .cons r t, f => fun u' hu => by
    rw [List.all_cons,fF] at f
    rcases aF.mp hu with rfl | hu
    · rw [aHc r f.1]; exact aQo r rx f.1 fx
    · exact pL rx fx t f.2 u' hu
def inV (x:V) (xs:List V):Bool:=xs.any fun y=>eqV y x
def rIn (K:dH) (neg:Bool):R2:=fun x y H Q => ∃ p xs,y=.ref p∧(SqL K H p xs∨SqT K H p xs)∧lH x=true∧xs.all lH=true∧Q (.bl (if neg then !inV x xs else inV x xs)) H
theorem aBn:OpR X (compareOp .In) (rIn X.K false):=by
  intro pins s σ H x y v u Q I rx ry h
  obtain ⟨p,xs,rfl,hq,fx,fs,q⟩:=h
  cases ry
  rcases hq with hq | hq
  · obtain ⟨its, r, pl, hz⟩ := I.list hq
    refine SeqAt.in_listAt (eqU x) pl.isList (fun w hw=>pL rx fx r fs w (by simpa using hw)) ⟨.bl _,H,I,rfl,?_⟩
    rw [show its.toArray.any (eqU x)=its.any (eqU x) by simp,wB r fs]
    exact q
  · obtain ⟨its, r, pl, hz⟩ := I.tuple hq
    refine SeqAt.in_tupleAt (eqU x) pl (fun w hw=>pL rx fx r fs w (by simpa using hw)) ⟨.bl _,H,I,rfl,?_⟩
    rw [show its.toArray.any (eqU x)=its.any (eqU x) by simp,wB r fs]
    exact q
theorem vU:CallR X (.builtin "len") (fun xs H Q => ∃ p ys,xs=[.ref p]∧(SqL X.K H p ys∨SqT X.K H p ys)∧Q (.int ys.length) H):=by
  intro pins s σ H xs us Q I r h
  obtain ⟨p,ys,rfl,hq,q⟩:=h
  obtain ⟨u,rfl,rx⟩:=jZ r
  cases rx
  have hn:=mD
  rcases hq with hq | hq
  · obtain ⟨its, r', pl, hz⟩ := I.list hq
    have hlen:=r'.length
    exact Calls.call_len_list pl.isList (by simp only [bA] <;> omega) ⟨.int ys.length,H,I.tok _,⟨s.toks + 1,by rw [bA,hlen]⟩,q⟩
  · obtain ⟨its, r', pl, hz⟩ := I.tuple hq
    have hlen:=r'.length
    exact len_tuple pl (by simp only [bA] <;> omega) ⟨.int ys.length,H,I.tok _,⟨s.toks + 1,by rw [bA,hlen]⟩,q⟩
theorem lI:CallR X (.builtin "len") (fun xs H Q => ∃ z,xs=[.str z]∧z.length≤sizeLine∧Q (.int z.length) H):=by
  intro pins s σ H xs us Q I r h
  obtain ⟨z,rfl,hz,q⟩:=h
  obtain ⟨u,rfl,t,rfl⟩:=jZ r
  have hn:=mD
  exact len_str (by omega) ⟨.int z.length,H,I.tok _,⟨_,rfl⟩,q⟩
theorem CallR.or {f:Value} {r r':List V→Hp→VK→Prop} (h:CallR X f r) (h':CallR X f r'):CallR X f (fun xs H Q=>r xs H Q∨r' xs H Q):=by
  intro pins s σ H xs us Q I rs q
  rcases q with q | q
  · exact h pins s σ H xs us Q I rs q
  · exact h' pins s σ H xs us Q I rs q
def tyV (K:dH) (T:String) (x:V) (H:Hp):Prop:=match x with
  | .str _=>T = "str"
  | .int _=>T = "int"
  | .ref p=>(T = "list" ∧ ∃ xs,SqL K H p xs)∨(T = "tuple" ∧ ∃ o,K.lookup p=some o∧o.cls=.type "tuple" ∧ o.dict=none) ∨
      (T = "dict" ∧ ((∃ kvs,H p=some (.dK kvs))∨∃ kvs,H p=some (.dT kvs)))∨(T = "set" ∧ ∃ S n,H p=some (.set S n))
  | _=>False
theorem aDu {pins:gC} {σ:St} {H:Hp} {s:Shared} {T:String} {x:V} {v:Value} (I:Inv X pins σ H s) (r:RelV x v) (ty:tyV X.K T x H) :
    s.TypeIs v T∧∀ a,v=.ref a→∃ ob,s.heap.get? a=some ob∧ob.dict=none:=by
  cases x with
  | str z =>
    obtain ⟨t,rfl⟩:=r
    cases (show T = "str" from ty)
    exact ⟨typeIs_str s z t,fun _ e=>nomatch e⟩
  | int i =>
    obtain ⟨t,rfl⟩:=r
    cases (show T = "int" from ty)
    exact ⟨typeIs_int s i t,fun _ e=>nomatch e⟩
  | ref p =>
    cases r
    rcases ty with ⟨rfl,xs,hq⟩ | ⟨rfl,o,hk,hc,hd⟩ | ⟨rfl,hk⟩ | ⟨rfl,S,n,hk⟩
    · obtain ⟨its, _, pl, _⟩ := I.list hq
      refine ⟨pl.isList.typeIs,fun a e => ?_⟩
      cases e
      obtain ⟨o,n,e,c,hd,_⟩:=pl
      exact ⟨o,e,hd⟩
    · refine ⟨⟨o, I.kIn p o hk, hc⟩, fun a e => ?_⟩
      cases e
      exact ⟨o,I.kIn _ o hk,hd⟩
    · have z : ∃ o, s.heap.get? p = some o ∧ o.ExactDict := by
        rcases hk with ⟨kvs,hk⟩ | ⟨kvs,hk⟩
        · obtain ⟨_, _, _, _, o, _, _, e, ex, _⟩ := I.hok p _ hk
          exact ⟨o,e,ex⟩
        · obtain ⟨_, _, _, _, o, _, _, e, ex, _⟩ := I.hok p _ hk
          exact ⟨o,e,ex⟩
      obtain ⟨o,e,ex⟩:=z
      refine ⟨⟨o,e,ex.1⟩,fun a e2 => ?_⟩
      cases e2
      exact ⟨o,e,ex.2.1⟩
    · obtain ⟨o, _, _, _, e, ex, _⟩ := I.hok p _ hk
      refine ⟨⟨o,e,ex.1⟩,fun a e2 => ?_⟩
      cases e2
      exact ⟨o,e,ex.2.1⟩
  | _=>exact False.elim ty
def aSv (K:dH) (T:String) (r:V→List V→Hp→VK→Prop) (to:TE):TE:=fun σ H Q=>to σ H fun x H1=>tyV K T x H1∧r x [] H1 Q
def tBM (K:dH) (T:String) (r:V→List V→Hp→VK→Prop) (to:TE) (t:TA):TE:=fun σ H Q=>to σ H fun x H1=>tyV K T x H1∧t σ H1 fun xs H2=>r x xs H2 Q
variable {o e:Expr} {es:List Expr} {to:TE} {t:TA} {name:Str} {apos cpos:Pos} {T id:String} {r:V→List V→Hp→VK→Prop}
theorem aOg (pa:PlainAttrs T) (slot:Slot T name id) (hty:typeOf (.builtin id)=pure (.type "method_descriptor")) (hm:MtR X id r) (ho:PE X o to)
    (hbase:attributeBase o name X.env (eval o X.env)=eval o X.env:=by rfl) (hline:(apos.endLine == cpos.line)=true:=by rfl):PE X (.Call (.Attribute o name apos) [] [] cpos) (aSv X.K T r to):=by
  intro pins s σ H Q I h
  refine wpAny_Call_method0_late hbase hline (fL (ho pins s σ H _ I h) fun v s1 ⟨x,H1,I1,r1,ty,q1⟩ => ?_)
  obtain ⟨h1,h2⟩:=aDu I1 r1 ty
  exact ⟨T,id,pa,slot,hty,h1,h2,Calls.callWith_builtin rfl (PySem.evalArgs_none (hm pins s1 σ H1 x [] v [] Q I1 r1 .nil q1))⟩
theorem t7 (pa:PlainAttrs T) (slot:Slot T name id) (hty:typeOf (.builtin id)=pure (.type "method_descriptor")) (hm:MtR X id r) (ho:PE X o to) (ha:PA X (e :: es) t)
    (hbase:attributeBase o name X.env (eval o X.env)=eval o X.env:=by rfl)
    (hfew:((backTo cpos (starEach (e :: es) X.env)).all (fun x => !x.1) && (backToKw cpos (keywordEach [] X.env)).all (fun x=>x.1.isSome)
      && decide ((e :: es).length + ([]:List Keyword).length + (if ([]:List Keyword).isEmpty then 0 else 1) < 30))=true:=by rfl)
    (hline:(apos.endLine == cpos.line)=true:=by rfl) (hs:starEach (e :: es) X.env=(false,eval e X.env) :: starEach es X.env:=by rfl) (hplain:(backTo cpos (starEach es X.env)).any (·.1)=false:=by rfl) :
    PE X (.Call (.Attribute o name apos) (e :: es) [] cpos) (tBM X.K T r to t):=by
  intro pins s σ H Q I h
  refine wpAny_Call_method_late hbase hfew hline rfl (fL (ho pins s σ H _ I h) fun v s1 ⟨x,H1,I1,r1,ty,q1⟩ => ?_)
  obtain ⟨h1,h2⟩:=aDu I1 r1 ty
  refine ⟨T,id,pa,slot,hty,h1,h2,?_⟩
  have hA:=ha cpos pins s1 σ H1 _ I1 q1
  rw [hs] at hA ⊢
  refine Calls.callWith_builtin (by show (false || (backTo cpos (starEach es X.env)).any (·.1))=false; rw [hplain] <;> rfl) (Calls.evalArgs_plain ?_)
  exact fL hA fun us s2 ⟨vs,H2,I2,r2,q2⟩=>hm pins s2 σ H2 x vs v us Q I2 r1 r2 q2
end
def MtM (X:Cx) (id:String) (r:V→List V→Hp→VK→Prop):Prop :=
  ∀ (pins : gC) (s : Shared) (σ : St) (H : Hp) (x : V) (xs : List V) (v : Value) (us : List Value) (Q : VK), Inv X pins σ H s → RelV x v → Vals xs us → r x xs H Q →
    wpAny (model X.prog X.w) X.A (call (.builtin id) (v :: us)) (EP X pins σ Q) X.xe s
theorem Vals.one:∀ {x:V} {us:List Value},Vals [x] us→∃ u,us=[u]∧RelV x u
  | _,_,.cons r .nil=>⟨_,rfl,r⟩
theorem Vals.two:∀ {x y:V} {us:List Value},Vals [x,y] us→∃ u v,us=[u,v]∧RelV x u∧RelV y v:=by
  intro x y us h
  cases h with
  | cons r t =>
    cases t with
    | cons q z =>
      cases z
      exact ⟨_,_,rfl,r,q⟩
theorem Vals.reverse {xs:List V} {us:List Value} (h:Vals xs us):Vals xs.reverse us.reverse:=by
  induction h with
  | nil=>exact .nil
  | cons r t ih=>rw [iU,iU]; exact Vals.append ih (.cons r .nil)
theorem Vals.rep {xs:List V} {us:List Value} (h:Vals xs us):∀ k:Nat,Vals (List.replicate k xs).flatten (List.replicate k us).flatten
  | 0=>.nil
  | k + 1 => by
    rw [aX,aX,dE,dE]
    exact Vals.append h (Vals.rep h k)
theorem sJ (its:List Value):∀ (k:Nat) (acc:List Value),
    List.foldl (fun x1 x2=>x1 ++ x2) acc.toArray (List.replicate k its.toArray)=(acc ++ (List.replicate k its).flatten).toArray
  | 0,acc=>by simp
  | k + 1, acc => by
    have e:acc.toArray ++ its.toArray=(acc ++ its).toArray:=by simp
    have e2:(acc ++ its) ++ (List.replicate k its).flatten=acc ++ (List.replicate (k + 1) its).flatten:=by
      rw [aX,dE,bO]
    rw [← e2,← sJ its k (acc ++ its),← e,aX,List.foldl_cons]
section
variable {X:Cx} {pins:gC} {σ:St} {H:Hp} {s:Shared} {l b:Addr} {xs ys zs:List V}
theorem Inv.lset {its its':List Value} {n:Nat} {f:Array Value→Array Value} {t':Nat} (I:Inv X pins σ H s) (hH:H l=some (.lst xs))
    (e:s.heap.get? l=some { cls:=.type "list",data:=.seq its.toArray n }) (hf:f its.toArray=its'.toArray) (hv:Vals ys its') (hz:ys.length≤sizeLine) :
    Inv X pins σ (upd H l (.lst ys)) { s with heap:=s.heap.update l (Obj.mapSeq f),toks:=t' }:=by
  have q:=PySem.IsL.update e f
  rw [hf] at q
  refine I.write (x:=l) (e:=l) (by rw [hH]; exact trivial) (.inl rfl) (fun b' u hb hu=>(bR s.heap (Obj.mapSeq f) (Ne.symm hb)).trans hu) ⟨_,q⟩ ?_
  exact ⟨hz,its',_,hv,q⟩
theorem Inv.lnew {its:List Value} {t':Nat} (I:Inv X pins σ H s) (hv:Vals ys its) (hz:ys.length≤sizeLine) :
    Inv X pins σ (upd H s.heap.objs.size (.lst ys)) { s with heap:=s.heap.push { cls:=.type "list",data:=.seq its.toArray },toks:=t' } :=
  I.laid (fun _ _ q=>aA _ q) (bJ _) ⟨hz,its,0,hv,aU _ rfl⟩
theorem Inv.fresh (I:Inv X pins σ H s):H s.heap.objs.size=none:=I.hok.fresh (bJ _)
theorem Inv.lstM (I:Inv X pins σ H s) (hH:H l=some (.lst xs)):xs.length≤sizeLine∧∃ (its:List Value) (n:Nat),Vals xs its∧xs.length=its.length∧s.heap.get? l=some { cls:=.type "list",data:=.seq its.toArray n }:=by
  obtain ⟨z,its,n,r,e⟩:=I.hok l _ hH
  exact ⟨z,its,n,r,r.length,e⟩
theorem aFu {n:Nat} (h:n≤sizeLine):Builtin.List.listTooLong n=false:=by
  unfold Builtin.List.listTooLong
  exact decide_eq_false (by omega)
end
section
variable {X:Cx}
def p_:V→List V→Hp→VK→Prop:=fun x vs H Q => ∃ l xs y,x=.ref l∧vs=[y]∧H l=some (.lst xs)∧xs.length < sizeLine∧Q .non (upd H l (.lst (xs ++ [y])))
theorem ik_:MtM X "list.append" p_:=by
  intro pins s σ H x vs v us Q I rx rv h
  obtain ⟨l,xs,y,rfl,rfl,hH,hz,q⟩:=h
  cases rx
  obtain ⟨u,rfl,ru⟩:=rv.one
  obtain ⟨z,its,n,r,hl,e⟩:=I.lstM hH
  refine call_meets F.slot_list_append ⟨_,e,rfl⟩ F.entry_list_append (F.args_list_append_2 _ _) (PySem.list_append l its.toArray n u (by rw [bA]; omega)) ⟨e,?_⟩
  refine ⟨.non,_,I.lset (its':=its ++ [u]) hH e (by simp) (r.append (.cons ru .nil)) ?_,rfl,q⟩
  rw [aI,hW]
  omega
def aXn:R2:=fun x y H Q => ∃ l b xs zs,x=.ref l∧y=.ref b∧H l=some (.lst xs)∧H b=some (.lst zs)∧xs.length + zs.length≤sizeLine∧∀ p,H p=none→Q (.ref p) (upd H p (.lst (xs ++ zs)))
theorem aOn:OpR X (binaryOp .Add) aXn:=by
  intro pins s σ H x y v u Q I rx ry h
  obtain ⟨l,b,xs,zs,rfl,rfl,hH,hB,hz,q⟩:=h
  cases rx
  cases ry
  obtain ⟨z,its,n,r,hl,e⟩:=I.lstM hH
  obtain ⟨z2,its2,n2,r2,hl2,e2⟩:=I.lstM hB
  refine PySem.P.add_list e e2 ?_ (by rw [bA,bA]; omega)
  have ea:its.toArray ++ its2.toArray=(its ++ its2).toArray:=by simp
  rw [ea]
  exact ⟨.ref _,_,I.lnew (t':=s.toks) (r.append r2) (by rw [aI]; omega),rfl,q _ I.fresh⟩
def aXm:R2:=fun x y H Q => ∃ l k xs,x=.ref l∧y=.int k∧H l=some (.lst xs) ∧ -(2 ^ 63)≤k∧k < 2 ^ 63∧xs.length * k.toNat≤sizeLine ∧
  ∀ p,H p=none→Q (.ref p) (upd H p (.lst (List.replicate k.toNat xs).flatten))
theorem aKc {α:Type} (xs:List α) (k:Nat):(List.replicate k xs).flatten.length=k * xs.length:=by
  induction k with
  | zero=>simp
  | succ k ih=>rw [aX,dE,aI,ih,Nat.succ_mul,Nat.add_comm]
theorem aOl:OpR X (binaryOp .Mult) aXm:=by
  intro pins s σ H x y v u Q I rx ry h
  obtain ⟨l,k,xs,rfl,rfl,hH,h1,h2,hz,q⟩:=h
  cases rx
  obtain ⟨t,rfl⟩:=ry
  obtain ⟨z,its,n,r,hl,e⟩:=I.lstM hH
  have hlen:its.toArray.size * k.toNat≤sizeLine:=by rw [bA,← hl]; exact hz
  have hcap:¬ its.toArray.size * k.toNat > (2 ^ 63 - 1) / 8:=by
    have:(sizeLine:Nat)≤(2 ^ 63 - 1) / 8:=by decide
    omega
  have hfit:¬ (!Builtin.List.listFitsIndex k)=true:=by
    rw [fitsIndex_both h1 h2]
    exact aW
  have hlong:¬ Builtin.List.listTooLong (its.toArray.size * k.toNat)=true:=by
    rw [aFu hlen]
    exact aW
  have hnew:List.foldl (fun x1 x2=>x1 ++ x2) #[] (List.replicate (if its.toArray.isEmpty=true then 0 else k.toNat) its.toArray)=(List.replicate k.toNat its).flatten.toArray:=by
    have f0:∀ m:Nat,List.foldl (fun x1 x2=>x1 ++ x2) #[] (List.replicate m its.toArray)=(List.replicate m its).flatten.toArray:=fun m=>by
      have:=sJ its m []
      rw [aY] at this
      exact this
    rw [f0]
    cases its with
    | nil=>simp
    | cons a r'=>rw [if_neg (by simp)]
  refine wpAny_binaryOp_repeat_ref (T := "list") (U := "int") (by decide) ⟨_,e,rfl⟩ (fun s'=>typeIs_int s' k t) noFill_list_mul F.fills_int_mul F.slot_int_rmul repeat_list F.slot_int_index.lookup
    (call_meets F.slot_int_rmul (typeIs_int s k t) F.entry_int_rmul (F.args_int_rmul_2 _ _) (int___rmul___int_list k t l its.toArray n)
      ⟨e,rfl,⟨_,e,rfl⟩,call_meets F.slot_list_mul ⟨_,e,rfl⟩ F.entry_list_mul (F.args_list_mul_2 _ _) (AutoListH.list___mul___list_int_3 l its.toArray n k t hfit hcap hlong) ⟨e,?_⟩⟩)
  rw [hnew]
  exact ⟨.ref _,_,I.lnew (t':=s.toks) (r.rep k.toNat) (by rw [aKc,Nat.mul_comm]; exact hz),rfl,q _ I.fresh⟩
end
end L2
namespace Att
open PySem PySem.W PySem.Calls PyProof.Rows
theorem ir_ {P:Params} {h:Heap}:∀ (ns:List Int) (vs:List Value),WellAll P h vs (ns.map WData.int)→IntsAre vs ns:=by
  intro ns
  induction ns with
  | nil =>
    intro vs w
    rw [bM] at w
    cases w
    exact .nil
  | cons n ns ih =>
    intro vs w
    rw [aP] at w
    cases w with
    | cons a b =>
      cases a
      exact .cons _ _ (ih _ b)
theorem aBf {l:OpenLaw} {n:Nat} (hn:l.most=some n) {P:Params} {h:Heap} {args:List WData} {kK:List Value}
    (hpre:l.row.toRowW.claim.pre args=true) (hwl:WellAll P h kK args) :
    ∃ a vs ns,kK=[Value.ref a]∧args=[WData.list (ns.map WData.int)]∧h.get? a=some { cls:=.type "list",data:=.seq vs.toArray }∧IntsAre vs ns∧ns.length≤n:=by
  have hsh:WShape.hasAll [] args [.list .int]=true:=(pre_splitW hpre).1
  have hc:l.pre.holds [] { args:=args }=true:=(pre_splitW hpre).2
  obtain ⟨d,r,rfl,h1,h2⟩:=hasAllW_cons hsh
  obtain rfl:=hasAllW_nil h2
  obtain ⟨xs,rfl,h3⟩:=hasW_list h1
  obtain ⟨ns,rfl⟩:=items_int h3
  have hlen:ns.length≤n:=by
    unfold OpenLaw.pre at hc
    have h4:(WTm.not (.lt (.lit (.int (n:Int))) (.len (.arg 0)))).holds [] { args:=[.list (ns.map .int)] }=true:=by
      have h4:=(holds_andW hc).1
      rw [hn] at h4
      exact h4
    have h5:=condW_of h4 (w_not (w_lt w_lit (w_len_list (w_arg rfl))))
    rw [aE] at h5
    refine Nat.le_of_not_lt fun q => ?_
    have q':(n:Int) < ((ns.length:Nat):Int):=by omega
    first
      | (rw [decide_eq_true q'] at h5; exact absurd h5 (by decide))
      | (simp at h5; omega)
  cases hwl with
  | cons w1 w2 =>
    cases w2
    cases w1 with
    | list ho hall=>exact ⟨_,_,ns,rfl,rfl,ho,ir_ ns _ hall,hlen⟩
theorem aBi (l:OpenLaw) (args:List WData):l.row.toRowW.claim.post args (.bool true) args=true :=
  postW_of (r:=l.row.toRowW) (X:=(true == true))
    (show WShape.has [] (.bool true) .bool=true by first | rfl | decide | simp [WShape.has,WShape.arms,WShape.armsAll])
    (show (WTm.eq .res (.lit (.bool true))).value [] { args:=args,res:=some (.bool true),after:=args }=some (.bool (true == true)) from w_eq_bool (w_res rfl) w_lit) rfl
theorem attach_call {l:OpenLaw} {n:Nat} {q:Program} {loose:List Str} {XP:(Str→Option Value)→Heap→Prop} {YP:World→Heap→Prop} {d:DefRec}
    (hn:l.most=some n) (hdf:d.params.defaults=[])
    (call:∀ (w:World) (s₀ s₁:Shared) (mg mb:gO) (fa:Addr) (o:Obj) (pm cd doc:Value) (a:Addr) (vs:List Value) (ns:List Int),
      Ground q loose [] XP w s₀ mg mb s₁.heap→YP w s₁.heap →
      s₁.heap.get? fa=some o→o.data=.func (docDef d.name d.params d.body d.scope pm cd doc)→s₁.heap.CodeRec cd d.name→mg d.name=some (.ref fa) →
      s₁.heap.get? a=some { cls:=.type "list",data:=.seq vs.toArray }→IntsAre vs ns→ns.length≤n→s₁.gens = #[] →
      codeAny (model l.prog w) callerA (.call (.ref fa) ⟨[.ref a],[]⟩) (fun r s'=>r=.ok (.ret (.bool true))∧OldK s₁.heap s'.heap∧s'.os=s₁.os∧AllBare s'.gens) s₁) :
    WalkO q loose XP YP l.row.toRowW d [] (fun f vs=>PySem.call f vs):=by
  intro w s₀ s₁ mg mb G Y fa o pm cd doc dV kV ho hd hcd hD hmg hg args kK as hpre hlay hrd hwl hlo
  obtain rfl:dV=.none:=Dflts.none hD hdf
  obtain rfl:kV=.none:=Dflts.noKw hD
  obtain ⟨a,vs,ns,rfl,rfl,hobj,hints,hlen⟩:=aBf hn hpre hwl
  refine enter_call (codeAny_mono (call w s₀ s₁ mg mb fa o pm cd doc a vs ns G Y ho (fd_plain hd) hcd hmg hobj hints hlen hg) fun r s' hq => ?_)
  obtain ⟨rfl,h2,h3,h4⟩:=hq
  exact ⟨.inl ⟨.bool true,.bool true,[],rfl,fun _=>rfl,.bool true,aBi l _,fun _=>⟨List.Pairwise.nil,fun _ hm=>(nomatch hm)⟩⟩,h2,h3,h4⟩
end Att
namespace L2
open PySem PySem.Spec PyProof.Rows
theorem rG:∀ {vs:List Value} {ns:List Int},IntsAre vs ns→Vals (ns.map V.int) vs
  | _,_,.nil=>.nil
  | _,_,.cons n t h=>.cons ⟨t,rfl⟩ (rG h)
def aRi (H:Hp):Prop := ∀ b,H b=none∨∃ o xs,H b=some (.frz o (.lst xs))
theorem aGd {P:Program} {w:World} {K:dH} {mg mb:gO} {CX:CXT} {k:Nat} {fa a:Addr} {fd:FuncData} {x:Str} {sp:Sp} {s₁:Shared} {vs:List Value} {ns:List Int}
    (KX:K.In s₁.heap) (hns:s₁.heap.Ns mainGlobals mg) (hb:s₁.heap.Ns builtinsNs mb) (hbb:∀ x:Str,x ≠ "__name__" → mb x=bootBuiltins x) (hlim:s₁.heap.NoLimit) (hg:s₁.gens = #[])
    (ha:s₁.heap.get? a=some { cls:=.type "list",data:=.seq vs.toArray }) (hi:IntsAre vs ns) (hl:ns.length≤sizeLine) (hr:Room k callerA)
    (F:∀ base:Heap,K.In base→base.Ns mainGlobals mg→FnOk P w K mg base CX k fa fd [x] sp) (hbind:∀ (s:Shared) (u:Value),BindsTo s fd ⟨[u],[]⟩ [(x,u)])
    (hsp:∀ H:Hp,aRi H→SqL K H a (ns.map V.int)→sp [.ref a] H (fun v _=>v=.bl true) fun _ _ _=>False)
    (hCX:∀ H e s',CX [] H s₁ (fun _ _ _=>False) e s'→False) :
    codeAny (model P w) callerA (.call (.ref fa) ⟨[.ref a],[]⟩) (fun r s'=>r=.ok (.ret (.bool true))∧OldK s₁.heap s'.heap∧s'.os=s₁.os∧AllBare s'.gens) s₁:=by
  have rv:=rG hi
  have lenV:=hi.length
  have core:∀ H:Hp,aRi H→SqL K H a (ns.map V.int)→HOk P w H s₁.heap→(∀ b,H b≠none→b=a)→(H a≠none→K.lookup a=none) →
      codeAny (model P w) callerA (.call (.ref fa) ⟨[.ref a],[]⟩) (fun r s'=>r=.ok (.ret (.bool true))∧OldK s₁.heap s'.heap∧s'.os=s₁.os∧AllBare s'.gens) s₁:=by
    intro H hO hS hok hA hK
    have base_of:∀ {b:Addr} {o:Obj},s₁.heap.get? b=some o→H b=none→(vJ s₁.heap H).get? b=some o:=fun e n=>aGq e n
    have noA:∀ {b:Addr} {o:Obj} {es:Array DictEntry} {ep:Nat},s₁.heap.get? b=some o→o.data=.dict es ep→H b=none:=fun {b o es ep} e d=>by
      cases q:H b with
      | none=>rfl
      | some u =>
        have e':b=a:=hA b (by rw [q]; simp)
        subst e'
        rw [ha] at e; cases e
        have d':Data.seq vs.toArray _=Data.dict es ep:=d
        cases d'
    have nsK:∀ {b:Addr} {m:gO},s₁.heap.Ns b m→(vJ s₁.heap H).Ns b m:=fun {b m} ⟨o,es,ep,e,d,r⟩=>⟨o,es,ep,base_of e (noA e d),d,r⟩
    have hKb:K.In (vJ s₁.heap H):=fun b o e=>base_of (KX b o e) (by
      cases q:H b with
      | none=>rfl
      | some u =>
        have e':b=a:=hA b (by rw [q]; simp)
        subst e'
        rw [hK (by rw [q]; simp)] at e; cases e)
    have hM:Mod K mg (vJ s₁.heap H):=⟨hKb,nsK hns,⟨mb,nsK hb,hbb⟩,let ⟨mc,h1,h2⟩:=hlim; ⟨mc,nsK h1,h2⟩⟩
    have e0:Env0 P w K mg (vJ s₁.heap H) callerA [] s₁ H:=⟨rfl,hM,fun b o e=>aJt e,Nat.le_of_eq (aCb _ _),trivial,fun b hb=>absurd (show b∈([]:List Addr) from hb) (by simp),hok,.of_eq hg⟩
    refine codeAny_mono ((F _ hKb (nsK hns)).run callerA [] s₁ H ⟨[.ref a],[]⟩ [.ref a] [.ref a] _ _ hr e0 (hbind s₁ (.ref a)) (.cons rfl .nil) (hsp H hO hS)) fun r s' h => ?_
    cases r with
    | error e=>exact (hCX H e s' h).elim
    | ok fl =>
      cases fl with
      | next=>exact False.elim h
      | brk=>exact False.elim h
      | cont=>exact False.elim h
      | ret u =>
        obtain ⟨v,H',os,bare,un,hok',r',q⟩:=h
        have q':v=.bl true:=q
        subst q'
        obtain rfl:u=Value.bool true:=r'
        refine ⟨rfl,OldK.of_keep fun b o e => ?_,os,bare⟩
        cases q:H b with
        | none=>exact un.keep b o e q (by intro z; exact absurd (show b∈([]:List Addr) from z) (by simp)) (by simp)
        | some u =>
          rcases hO b with z | ⟨ob,xs,z⟩
          · rw [q] at z; cases z
          · have z2 := un.frzs b ob _ z
            obtain ⟨e1,_⟩:=hok b _ z
            obtain ⟨e2,_⟩:=hok' b _ z2
            rw [e] at e1; cases e1
            exact e2
  cases hk:K.lookup a with
  | some o =>
    have e:=KX a o hk
    rw [ha] at e
    cases e
    refine core (fun _=>none) (fun _=>.inl rfl) (.inr ⟨_,vs.toArray,_,hk,rfl,rfl,rfl,by rw [bA,lenV]; exact hl,by simpa using rv⟩) (fun b u z=>by have z':(none:Option HO)=some u:=z; cases z') (fun b z=>absurd rfl z) fun z=>absurd rfl z
  | none =>
    refine core (fun b=>if b=a then some (.frz { cls:=.type "list",data:=.seq vs.toArray } (.lst (ns.map V.int))) else none) (fun b => ?_) (.inl (.inr ⟨{ cls:=.type "list",data:=.seq vs.toArray },if_pos rfl⟩)) (fun b u z => ?_) (fun b z => ?_) fun _=>hk
    · by_cases hb : b = a
      · exact .inr ⟨_,_,if_pos hb⟩
      · exact .inl (if_neg hb)
    · by_cases hb : b = a
      · have z' := (if_pos hb).symm.trans z
        cases z'
        subst hb
        exact ⟨ha,by rw [aE]; exact hl,vs,_,rv,ha⟩
      · have z' := (if_neg hb).symm.trans z
        cases z'
    · by_cases hb : b = a
      · exact hb
      · exact absurd (if_neg hb) z
def oE (s:Stmt):Arguments:=match s with
  | .FunctionDef _ a _ _ _ _ _ _ _ _=>a
  | _=>{ posonlyargs:=[],args:=[],vararg:=none,kwonlyargs:=[],kw_defaults:=[],kwarg:=none,defaults:=[] }
def iJ (s:Stmt):List Stmt:=match s with
  | .FunctionDef _ _ b _ _ _ _ _ _ _=>b
  | _=>[]
def aQ (s:Stmt):Scope:=match s with
  | .FunctionDef _ _ _ _ _ _ sc _ _ _=>sc
  | _=>{ kind:=.function,names:=[],isGenerator:=false,isCoroutine:=false }
abbrev CX0:CXT:=fun _ _ _ _ _ _=>False
abbrev E0:XK:=fun _ _ _=>False
theorem kZ {X:Cx}:k_ CX0 X E0:=fun _ _ _ _ _ _ _ h=>h.elim
structure Fun (K:dH) (x qual:Str) (st:Stmt) (f:Addr) (fd:FuncData):Prop where
  ex:∃ (oc:Value) (od:Option Addr) (kV doc pm:Value) (an:Option Addr) (cdv ct:Value) (osl:Array (Option Value)),
    fd=PySem.W.fnOf x qual (oE st) (iJ st) (aQ st) .none kV doc pm an cdv ct∧K.lookup f=some ⟨oc,od,.func fd,osl⟩∧PySem.W.codeIn K cdv qual=true
  kp:PySem.W.keepIn K (.ref f)=true
section
variable {P:Program} {w:World} {K:dH} {mg:gO} {base:Heap}
theorem Fun.ok {x qual:Str} {st:Stmt} {f:Addr} {fd:FuncData} {N ps:List Str} {k:Nat} {sp:Sp} (F:Fun K x qual st f fd) (S:FnScope N ps (aQ st)) (len:∀ vs H Q E,sp vs H Q E→vs.length=ps.length)
    (hbody:∀ (cdv:Value) (A:Around) (outer:List Env) (s:Shared) (H:Hp) (vs:List V) (Q:VK) (E:XK),Room k (A.deeper (envOfC qual (aQ st) s.heap.objs.size f cdv))→sp vs H Q E →
      ∃ t,PSs (nB CX0 P w K mg base N qual (aQ st) f cdv A outer s H E).nox (iJ st) t∧t { nx:=fun _ H'=>Q .non H',rt:=Q } (start N vs) H):FnOk P w K mg base CX0 (k + 1) f fd ps sp:=by
  obtain ⟨oc,od,kV,doc,pm,an,cdv,ct,osl,rfl,lk,hcd⟩:=F.ex
  refine aMm lk hcd S len fun A outer s H vs Q E hr hsp => ?_
  obtain ⟨t,h,q⟩:=hbody cdv A outer s H vs Q E hr hsp
  exact ⟨t,h.nox,q⟩
theorem Fun.binds {x qual:Str} {st:Stmt} {f:Addr} {fd:FuncData} {ps:List Str} (F:Fun K x qual st f fd)
    (h:∀ (kV doc pm:Value) (an:Option Addr) (cdv ct:Value) (us:List Value),us.length=ps.length→bindArgs (PySem.W.fnOf x qual (oE st) (iJ st) (aQ st) .none kV doc pm an cdv ct) ⟨us,[]⟩=pure (ps.zip us)):Binds K fd ps []:=by
  obtain ⟨oc,od,kV,doc,pm,an,cdv,ct,osl,rfl,lk,hcd⟩:=F.ex
  exact .all (h kV doc pm an cdv ct)
end
theorem oD {A:Around} {k:Nat} (hr:Room k A):A.units + 1 < cLine:=Nat.lt_of_le_of_lt (Nat.add_le_add_left (by decide:1≤64) _) hr.units
theorem rO {n:Nat} (h:n≤1000):n < sizeLine:=Nat.lt_of_le_of_lt h (by decide)
section
variable {X:Cx}
theorem pv (i:Nat) {x:Str} {pos:Pos} (hN:X.N[i]? = some x:=by rfl) (hv:Vis X.env.scope x:=by first | exact Or.inl rfl | exact Or.inr (Or.inl rfl) | exact Or.inr (Or.inr rfl)) (hd:(x == ("__debug__" : Str))=false:=by decide)
    (hcd:(x == ("__classdict__" : Str))=false:=by decide):PE X (.Name x pos) (kA i):=aOa hN hv hd hcd
end
theorem aXz {A B:Prop} (h:B):if false=true then A else B:=by
  rw [if_neg aW]
  exact h
theorem aXy {A B:Prop} (h:A):if true=true then A else B:=by
  rw [if_pos rfl]
  exact h
theorem mY {c A B:Prop} [Decidable c] (h1:c→A) (h2:¬ c→B):if c then A else B:=by
  by_cases h:c
  · rw [if_pos h]
    exact h1 h
  · rw [if_neg h]
    exact h2 h
def Same (H H':Hp):Prop := ∀ b o,H b=some o→H' b=some o
theorem Same.refl (H:Hp):Same H H:=fun _ _ h=>h
theorem Same.trans {H H1 H2:Hp} (a:Same H H1) (b:Same H1 H2):Same H H2:=fun c o h=>b c o (a c o h)
section
variable {X:Cx}
def aMu (_ j:Int):Prop:=0 < j∧j < 2 ^ 250
theorem aFz {j:Int} (h1:0 < j) (h2:j < 2 ^ 250):j.natAbs.log2 < 9000:=by
  have h0:j.natAbs≠0:=by omega
  have h3:j.natAbs < 2 ^ 250:=by omega
  exact Nat.lt_trans ((Nat.log2_lt h0).mpr h3) (by decide)
theorem pE:OpR X (binaryOp .FloorDiv) (rI aMu fun i j=>.int (i / j)):=opI fun i j _ _ _ _ _ hc q=>by
  have h1:(0:Int) < j:=hc.1
  exact floordiv_int (by omega) (by rw [Int.fdiv_eq_ediv_of_nonneg i (by omega)]; exact q) (.inl (PyProof.noPylong_of_log2 (aFz hc.1 hc.2)))
def CMulB (i j:Int):Prop:=i.natAbs < 2 ^ 250∧j.natAbs < 2 ^ 250
theorem CMulB.ok {i j:Int} (h:CMulB i j):IntMulOk i j:=by
  have a:Builtin.Int.intBits i≤250:=intBits_le h.1
  have b:Builtin.Int.intBits j≤250:=intBits_le h.2
  unfold IntMulOk Builtin.Int.intTooBig
  intro z
  rw [fF] at z
  have c:=of_decide_eq_true z.2
  rw [bitsLine_eq] at c
  omega
theorem jL:OpR X (binaryOp .Mult) (rI CMulB fun i j=>.int (i * j)):=opI fun _ _ _ _ _ _ _ hc q=>mul_int q hc.ok
end
section
variable {K:dH}
theorem aGg (T:String):PySem.W.kitOne K (.type T) (.type T)=some true:=by
  unfold PySem.W.kitOne
  rw [if_pos (beq_self_eq_true _)]
theorem aPw {T S:String} {b:Bool} (h1:(Value.type T == Value.type S)=false) (h2:PySem.W.kitMeta S=true) (h3:(fastBuiltinMro T).map (·.contains (Value.type S))=some b):PySem.W.kitOne K (.type T) (.type S)=some b:=by
  unfold PySem.W.kitOne
  rw [if_neg (by rw [h1]; exact aW)]
  show (if PySem.W.kitMeta S=true then PySem.W.subIn K (.type T) (.type S) else none)=some b
  rw [if_pos h2]
  exact h3
theorem gp_:bootBuiltins "isinstance" = some (.builtin "isinstance"):=by decide +kernel
theorem qK:bootBuiltins "max" = some (.builtin "max"):=by decide +kernel
theorem aRa:bootBuiltins "min" = some (.builtin "min"):=by decide +kernel
theorem k8:bootBuiltins "int" = some (.type "int"):=by decide +kernel
theorem oI:bootBuiltins "bool" = some (.type "bool"):=by decide +kernel
theorem k4:bootBuiltins "str" = some (.type "str"):=by decide +kernel
theorem oH:bootBuiltins "list" = some (.type "list"):=by decide +kernel
theorem go_:bootBuiltins "tuple" = some (.type "tuple"):=by decide +kernel
theorem vY:bootBuiltins "dict" = some (.type "dict"):=by decide +kernel
end
theorem qF {scope:Scope} {env:Env} (h:∀ y∈scope.names,y.2=.free→∃ c,env.cells.lookup y.1=some c) :
    ∃ cl,closureFor scope env=pure cl∧(∀ x c,cl.lookup x=some c→env.cells.lookup x=some c)∧(∀ y∈scope.names,y.2=.free→∃ c,cl.lookup y.1=some c):=by
  have key:∀ (ns:List (Str×NameKind)) (cs:List (Str×Addr)),(∀ y∈ns,y.2=.free→∃ c,env.cells.lookup y.1=some c)→(∀ x c,cs.lookup x=some c→env.cells.lookup x=some c) →
      ∃ cl, (forIn ns cs fun (x : Str × NameKind) (cs : List (Str × Addr)) => (if x.2 == .free then do let c ← cellOf env x.1; pure (ForInStep.yield ((x.1, c) :: cs)) else pure (ForInStep.yield cs) : Sem _)) = pure cl ∧
        (∀ x c,cl.lookup x=some c→env.cells.lookup x=some c)∧(∀ x c,cs.lookup x=some c→∃ c,cl.lookup x=some c)∧(∀ y∈ns,y.2=.free→∃ c,cl.lookup y.1=some c):=by
    intro ns
    induction ns with
    | nil=>intro cs _ hc; exact ⟨cs,rfl,hc,fun x c e=>⟨c,e⟩,fun y hy=>nomatch hy⟩
    | cons y r ih =>
      intro cs hn hc
      obtain ⟨n,k⟩:=y
      by_cases hk:k=.free
      · subst hk
        obtain ⟨c,e⟩:=hn (n,.free) aB rfl
        obtain ⟨cl,e1,e2,e3,e4⟩:=ih ((n,c) :: cs) (fun y hy=>hn y (aC _ hy)) (fun x c' q=>by
          rw [cP] at q
          cases hx:x == n with
          | true =>
            rw [hx] at q
            cases q
            have:x=n:=by simpa using hx
            rw [this]
            exact e
          | false =>
            rw [hx] at q
            exact hc x c' q)
        refine ⟨cl,?_,e2,fun x c' q => ?_,fun y hy hyk => ?_⟩
        · rw [iK]
          have e':env.cells.lookup n=some c:=e
          simp only [beq_self_eq_true,if_true,cellOf,e']
          exact e1
        · cases hx : x == n with
          | true=>exact e3 x c (by rw [cP,hx])
          | false=>exact e3 x c' (by rw [cP,hx]; exact q)
        · rcases aF.mp hy with rfl | hy
          · exact e3 n c (by rw [cP]; simp)
          · exact e4 y hy hyk
      · obtain ⟨cl, e1, e2, e3, e4⟩ := ih cs (fun y hy => hn y (aC _ hy)) hc
        refine ⟨cl,?_,e2,e3,fun y hy hyk => ?_⟩
        · rw [iK]
          have hb:(k == NameKind.free)=false:=by simpa using hk
          simp only [hb,fE,if_false]
          exact e1
        · rcases aF.mp hy with rfl | hy
          · exact absurd hyk hk
          · exact e4 y hy hyk
  obtain ⟨cl,e1,e2,_,e4⟩:=key scope.names [] h (fun x c e=>by simp at e)
  refine ⟨cl,?_,e2,e4⟩
  simp only [closureFor]
  rw [show (forIn scope.names ([]:List (Str×Addr)) fun (x:Str×NameKind) (cs:List (Str×Addr))=>(if x.2 == .free then do let c ← cellOf env x.1; pure (ForInStep.yield ((x.1,c) :: cs)) else pure (ForInStep.yield cs):Sem _))=pure cl from e1]
  rfl
theorem ie_ {scope:Scope} {env:Env} {x:Str} {k:NameKind} (h:(relabel scope env).names.lookup x=some k):∃ k0,scope.names.lookup x=some k0∧(k0=k∨(k0=.free∧k=.cell)):=by
  unfold relabel at h
  dsimp only at h
  revert h
  generalize scope.names=ns
  induction ns with
  | nil=>intro h; simp at h
  | cons y r ih =>
    obtain ⟨n,k'⟩:=y
    intro h
    rw [aP] at h
    cases hx:x == n with
    | true =>
      rw [cP,hx]
      refine ⟨k',rfl,?_⟩
      dsimp only at h
      split at h
      · rename_i hc
        rw [cP,hx] at h
        cases h
        rw [fF,fF] at hc
        exact .inr ⟨by simpa using hc.1.1,rfl⟩
      · rw [cP, hx] at h
        cases h
        exact .inl rfl
    | false =>
      rw [cP,hx]
      dsimp only at h
      apply ih
      split at h
      · rw [cP,hx] at h; exact h
      · rw [cP,hx] at h; exact h
theorem uE {scope:Scope} {env:Env} {x:Str} (h:scope.names.lookup x=some .free) (hk:env.scope.kind=.function) (hc:env.kindOf x=some .cell):(relabel scope env).names.lookup x=some .cell:=by
  unfold relabel
  dsimp only
  revert h
  generalize scope.names=ns
  induction ns with
  | nil=>intro h; simp at h
  | cons y r ih =>
    obtain ⟨n,k'⟩:=y
    intro h
    rw [aP]
    cases hx:x == n with
    | true =>
      rw [cP,hx] at h
      cases h
      have:x=n:=by simpa using hx
      subst this
      dsimp only
      rw [if_pos (by rw [hk,hc]; rfl),cP,hx]
    | false =>
      rw [cP,hx] at h
      dsimp only
      split
      · rw [cP,hx]; exact ih h
      · rw [cP,hx]; exact ih h
section
variable {prog:Program} {w:World} {A:Around} {R:Result→Shared→Prop} {s:Shared}
theorem vT {elt target iter:Expr} {ifs:List Expr} {scope:Scope} {pos:Pos} {it acc:Value} {env:Env} (I:Nat→Shared→Prop)
    (turn:∀ n s,I n s→wpAny (model prog w) A (pyNext it) (fun r s₁=>match r with
      | none=>R (.ok .next) s₁
      | some v=>wpAny (model prog w) A (letOwnedTupleGo target it v) (fun _ s₀=>wpAny (model prog w) A (assign target env v) (fun _ s₂ =>
          wpAny (model prog w) A (forIn ifs true fun c r=>if r=true then do let ok ← isTrue c env (eval c env); pure (ForInStep.yield ok) else pure (ForInStep.yield r)) (fun ok s₃ =>
            if ok=true then wpAny (model prog w) A (eval elt env) (fun x s₄ =>
              wpAny (model prog w) A (call (.builtin "list.append") [acc,x]) (fun _ s₅ => ∃ m,m < n∧I m s₅) (fun _ _=>False) s₄) (fun _ _=>False) s₃
            else ∃ m,m < n∧I m s₃) (fun _ _=>False) s₂) (fun _ _=>False) s₀) (fun _ _=>False) s₁) (fun _ _=>False) s)
    (n:Nat) (h:I n s) :
    codeAny (model prog w) A (.compLoop (.ListComp elt [⟨target,iter,ifs,0⟩] scope pos) 0 it acc env) R s:=by
  refine codeAny_loop rfl I (fun n s hI => ?_) n h
  show wpAny _ A ((compTurn (.ListComp elt [⟨target,iter,ifs,0⟩] scope pos) 0 it acc env).onRaise (fun x=>do noteFrame x env; theTreesLotGoes x)) _ _ s
  refine wpAny_noted ?_
  rw [compTurn_list]
  refine wpAny_bind (wpAny_standAt (wpAny_bind (wpAny_mono (turn n s hI) (fun r s₁ h₁ => ?_) fun _ _ h'=>h'.elim)))
  cases r with
  | none=>exact wpAny_pure h₁
  | some v =>
    refine wpAny_bind (wpAny_mono h₁ (fun _ s₀ h₀ => ?_) fun _ _ h'=>h'.elim)
    refine wpAny_bind (wpAny_mono h₀ (fun _ s₂ h₂=>wpAny_bind (wpAny_mono h₂ (fun ok s₃ h₃ => ?_) fun _ _ h'=>h'.elim)) fun _ _ h'=>h'.elim)
    cases ok with
    | false=>exact wpAny_pure ⟨rfl,h₃⟩
    | true =>
      exact wpAny_bind (wpAny_bind (wpAny_mono h₃ (fun x s₄ h₄=>wpAny_bind (wpAny_mono h₄ (fun _ s₅ h₅=>wpAny_pure (wpAny_pure ⟨rfl,h₅⟩)) fun _ _ h'=>h'.elim)) fun _ _ h'=>h'.elim))
end
section
variable {X:Cx} {pins:gC} {σ:St} {H:Hp} {s:Shared}
def PCs (X:Cx) (ifs:List Expr) (t:TT):Prop :=
  ∀ (pins : gC) (s : Shared) (σ : St) (H : Hp) (Q : Bool → Hp → Prop), Inv X pins σ H s → t σ H Q →
    wpAny (model X.prog X.w) X.A (forIn ifs true fun c r=>if r=true then do let ok ← isTrue c X.env (eval c X.env); pure (ForInStep.yield ok) else pure (ForInStep.yield r)) (TP X pins σ Q) X.xe s
def aSn:TT:=fun _ H Q=>Q true H
theorem aJz {i:Nat} {x:V} {σ:St} {H:Hp} {A B:St→Hp→Prop} (h:A (σ.set i (some x)) H):kG i x σ H (fun σ2 H2=>aSn σ2 H2 (fun b H3=>if b=true then A σ2 H3 else B σ2 H3)):=by
  show (if true=true then A (σ.set i (some x)) H else B (σ.set i (some x)) H)
  exact aXy h
theorem t9:PCs X [] aSn:=fun pins s σ H Q I h=>wpAny_tests_nil ⟨H,I,h⟩
theorem aJf {c:Expr} {t:TT} (h:PT X c t):PCs X [c] t:=fun pins s σ H Q I q=>wpAny_tests_one (h pins s σ H Q I q)
end
def kF (n:Nat) (outs:List Nat) (σ:St):St:=List.replicate n none ++ outs.map fun j=>(σ[j]?).join
theorem pA (n:Nat) (outs:List Nat) (σ:St):(kF n outs σ).length=n + outs.length:=by
  unfold kF
  rw [aI,aG,aE]
def eS (X:Cx) (N':List Str) (scope:Scope) (cl:List (Str×Addr)) (C:Addr) (s:Shared) (H:Hp) (ex:List Addr):Cx where
  prog:=X.prog
  w:=X.w
  K:=X.K
  mg:=X.mg
  base:=X.base
  A:=X.A
  N:=N'
  s₀:=s
  H₀:=H
  env:=compEnvC scope cl C X.env
  outer:=X.stack
  stack:=X.stack
  ex:=ex
  fn:=fun _=>false
  calm:=X.calm
  pn:=[]
  xe:=fun _ _=>False
structure CompScope (dsc scope:Scope) (N tgs:List Str) (outs:List Nat) (N':List Str):Prop where
  kind:scope.kind=.function
  names:∀ x∈scope.names,x.2=.local→scope.names.lookup x.1=some .local
  nocell:∀ y∈scope.names,y.2 ≠ .cell
  free:∀ y∈scope.names,y.2=.free→dsc.names.lookup y.1=some .cell
  isN:N'=tgs ++ outs.map (fun j=>N.getD j "")
  lts:∀ j∈outs,j < N.length
  outF:∀ j∈outs,scope.names.lookup (N.getD j "")=some .free
  nd:N'.Nodup
def Tgt (n:Nat) (g:TG):Prop := ∀ x σ H Q,g x σ H Q→g x σ H (fun σ2 H2=>Q σ2 H2∧σ2.length=σ.length∧∀ i,n≤i→σ2[i]? = σ[i]?)
theorem rC {n i:Nat} (h:i < n):Tgt n (kG i):=fun x σ H Q q=>⟨q,by rw [bF],fun j hj=>dF (by omega)⟩
def aHz (n:Nat) (g:TGs):Prop := ∀ xs σ H Q,g xs σ H Q→g xs σ H (fun σ2 H2=>Q σ2 H2∧σ2.length=σ.length∧∀ i,n≤i→σ2[i]? = σ[i]?)
theorem ed_ {n:Nat}:aHz n aGu:=fun xs σ H Q ⟨e,q⟩=>⟨e,q,rfl,fun _ _=>rfl⟩
def aAo (g:TGs):Prop := ∀ xs σ H Q Q',(∀ σ2 H2,Q σ2 H2→Q' σ2 H2)→g xs σ H Q→g xs σ H Q'
theorem zL {n i:Nat} {u:TGs} (h:i < n) (hu:aHz n u) (mu:aAo u):aHz n (xV (kG i) u):=fun xs σ H Q ⟨v,r,e,q⟩=>by
  refine ⟨v,r,e,?_⟩
  have z:=hu r (σ.set i (some v)) H Q q
  refine mu r _ H _ _ (fun σ2 H2 ⟨a,b,c⟩=>⟨a,?_,fun j hj => ?_⟩) z
  · rw [b,bF]
  · rw [c j hj,dF (by omega)]
theorem zM:aAo aGu:=fun xs σ H Q Q' h ⟨e,q⟩=>⟨e,h _ _ q⟩
theorem cp_ {i:Nat} {u:TGs} (mu:aAo u):aAo (xV (kG i) u):=fun xs σ H Q Q' h ⟨v,r,e,q⟩=>⟨v,r,e,mu r _ H _ _ h q⟩
theorem hx_ {K:dH} {n k:Nat} {t:TGs} (h:aHz n t):Tgt n (aGt K k t):=fun x σ H Q ⟨a,xs,e,hq,hl,q⟩=>⟨a,xs,e,hq,hl,h xs σ H Q q⟩
def rL (n:Nat) (outs:List Nat) (wi:TI) (g:TG) (tc:TT) (te:TE):TE:=fun σ H Q=>wi σ H fun J H1 =>
  ∃ W : Nat → Nat → List V → Hp → Prop, (∃ m, W 0 m [] H1) ∧ ∀ i m acc H, W i m acc H →
    (J.stop i H∧acc.length≤sizeLine∧∀ l,H l=none→Q (.ref l) (upd H l (.lst acc))) ∨
    (J.go i H∧acc.length < sizeLine∧∃ N:List V→Hp→Prop,(∀ acc' H',N acc' H'→∃ m',m' < m∧W (i + 1) m' acc' H')∧∀ x H',J.yld i H x H'→g x (kF n outs σ) H' fun σ2 H2=>tc σ2 H2 fun b H3 =>
      if b=true then te σ2 H3 fun y H4=>N (acc ++ [y]) H4 else N acc H3)
section
variable {X:Cx} {pins:gC} {σ:St} {H2:Hp} {s2:Shared} {dsc scope:Scope} {tgs N':List Str} {outs:List Nat} {cl:List (Str×Addr)} {fp:List Addr} {C D:Addr} {h1:Heap} {tk:Nat} {mC:gO}
theorem j5 (S:CompScope dsc scope X.N tgs outs N') (hsc:X.env.scope=dsc) (I2:Inv X pins σ H2 s2) (f2:∀ b∈fp,kJ X pins H2 b) (hfp:∀ b∈fp,b < s2.heap.objs.size)
    (hcl1:∀ x c,cl.lookup x=some c→X.env.cells.lookup x=some c) (hcl2:∀ y∈scope.names,y.2=.free→∃ c,cl.lookup y.1=some c)
    (hC:s2.heap.objs.size≤C) (kp:∀ b o,s2.heap.get? b=some o→h1.get? b=some o) (nC:h1.Ns C mC) :
    Inv (eS X N' scope cl C s2 H2 fp) [] (kF tgs.length outs σ) H2 { s2 with heap:=h1,toks:=tk }:=by
  have freeAt:∀ x,scope.names.lookup x=some .free→(relabel scope X.env).names.lookup x=some .cell:=fun x e =>
    uE e I2.ok.kind (by show X.env.scope.names.lookup x=some .cell; rw [hsc]; exact S.free (x,.free) (PySem.mem_of_lookup e) rfl)
  refine ⟨⟨I2.ok.mod,?_,I2.ok.glob,I2.ok.blt,hC,fun x y c e1 e2=>I2.ok.inj x y c (hcl1 x c e1) (hcl1 y c e2),fun x hx => ?_,(fun x c h=>nomatch h),I2.ok.hd,I2.ok.frames,.inl rfl,fun b hb => ?_,I2.bs,bP I2.ok.bsz I2.sz,fun b o e hb => ?_,fun b hb => ?_,I2.stack,I2.stkFree⟩,
    rfl,I2.bare,Un.kept kp,⟨mC,nC,fun i x v e1 e2 e3 => ?_⟩,fun x c e => ?_,I2.hok.fresh hC,fun x c e=>I2.freeC x c (hcl1 x c e),fun p hp=>absurd (show p∈([]:gC) from hp) (by simp),I2.hok.kept kp,?_⟩
  · exact S.kind
  · have hx' : (relabel scope X.env).names.lookup x = some .cell ∨ (relabel scope X.env).names.lookup x = some .free := hx
    have z:scope.names.lookup x=some .free:=by
      rcases hx' with hx' | hx'
      · obtain ⟨k0, e, h | ⟨h, _⟩⟩ := ie_ hx'
        · rw [h] at e
          exact absurd rfl (S.nocell _ (PySem.mem_of_lookup e))
        · rw [h] at e; exact e
      · obtain ⟨k0, e, h | ⟨h, _⟩⟩ := ie_ hx'
        · rw [h] at e; exact e
        · rw [h] at e; exact e
    exact hcl2 (x,.free) (PySem.mem_of_lookup z) rfl
  · refine ⟨fun z => ?_, fun x c e => (f2 b hb).2.2.2.2.1 x c (hcl1 x c e)⟩
    have z':b=C:=z
    exact absurd (bL (hfp b hb) hC) (by rw [z']; exact eO _)
  · rcases (f2 b hb).2.2.2.1 with z | z
    · exact I2.ok.noex b o e z
    · exact absurd (bL (aR e) (bP I2.ok.bsz z)) (eO _)
  · intro z
    rcases aF.mp (I2.stkSub b z) with z | z
    · exact (f2 b hb).2.1 z
    · exact (f2 b hb).2.2.1 z
  · have e2' : (List.replicate tgs.length (none : Option V) ++ outs.map fun j => (σ[j]?).join)[i]? = some (some v) := e2
    have e1':N'[i]? = some x:=e1
    by_cases hi:i < tgs.length
    · rw [bY (by rw [aG]; exact hi), bI, if_pos hi] at e2'
      cases e2'
    · rw [bD (by rw [aG]; omega), aG, cE] at e2'
      rw [S.isN,bD (by omega),cE] at e1'
      cases ej:outs[i - tgs.length]? with
      | none=>rw [ej] at e2'; cases e2'
      | some j =>
        rw [ej] at e1' e2'
        have hj:j∈outs:=aS ej
        have ex:X.N.getD j "" = x:=Option.some.inj e1'
        have ev:(σ[j]?).join=some v:=Option.some.inj e2'
        have ev':σ[j]? = some (some v):=by
          cases q:σ[j]? with
          | none=>rw [q] at ev; cases ev
          | some o=>rw [q] at ev; exact congrArg some ev
        have eN:X.N[j]? = some x:=by
          have hl:=S.lts j hj
          rw [← ex,aM,aD hl]
          rfl
        have fx:scope.names.lookup x=some .free:=by rw [← ex]; exact S.outF j hj
        have cx:X.env.scope.names.lookup x=some .cell:=by rw [hsc]; exact S.free (x,.free) (PySem.mem_of_lookup fx) rfl
        obtain ⟨m,hn,hl⟩:=I2.loc
        obtain ⟨u,ru,lk⟩:=hl j x v eN ev' (.inr (.inl cx))
        refine ⟨u,ru,?_⟩
        rcases lk with ⟨k,_⟩ | ⟨k,c,ec,⟨oc,hoc,hdc⟩⟩
        · have k' : X.env.scope.names.lookup x = some .local := k
          rw [cx] at k'; cases k'
        · obtain ⟨c', ec'⟩ := hcl2 (x, .free) (PySem.mem_of_lookup fx) rfl
          have ecc:=hcl1 x c' ec'
          rw [ec] at ecc
          cases ecc
          exact .inr ⟨.inl (freeAt x fx),c,ec',oc,kp _ _ hoc,hdc⟩
  · obtain ⟨v, oc, hoc, hdc⟩ := I2.cell x c (hcl1 x c e)
    exact ⟨v,oc,kp _ _ hoc,hdc⟩
  · show (kF tgs.length outs σ).length = N'.length
    rw [pA,S.isN,aI,aE]
theorem aHj {σ5:St} {H5:Hp} {s5:Shared} {acc:List V} {its:List Value} {n:Nat} (I2:Inv X pins σ H2 s2) (I5:Inv (eS X N' scope cl C s2 H2 fp) [] σ5 H5 s5) (f2:∀ b∈fp,kJ X pins H2 b)
    (hD:s2.heap.objs.size≤D) (eD:s5.heap.get? D=some { cls:=.type "list",data:=.seq its.toArray n }) (r:Vals acc its) (hz:acc.length≤sizeLine) (hn:H5 D=none):Inv X pins σ (upd H5 D (.lst acc)) s5:=by
  have ne:∀ b o,s2.heap.get? b=some o→b≠D:=fun b o e z=>absurd (bL (aR e) (by rw [z]; exact hD)) (eO _)
  refine I2.call' (ch:=fp) I5.os ⟨fun b o e nn hb hx => ?_,fun b o e nn hb hx => ?_,fun b o e nn hx => ?_,fun b o e hx => ?_,fun b xs e => ?_,fun b o u e => ?_,fun b ps e => ?_⟩ (fun b u e => ?_) I5.bare fun b hb=>⟨(f2 b hb).2.2.2.1,(f2 b hb).2.1,(f2 b hb).2.2.2.2.1,(f2 b hb).2.2.2.2.2⟩
  · exact I5.base.keep b o e nn hb hx
  · exact I5.base.slot b o e nn hb hx
  · rw [fX (ne b o e)]
    exact I5.base.free b o e nn hx
  · exact I5.base.there b o e hx
  · have q := I5.base.tups b xs e
    rw [fX (zN q hn)]
    exact q
  · have q := I5.base.frzs b o u e
    rw [fX (zN q hn)]
    exact q
  · obtain ⟨more, q⟩ := I5.base.tbls b ps e
    refine ⟨more,?_⟩
    rw [fX (zN q hn)]
    exact q
  · by_cases hb : b = D
    · subst hb
      rw [cJ] at e
      cases e
      exact ⟨hz,its,n,r,eD⟩
    · rw [fX hb] at e
      exact (I5.hok b u e).stay (fun c v _ q=>q) (fun c q=>by rw [fX (zN q hn)]; exact q) fun c xs q=>by rw [fX (zN q hn)]; exact q
end
theorem rS {n:Nat} {outs:List Nat} {σ σ6:St} (k6:∀ i,n≤i→σ6[i]? = (kF n outs σ)[i]?):∀ (i:Nat) v,(kF n outs σ)[i]? = some (some v)→σ6[i]? = some (some v):=fun i v e=>by
  by_cases hi:n≤i
  · rw [k6 i hi]; exact e
  · unfold kF at e
    rw [bY (by rw [aG]; omega),bI,if_pos (by omega)] at e
    cases e
section
variable {X:Cx} {tg elt iter:Expr} {ifs:List Expr} {dsc scope:Scope} {tgs N':List Str} {outs:List Nat} {wi:TI} {g:TG} {tc:TT} {te:TE} {pos:Pos}
theorem qE {pins:gC} {σ:St} {H2:Hp} {s2:Shared} {cl:List (Str×Addr)} {it:Addr} {fp:List Addr} {tn:Nat→Heap→Prop} {J:It} (S:CompScope dsc scope X.N tgs outs N') (hsc:X.env.scope=dsc) (hc:X.calm=true)
    (hg:∀ cl C s H ex,PG (eS X N' scope cl C s H ex) tg g) (hgt:Tgt tgs.length g) (hcs:∀ cl C s H ex,PCs (eS X N' scope cl C s H ex) ifs tc) (he:∀ cl C s H ex,PE (eS X N' scope cl C s H ex) elt te)
    (hcl1:∀ x c,cl.lookup x=some c→X.env.cells.lookup x=some c) (hcl2:∀ y∈scope.names,y.2=.free→∃ c,cl.lookup y.1=some c)
    (I2:Inv X pins σ H2 s2) (T:Turn X.prog X.w X.K tg J fp it tn) (st2:tn 0 s2.heap) (f2:∀ b∈fp,kJ X pins H2 b)
    {W:Nat→Nat→List V→Hp→Prop} {m0:Nat} (w0:W 0 m0 [] H2) {Qf:List V→Hp→Prop}
    (turn:∀ i m acc H,W i m acc H→(J.stop i H∧acc.length≤sizeLine∧Qf acc H)∨(J.go i H∧acc.length < sizeLine∧∃ N:List V→Hp→Prop,(∀ acc' H',N acc' H'→∃ m',m' < m∧W (i + 1) m' acc' H')∧∀ x H',J.yld i H x H'→g x (kF tgs.length outs σ) H' fun σ2 H2=>tc σ2 H2 fun b H3 =>
      if b=true then te σ2 H3 fun y H4=>N (acc ++ [y]) H4 else N acc H3))
    {E:gU} {RR:Value→Addr→Result→Shared→Prop}
    (fin:∀ D C s5 mC acc H5,Inv X pins σ (upd H5 D (.lst acc)) s5→H5 D=none→Qf acc H5→s5.heap.Ns C mC→kJ X pins (upd H5 D (.lst acc)) C→RR (.ref D) C (.ok .next) s5) :
    wpAny (model X.prog X.w) X.A (newList []) (fun acc s₃=>wpAny (model X.prog X.w) X.A (newFunctionEnv scope X.env.globals cl [] X.env.qual none .none (some X.env)) (fun cenv s₄ =>
      codeAny (model X.prog X.w) X.A (.compStart (.ListComp elt [⟨tg,iter,ifs,0⟩] scope pos) 0 (.ref it) acc { cenv with scope:=relabel scope X.env }) (RR acc cenv.locals) s₄) E s₃) E s2:=by
  have hfp:∀ b∈fp,b < s2.heap.objs.size:=fun b hb=>let ⟨o,e,_⟩:=T.obj 0 _ st2 b hb; aR e
  refine wpAny_newObj_type (wpAny_newFunctionEnv S.nocell (by intro y hy; simp at hy) (fun h₁ hns₁ hsb₁ => ?_) S.kind)
  dsimp only at hns₁ hsb₁ ⊢
  generalize hHH:s2.heap.push { cls:=.type "list",dict:=none,data:=.seq ([]:List Value).toArray }=HH at hns₁ hsb₁ ⊢
  have hC:HH.objs.size=s2.heap.objs.size + 1:=by rw [← hHH,dP]
  have hDC:s2.heap.objs.size≠HH.objs.size:=by rw [hC]; exact cW (Nat.lt_succ_self _)
  have hCle:s2.heap.objs.size≤HH.objs.size:=by rw [hC]; exact Nat.le_succ _
  have old:∀ b o,s2.heap.get? b=some o→h₁.get? b=some o:=fun b o e=>hsb₁.extBut b o (by rw [hC]; exact cW (Nat.lt_succ_of_lt (aR e))) (aA _ (hHH ▸ aA _ e))
  have hacc:h₁.get? s2.heap.objs.size=some { cls:=.type "list",data:=.seq ([]:List Value).toArray 0 }:=hsb₁.extBut _ _ hDC (aA _ (hHH ▸ aU _ rfl))
  have hDfp:∀ b∈fp,s2.heap.objs.size≠b:=fun b hb=>fU (hfp b hb)
  have fresh2:H2 s2.heap.objs.size=none:=I2.hok.fresh (bJ _)
  have I4:=j5 (tk:=s2.toks + ([]:List (Str×Value)).length) S hsc I2 f2 hfp hcl1 hcl2 hCle old hns₁
  have st1:tn 0 h₁:=T.keep 0 _ _ st2 fun b hb o e=>old b o e
  generalize hCC:HH.objs.size=C at *
  generalize hDD:s2.heap.objs.size=D at *
  have nofs:D∉(eS X N' scope cl C s2 H2 fp).fs:=fun z=>by
    obtain ⟨_,o,ho,_⟩:=I2.stack.mem (show D∈frs X.stack from z)
    have:=aR ho
    rw [hDD] at this
    exact eO _ this
  have pinD:∀ {σ':St} {H':Hp} {s':Shared} {its:List Value} {n:Nat},Inv (eS X N' scope cl C s2 H2 fp) [] σ' H' s'→s'.heap.get? D=some { cls:=.type "list",data:=.seq its.toArray n }→H' D=none →
      Inv (eS X N' scope cl C s2 H2 fp) [(D,{ cls:=.type "list",data:=.seq its.toArray n })] σ' H' s':=fun {σ' H' s' its n} J e hn=>J.pins_of fun p hp=>by
    have ep:p=(D,{ cls:=.type "list",data:=.seq its.toArray n }):=by simpa using hp
    subst ep
    exact ⟨e,hn,hDC,nofs,fun v z=>by cases z⟩
  have stat:∀ {H':Hp} {o:Obj},(∀ b∈fp,H' b=none)→∀ b∈fp,kJ (eS X N' scope cl C s2 H2 fp) [(D,o)] H' b:=fun {H' o} hn b hb=>by
    refine ⟨hn b hb,(I4.ok.exf b hb).1,I4.ok.exfs b hb,.inl hb,(I4.ok.exf b hb).2,fun p hp => ?_⟩
    have hp':p∈([]:gC) ++ [(D,o)]:=hp
    have ep:p=(D,o):=by simpa using hp'
    subst ep
    exact hDfp b hb
  have loop:∀ s₃:Shared,s₃={ s2 with heap:=h₁,toks:=s2.toks + ([]:List (Str×Value)).length } →
      codeAny (model X.prog X.w) X.A (.compLoop (.ListComp elt [⟨tg,iter,ifs,0⟩] scope pos) 0 (.ref it) (.ref D) (compEnvC scope cl C X.env)) (RR (.ref D) C) s₃:=by
    rintro s₃ rfl
    refine vT (fun m s' => ∃ i acc H its n,Inv (eS X N' scope cl C s2 H2 fp) [(D,{ cls:=.type "list",data:=.seq its.toArray n })] (kF tgs.length outs σ) H s'∧tn i s'.heap∧(∀ b∈fp,H b=none)∧Vals acc its∧W i m acc H) ?_ m0
      ⟨0,[],H2,[],0,pinD I4 hacc fresh2,st1,fun b hb=>(f2 b hb).1,.nil,w0⟩
    rintro m s' ⟨i,acc,H,its,n,I',st',fr',rD,w'⟩
    rcases turn i m acc H w' with ⟨stop,hz,q⟩ | ⟨go,hz,N,hN,step⟩
    · refine fL (T.done (eS X N' scope cl C s2 H2 fp) rfl rfl rfl hc i _ s' _ H _ I' (stat fr') st' stop) fun r s4 ⟨hr, J4⟩ => ?_
      subst hr
      obtain ⟨eD,nD,_⟩:=J4.pin (D,{ cls:=.type "list",data:=.seq its.toArray n }) (aJ _ aB)
      obtain ⟨mC,nsC,_⟩:=J4.loc
      have I5:Inv X pins σ (upd H D (.lst acc)) s4:=aHj (D:=D) I2 (J4.pins_of (pins':=[]) (fun p hp=>nomatch hp)) f2 (by rw [hDD]; exact bJ _) eD rD hz nD
      refine fin D C s4 mC acc H I5 nD q nsC (I2.fpOk (by rw [hDD]; exact hCle) ?_)
      rw [fX (Ne.symm hDC)]
      exact J4.free
    · refine fL (T.item (eS X N' scope cl C s2 H2 fp) rfl rfl rfl hc i _ s' _ H _ I' (stat fr') st' go) fun r s4 ⟨u, hr, h4⟩ => ?_
      subst hr
      dsimp only
      refine fL h4 fun _ s5 ⟨x,H5,I5,r5,y5,st5,fr5⟩ => ?_
      have I5':=I5.pinned (stat fr5) (T.obj _ _ st5)
      refine fL (hg cl C s2 H2 fp _ s5 _ H5 x u _ I5' r5 (hgt x _ H5 _ (step x H5 y5))) fun _ s6 ⟨σ6,H6,I6,q6,l6,k6⟩ => ?_
      refine fL (hcs cl C s2 H2 fp _ s6 σ6 H6 _ I6 q6) fun b s7 ⟨H7,I7,q7⟩ => ?_
      have tail:∀ {H':Hp} {s':Shared},Inv (eS X N' scope cl C s2 H2 fp) ([(D,{ cls:=.type "list",data:=.seq its.toArray n })] ++ oZ fp s5.heap) σ6 H' s'→(∀ b∈fp,∀ o,s5.heap.get? b=some o→s'.heap.get? b=some o)∧∀ b∈fp,H' b=none:=fun {H' s'} J =>
        ⟨fun b hb o e=>(J.pin (b,o) (aJ _ (aJ _ (fp_ hb e)))).1,fun b hb=>by
          obtain ⟨o,e,d⟩:=T.obj _ _ st5 b hb
          exact (J.pin (b,o) (aJ _ (aJ _ (fp_ hb e)))).2.1⟩
      cases b with
      | false =>
        rw [if_neg aW] at q7 ⊢
        obtain ⟨m',hm,w7⟩:=hN _ _ q7
        obtain ⟨t1,t2⟩:=tail I7
        exact ⟨m',hm,i + 1,acc,H7,its,n,I7.unpinned.weak l6.symm (rS k6),T.keep _ _ _ st5 t1,t2,rD,w7⟩
      | true =>
        rw [if_pos rfl] at q7 ⊢
        refine fL (he cl C s2 H2 fp _ s7 σ6 H7 _ I7 q7) fun v s8 ⟨y,H8,I8,r8,q8⟩ => ?_
        obtain ⟨m',hm,w8⟩:=hN _ _ q8
        obtain ⟨t1,t2⟩:=tail I8
        obtain ⟨eD,nD,_⟩:=I8.pin (D,{ cls:=.type "list",data:=.seq its.toArray n }) (aJ _ (bH _ aB))
        have hl:=rD.length
        refine call_meets F.slot_list_append ⟨_,eD,rfl⟩ F.entry_list_append (F.args_list_append_2 _ _) (PySem.list_append D its.toArray n v (by rw [bA]; omega)) ⟨eD,?_⟩
        have q:=PySem.IsL.update eD (·.push v)
        have eA:its.toArray.push v=(its ++ [v]).toArray:=by simp
        rw [eA] at q
        refine ⟨m',hm,i + 1,acc ++ [y],H8,its ++ [v],_,pinD (Inv.weak (Inv.turned (it:=D) (I8.pins_of (pins':=[]) (fun p hp=>nomatch hp)) (fun b o hb e=>(bR _ _ (Ne.symm hb)).trans e) nD hDC (.inr (by show s2.heap.objs.size≤D; rw [hDD]; exact bJ _)) (fun x c e z => ?_) (fun p hp=>nomatch hp)) l6.symm (rS k6)) q nD,
          T.keep _ _ _ st5 (fun b hb o e=>(bR _ _ (hDfp b hb)).trans (t1 b hb o e)),t2,rD.append (.cons r8 .nil),w8⟩
        obtain ⟨v',oc,hoc,hdc⟩:=I8.cell x c e
        rw [z,eD] at hoc
        cases hoc
        cases hdc
  exact codeAny_compStart_list (loop _ rfl) (T.self X.A 0 _ _ _ st1 (loop _ rfl))
theorem nX {N:List Str} (S:CompScope dsc scope N tgs outs N') (hi:PI X tg iter wi) (hg:∀ cl C s H ex,PG (eS X N' scope cl C s H ex) tg g) (hgt:Tgt tgs.length g) (hcs:∀ cl C s H ex,PCs (eS X N' scope cl C s H ex) ifs tc)
    (he:∀ cl C s H ex,PE (eS X N' scope cl C s H ex) elt te) (hN0:X.N=N:=by rfl) (hsc:X.env.scope=dsc:=by rfl) (hc:X.calm=true:=by rfl) (hs:∀ x,foldedSetIterable iter X.env x=pure x:=by intro _; rfl) :
    PE X (.ListComp elt [⟨tg,iter,ifs,0⟩] scope pos) (rL tgs.length outs wi g tc te):=by
  subst hN0
  intro pins s σ H Q I h
  obtain ⟨cl,e1,e2,e3⟩:=qF (scope:=scope) (env:=X.env) (fun y hy hk=>I.ok.has y.1 (.inl (by show X.env.scope.names.lookup y.1=_; rw [hsc]; exact S.free y hy hk)))
  rw [eval_ListComp]
  refine wpAny_comprehension_free (use:=none) rfl hs e1 S.kind S.names (wpAny_mono (hi pins s σ H _ I h) (fun xv s1 h1=>wpAny_mono h1 (fun itv s2 h2 => ?_) fun _ _ e=>e) fun _ _ e=>e)
  obtain ⟨it,fp,tn,J,H2,rfl,I2,T,st2,f2,W,⟨m0,w0⟩,turn⟩:=h2
  refine qE (RR:=fun acc C=>compPost (model X.prog X.w) X.A X.xe none (EP X pins σ Q) acc C) S hsc hc hg hgt hcs he e2 e3 I2 T st2 f2 w0 (Qf:=fun acc H => ∀ l,H l=none→Q (.ref l) (upd H l (.lst acc))) turn ?_
  intro D C s5 mC acc H5 I5 nD q nsC hf
  refine ⟨mC,nsC,fun h' hs'=>⟨.ref D,_,?_,rfl,q D nD⟩⟩
  exact I5.turned (it:=C) (t':=s5.toks) (fun b o hb e=>(hs'.2 b hb).trans e) hf.1 hf.2.1 hf.2.2.2.1 hf.2.2.2.2.1 hf.2.2.2.2.2
theorem fv_ {N:List Str} {i:Nat} {x:Str} {px spos:Pos} (hN:X.N.Nodup) (hx:X.N[i]? = some x) (hl:X.env.scope.names.lookup x=some .local) (S:CompScope dsc scope N tgs outs N') (hi:PI X tg iter wi) (hg:∀ cl C s H ex,PG (eS X N' scope cl C s H ex) tg g) (hgt:Tgt tgs.length g)
    (hcs:∀ cl C s H ex,PCs (eS X N' scope cl C s H ex) ifs tc) (he:∀ cl C s H ex,PE (eS X N' scope cl C s H ex) elt te)
    (hsw:swapsWith (.ListComp elt [⟨tg,iter,ifs,0⟩] scope pos) (some (.Name x px)) spos.line X.env=pure true:=by rfl)
    (hN0:X.N=N:=by rfl) (hsc:X.env.scope=dsc:=by rfl) (hc:X.calm=true:=by rfl) (hs:∀ x,foldedSetIterable iter X.env x=pure x:=by intro _; rfl) :
    PS X (.Assign [.Name x px] (.ListComp elt [⟨tg,iter,ifs,0⟩] scope pos) spos) (zX (rL tgs.length outs wi g tc te) (kG i)):=by
  subst hN0
  intro pins s σ H Dn I h
  obtain ⟨cl,e1,e2,e3⟩:=qF (scope:=scope) (env:=X.env) (fun y hy hk=>I.ok.has y.1 (.inl (by show X.env.scope.names.lookup y.1=_; rw [hsc]; exact S.free y hy hk)))
  rw [exec_Assign_Name_used _ _ _ _ hsw]
  refine wpAny_bind (wpAny_standAt (wpAny_bind ?_))
  show wpAny _ X.A (do let _ ← comprehension (.ListComp elt [⟨tg,iter,ifs,0⟩] scope pos) scope X.env _ (newList []) false (eval iter X.env) (some (assign (.Name x px) X.env))) _ _ s
  refine wpAny_bind (wpAny_mono (wpAny_comprehension_free (use:=some (assign (.Name x px) X.env)) (Q:=fun _ s'=>SP X pins Dn .next s') rfl hs e1 S.kind S.names
    (wpAny_mono (hi pins s σ H _ I h) (fun xv s1 h1=>wpAny_mono h1 (fun itv s2 h2 => ?_) fun _ _ e=>e) fun _ _ e=>e)) (fun _ s' hq=>wpAny_pure (wpAny_pure hq)) fun _ _ e=>e)
  obtain ⟨it,fp,tn,J,H2,rfl,I2,T,st2,f2,W,⟨m0,w0⟩,turn⟩:=h2
  refine qE (RR:=fun acc C=>compPost (model X.prog X.w) X.A X.xe (some (assign (.Name x px) X.env)) (fun _ s'=>SP X pins Dn .next s') acc C) S hsc hc hg hgt hcs he e2 e3 I2 T st2 f2 w0
    (Qf:=fun acc H => ∀ l,H l=none→Dn.nx (σ.set i (some (.ref l))) (upd H l (.lst acc))) turn ?_
  intro D C s5 mC acc H5 I5 nD q nsC hf
  show wpAny _ X.A (assign (.Name x px) X.env (.ref D)) _ _ _
  refine wpAny_assign_Name (hy_ I5 hN hx (.inl hl) (show RelV (.ref D) (.ref D) from rfl) (fun s' I' ⟨a,sb,ha⟩ => ?_) (.inr hl))
  have hCa:C≠a:=by
    rcases ha with ha | ha
    · rw [ha]; exact hf.2.1
    · exact Ne.symm (hf.2.2.2.2.1 x a ha)
  refine ⟨mC,nsC.sameBut sb hCa,fun h' hs'=>⟨_,_,I'.turned (it:=C) (t':=s'.toks) (fun b o hb e=>(hs'.2 b hb).trans e) hf.1 hf.2.1 hf.2.2.2.1 hf.2.2.2.2.1 hf.2.2.2.2.2,q D nD⟩⟩
end
theorem j6 {lo:Int} {n:Nat} {g:TG} {tc:TT} {te:TE} {σ':St} {H1:Hp} {Fin:List V→Hp→Prop} (Pv:Nat→List V→Hp→Prop) (hz:n≤1000000) (h0:Pv 0 [] H1) (hl:∀ i acc H,i≤n→Pv i acc H→acc.length≤i)
    (hs:∀ i acc H,i < n→Pv i acc H→g (.int (lo + i)) σ' H fun σ2 H2=>tc σ2 H2 fun b H3=>if b=true then te σ2 H3 fun y H4=>Pv (i + 1) (acc ++ [y]) H4 else Pv (i + 1) acc H3) (hd:∀ acc H,Pv n acc H→Fin acc H) :
    ∃ W : Nat → Nat → List V → Hp → Prop, (∃ m, W 0 m [] H1) ∧ ∀ i m acc H, W i m acc H → ((Itr lo n).stop i H ∧ acc.length ≤ sizeLine ∧ Fin acc H) ∨
      ((Itr lo n).go i H∧acc.length < sizeLine∧∃ N:List V→Hp→Prop,(∀ acc' H',N acc' H'→∃ m',m' < m∧W (i + 1) m' acc' H')∧∀ x H',(Itr lo n).yld i H x H'→g x σ' H' fun σ2 H2=>tc σ2 H2 fun b H3=>if b=true then te σ2 H3 fun y H4=>N (acc ++ [y]) H4 else N acc H3):=by
  have zl:(1000000:Nat) < sizeLine:=by rw [sizeLine_eq]; decide
  refine ⟨fun i m acc H=>m=n - i∧i≤n∧Pv i acc H,⟨n,by simp,dB _,h0⟩,?_⟩
  rintro i m acc H ⟨rfl,hi,p⟩
  have al:=hl i acc H hi p
  by_cases hlt:i < n
  · refine .inr ⟨hlt, by omega, Pv (i + 1), fun acc' H' p' => ⟨n - (i + 1), by omega, rfl, hlt, p'⟩, fun x H' y => ?_⟩
    obtain ⟨e,y⟩:=y
    subst e y
    exact hs i acc _ hlt p
  · have e : i = n := by omega
    subst e
    exact .inl ⟨bJ _,by omega,hd acc H p⟩
def SIter (t:Bool) (h:Heap) (it l:Addr) (k:Nat):Prop:=if t=true then h.IsTupleIter it l k else h.IsListIter it l k
def SSeq (t:Bool) (h:Heap) (l:Addr) (xs:Array Value):Prop:=if t=true then h.IsTuple l xs else h.IsList l xs
theorem SIter.obj {t:Bool} {h:Heap} {it l:Addr} {k:Nat} (x:SIter t h it l k):∃ o,h.get? it=some o∧∀ v,o.data ≠ .cell v:=by
  cases t
  · obtain ⟨o,e,_,d⟩:=(show h.IsListIter it l k from x); exact ⟨o,e,fun v z=>by rw [d] at z; cases z⟩
  · obtain ⟨o,e,_,d⟩:=(show h.IsTupleIter it l k from x); exact ⟨o,e,fun v z=>by rw [d] at z; cases z⟩
theorem SIter.to {t:Bool} {h h':Heap} {it l:Addr} {k:Nat} (x:SIter t h it l k) (e:∀ o,h.get? it=some o→h'.get? it=some o):SIter t h' it l k:=by
  cases t
  · obtain ⟨o,a,r⟩:=(show h.IsListIter it l k from x); exact ⟨o,e o a,r⟩
  · obtain ⟨o,a,r⟩:=(show h.IsTupleIter it l k from x); exact ⟨o,e o a,r⟩
theorem SSeq.to {t:Bool} {h h':Heap} {l:Addr} {xs:Array Value} (x:SSeq t h l xs) (e:∀ o,h.get? l=some o→h'.get? l=some o):SSeq t h' l xs:=by
  cases t
  · obtain ⟨o,a,r⟩:=(show h.IsList l xs from x); exact ⟨o,e o a,r⟩
  · obtain ⟨o,a,r⟩:=(show h.IsTuple l xs from x); exact ⟨o,e o a,r⟩
section
variable {prog:Program} {w:World} {A:Around} {E:gU} {s:Shared}
theorem g9 {it l:Addr} {i:Nat} {items:Array Value} {x:Value} {Q:gU} (hit:s.heap.IsTupleIter it l i) (hl:s.heap.IsTuple l items) (hx:items[i]? = some x)
    (hQ:∀ h',h'.IsTupleIter it l (i + 1)→Heap.SameBut it s.heap h'→Q x { s with heap:=h' }):wpAny (model prog w) A (Builtin.SmallTypes.nextOf (.ref it)) Q E s:=by
  obtain ⟨o,ho,hc,hd⟩:=id hit; obtain ⟨ol,hol,_,nl,hdl⟩:=hl
  unfold Builtin.SmallTypes.nextOf
  refine wpAny_bind (wpAny_callSpecial?_slot (name:=Str.ofString "__next__") hit.typeIs F.slot_tuple_iterator_next (wpAny_call_entry F.slot_tuple_iterator_next hit.typeIs F.entry_tuple_iterator_next ?_ (F.args_tuple_iterator_next_1 _)))
  show wpAny _ _ (field (.ref it) 0 >>= _) _ _ s; refine wpAny_bind (wpAny_field ho hd (x:=.ref l) rfl ?_)
  show wpAny _ _ (if (Value.ref l == Value.none)=true then _ else _) _ _ s; rw [if_neg (show ¬ ((Value.ref l == Value.none)=true) from aW)]
  show wpAny _ _ (field (.ref it) 1 >>= _) _ _ s; refine wpAny_bind (wpAny_field ho hd (x:=.int i 0) rfl ?_)
  show wpAny _ _ (seqItems? (.ref l) >>= _) _ _ s; refine wpAny_bind (wpAny_seqItems hol hdl ?_); simp only [dA,hx]
  exact wpAny_bind (wpAny_setField ho hd (by simp) (wpAny_pure ⟨x,rfl,wpAny_pure (hQ _ ⟨_,eZ _ ho (Obj.isFreed_of_fields (Obj.data_mapFields hd _)),(Obj.cls_mapFields ..).trans hc,by rw [Obj.data_mapFields hd]; simp [rawInt]⟩ (Heap.SameBut.update ..))⟩))
theorem xG {it l:Addr} {i:Nat} {items:Array Value} {Q:gU} (hh:A.handled=none) (hit:s.heap.IsTupleIter it l i) (hl:s.heap.IsTuple l items) (hx:items[i]? = none)
    (hE:∀ h' e,Heap.ExtBut it s.heap h'→(∃ o,h'.get? e=some o∧o.cls=.type "StopIteration")→E (.ref e) { s with heap:=h' }):wpAny (model prog w) A (Builtin.SmallTypes.nextOf (.ref it)) Q E s:=by
  obtain ⟨o,ho,hc,hd⟩:=id hit; obtain ⟨ol,hol,_,nl,hdl⟩:=hl
  unfold Builtin.SmallTypes.nextOf
  refine wpAny_bind (wpAny_callSpecial?_slot (name:=Str.ofString "__next__") hit.typeIs F.slot_tuple_iterator_next (wpAny_call_entry F.slot_tuple_iterator_next hit.typeIs F.entry_tuple_iterator_next ?_ (F.args_tuple_iterator_next_1 _)))
  show wpAny _ _ (field (.ref it) 0 >>= _) _ _ s; refine wpAny_bind (wpAny_field ho hd (x:=.ref l) rfl ?_)
  show wpAny _ _ (if (Value.ref l == Value.none)=true then _ else _) _ _ s; rw [if_neg (show ¬ ((Value.ref l == Value.none)=true) from aW)]
  show wpAny _ _ (field (.ref it) 1 >>= _) _ _ s; refine wpAny_bind (wpAny_field ho hd (x:=.int i 0) rfl ?_)
  show wpAny _ _ (seqItems? (.ref l) >>= _) _ _ s; refine wpAny_bind (wpAny_seqItems hol hdl ?_); simp only [dA,hx]
  refine wpAny_bind (wpAny_rule (wpAny_bind (wpAny_setField ho hd (by simp) ?_))); show wpAny _ _ (newExc (.type "StopIteration") [] >>= _) _ _ _
  refine wpAny_bind ?_; simp only [newExc,newTuple]; refine wpAny_bind (wpAny_newObj_type ?_ (by size_fits))
  refine wpAny_bind (m:=firstArgMember _ _) (wpAny_of_eq (a:=Value.none) (by first | rfl | (simp only [firstArgMember]; rfl)) ?_); refine wpAny_newObj_type ?_ (by size_fits); simp only [raiseNew]
  refine wpAny_bind (wpAny_handled ?_); first | rw [show A.in1.handled=none from hh] | rw [hh]
  refine wpAny_bind (wpAny_pure (wpAny_throw ?_)); exact hE _ _ (((Heap.SameBut.update ..).extBut.push _).push _) ⟨_,aU _ rfl,rfl⟩
theorem pI {t:Bool} {it l:Addr} {i:Nat} {items:Array Value} {x:Value} {Q:gU} (hit:SIter t s.heap it l i) (hl:SSeq t s.heap l items) (hx:items[i]? = some x)
    (hQ:∀ h',SIter t h' it l (i + 1)→Heap.SameBut it s.heap h'→Q x { s with heap:=h' }):wpAny (model prog w) A (Builtin.SmallTypes.nextOf (.ref it)) Q E s:=by
  cases t
  · exact wpAny_nextOf_list_item hit hl hx hQ
  · exact g9 hit hl hx hQ
theorem sC {t:Bool} {it l:Addr} {i:Nat} {items:Array Value} {Q:gU} (hh:A.handled=none) (hit:SIter t s.heap it l i) (hl:SSeq t s.heap l items) (hx:items[i]? = none)
    (hE:∀ h' e,Heap.ExtBut it s.heap h'→(∃ o,h'.get? e=some o∧o.cls=.type "StopIteration")→E (.ref e) { s with heap:=h' }):wpAny (model prog w) A (Builtin.SmallTypes.nextOf (.ref it)) Q E s:=by
  cases t
  · exact wpAny_nextOf_list_end hh hit hl hx hE
  · exact xG hh hit hl hx hE
theorem aAt {t1 t2:Bool} {z TI TO i1 i2 l1 l2:Addr} {k1 k2:Nat} {xs ys:Array Value} {x y a b:Value} {Q:gU} (D:ZipApart z TI TO i1 i2 l1 l2)
    (hz:IsZip s.heap z TI TO .none) (hTI:IsPair s.heap TI (.ref i1) (.ref i2)) (hTO:IsPair s.heap TO a b)
    (h1:SIter t1 s.heap i1 l1 k1) (h2:SIter t2 s.heap i2 l2 k2) (hl1:SSeq t1 s.heap l1 xs) (hl2:SSeq t2 s.heap l2 ys) (hx:xs[k1]? = some x) (hy:ys[k2]? = some y)
    (hQ:∀ h',IsZip h' z TI TO (rawInt s.heap.objs.size)→IsPair h' TO x y→SIter t1 h' i1 l1 (k1 + 1)→SIter t2 h' i2 l2 (k2 + 1)→IsPair h' s.heap.objs.size x y→h'.objs.size=s.heap.objs.size + 1 →
      (∀ c o,c≠z→c≠TO→c≠i1→c≠i2→s.heap.get? c=some o→h'.get? c=some o)→Q (.ref s.heap.objs.size) { s with heap:=h' }) :
    wpAny (model prog w) A (Builtin.«zip.__next__» ⟨[.ref z],[]⟩) (fun fin s' => ∃ v,fin=.done (.ret v)∧Q v s') E s:=by
  show wpAny _ _ (field (.ref z) 2 >>= _) _ _ _; refine wpAny_bind (wpAny_field hz rfl (x:=.bool false) rfl ?_)
  show wpAny _ _ (field (.ref z) 3 >>= _) _ _ _; refine wpAny_bind (wpAny_field hz rfl (x:=.ref TI) rfl ?_); refine wpAny_bind (wpAny_seqItems hTI rfl ?_)
  show wpAny _ _ (Builtin.SmallTypes.ownedTupleIsFree (.ref z) >>= _) _ _ _; refine wpAny_bind ?_; unfold Builtin.SmallTypes.ownedTupleIsFree
  refine wpAny_bind (wpAny_field hz rfl (x:=.none) rfl (wpAny_pure ?_)); simp only [if_true]; refine wpAny_bind (wpAny_rule ?_)
  refine wpAny_bind (wpAny_field hz rfl (x:=.ref TO) rfl ?_); refine wpAny_bind (wpAny_setField_rec hz (by simp) fun q1 hz₁ s1 => ?_); replace hz₁:IsZip q1 z TI TO .ellipsis:=hz₁
  refine wpAny_bind ?_; simp only [List.zipIdx_cons,List.zipIdx_nil,iK,List.forIn_nil]
  refine wpAny_bind (wpAny_bind (wpAny_onRaise ?_)); show wpAny _ _ (Builtin.SmallTypes.nextOf (.ref i1) >>= _) _ _ _
  refine wpAny_bind (pI (h1.to fun o e=>s1.extBut _ _ D.i1z e) (hl1.to fun o e=>s1.extBut _ _ D.l1z e) hx fun q2 a2 s2=>wpAny_pure ?_)
  have b2:IsPair q2 TO a b:=s2.extBut _ _ D.TOi1 (s1.extBut _ _ D.TOz hTO)
  refine wpAny_bind (wpAny_seqItems b2 rfl ?_); refine wpAny_bind (wpAny_updateSeq_pair b2 fun q3 b3 s3 => ?_); replace b3:IsPair q3 TO x b:=b3
  refine wpAny_bind (wpAny_letGo (wpAny_pure ?_)); refine wpAny_bind (wpAny_bind (wpAny_onRaise ?_)); show wpAny _ _ (Builtin.SmallTypes.nextOf (.ref i2) >>= _) _ _ _
  refine wpAny_bind (pI (h2.to fun o e=>s3.extBut _ _ D.TOi2.symm (s2.extBut _ _ D.i12.symm (s1.extBut _ _ D.i2z e))) (hl2.to fun o e=>s3.extBut _ _ D.l2TO (s2.extBut _ _ D.l2i1 (s1.extBut _ _ D.l2z e))) hy fun q4 a4 s4=>wpAny_pure ?_)
  have b4:IsPair q4 TO x b:=s4.extBut _ _ D.TOi2 b3
  refine wpAny_bind (wpAny_seqItems b4 rfl ?_); refine wpAny_bind (wpAny_updateSeq_pair b4 fun q5 b5 s5 => ?_); replace b5:IsPair q5 TO x y:=b5
  refine wpAny_bind (wpAny_letGo (wpAny_pure (wpAny_pure ?_))); refine wpAny_bind (wpAny_seqItems b5 rfl ?_); refine wpAny_bind (wpAny_newTuple ?_)
  have hsz:q5.objs.size=s.heap.objs.size:=by rw [s5.1,s4.1,s3.1,s2.1,s1.1]
  have z5:IsZip q5 z TI TO .ellipsis:=s5.extBut _ _ D.TOz.symm (s4.extBut _ _ D.i2z.symm (s3.extBut _ _ D.TOz.symm (s2.extBut _ _ D.i1z.symm hz₁)))
  have k5:∀ c o,c≠z→c≠TO→c≠i1→c≠i2→s.heap.get? c=some o→q5.get? c=some o:=fun c o c1 c2 c3 c4 e=>s5.extBut _ _ c2 (s4.extBut _ _ c4 (s3.extBut _ _ c2 (s2.extBut _ _ c3 (s1.extBut _ _ c1 e))))
  have d1:SIter t1 q5 i1 l1 (k1 + 1):=a2.to fun o e=>s5.extBut _ _ D.TOi1.symm (s4.extBut _ _ D.i12 (s3.extBut _ _ D.TOi1.symm e))
  have d2:SIter t2 q5 i2 l2 (k2 + 1):=a4.to fun o e=>s5.extBut _ _ D.TOi2.symm e
  have zlt:z < q5.objs.size:=aR z5
  show wpAny _ _ (Builtin.SmallTypes.ownedTupleHandOut (.ref z) (.ref q5.objs.size) >>= _) _ _ _; refine wpAny_bind ?_; unfold Builtin.SmallTypes.ownedTupleHandOut
  have z6:IsZip (q5.push { cls:=.type "tuple",data:=.seq #[x,y] }) z TI TO .ellipsis:=aA _ z5
  refine wpAny_bind (wpAny_setField_rec z6 (by simp) fun q7 z7 s7 => ?_); replace z7:IsZip q7 z TI TO (rawInt q5.objs.size):=z7
  refine wpAny_setField_rec z7 (by simp) fun q8 z8 s8 => ?_; replace z8:IsZip q8 z TI TO (rawInt q5.objs.size):=z8
  have up:∀ c o,c≠z→q5.get? c=some o→q8.get? c=some o:=fun c o c1 e=>s8.extBut _ _ c1 (s7.extBut _ _ c1 (aA _ e))
  have t8:IsPair q8 q5.objs.size x y:=s8.extBut _ _ (fU zlt) (s7.extBut _ _ (fU zlt) (aU _ rfl))
  have n8:q8.objs.size=q5.objs.size + 1:=by rw [s8.1,s7.1,dP]
  rw [hsz] at z8 t8 n8; refine wpAny_pure ⟨_,rfl,?_⟩; show Q (.ref q5.objs.size) _; rw [hsz]
  exact hQ q8 z8 (up _ _ D.TOz b5) (d1.to fun o e=>up _ o D.i1z e) (d2.to fun o e=>up _ o D.i2z e) t8 n8 fun c o c1 c2 c3 c4 e=>up c o c1 (k5 c o c1 c2 c3 c4 e)
theorem aDe {t1 t2:Bool} {z TI TO i1 i2 l1 l2:Addr} {k1 k2:Nat} {xs ys:Array Value} {a b:Value} {Q:Fin→Shared→Prop} (hh:A.handled=none) (D:ZipApart z TI TO i1 i2 l1 l2)
    (hz:IsZip s.heap z TI TO .none) (hTI:IsPair s.heap TI (.ref i1) (.ref i2)) (hTO:IsPair s.heap TO a b)
    (h1:SIter t1 s.heap i1 l1 k1) (h2:SIter t2 s.heap i2 l2 k2) (hl1:SSeq t1 s.heap l1 xs) (hl2:SSeq t2 s.heap l2 ys) (hend:xs[k1]? = none∨ys[k2]? = none)
    (hE:∀ h' e,(∀ c o,c≠z→c≠TO→c≠i1→c≠i2→s.heap.get? c=some o→h'.get? c=some o)→(∃ o,h'.get? e=some o∧o.cls=.type "StopIteration")→E (.ref e) { s with heap:=h' }) :
    wpAny (model prog w) A (Builtin.«zip.__next__» ⟨[.ref z],[]⟩) Q E s:=by
  show wpAny _ _ (field (.ref z) 2 >>= _) _ _ _; refine wpAny_bind (wpAny_field hz rfl (x:=.bool false) rfl ?_)
  show wpAny _ _ (field (.ref z) 3 >>= _) _ _ _; refine wpAny_bind (wpAny_field hz rfl (x:=.ref TI) rfl ?_); refine wpAny_bind (wpAny_seqItems hTI rfl ?_)
  show wpAny _ _ (Builtin.SmallTypes.ownedTupleIsFree (.ref z) >>= _) _ _ _; refine wpAny_bind ?_; unfold Builtin.SmallTypes.ownedTupleIsFree
  refine wpAny_bind (wpAny_field hz rfl (x:=.none) rfl (wpAny_pure ?_)); simp only [if_true]; refine wpAny_bind (wpAny_rule ?_)
  refine wpAny_bind (wpAny_field hz rfl (x:=.ref TO) rfl ?_); refine wpAny_bind (wpAny_setField_rec hz (by simp) fun q1 hz₁ s1 => ?_); replace hz₁:IsZip q1 z TI TO .ellipsis:=hz₁
  refine wpAny_bind ?_; simp only [List.zipIdx_cons,List.zipIdx_nil,iK,List.forIn_nil]
  refine wpAny_bind (wpAny_bind (wpAny_onRaise ?_)); show wpAny _ _ (Builtin.SmallTypes.nextOf (.ref i1) >>= _) _ _ _
  cases hx:xs[k1]? with
  | none =>
    refine wpAny_bind (sC hh (h1.to fun o e=>s1.extBut _ _ D.i1z e) (hl1.to fun o e=>s1.extBut _ _ D.l1z e) hx fun q2 e s2 he => ?_)
    obtain ⟨oe,hoe,hce⟩:=he
    have z2:IsZip q2 z TI TO .ellipsis:=s2 _ _ D.i1z.symm hz₁
    have ez:e≠z:=fun x=>by subst x; rw [z2] at hoe; cases hoe; simp at hce
    exact wpAny_setField_rec z2 (by simp) fun q3 _ s3=>hE q3 e (fun c o c1 _ c3 _ x=>s3.extBut _ _ c1 (s2 _ _ c3 (s1.extBut _ _ c1 x))) ⟨oe,s3.extBut _ _ ez hoe,hce⟩
  | some x =>
    have hy:ys[k2]? = none:=by rcases hend with h | h; rw [hx] at h; cases h; exact h
    refine wpAny_bind (pI (h1.to fun o e=>s1.extBut _ _ D.i1z e) (hl1.to fun o e=>s1.extBut _ _ D.l1z e) hx fun q2 a2 s2=>wpAny_pure ?_)
    have b2:IsPair q2 TO a b:=s2.extBut _ _ D.TOi1 (s1.extBut _ _ D.TOz hTO)
    refine wpAny_bind (wpAny_seqItems b2 rfl ?_); refine wpAny_bind (wpAny_updateSeq_pair b2 fun q3 b3 s3 => ?_)
    refine wpAny_bind (wpAny_letGo (wpAny_pure ?_)); refine wpAny_bind (wpAny_bind (wpAny_onRaise ?_)); show wpAny _ _ (Builtin.SmallTypes.nextOf (.ref i2) >>= _) _ _ _
    refine wpAny_bind (sC hh (h2.to fun o e=>s3.extBut _ _ D.TOi2.symm (s2.extBut _ _ D.i12.symm (s1.extBut _ _ D.i2z e))) (hl2.to fun o e=>s3.extBut _ _ D.l2TO (s2.extBut _ _ D.l2i1 (s1.extBut _ _ D.l2z e))) hy fun q4 e s4 he => ?_)
    obtain ⟨oe,hoe,hce⟩:=he
    have z4:IsZip q4 z TI TO .ellipsis:=s4 _ _ D.i2z.symm (s3.extBut _ _ D.TOz.symm (s2.extBut _ _ D.i1z.symm hz₁))
    have ez:e≠z:=fun x=>by subst x; rw [z4] at hoe; cases hoe; simp at hce
    exact wpAny_setField_rec z4 (by simp) fun q5 _ s5=>hE q5 e (fun c o c1 c2 c3 c4 x=>s5.extBut _ _ c1 (s4 _ _ c4 (s3.extBut _ _ c2 (s2.extBut _ _ c3 (s1.extBut _ _ c1 x))))) ⟨oe,s5.extBut _ _ ez hoe,hce⟩
theorem wR {t1 t2:Bool} {z TI TO i1 i2 l1 l2:Addr} {k1 k2:Nat} {xs ys:Array Value} {x y a b:Value} {Q:Option Value→Shared→Prop} (D:ZipApart z TI TO i1 i2 l1 l2)
    (hz:IsZip s.heap z TI TO .none) (hTI:IsPair s.heap TI (.ref i1) (.ref i2)) (hTO:IsPair s.heap TO a b)
    (h1:SIter t1 s.heap i1 l1 k1) (h2:SIter t2 s.heap i2 l2 k2) (hl1:SSeq t1 s.heap l1 xs) (hl2:SSeq t2 s.heap l2 ys) (hx:xs[k1]? = some x) (hy:ys[k2]? = some y)
    (hQ:∀ h',IsZip h' z TI TO (rawInt s.heap.objs.size)→IsPair h' TO x y→SIter t1 h' i1 l1 (k1 + 1)→SIter t2 h' i2 l2 (k2 + 1)→IsPair h' s.heap.objs.size x y→h'.objs.size=s.heap.objs.size + 1 →
      (∀ c o,c≠z→c≠TO→c≠i1→c≠i2→s.heap.get? c=some o→h'.get? c=some o)→Q (some (.ref s.heap.objs.size)) { s with heap:=h' }) :
    wpAny (model prog w) A (pyNext (.ref z)) Q E s:=by
  have hT:s.TypeIs (.ref z) "zip" := ⟨_,hz,rfl⟩
  unfold pyNext
  exact wpAny_bind (wpAny_attempt (wpAny_callSpecial?_slot (name:=Str.ofString "__next__") hT F.slot_zip_next (wpAny_call_entry F.slot_zip_next hT F.entry_zip_next (aAt D hz hTI hTO h1 h2 hl1 hl2 hx hy fun h' a1 a2 a3 a4 a5 a6 a7=>wpAny_pure (hQ h' a1 a2 a3 a4 a5 a6 a7)) (F.args_zip_next_1 _))))
theorem uF {t1 t2:Bool} {z TI TO i1 i2 l1 l2:Addr} {k1 k2:Nat} {xs ys:Array Value} {a b:Value} {Q:Option Value→Shared→Prop} (hh:A.handled=none) (D:ZipApart z TI TO i1 i2 l1 l2)
    (hz:IsZip s.heap z TI TO .none) (hTI:IsPair s.heap TI (.ref i1) (.ref i2)) (hTO:IsPair s.heap TO a b)
    (h1:SIter t1 s.heap i1 l1 k1) (h2:SIter t2 s.heap i2 l2 k2) (hl1:SSeq t1 s.heap l1 xs) (hl2:SSeq t2 s.heap l2 ys) (hend:xs[k1]? = none∨ys[k2]? = none)
    (hQ:∀ h',(∀ c o,c≠z→c≠TO→c≠i1→c≠i2→s.heap.get? c=some o→h'.get? c=some o)→Q none { s with heap:=h' }):wpAny (model prog w) A (pyNext (.ref z)) Q E s:=by
  have hT:s.TypeIs (.ref z) "zip" := ⟨_,hz,rfl⟩
  unfold pyNext
  refine wpAny_bind (wpAny_attempt (wpAny_callSpecial?_slot (name:=Str.ofString "__next__") hT F.slot_zip_next (wpAny_call_entry F.slot_zip_next hT F.entry_zip_next (aDe hh D hz hTI hTO h1 h2 hl1 hl2 hend fun h' e hk he => ?_) (F.args_zip_next_1 _))))
  obtain ⟨o,ho,hc⟩:=he
  exact wpAny_bind (wpAny_isInstance (T := "StopIteration") (b:=true) ⟨o,ho,hc⟩ isSubtype_stop (wpAny_pure (hQ _ hk)))
end
abbrev aGm (t:Bool):String:=if t=true then "tuple_iterator" else "list_iterator"
abbrev zq1 (t1:Bool) (h:Heap) (l1:Addr):Heap:=h.push { cls:=.type (aGm t1),data:=.fields #[.ref l1,.int 0 0] }
abbrev zq2 (t1 t2:Bool) (h:Heap) (l1 l2:Addr):Heap:=(zq1 t1 h l1).push { cls:=.type (aGm t2),data:=.fields #[.ref l2,.int 0 0] }
abbrev zq3 (t1 t2:Bool) (h:Heap) (l1 l2:Addr):Heap:=(zq2 t1 t2 h l1 l2).push { cls:=.type "tuple",data:=.seq #[.ref h.objs.size,.ref (zq1 t1 h l1).objs.size] }
abbrev zq4 (t1 t2:Bool) (h:Heap) (l1 l2:Addr):Heap:=(zq3 t1 t2 h l1 l2).push { cls:=.type "tuple",data:=.seq #[.none,.none] }
abbrev zq5 (t1 t2:Bool) (h:Heap) (l1 l2:Addr):Heap:=(zq4 t1 t2 h l1 l2).push { cls:=.type "zip",data:=.fields #[.none,.bool false,.bool false,.ref (zq2 t1 t2 h l1 l2).objs.size,.ref (zq3 t1 t2 h l1 l2).objs.size] }
theorem wT {prog:Program} {w:World} {A:Around} {E:gU} {s:Shared} {t:Bool} {l:Addr} {xs:Array Value} {Q:gU} (hl:SSeq t s.heap l xs)
    (hQ:Q (.ref s.heap.objs.size) { s with heap:=zq1 t s.heap l }):wpAny (model prog w) A (pyIter (.ref l)) Q E s:=by
  cases t
  · exact wpAny_pyIter_list hl hQ
  · exact wpAny_pyIter_tuple hl hQ
theorem aDd (t1 t2:Bool) (l1 l2:Addr) (xs ys:Array Value) :
    Meets (Builtin.«zip.__new__» ⟨[.type "zip",.ref l1,.ref l2],[]⟩) (fun _ R s=>SSeq t1 s.heap l1 xs∧SSeq t2 s.heap l2 ys∧R (.ok (.ret (.ref (zq4 t1 t2 s.heap l1 l2).objs.size))) { s with heap:=zq5 t1 t2 s.heap l1 l2 }) :=
  .of_wp fun prog w A R s h=>by
    obtain ⟨hp,g,d,tk,os⟩:=s
    obtain ⟨hl1,hl2,h⟩:=h
    have hsub:=sub_zip
    have hL1:SSeq t1 (Shared.heap ⟨hp,g,d,tk,os⟩) l1 xs:=hl1
    have hL2:SSeq t2 (Shared.heap ⟨zq1 t1 hp l1,g,d,tk,os⟩) l2 ys:=hl2.to fun o e=>aA _ e
    wp_walk using wT hL1,wT hL2
    exact ⟨_,rfl,h⟩
theorem aCj {prog:Program} {w:World} {A:Around} {E:gU} {s:Shared} {t1 t2:Bool} {l1 l2:Addr} {xs ys:Array Value} {Q:gU} (hl1:SSeq t1 s.heap l1 xs) (hl2:SSeq t2 s.heap l2 ys)
    (h:∀ h',IsZip h' (s.heap.objs.size + 4) (s.heap.objs.size + 2) (s.heap.objs.size + 3) .none→IsPair h' (s.heap.objs.size + 2) (.ref s.heap.objs.size) (.ref (s.heap.objs.size + 1)) →
      IsPair h' (s.heap.objs.size + 3) .none .none→SIter t1 h' s.heap.objs.size l1 0→SIter t2 h' (s.heap.objs.size + 1) l2 0→(∀ c o,s.heap.get? c=some o→h'.get? c=some o)→Q (.ref (s.heap.objs.size + 4)) { s with heap:=h' }) :
    wpAny (model prog w) A (call (.type "zip") [.ref l1,.ref l2]) Q E s:=by
  refine callType_new F.called_zip (by decide) (F.typeCall_zip_2 _ _) (F.newCall_zip_2 _ _) (fun obj=>F.args_object_init_3 obj _ _) F.entry_zip_new (aDd t1 t2 l1 l2 xs ys) ⟨hl1,hl2,?_⟩
  have z1:(zq1 t1 s.heap l1).objs.size=s.heap.objs.size + 1:=dP ..
  have z2:(zq2 t1 t2 s.heap l1 l2).objs.size=s.heap.objs.size + 2:=by rw [dP,z1]
  have z3:(zq3 t1 t2 s.heap l1 l2).objs.size=s.heap.objs.size + 3:=by rw [dP,z2]
  have z4:(zq4 t1 t2 s.heap l1 l2).objs.size=s.heap.objs.size + 4:=by rw [dP,z3]
  have g5:(zq5 t1 t2 s.heap l1 l2).get? (zq4 t1 t2 s.heap l1 l2).objs.size=some _:=aU _ rfl
  have g4:(zq5 t1 t2 s.heap l1 l2).get? (zq3 t1 t2 s.heap l1 l2).objs.size=some _:=aA _ (aU _ rfl)
  have g3:(zq5 t1 t2 s.heap l1 l2).get? (zq2 t1 t2 s.heap l1 l2).objs.size=some _:=aA _ (aA _ (aU _ rfl))
  have g2:(zq5 t1 t2 s.heap l1 l2).get? (zq1 t1 s.heap l1).objs.size=some _:=aA _ (aA _ (aA _ (aU _ rfl)))
  have g1:(zq5 t1 t2 s.heap l1 l2).get? s.heap.objs.size=some _:=aA _ (aA _ (aA _ (aA _ (aU _ rfl))))
  show _∧_
  rw [z2,z3,z4] at g5; rw [z1,z2] at g3; rw [z3] at g4; rw [z1] at g2; rw [z4]
  refine ⟨⟨_,g5,rfl⟩,h _ g5 g3 g4 ?_ ?_ fun c o x=>aA _ (aA _ (aA _ (aA _ (aA _ x))))⟩
  · cases t1 <;> exact ⟨_,g1,rfl,rfl⟩
  · cases t2 <;> exact ⟨_,g2,rfl,rfl⟩
section
variable {prog:Program} {w:World} {A:Around} {R:Result→Shared→Prop} {I:Addr} {fp wr:List Addr} {n:Nat} {P:Nat→Value→Prop} {St:Nat→Heap→Prop}
theorem aBr (kw:List (Str×Value)) (W:Walks prog w A.in1 I fp wr n P St) (bt:Nat→Nat→Bool) (hcmp:CmpOf prog w A.in1 .Gt P bt) (S:Addr) (hSf:S∉fp) :
    ∀ (k j:Nat) (s:Shared) (vb:Value) (c:Nat),n - (j + 1)=k→j + 1≤n→St (j + 1) s.heap→P (argBest bt j) vb→s.heap.get? S=some { cls:=.type "list",dict:=none,data:=.seq #[vb,vb] c,slots := #[] } →
    (∀ v h' tk,P (argBest bt (n - 1)) v→(∀ b o,b∉wr→b≠S→s.heap.get? b=some o→h'.get? b=some o)→R (.ok (.ret v)) { s with heap:=h',toks:=tk }) →
    codeAny (model prog w) A (.builtin "max.loop" ⟨[.ref I,.none,.ref S],kw⟩) R s:=by
  have hSw:S∉wr:=fun h=>hSf (W.sub _ h)
  have hname:(toString "max" ++ toString ".loop" : String) = "max.loop" := by decide
  intro k
  induction k with
  | zero =>
    intro j s vb c hk hj hst hPb hS hR
    have hin:j + 1=n:=by omega
    refine codeAny_builtin F.entry_max_loop ?_; rw [Around.under_plainId F.plain_max_loop _]
    show wpAny _ A.in1 (seqItems? (.ref S) >>= _) _ _ s; refine wpAny_bind (wpAny_seqItems hS rfl ?_)
    show wpAny _ A.in1 (tryCatch (pyNext (.ref I)) _ >>= _) _ _ s; refine wpAny_bind (wpAny_tryCatch (W.done s _ _ (hin ▸ hst) fun h' tk hk' => ?_))
    have hS':=hk' S _ hSw hS
    show wpAny _ A.in1 (updateSeq S (fun _ => #[]) >>= _) _ _ _; refine wpAny_bind ?_; refine wpAny_updateSeq hS' rfl (wpAny_bind (wpAny_letGo (wpAny_pure ?_)))
    exact hR vb _ tk (by rw [← hin]; exact hPb) fun b o hbw hbS e=>(bR _ _ (Ne.symm hbS)).trans (hk' b o hbw e)
  | succ k ih =>
    intro j s vb c hk hj hst hPb hS hR
    have hlt:j + 1 < n:=by omega
    refine codeAny_builtin F.entry_max_loop ?_; rw [Around.under_plainId F.plain_max_loop _]
    show wpAny _ A.in1 (seqItems? (.ref S) >>= _) _ _ s; refine wpAny_bind (wpAny_seqItems hS rfl ?_)
    show wpAny _ A.in1 (tryCatch (pyNext (.ref I)) _ >>= _) _ _ s; refine wpAny_bind (wpAny_tryCatch (W.item (j + 1) s _ _ hlt hst fun v h' tk hP hst' hk' => ?_))
    have hS':=hk' S _ hSw hS
    show wpAny _ A.in1 (tryCatch (holding [v,v] (richCompare .Gt v vb >>= _)) _ >>= _) _ _ _; refine wpAny_bind (wpAny_tryCatch (wpAny_holding (wpAny_bind (hcmp (j + 1) (argBest bt j) v vb _ _ _ hP hPb ?_))))
    refine wpAny_bind (wpAny_holding (wpAny_truthy_bool ?_)); refine wpAny_bind (wpAny_letGo (wpAny_pure ?_))
    cases hb:bt (j + 1) (argBest bt j) with
    | true =>
      simp only [if_true]; refine wpAny_bind ?_; refine wpAny_updateSeq hS' rfl (wpAny_bind (wpAny_letGo ?_)); rw [hname]
      refine wpAny_pure ⟨plainId_quiet F.plain_max_loop _,ih (j + 1) _ v _ (by omega) hlt (W.frame _ _ _ hst' fun b hbf o e => ?_) (by simp only [argBest,hb,if_true]; exact hP) (eZ _ hS' rfl) fun v' h'' tk'' hP' hk'' => ?_⟩
      · exact (bR _ _ (fun h:S=b=>hSf (by rw [h]; exact hbf))).trans e
      · exact hR v' h'' tk'' hP' fun b o hbw hbS e=>hk'' b o hbw hbS ((bR _ _ (Ne.symm hbS)).trans (hk' b o hbw e))
    | false =>
      simp only [fE,if_false]; refine wpAny_bind (wpAny_letGo ?_); rw [hname]
      refine wpAny_pure ⟨plainId_quiet F.plain_max_loop _,ih (j + 1) _ vb c (by omega) hlt hst' (by simp only [argBest,hb,fE,if_false]; exact hPb) hS' fun v' h'' tk'' hP' hk'' => ?_⟩
      exact hR v' h'' tk'' hP' fun b o hbw hbS e=>hk'' b o hbw hbS (hk' b o hbw e)
theorem g_ (kw:List (Str×Value)) (W:Walks prog w A.in1 I fp wr n P St) (bt:Nat→Nat→Bool) (hcmp:CmpOf prog w A.in1 .Gt P bt) (S:Addr) (hSf:S∉fp) (hn:0 < n) {s:Shared} {c:Nat} (hst:St 0 s.heap)
    (hS:s.heap.get? S=some { cls:=.type "list",dict:=none,data:=.seq #[] c,slots := #[] })
    (hR:∀ v h' tk,P (argBest bt (n - 1)) v→(∀ b o,b∉wr→b≠S→s.heap.get? b=some o→h'.get? b=some o)→R (.ok (.ret v)) { s with heap:=h',toks:=tk }) :
    codeAny (model prog w) A (.builtin "max.loop" ⟨[.ref I,.none,.ref S],kw⟩) R s:=by
  have hSw:S∉wr:=fun h=>hSf (W.sub _ h)
  have hname:(toString "max" ++ toString ".loop" : String) = "max.loop" := by decide
  refine codeAny_builtin F.entry_max_loop ?_; rw [Around.under_plainId F.plain_max_loop _]
  show wpAny _ A.in1 (seqItems? (.ref S) >>= _) _ _ s; refine wpAny_bind (wpAny_seqItems hS rfl ?_)
  show wpAny _ A.in1 (tryCatch (pyNext (.ref I)) _ >>= _) _ _ s; refine wpAny_bind (wpAny_tryCatch (W.item 0 s _ _ hn hst fun v h' tk hP hst' hk' => ?_))
  have hS':=hk' S _ hSw hS
  show wpAny _ A.in1 (updateSeq S (fun _ => #[v,v]) >>= _) _ _ _; refine wpAny_bind ?_; refine wpAny_updateSeq hS' rfl ?_; rw [hname]
  refine wpAny_pure ⟨plainId_quiet F.plain_max_loop _,aBr kw W bt hcmp S hSf _ 0 _ v _ rfl hn (W.frame _ _ _ hst' fun b hbf o e => ?_) hP (eZ _ hS' rfl) fun v' h'' tk'' hP' hk'' => ?_⟩
  · exact (bR _ _ (fun h:S=b=>hSf (by rw [h]; exact hbf))).trans e
  · exact hR v' h'' tk'' hP' fun b o hbw hbS e=>hk'' b o hbw hbS ((bR _ _ (Ne.symm hbS)).trans (hk' b o hbw e))
theorem aBq {d:Value} {nm:Str} (W:Walks prog w A.in1 I fp wr 0 P St) (S:Addr) (hSf:S∉fp) {s:Shared} {c:Nat} (hst:St 0 s.heap)
    (hS:s.heap.get? S=some { cls:=.type "list",dict:=none,data:=.seq #[] c,slots := #[] })
    (hR:∀ h' tk,(∀ b o,b∉wr→s.heap.get? b=some o→h'.get? b=some o)→R (.ok (.ret d)) { s with heap:=h',toks:=tk }) :
    codeAny (model prog w) A (.builtin "max.loop" ⟨[.ref I,.none,.ref S],[(nm,d)]⟩) R s:=by
  have hSw:S∉wr:=fun h=>hSf (W.sub _ h)
  refine codeAny_builtin F.entry_max_loop ?_; rw [Around.under_plainId F.plain_max_loop _]
  show wpAny _ A.in1 (seqItems? (.ref S) >>= _) _ _ s; refine wpAny_bind (wpAny_seqItems hS rfl ?_)
  show wpAny _ A.in1 (tryCatch (pyNext (.ref I)) _ >>= _) _ _ s; refine wpAny_bind (wpAny_tryCatch (W.done s _ _ hst fun h' tk hk' => ?_))
  refine wpAny_bind (wpAny_rule (wpAny_pure ?_))
  exact hR h' tk hk'
end
theorem aCv (a d:Value):argsOk "max" ⟨[a],[(Str.ofString "default",d)]⟩:=by unfold argsOk; kernel_rfl
def Sq (t:Bool) (K:dH) (H:Hp) (a:Addr) (xs:List V):Prop:=if t=true then SqT K H a xs else SqL K H a xs
theorem Inv.sseq {X:Cx} {pins:gC} {σ:St} {H:Hp} {s:Shared} {t:Bool} {a:Addr} {xs:List V} (I:Inv X pins σ H s) (h:Sq t X.K H a xs):∃ its:List Value,Vals xs its∧SSeq t s.heap a its.toArray∧xs.length≤sizeLine:=by
  cases t
  · obtain ⟨its, r, p, z⟩ := I.list h
    exact ⟨its,r,p.isList,z⟩
  · obtain ⟨its, r, p, z⟩ := I.tuple h
    exact ⟨its,r,p,z⟩
theorem Inv.sseq_inj {X:Cx} {pins:gC} {σ:St} {H:Hp} {s:Shared} {t:Bool} {a:Addr} {xs ys:List V} (I:Inv X pins σ H s) (h:Sq t X.K H a xs) (h':Sq t X.K H a ys):xs=ys:=by
  cases t
  · exact I.list_inj h h'
  · exact I.tuple_inj h h'
def Itz (t1 t2:Bool) (K:dH) (a b:Addr):It :=
  ⟨fun i H => ∃ xs ys x y,Sq t1 K H a xs∧Sq t2 K H b ys∧xs[i]? = some x∧ys[i]? = some y,
   fun i H v H' => ∃ p x y,v=.ref p∧H p=none∧H'=upd H p (.tup [x,y])∧∀ xs ys,Sq t1 K H a xs→Sq t2 K H b ys→xs[i]? = some x∧ys[i]? = some y,
   fun i H => ∃ xs ys,Sq t1 K H a xs∧Sq t2 K H b ys∧(xs.length≤i∨ys.length≤i)⟩
section
variable {X:Cx} {pins:gC} {σ:St} {H:Hp} {s:Shared}
theorem Inv.turnedL {ch:List Addr} {h':Heap} {t':Nat} (I:Inv X pins σ H s) (hf:∀ b∈ch,kJ X pins H b) (k:∀ b o,b∉ch→s.heap.get? b=some o→h'.get? b=some o):Inv X pins σ H { s with heap:=h',toks:=t' }:=by
  have nch:∀ b u,H b=some u→b∉ch:=fun b u e z=>by rw [(hf b z).1] at e; cases e
  refine I.step (g':=s.gens) (d':=s.drawn) (ch:=ch) (fun b hb=>⟨(hf b hb).2.2.2.1,(hf b hb).2.1,(hf b hb).2.2.2.2.1,(hf b hb).2.2.2.2.2⟩) (fun b o _ _ hc e _=>k b o hc e) (fun b o _ _ hc e _=>⟨o.slots,k b o hc e⟩) (fun _ _ _ _ n=>n)
    (fun b o hc e=>⟨o,k b o hc e⟩) (fun _ _ e=>e) (fun _ _ _ e=>e) (fun b ps e=>⟨#[],by rw [e]; simp⟩) (fun m hm => ?_) (fun b u e => ?_) I.bare
  · obtain ⟨o, es, ep, ho, r⟩ := hm
    exact ⟨o,es,ep,k _ o (fun z=>(hf _ z).2.1 rfl) ho,r⟩
  · refine (I.hok b u e).stay (fun c v hc q => k c v ?_ q) (fun _ q => q) fun _ _ q => q
    rcases hc with z | z
    · rw [z]; exact nch b u e
    · exact nch c _ z
theorem Inv.turnedT {ch:List Addr} {h':Heap} {t':Nat} {T:Addr} {xs:List V} {its:List Value} (I:Inv X pins σ H s) (hf:∀ b∈ch,kJ X pins H b) (k:∀ b o,b∉ch→s.heap.get? b=some o→h'.get? b=some o)
    (hT:s.heap.objs.size≤T) (r:Vals xs its) (hz:xs.length≤sizeLine) (e:IsTup h' T its.toArray):Inv X pins σ (upd H T (.tup xs)) { s with heap:=h',toks:=t' }:=by
  have nT:H T=none:=I.hok.fresh hT
  have nch:∀ b u,H b=some u→b∉ch:=fun b u e z=>by rw [(hf b z).1] at e; cases e
  have neT:∀ b o,s.heap.get? b=some o→b≠T:=fun b o e z=>absurd (bL (aR e) (by rw [z]; exact hT)) (eO _)
  refine I.step (g':=s.gens) (d':=s.drawn) (ch:=ch) (fun b hb=>⟨(hf b hb).2.2.2.1,(hf b hb).2.1,(hf b hb).2.2.2.2.1,(hf b hb).2.2.2.2.2⟩) (fun b o _ _ hc e _=>k b o hc e) (fun b o _ _ hc e _=>⟨o.slots,k b o hc e⟩)
    (fun b o _ e n=>by rw [fX (neT b o e)]; exact n) (fun b o hc e=>⟨o,k b o hc e⟩) (fun b ys q=>by rw [fX (zN q nT)]; exact q) (fun b o u q=>by rw [fX (zN q nT)]; exact q)
    (fun b ps q=>⟨#[],by rw [fX (zN q nT),q]; simp⟩) (fun m hm => ?_) (fun b u q => ?_) I.bare
  · obtain ⟨o, es, ep, ho, rr⟩ := hm
    exact ⟨o,es,ep,k _ o (fun z=>(hf _ z).2.1 rfl) ho,rr⟩
  · by_cases hb : b = T
    · subst hb
      rw [cJ] at q
      cases q
      exact ⟨hz,its,r,e⟩
    · rw [fX hb] at q
      refine (I.hok b u q).stay (fun c v hc z=>k c v ?_ z) (fun c z=>by rw [fX (zN z nT)]; exact z) fun c ys z=>by rw [fX (zN z nT)]; exact z
      rcases hc with z | z
      · rw [z]; exact nch b u q
      · exact nch c _ z
end
theorem aDv {P:Program} {w:World} {K:dH} {es:List Expr} {kk:Nat} {tpos:Pos} {t1 t2:Bool} {a b z TI TO i1 i2:Addr} (D:ZipApart z TI TO i1 i2 a b) :
    Turn P w K (.Tuple es kk tpos) (Itz t1 t2 K a b) [z,TI,TO,i1,i2] z (fun i h=>IsZip h z TI TO .none∧IsPair h TI (.ref i1) (.ref i2)∧(∃ u v,IsPair h TO u v)∧SIter t1 h i1 a i∧SIter t2 h i2 b i) where
  mem:=by simp
  obj:=fun i h st c hb=>by
    obtain ⟨hz,hTI,⟨u,v,hTO⟩,h1,h2⟩:=st
    simp only [aF,aV,or_false] at hb
    rcases hb with rfl | rfl | rfl | rfl | rfl
    · exact ⟨_,hz,fun v e=>nomatch e⟩
    · exact ⟨_,hTI,fun v e=>nomatch e⟩
    · exact ⟨_,hTO,fun v e=>nomatch e⟩
    · exact h1.obj
    · exact h2.obj
  keep:=fun i h h' st k=>by
    obtain ⟨hz,hTI,⟨u,v,hTO⟩,h1,h2⟩:=st
    exact ⟨k z (by simp) _ hz,k TI (by simp) _ hTI,⟨u,v,k TO (by simp) _ hTO⟩,h1.to fun o e=>k i1 (by simp) o e,h2.to fun o e=>k i2 (by simp) o e⟩
  item:=by
    intro X hP hw hK hc i pins s σ H E I hf st hg
    subst hP hw hK
    obtain ⟨xs,ys,x,y,q1,q2,e1,e2⟩:=hg
    obtain ⟨its1,r1,p1,z1⟩:=I.sseq q1
    obtain ⟨its2,r2,p2,z2⟩:=I.sseq q2
    obtain ⟨u1,eu1,ru1⟩:=r1.get e1
    obtain ⟨u2,eu2,ru2⟩:=r2.get e2
    obtain ⟨hz,hTI,⟨u,v,hTO⟩,h1,h2⟩:=st
    have hf4:∀ c∈[z,TO,i1,i2],kJ X pins H c:=fun c hc=>hf c (by simp only [aF,aV,or_false] at hc ⊢; rcases hc with rfl | rfl | rfl | rfl <;> simp)
    have lt:∀ {c o},s.heap.get? c=some o→s.heap.objs.size≠c:=fun e=>fU (aR e)
    refine wR D hz hTI hTO h1 h2 p1 p2 (x:=u1) (y:=u2) (by simpa using eu1) (by simpa using eu2) fun h' a1 a2 a3 a4 a5 a6 hk => ?_
    refine ⟨_,rfl,wpAny_letOwnedTupleGo_zip a1 fun h'' b1 b2 => ?_⟩
    have b2':Heap.SameBut z h' h'':=b2
    have kk:∀ c o,c∉[z,TO,i1,i2]→s.heap.get? c=some o→h''.get? c=some o:=fun c o hc e=>by
      simp only [aF,aV,or_false,not_or] at hc
      exact b2'.extBut _ _ hc.1 (hk c o hc.1 hc.2.1 hc.2.2.1 hc.2.2.2 e)
    have tT:h''.get? s.heap.objs.size=some { cls:=.type "tuple",data:=.seq #[u1,u2] }:=b2'.extBut _ _ (lt hz) a5
    have nT:H s.heap.objs.size=none:=I.hok.fresh (bJ _)
    have I':Inv X pins σ (upd H s.heap.objs.size (.tup [x,y])) { s with heap:=h'' }:=I.turnedT (t':=s.toks) (its:=[u1,u2]) hf4 kk (bJ _) (.cons ru1 (.cons ru2 .nil)) (by show 2≤sizeLine; decide) ⟨_,tT,rfl,_,rfl⟩
    refine ⟨.ref s.heap.objs.size,upd H s.heap.objs.size (.tup [x,y]),I',rfl,
      ⟨_,x,y,rfl,nT,rfl,fun xs' ys' w1 w2=>⟨by rw [I.sseq_inj w1 q1]; exact e1,by rw [I.sseq_inj w2 q2]; exact e2⟩⟩,⟨b1,b2'.extBut _ _ D.TIz (hk _ _ D.TIz D.TITO D.TIi1 D.TIi2 hTI),⟨_,_,b2'.extBut _ _ D.TOz a2⟩,a3.to fun o e=>b2'.extBut _ _ D.i1z e,a4.to fun o e=>b2'.extBut _ _ D.i2z e⟩,fun c hc => ?_⟩
    obtain ⟨o,eo,_⟩ : ∃ o,s.heap.get? c=some o∧True:=by
      simp only [aF,aV,or_false] at hc
      rcases hc with rfl | rfl | rfl | rfl | rfl
      · exact ⟨_,hz,trivial⟩
      · exact ⟨_,hTI,trivial⟩
      · exact ⟨_,hTO,trivial⟩
      · obtain ⟨o,e,_⟩:=h1.obj; exact ⟨o,e,trivial⟩
      · obtain ⟨o,e,_⟩:=h2.obj; exact ⟨o,e,trivial⟩
    rw [fX (Ne.symm (lt eo))]
    exact (hf c hc).1
  done:=by
    intro X hP hw hK hc i pins s σ H E I hf st hg
    subst hP hw hK
    obtain ⟨xs,ys,q1,q2,e⟩:=hg
    obtain ⟨its1,r1,p1,z1⟩:=I.sseq q1
    obtain ⟨its2,r2,p2,z2⟩:=I.sseq q2
    obtain ⟨hz,hTI,⟨u,v,hTO⟩,h1,h2⟩:=st
    have hf4:∀ c∈[z,TO,i1,i2],kJ X pins H c:=fun c hc=>hf c (by simp only [aF,aV,or_false] at hc ⊢; rcases hc with rfl | rfl | rfl | rfl <;> simp)
    have l1:=r1.length
    have l2:=r2.length
    refine uF (I.ok.hd hc) D hz hTI hTO h1 h2 p1 p2 ?_ fun h' hk=>⟨rfl,I.turnedL (t':=s.toks) hf4 fun c o hc e => ?_⟩
    · rcases e with e | e
      · exact .inl (by simp; omega)
      · exact .inr (by simp; omega)
    · simp only [aF, aV, or_false, not_or] at hc
      exact hk c o hc.1 hc.2.1 hc.2.2.1 hc.2.2.2 e
  self:=fun _ _ _ _ _ st h=>wpAny_pyIter_zip st.1 h
theorem aHr:bootBuiltins "zip" = some (.type "zip"):=by decide +kernel
def aYf (t1 t2:Bool) (K:dH) (ta:TA):TI:=fun σ H R=>ta σ H fun vs H1 => ∃ a b,vs=[.ref a,.ref b]∧(∃ xs,Sq t1 K H1 a xs)∧(∃ ys,Sq t2 K H1 b ys)∧R (Itz t1 t2 K a b) H1
theorem c8 {X:Cx} {ea eb:Expr} {ta:TA} {p pos:Pos} {es:List Expr} {kk:Nat} {tpos:Pos} {t1 t2:Bool} (hg:Gl X "zip") (hm:X.mg "zip" = none) (ha:PA X [ea,eb] ta) (hs:starEach [ea,eb] X.env=[(false,eval ea X.env),(false,eval eb X.env)]:=by rfl) (hs2:starEach [eb] X.env=[(false,eval eb X.env)]:=by rfl) :
    PI X (.Tuple es kk tpos) (.Call (.Name "zip" p) [ea,eb] [] pos) (aYf t1 t2 X.K ta):=by
  intro pins s σ H R I h
  refine Call_ (gh_ I hg hm aHr (eG (fL (ha pos pins s σ H _ I h) fun us s1 ⟨vs,H1,I1,r1,q1⟩ => ?_) (by rw [hs,hs2]) (by rw [hs2]; rfl)))
  obtain ⟨a,b,e,⟨xs,w1⟩,⟨ys,w2⟩,q⟩:=q1
  subst e
  obtain ⟨u,v,rfl,ru,rv⟩:=r1.two
  cases ru
  cases rv
  obtain ⟨its1,r1,p1,z1⟩:=I1.sseq w1
  obtain ⟨its2,r2,p2,z2⟩:=I1.sseq w2
  have lt1:a < s1.heap.objs.size:=by cases t1 <;> (obtain ⟨_,e,_⟩:=p1; exact aR e)
  have lt2:b < s1.heap.objs.size:=by cases t2 <;> (obtain ⟨_,e,_⟩:=p2; exact aR e)
  refine aCj p1 p2 fun h' hz hTI hTO hi1 hi2 hk=>wpAny_pyIter_zip hz ?_
  refine ⟨_,_,_,_,H1,rfl,I1.kept (t':=s1.toks) hk,aDv (t1:=t1) (t2:=t2) (zipApart_new lt1 lt2),⟨hz,hTI,⟨_,_,hTO⟩,hi1,hi2⟩,fun c hc => ?_,q⟩
  have hle:s1.heap.objs.size≤c:=by
    simp only [aF,aV,or_false] at hc
    rcases hc with rfl | rfl | rfl | rfl | rfl <;> omega
  exact I1.fpOk hle (I1.hok.fresh hle)
section
variable {X:Cx}
theorem aCn (hc:X.calm=true):CallR X (.builtin "max") (fun xs H Q => ∃ p ns,xs=[.ref p]∧SqL X.K H p (ns.map V.int)∧ns≠[]∧∀ M,M∈ns→(∀ a∈ns,a≤M)→Q (.int M) H):=by
  intro pins s σ H xs us Q I r h
  obtain ⟨p,ns,rfl,hq,hne,q⟩:=h
  obtain ⟨u,rfl,rx⟩:=jZ r
  cases rx
  obtain ⟨its,r',pl,hz⟩:=I.list hq
  have hi:=pU r'
  obtain ⟨zs,e⟩:=hi.allInts.items
  have hns:ns=zs.toList.map (·.1):=by rw [← hi.numsOf,← nums_intItems,← e]
  have hsz:0 < zs.size:=by
    have h3:=List.length_pos_iff.mpr hne
    rw [hns,aE,Array.length_toList] at h3
    exact h3
  have pl':=pl.isList
  rw [e] at pl'
  refine max_intList (I.ok.hd hc) pl' hsz fun v h' tk hv hk => ?_
  obtain ⟨t,rfl⟩:=intItems_at hv
  obtain ⟨h1,h2⟩:=argBest_gt (numAt zs) (zs.size - 1)
  refine ⟨.int _,H,I.kept hk,⟨t,rfl⟩,q _ ?_ fun a ha => ?_⟩
  · rw [hns, numAt_eq]
    exact getD_mem (by rw [aE,Array.length_toList]; omega)
  · rw [hns] at ha
    obtain ⟨j,hj,rfl⟩:=mem_getD ha
    rw [aE,Array.length_toList] at hj
    rw [← numAt_eq]
    exact h2 j (by omega)
def aIa (X:Cx) (f:Value) (ks:List Str) (r:List V→List V→Hp→VK→Prop):Prop :=
  ∀ (pins : gC) (s : Shared) (σ : St) (H : Hp) (xs zs : List V) (us ws : List Value) (Q : VK), Inv X pins σ H s → Vals xs us → Vals zs ws → r xs zs H Q →
    wpAny (model X.prog X.w) X.A (call f us (ks.zip ws)) (EP X pins σ Q) X.xe s
def aXj (r:List V→List V→Hp→VK→Prop) (t tk:TA):TE:=fun σ H Q=>t σ H fun vs H1=>tk σ H1 fun zs H2=>r vs zs H2 Q
theorem aBk {x:Str} {p pos:Pos} {e:Expr} {es:List Expr} {kws:List Keyword} {t tk:TA} {id:String} {ks:List Str} {r:List V→List V→Hp→VK→Prop} (hc:aIa X (.builtin id) ks r) (hg:Gl X x) (hm:X.mg x=none) (hv:bootBuiltins x=some (.builtin id))
    (ha:PA X (e :: es) t) (hkw:PK X kws tk) (hks:(backToKw pos (keywordEach kws X.env)).filterMap (·.1)=ks:=by rfl) (hn:x ≠ "__name__" := by decide) (hdb:(x == ("__debug__" : Str))=false:=by decide)
    (he:backTo pos (starEach (e :: es) X.env)=(false,eval e X.env) :: backTo pos (starEach es X.env):=by rfl) (hpl:(backTo pos (starEach (e :: es) X.env)).any (·.1)=false:=by rfl)
    (hall:(backToKw pos (keywordEach kws X.env)).all (·.1.isSome)=true:=by rfl) (hkn:(backToKw pos (keywordEach kws X.env)).any (·.1.isNone)=false:=by rfl):PE X (.Call (.Name x p) (e :: es) kws pos) (aXj r t tk):=by
  intro pins s σ H Q I h
  refine wpAny_Call_Name_kw (gh_ I hg hm hv ?_ hn hdb)
  refine PyProof.Rows.callWith_kw (fL (ha pos pins s σ H _ I h) fun us s1 ⟨vs,H1,I1,r1,q1⟩=>fL (hkw pos pins s1 σ H1 _ I1 q1) fun ws s2 ⟨zs,H2,I2,r2,q2⟩ => ?_) he hpl hall hkn
  rw [hks]
  exact hc pins s2 σ H2 vs zs us ws Q I2 r1 r2 q2
theorem aCo (hc:X.calm=true):aIa X (.builtin "max") ["default"] (fun xs zs H Q => ∃ p ns d,xs=[.ref p]∧zs=[.int d]∧SqL X.K H p (ns.map V.int)∧(ns=[]→Q (.int d) H)∧(∀ M,M∈ns→(∀ a∈ns,a≤M)→Q (.int M) H)):=by
  intro pins s σ H xs zs us ws Q I r rz h
  obtain ⟨p,ns,d,rfl,rfl,hq,q0,q⟩:=h
  obtain ⟨u,rfl,rx⟩:=jZ r
  cases rx
  obtain ⟨v,rfl,td,rfl⟩:=jZ rz
  obtain ⟨its,r',pl,hz⟩:=I.list hq
  have hi:=pU r'
  obtain ⟨ys,e⟩:=hi.allInts.items
  have hns:ns=ys.toList.map (·.1):=by rw [← hi.numsOf,← nums_intItems,← e]
  have pl':=pl.isList
  rw [e] at pl'
  have hname:(toString "max" ++ toString ".loop" : String) = "max.loop" := by decide
  have hh:X.A.handled=none:=I.ok.hd hc
  refine kmk_tree PySem.F.kind_max PySem.F.plain_max PySem.F.entry_max (aCv _ _) ?_
  show wpAny _ X.A.in1 (Builtin.Builtins.bindParams "max" ["key", "default"] 0 ⟨[],[(Str.ofString "default",.int d td)]⟩ >>= _) _ _ s
  refine wpAny_bind (wpAny_of_eq (show Builtin.Builtins.bindParams "max" ["key", "default"] 0 ⟨[],[(Str.ofString "default",.int d td)]⟩=pure [none,some (.int d td)] from rfl) ?_)
  refine wpAny_bind (wpAny_pure ?_)
  refine wpAny_bind (iter_intList pl' fun s2 e2 st hfp hlI => ?_)
  subst e2
  refine wpAny_bind (wpAny_newObj_type ?_)
  have W:=Walks.list (prog:=X.prog) (w:=X.w) (A:=X.A.in1) hh s.heap.objs.size p hlI (intItems ys)
  rw [hname]
  have old:∀ b o,s.heap.get? b=some o→b≠s.heap.objs.size:=fun b o e=>cW (aR e)
  refine wpAny_pure ⟨plainId_quiet PySem.F.plain_max_loop _,?_⟩
  have hSf:(s.heap.push { cls:=.type "list_iterator",data:=.fields #[.ref p,.int 0 0] }).objs.size∉[s.heap.objs.size,p]:=fun hm=>eO _ (hfp _ hm)
  have st':=W.frame 0 _ ((s.heap.push { cls:=.type "list_iterator",data:=.fields #[.ref p,.int 0 0] }).push { cls:=.type "list",dict:=none,data:=.seq ([]:List Value).toArray }) st fun b _ o e=>aA _ e
  by_cases hn:0 < ys.size
  · refine g_ _ W (fun i j => decide (numAt ys i > numAt ys j)) (CmpOf.ints_gt (numAt ys) (fun _ _ => intItems_at)) _ hSf (by simpa [intItems] using hn) st' (aU _ rfl) fun v h' tk hP hk => ?_
    have hv:(intItems ys)[argBest (fun i j=>decide (numAt ys i > numAt ys j)) (ys.size - 1)]? = some v:=by simpa [intItems] using hP
    obtain ⟨t,rfl⟩:=intItems_at hv
    obtain ⟨h1,h2⟩:=argBest_gt (numAt ys) (ys.size - 1)
    refine ⟨.int _,H,I.kept fun b o e=>hk b o (by simpa using old b o e) ?_ (aA _ (aA _ e)),⟨t,rfl⟩,q _ ?_ fun a ha => ?_⟩
    · have := aR e
      rw [dP]
      exact cW (Nat.lt_succ_of_lt this)
    · rw [hns, numAt_eq]
      exact getD_mem (by rw [aE,Array.length_toList]; omega)
    · rw [hns] at ha
      obtain ⟨j,hj,rfl⟩:=mem_getD ha
      rw [aE,Array.length_toList] at hj
      rw [← numAt_eq]
      exact h2 j (by omega)
  · have e0 : (intItems ys).size = 0 := by rw [intItems, Array.size_map]; omega
    rw [e0] at W
    refine aBq W _ hSf st' (aU _ rfl) fun h' tk hk => ?_
    refine ⟨.int d,H,I.kept fun b o e=>hk b o (by simpa using old b o e) (aA _ (aA _ e)),⟨td,rfl⟩,q0 ?_⟩
    rw [hns]
    have:ys.toList.length=0:=by rw [Array.length_toList]; omega
    rw [fK this]
    rfl
theorem aFm (hu:X.A.units < cLine):OpR X (compareOp .Eq) (fun x y H Q => ∃ p b xs,x=.ref p∧y=.ref b∧SqL X.K H p xs∧SqL X.K H b []∧Q (.bl xs.isEmpty) H):=by
  intro pins s σ H x y v u Q I rx ry h
  obtain ⟨p,b,xs,rfl,rfl,h1,h2,q⟩:=h
  cases rx
  cases ry
  obtain ⟨its,r1,p1,_⟩:=I.list h1
  obtain ⟨its2,r2,p2,_⟩:=I.list h2
  cases r2
  cases r1 with
  | nil=>exact PySem.SeqAt.eq_listAt (e:=fun _=>true) p1.isList p2.isList rfl hu (fun j a1=>absurd a1 (by simp)) ⟨.bl true,H,I,rfl,q⟩
  | cons ra rb=>exact PySem.SeqAt.eq_list_lengthsAt p1.isList p2.isList (by simp) hu ⟨.bl false,H,I,rfl,q⟩
theorem wY (hu:X.A.units < cLine):OpR X (compareOp .NotEq) (fun x y H Q => ∃ p b xs,x=.ref p∧y=.ref b∧SqL X.K H p xs∧SqL X.K H b []∧Q (.bl (!xs.isEmpty)) H):=by
  intro pins s σ H x y v u Q I rx ry h
  obtain ⟨p,b,xs,rfl,rfl,h1,h2,q⟩:=h
  cases rx
  cases ry
  obtain ⟨its,r1,p1,_⟩:=I.list h1
  obtain ⟨its2,r2,p2,_⟩:=I.list h2
  cases r2
  cases r1 with
  | nil=>exact PySem.SeqAt.RcNeAt.lists (e:=fun _=>true) p1.isList p2.isList rfl hu (fun j a1=>absurd a1 (by simp)) _ _ _ _ ⟨.bl false,H,I,rfl,q⟩
  | cons ra rb=>exact PySem.SeqAt.RcNeAt.lists_lengths p1.isList p2.isList (by simp) hu _ _ _ _ ⟨.bl true,H,I,rfl,q⟩
theorem zT:∀ {ns:List String} {its:List Value},Vals (ns.map V.ty) its→its=ns.map Value.type
  | [],_,h=>by cases h; rfl
  | m :: ms, _, h => by
    cases h with
    | cons ra rb =>
      rw [aP,← zT rb]
      exact congrArg (· :: _) (show _=Value.type m from ra)
theorem vV:CallR X (.builtin "isinstance") (fun xs H Q => ∃ (x:V) (p:Addr) (t:Value) (b:Bool) (ns:List String),xs=[x,.ref p]∧TyOf X.K H x t∧H p=some (.tup (ns.map V.ty))∧PySem.W.kitAny X.K t (ns.map Value.type)=some b∧Q (.bl b) H):=by
  intro pins s σ H xs us Q I r h
  obtain ⟨x,p,t,b,ns,rfl,ty,hp,e,q⟩:=h
  obtain ⟨u,w',rfl,r1,r2⟩:=wI r
  cases r2
  obtain ⟨_,its,rv,o,h1,h2,n,h3⟩:=(show ObjOk X.prog X.w H s.heap p (.tup (ns.map V.ty)) from I.hok p _ hp)
  have ei:=zT rv
  subst ei
  obtain ⟨cls,dd,data,sl⟩:=o
  dsimp only at h2 h3
  subst h2 h3
  have fin:∀ tk,EP X pins σ Q (.bool b) { s with toks:=tk }:=fun tk=>⟨.bl b,H,I.tok _,rfl,q⟩
  cases ty with
  | non=>cases (show u=Value.none from r1); exact PySem.W.kia_tup PySem.W.kitx_none I.kIn True.intro h1 e (fun z=>nomatch z) fin
  | bl y=>cases (show u=Value.bool y from r1); exact PySem.W.kia_tup PySem.W.kitx_bool I.kIn True.intro h1 e (fun z=>nomatch z) fin
  | int i=>obtain ⟨t,z⟩:=(show ∃ t,u=Value.int i t from r1); cases z; exact PySem.W.kia_tup PySem.W.kitx_int I.kIn True.intro h1 e (fun z=>nomatch z) fin
  | str y=>obtain ⟨t,z⟩:=(show ∃ t,u=Value.str y t from r1); cases z; exact PySem.W.kia_tup PySem.W.kitx_str I.kIn True.intro h1 e (fun z=>nomatch z) fin
  | flt y=>obtain ⟨t,z⟩:=(show ∃ t,u=Value.float y t from r1); cases z; exact PySem.W.kia_tup PySem.W.kitx_float I.kIn True.intro h1 e (fun z=>nomatch z) fin
  | @lst a xs ea =>
    cases (show u=Value.ref a from r1)
    obtain ⟨_,_,n,_,g1⟩:=(show ObjOk X.prog X.w H s.heap a (.lst xs) from I.hok a _ ea)
    exact PySem.W.kia_tup PySem.W.kitx_list I.kIn ⟨_,g1,rfl⟩ h1 e (fun z=>nomatch z) fin
  | @frz a ob xs ea =>
    cases (show u=Value.ref a from r1)
    obtain ⟨_,_,_,n,_,g1⟩:=(show ObjOk X.prog X.w H s.heap a (.frz ob (.lst xs)) from I.hok a _ ea)
    exact PySem.W.kia_tup PySem.W.kitx_list I.kIn ⟨_,g1,rfl⟩ h1 e (fun z=>nomatch z) fin
  | @tup a xs ea =>
    cases (show u=Value.ref a from r1)
    obtain ⟨_,_,_,p⟩:=(show ObjOk X.prog X.w H s.heap a (.tup xs) from I.hok a _ ea)
    obtain ⟨o,g1,g2,_⟩:=p
    exact PySem.W.kia_tup PySem.W.kitx_tuple I.kIn ⟨o,g1,g2⟩ h1 e (fun z=>nomatch z) fin
  | @dK a kvs ea =>
    cases (show u=Value.ref a from r1)
    obtain ⟨_,_,vs,_,p⟩:=(show ObjOk X.prog X.w H s.heap a (.dK kvs) from I.hok a _ ea)
    obtain ⟨o,es,ep,g1,g2,_⟩:=p
    exact PySem.W.kia_tup PySem.W.kitx_dict I.kIn ⟨o,g1,g2.1⟩ h1 e (fun z=>nomatch z) fin
  | @dT a kvs ea =>
    cases (show u=Value.ref a from r1)
    obtain ⟨_,_,xs,_,o,es,ep,g1,g2,_⟩:=(show ObjOk X.prog X.w H s.heap a (.dT kvs) from I.hok a _ ea)
    exact PySem.W.kia_tup PySem.W.kitx_dict I.kIn ⟨o,g1,g2.1⟩ h1 e (fun z=>nomatch z) fin
  | @ins a C dx fs ea cl ha hn htk hm =>
    cases (show u=Value.ref a from r1)
    obtain ⟨mA,O,_⟩:=w6 I.hok ea
    obtain ⟨od,J,_⟩:=O.look
    exact PySem.W.kia_tup (PySem.W.kitx_own (cl.get _) cl.hd ha hn htk hm) I.kIn J h1 e (fun z=>nomatch z) fin
theorem tU:SlR X (fun x lo hi H Q => ∃ z,x=.str z∧z.length≤sizeLine∧Q (.str (Txt.slice z lo hi)) H):=by
  intro pins s σ H x v vl vu lo hi sl Q I rx hs pl pu h
  obtain ⟨z,rfl,hz,q⟩:=h
  obtain ⟨t,rfl⟩:=rx
  refine ⟨"str",_,PySem.F.slot_str_getitem.lookup,typeIs_str _ _ _,?_⟩
  obtain ⟨o,h1,h2,h3⟩:=hs
  cases pl with
  | none =>
    cases pu with
    | none=>exact wpAny_getItem_str_slice (l:=none) (u:=none) (st:=none) ⟨o,h1,h2,h3⟩ rfl (post_val_or_str ⟨bP (Txt.slice_le z _ _) hz,fun t' k=>⟨.str _,H,I.tok _,⟨_,rfl⟩,q⟩⟩)
    | int j uj=>exact wpAny_getItem_str_slice (l:=none) (u:=some (j,uj)) (st:=none) ⟨o,h1,h2,h3⟩ rfl (post_val_or_str ⟨bP (Txt.slice_le z _ _) hz,fun t' k=>⟨.str _,H,I.tok _,⟨_,rfl⟩,q⟩⟩)
  | int i ui =>
    cases pu with
    | none=>exact wpAny_getItem_str_slice (l:=some (i,ui)) (u:=none) (st:=none) ⟨o,h1,h2,h3⟩ rfl (post_val_or_str ⟨bP (Txt.slice_le z _ _) hz,fun t' k=>⟨.str _,H,I.tok _,⟨_,rfl⟩,q⟩⟩)
    | int j uj=>exact wpAny_getItem_str_slice (l:=some (i,ui)) (u:=some (j,uj)) (st:=none) ⟨o,h1,h2,h3⟩ rfl (post_val_or_str ⟨bP (Txt.slice_le z _ _) hz,fun t' k=>⟨.str _,H,I.tok _,⟨_,rfl⟩,q⟩⟩)
theorem pD:OpR X (binaryOp .Mult) (fun x y H Q => ∃ z n,x=.str z∧y=.int n∧z.length≤1000∧0≤n∧n≤1000∧Q (.str (Txt.mul z n)) H):=by
  intro pins s σ H x y v u Q I rx ry h
  obtain ⟨z,n,rfl,rfl,hz,h0,h1,q⟩:=h
  obtain ⟨t,rfl⟩:=rx
  obtain ⟨t',rfl⟩:=ry
  exact SB.mul (mulOk_of 1000 1000 hz (by omega) (by omega) (by decide) (by decide)) fun t' k=>⟨.str _,H,I.tok _,⟨_,rfl⟩,q⟩
theorem zZ {ys:List Str}:∀ {us:List Value},Vals (ys.map V.str) us→StrsAre us ys:=by
  induction ys with
  | nil=>intro us r; rw [bM] at r; cases r; exact .nil
  | cons n ns ih =>
    intro us r
    rw [aP] at r
    cases r with
    | cons r1 r2 =>
      obtain ⟨t,e⟩:=r1
      subst e
      exact .cons n t (ih r2)
theorem aKa:MtR X "str.join" (fun x vs H Q => ∃ z p ys,x=.str z∧vs=[.ref p]∧SqL X.K H p (ys.map V.str)∧(ys.map (·.length)).sum + ys.length * z.length≤16777216∧Q (.str (Txt.join z ys)) H):=by
  intro pins s σ H x vs v us Q I rx rv h
  obtain ⟨z,p,ys,rfl,rfl,hq,hok,q⟩:=h
  obtain ⟨t,rfl⟩:=rx
  obtain ⟨u,rfl,ru⟩:=rv.one
  cases ru
  obtain ⟨its,r',pl,hz⟩:=I.list hq
  exact join_list pl.isList (by rw [List.toList_toArray]; exact zZ r') hok fun t' k=>⟨.str _,H,I.tok _,⟨_,rfl⟩,q⟩
end
section
variable {prog:Program} {w:World} {A:Around} {E:gU}
theorem yN {it l:Addr} {items:Array Value} (hne:l≠it):∀ (n i:Nat) (s:Shared) (Q:List Value→Shared→Prop),s.heap.IsListIter it l i→s.heap.IsList l items→i + n≤items.size →
    (∀ h',h'.IsListIter it l (i + n)→Heap.SameBut it s.heap h'→Q ((items.toList.drop i).take n) { s with heap:=h' })→wpAny (model prog w) A (draw (.ref it) n) Q E s
  | 0, i, s, Q, hit, _, _, hQ => by
    show wpAny _ _ (pure []) Q E s; exact wpAny_pure (by simpa using hQ s.heap hit (Heap.SameBut.refl ..))
  | n + 1, i, s, Q, hit, ht, hle, hQ => by
    have hlt:i < items.size:=by omega
    show wpAny _ _ (pyNext (.ref it) >>= _) Q E s; refine wpAny_bind (wpAny_pyNext_list_item hit ht (x:=items[i]) (by simp [hlt]) fun h1 hit1 hs1 => ?_)
    refine wpAny_bind (wpAny_holding (yN hne n (i + 1) _ _ hit1 (ht.extBut hs1.extBut hne) (by omega) fun h2 hit2 hs2=>wpAny_pure ?_))
    have hd:items.toList.drop i=items[i] :: items.toList.drop (i + 1):=by simp [List.drop_eq_getElem_cons,hlt]
    have z:=hQ h2 (by rw [show i + (n + 1)=i + 1 + n by omega]; exact hit2) (hs1.trans hs2)
    rw [hd,List.take_succ_cons] at z; exact z
theorem zR {s:Shared} {l:Addr} {items:Array Value} {Q:List Value→Shared→Prop} (hh:A.handled=none) (ht:s.heap.IsList l items)
    (hQ:∀ h',Heap.ExtBut s.heap.objs.size s.heap h'→Q items.toList { s with heap:=h' }):wpAny (model prog w) A (unpackItems (.ref l) items.size none) Q E s:=by
  have hlt:l≠s.heap.objs.size:=by obtain ⟨o,ho,_⟩:=ht; exact cW (aR ho)
  unfold unpackItems; refine wpAny_bind ?_; unfold notIterableAtAll
  refine wpAny_bind (wpAny_specialOf ht.typeIs PySem.F.slot_list_iter.lookup ?_); refine wpAny_pure ?_; simp only [fE,if_false]
  refine wpAny_bind (wpAny_holding (wpAny_pyIter_list ht ?_))
  refine wpAny_bind (wpAny_holding (yN hlt items.size 0 _ _ ⟨_,aU _ rfl,rfl,rfl⟩ (ht.push _) (by omega) fun h1 hit1 hs1 => ?_))
  have hall:List.take items.size (List.drop 0 items.toList)=items.toList:=by rw [dD]; exact gZ (by simp)
  rw [hall,if_neg (by simp)]
  have ht1:h1.IsList l items:=(ht.push _).extBut hs1.extBut hlt
  refine wpAny_bind (wpAny_holding (wpAny_pyNext_list_end hh hit1 ht1 (by simp) fun h2 he2 => ?_)); simp only [Option.isSome_none,fE,if_false]
  exact wpAny_pure (hQ h2 fun b o hb e=>he2 b o hb (hs1.extBut b o hb (aA _ e)))
end
def aKz (K:dH) (n:Nat) (t:TGs):TG:=fun v σ H Q => ∃ a xs,v=.ref a∧SqL K H a xs∧xs.length=n∧t xs σ H Q
theorem c9 {X:Cx} {pos:Pos} {es:List Expr} {k:Nat} {t:TGs} {n:Nat} (hc:X.calm=true) (h:PGs X es t) (hn:(assignEach es X.env).length=n:=by rfl) (hst:(assignEach es X.env).findIdx? (·.1)=none:=by rfl):PG X (.Tuple es k pos) (aKz X.K n t):=by
  intro pins s σ H v u Q I r hw
  obtain ⟨a,xs,e1,hq,hl,hw⟩:=hw
  subst e1
  cases r
  obtain ⟨its,rv,ht,hz⟩:=I.list hq
  rw [assign_Tuple]
  refine wpAny_bind (wpAny_standAt ?_)
  unfold unpack
  have hlen:(assignEach es X.env).length=its.toArray.size:=by rw [bA,hn,← hl,rv.length]
  rw [hlen,hst]
  refine wpAny_bind (wpAny_holding (zR (I.ok.hd hc) ht.isList fun h' hx => ?_))
  have I1:Inv X pins σ H { s with heap:=h' }:=I.kept (t':=s.toks) fun b o e=>hx b o (cW (aR e)) e
  exact h pins _ σ H xs _ Q I1 (by simpa using rv) hw
theorem tQ {K:dH} {n k:Nat} {t:TGs} (h:aHz n t):Tgt n (aKz K k t):=fun x σ H Q ⟨a,xs,e,hq,hl,q⟩=>⟨a,xs,e,hq,hl,h xs σ H Q q⟩
section
variable {X:Cx} (K:dH) (h:X.K=K:=by rfl)
include h
theorem aKi:IxR X (aNt K):=h ▸ aQb
theorem xO:IxR X (aEn K):=h ▸ dj_
theorem aEd:SlR X (aSy K):=h ▸ aIr
theorem ih_ {pos:Pos} {es:List Expr} {k:Nat} {t:TGs} {n:Nat} (hc:X.calm=true) (hh:PGs X es t) (hn:(assignEach es X.env).length=n:=by rfl) (hst:(assignEach es X.env).findIdx? (·.1)=none:=by rfl):PG X (.Tuple es k pos) (aGt K n t):=h ▸ fu_ hc hh hn hst
theorem uL {pos:Pos} {es:List Expr} {k:Nat} {t:TGs} {n:Nat} (hc:X.calm=true) (hh:PGs X es t) (hn:(assignEach es X.env).length=n:=by rfl) (hst:(assignEach es X.env).findIdx? (·.1)=none:=by rfl):PG X (.Tuple es k pos) (aKz K n t):=h ▸ c9 hc hh hn hst
end
def aXe (t:TS):TS:=fun D σ H => ∃ P:St→Hp→Prop,t { D with nx:=P } σ H∧∀ σ' H',P σ' H'→D.nx σ' H'
theorem aEw {X:Cx} {st:Stmt} {t:TS} (h:PS X st t):PS X st (aXe t):=by
  intro pins s σ H D I ⟨P,h1,h2⟩
  refine fL (h pins s σ H _ I h1) fun f s' q => ?_
  cases f with
  | next=>obtain ⟨σ',H',I',q'⟩:=q; exact ⟨σ',H',I',h2 _ _ q'⟩
  | brk=>exact q
  | cont=>exact q
  | ret u=>exact q
def aEm (K:dH):List V→Hp→VK→Prop:=fun xs H Q => ∃ p ns,xs=[.ref p]∧SqL K H p (ns.map V.int)∧ns≠[]∧∀ M,M∈ns→(∀ a∈ns,a≤M)→Q (.int M) H
theorem aCm {X:Cx} (hc:X.calm=true):CallR X (.builtin "max") (aEm X.K):=aCn hc
section
variable {K:dH}
theorem aGh {t a b:Value} {x y:Bool} (h1:PySem.W.kitOne K t a=some x) (h2:PySem.W.kitOne K t b=some y):PySem.W.kitAny K t [a,b]=some (x || y):=by
  unfold PySem.W.kitAny
  rw [h1]
  cases x with
  | true=>rfl
  | false =>
    show PySem.W.kitAny K t [b]=_
    unfold PySem.W.kitAny
    rw [h2]
    cases y <;> rfl
end
end L2
namespace Lf
open PySem
inductive Kd where
  | num (w m:Int)
  | row (k:Kd) (n:Int)
  | rcd (fs:List (Str×Kd))
  | cho (ks:List Kd)
def up (n m:Int):Int:=(n + m - 1) / m * m
theorem aSm {n m:Int} (hm:0 < m):up n m=n + m - 1 - (n + m - 1) % m:=by
  have:=Int.mul_ediv_add_emod (n + m - 1) m
  rw [Int.mul_comm] at this
  unfold up
  omega
theorem jW {n m:Int} (hm:0 < m):n≤up n m∧up n m < n + m:=by
  have a:=dX (n + m - 1) (Int.ne_of_gt hm)
  have b:=dG (n + m - 1) hm
  rw [aSm hm]
  omega
theorem aDt {n m:Int}:up n m % m=0:=Int.mul_emod_left _ _
def upL (n m:Int):Int:=if n % m=0 then n else n + m - n % m
theorem pJ {a b m:Int} (hm:0 < m) (ha:a % m=0) (hb:b % m=0) (h1:a - b < m) (h2:b - a < m):a=b:=by
  have h:(a - b) % m=0:=by rw [Int.sub_emod,ha,hb]; simp
  obtain ⟨c,hc⟩:=Int.dvd_of_emod_eq_zero h
  by_cases c0:c=0
  · subst c0; omega
  · rcases Int.lt_or_gt_of_ne c0 with c1 | c1
    · have : m * c ≤ m * (-1) := gW (by omega) (by omega)
      omega
    · have : m * 1 ≤ m * c := gW (by omega) (by omega)
      omega
theorem aNi {n m:Int} (hm:0 < m):upL n m=up n m:=by
  have a:=dX n (Int.ne_of_gt hm)
  have b:=dG n hm
  obtain ⟨c,d⟩:=jW (n:=n) hm
  refine pJ hm ?_ aDt ?_ ?_
  · unfold upL
    split
    · assumption
    · have e : n + m - n % m = (n - n % m) + m := by omega
      rw [e,Int.add_emod_right,Int.sub_emod]
      simp
  · unfold upL; split <;> omega
  · unfold upL; split <;> omega
def maxL (d:Int) (l:List Int):Int:=l.foldr max d
theorem il_ {d:Int}:∀ {l:List Int} {a:Int},a∈l→a≤maxL d l
  | b :: r, a, h => by
    show a≤max b (maxL d r)
    rcases aF.mp h with rfl | h
    · exact Int.le_max_left _ _
    · exact Int.le_trans (il_ h) (Int.le_max_right _ _)
theorem uZ {d M:Int} {l:List Int} (hm:M∈l) (hd:d≤M) (hM:∀ a∈l,a≤M):M=maxL d l:=by
  refine Int.le_antisymm (il_ hm) ?_
  clear hm
  induction l with
  | nil=>exact hd
  | cons b r ih =>
    show max b (maxL d r)≤M
    exact Int.max_le.mpr ⟨hM b aB,ih fun a ha=>hM a (aC _ ha)⟩
def ends (e:Int):List (Int×Int)→List Int
  | []=>[]
  | r :: rs=>(up e r.2 + r.1) :: ends (up e r.2 + r.1) rs
def cK (e:Int):List (Int×Int)→Int
  | []=>e
  | r :: rs=>cK (up e r.2 + r.1) rs
def eF (e:Int):List (Int×Int)→List Int
  | []=>[]
  | r :: rs=>up e r.2 :: eF (up e r.2 + r.1) rs
def Rms (rs:List (Int×Int)):Prop := ∀ r∈rs,0≤r.1∧0 < r.2
theorem ds_:∀ {rs:List (Int×Int)} {e:Int},Rms rs→e≤cK e rs
  | [],e,_=>iO e
  | r :: rs, e, h => by
    obtain ⟨a,b⟩:=h r aB
    have:=ds_ (rs:=rs) (e:=up e r.2 + r.1) fun x hx=>h x (aC _ hx)
    have:=(jW (n:=e) b).1
    show e≤cK (up e r.2 + r.1) rs
    omega
theorem yL:∀ {rs:List (Int×Int)} {e:Int},Rms rs→rs≠[]→cK e rs∈ends e rs∧∀ a∈ends e rs,a≤cK e rs
  | [],_,_,h=>absurd rfl h
  | [r], e, h, _ => by
    refine ⟨aB,fun a ha => ?_⟩
    rcases aF.mp ha with rfl | ha
    · exact iO _
    · cases ha
  | r :: s :: rs, e, h, _ => by
    have ih:=yL (rs:=s :: rs) (e:=up e r.2 + r.1) (fun x hx=>h x (aC _ hx)) (by simp)
    refine ⟨aC _ ih.1,fun a ha => ?_⟩
    rcases aF.mp ha with rfl | ha
    · exact ds_ (rs:=s :: rs) fun x hx=>h x (aC _ hx)
    · exact ih.2 a ha
theorem cz_:∀ (rs:List (Int×Int)) (e:Int),(eF e rs).length=rs.length
  | [],_=>rfl
  | r :: rs,e=>by show (eF _ rs).length + 1=_; rw [cz_ rs]; rfl
theorem rR:∀ (rs:List (Int×Int)) (r:Int×Int) (e:Int),eF e (rs ++ [r])=eF e rs ++ [up (cK e rs) r.2]
  | [],_,_=>rfl
  | s :: rs,r,e=>by show up e s.2 :: eF _ (rs ++ [r])=up e s.2 :: (eF _ rs ++ _); rw [rR rs]; rfl
theorem fg_:∀ (rs:List (Int×Int)) (r:Int×Int) (e:Int),cK e (rs ++ [r])=up (cK e rs) r.2 + r.1
  | [],_,_=>rfl
  | s :: rs,r,e=>fg_ rs r _
theorem yK:∀ (rs:List (Int×Int)) (e:Int),ends e rs=((eF e rs).zip rs).map fun p=>p.1 + p.2.1
  | [],_=>rfl
  | r :: rs,e=>by show _ :: ends _ rs=_ :: _; rw [yK rs]; rfl
def kE (rs:List (Int×Int)):Int×Int:=(up (cK 0 rs) (maxL 1 (rs.map (·.2))),maxL 1 (rs.map (·.2)))
def hZ (rs:List (Int×Int)):Int×Int:=(up (up 1 (maxL 1 (rs.map (·.2))) + maxL 0 (rs.map (·.1))) (maxL 1 (rs.map (·.2))),maxL 1 (rs.map (·.2)))
mutual
def Kd.rm:Kd→Int×Int
  | .num w m=>(w,m)
  | .row k n=>(n * up k.rm.1 k.rm.2,k.rm.2)
  | .rcd fs=>kE (rmF fs)
  | .cho ks=>hZ (rmK ks)
def rmF:List (Str×Kd)→List (Int×Int)
  | []=>[]
  | f :: r=>f.2.rm :: rmF r
def rmK:List Kd→List (Int×Int)
  | []=>[]
  | k :: r=>k.rm :: rmK r
end
mutual
def Kd.deep:Kd→Nat
  | .num _ _=>1
  | .row k _=>k.deep + 1
  | .rcd fs=>eV fs + 1
  | .cho ks=>eY ks + 1
def eV:List (Str×Kd)→Nat
  | []=>0
  | f :: r=>max f.2.deep (eV r)
def eY:List Kd→Nat
  | []=>0
  | k :: r=>max k.deep (eY r)
end
mutual
def Kd.Ok:Kd→Prop
  | .num w m=>1≤w∧w≤8∧1≤m∧m≤8
  | .row k n=>k.Ok∧0≤n∧n≤100
  | .rcd fs=>okF fs∧fs.length≤10
  | .cho ks=>okK ks∧ks.length≤10
def okF:List (Str×Kd)→Prop
  | []=>True
  | f :: r=>f.2.Ok∧okF r
def okK:List Kd→Prop
  | []=>True
  | k :: r=>k.Ok∧okK r
end
theorem gz_ {d M:Int}:∀ {l:List Int},d≤M→(∀ a∈l,a≤M)→maxL d l≤M
  | [],hd,_=>hd
  | b :: r,hd,h=>Int.max_le.mpr ⟨h b aB,gz_ hd fun a ha=>h a (aC _ ha)⟩
theorem hf_ {d:Int}:∀ (l:List Int),d≤maxL d l
  | []=>iO _
  | b :: r=>Int.le_trans (hf_ r) (Int.le_max_right _ _)
def Bd (B:Int) (r:Int×Int):Prop:=0≤r.1∧r.1≤B∧1≤r.2∧r.2≤8
theorem ck_ {B:Int}:∀ {rs:List (Int×Int)} {e:Int},0≤e→(∀ r∈rs,Bd B r)→0≤cK e rs∧cK e rs≤e + (rs.length:Int) * (B + 8)
  | [],e,h0,_=>⟨h0,by simp [cK]⟩
  | r :: rs, e, h0, h => by
    obtain ⟨a,b,c,d⟩:=h r aB
    obtain ⟨u1,u2⟩:=jW (n:=e) (m:=r.2) (by omega)
    have ih:=ck_ (B:=B) (rs:=rs) (e:=up e r.2 + r.1) (by omega) fun x hx=>h x (aC _ hx)
    refine ⟨ih.1,?_⟩
    show cK (up e r.2 + r.1) rs≤_
    have e1:((r :: rs).length:Int) * (B + 8)=(rs.length:Int) * (B + 8) + (B + 8):=by
      rw [aL]
      push_cast
      rw [Int.add_mul]
      omega
    rw [e1]
    omega
theorem lB {B:Int} {rs:List (Int×Int)} (h:∀ r∈rs,Bd B r):1≤maxL 1 (rs.map (·.2))∧maxL 1 (rs.map (·.2))≤8 :=
  ⟨hf_ _,gz_ (by decide) fun a ha=>by obtain ⟨r,hr,rfl⟩:=cN.mp ha; exact (h r hr).2.2.2⟩
theorem aNr {B:Int} {rs:List (Int×Int)} (h:∀ r∈rs,Bd B r) (hl:rs.length≤10) (hB:0≤B):Bd (1000 * (B + 8)) (kE rs):=by
  obtain ⟨a,b⟩:=lB h
  obtain ⟨c,d⟩:=ck_ (e:=0) (by omega) h
  obtain ⟨u1,u2⟩:=jW (n:=cK 0 rs) (m:=maxL 1 (rs.map (·.2))) (by omega)
  have:(rs.length:Int) * (B + 8)≤10 * (B + 8):=bX (by omega) (by omega)
  exact ⟨by show 0≤up _ _; omega,by show up _ _≤_; omega,a,b⟩
theorem aQz {B:Int} {rs:List (Int×Int)} (h:∀ r∈rs,Bd B r) (hB:0≤B):Bd (1000 * (B + 8)) (hZ rs):=by
  obtain ⟨a,b⟩:=lB h
  have c:0≤maxL 0 (rs.map (·.1)):=hf_ _
  have d:maxL 0 (rs.map (·.1))≤B:=gz_ hB fun z hz=>by obtain ⟨r,hr,rfl⟩:=cN.mp hz; exact (h r hr).2.1
  obtain ⟨u1,u2⟩:=jW (n:=1) (m:=maxL 1 (rs.map (·.2))) (by omega)
  obtain ⟨v1,v2⟩:=jW (n:=up 1 (maxL 1 (rs.map (·.2))) + maxL 0 (rs.map (·.1))) (m:=maxL 1 (rs.map (·.2))) (by omega)
  exact ⟨by show 0≤up _ _; omega,by show up _ _≤_; omega,a,b⟩
def bnd:Nat→Int
  | 0=>0
  | n + 1=>1000 * (bnd n + 8)
theorem fr_:∀ n,0≤bnd n
  | 0=>iO _
  | n + 1=>by have:=fr_ n; show 0≤1000 * (bnd n + 8); omega
theorem gq_ {n m:Nat} (h:n≤m):bnd n≤bnd m:=by
  induction m with
  | zero=>cases (Nat.le_zero.mp h); exact iO _
  | succ m ih =>
    by_cases e:n=m + 1
    · subst e; exact iO _
    · have := ih (by omega)
      have:=fr_ m
      show bnd n≤1000 * (bnd m + 8)
      omega
theorem Bd.mono {B C:Int} {r:Int×Int} (h:Bd B r) (hb:B≤C):Bd C r:=⟨h.1,Int.le_trans h.2.1 hb,h.2.2⟩
mutual
theorem Kd.bd:∀ (k:Kd),k.Ok→Bd (bnd k.deep) k.rm
  | .num w m, h => by
    obtain ⟨a,b,c,d⟩:=h
    refine ⟨by show 0≤w; omega,?_,c,d⟩
    show w≤1000 * (0 + 8)
    omega
  | .row k n, h => by
    obtain ⟨hk,h0,h1⟩:=h
    obtain ⟨a,b,c,d⟩:=Kd.bd k hk
    obtain ⟨u1,u2⟩:=jW (n:=k.rm.1) (m:=k.rm.2) (by omega)
    refine ⟨iW h0 (by omega),?_,c,d⟩
    have e1:n * up k.rm.1 k.rm.2≤100 * up k.rm.1 k.rm.2:=bX h1 (by omega)
    show n * up k.rm.1 k.rm.2≤1000 * (bnd k.deep + 8)
    omega
  | .rcd fs, h => by
    refine aNr (rs:=rmF fs) (bdF fs h.1) ?_ (fr_ _)
    have:(rmF fs).length=fs.length:=xJ fs
    rw [this]; exact h.2
  | .cho ks,h=>aQz (rs:=rmK ks) (bdK ks h.1) (fr_ _)
theorem bdF:∀ (fs:List (Str×Kd)),okF fs→∀ r∈rmF fs,Bd (bnd (eV fs)) r
  | [],_,_,h=>nomatch h
  | f :: fs, h, r, hr => by
    have hr':r∈f.2.rm :: rmF fs:=hr
    rcases aF.mp hr' with rfl | hr'
    · exact (Kd.bd f.2 h.1).mono (gq_ (dQ _ _))
    · exact (bdF fs h.2 r hr').mono (gq_ (dJ _ _))
theorem bdK:∀ (ks:List Kd),okK ks→∀ r∈rmK ks,Bd (bnd (eY ks)) r
  | [],_,_,h=>nomatch h
  | k :: ks, h, r, hr => by
    have hr':r∈k.rm :: rmK ks:=hr
    rcases aF.mp hr' with rfl | hr'
    · exact (Kd.bd k h.1).mono (gq_ (dQ _ _))
    · exact (bdK ks h.2 r hr').mono (gq_ (dJ _ _))
theorem xJ:∀ (fs:List (Str×Kd)),(rmF fs).length=fs.length
  | []=>rfl
  | f :: fs=>by show (rmF fs).length + 1=_; rw [xJ fs]; rfl
end
theorem aKe:∀ (ks:List Kd),(rmK ks).length=ks.length
  | []=>rfl
  | f :: fs=>by show (rmK fs).length + 1=_; rw [aKe fs]; rfl
inductive Dt where
  | int (i:Int)
  | str (x:Str)
  | bl (b:Bool)
  | tup (ds:List Dt)
  | lst (ds:List Dt)
mutual
def Kd.dt:Kd→Dt
  | .num w m=>.tup [.str "number",.int w,.int m]
  | .row k n=>.tup [.str "row",k.dt,.int n]
  | .rcd fs=>.tup [.str "record",.lst (dtF fs)]
  | .cho ks=>.tup [.str "choice",.lst (dtK ks)]
def dtF:List (Str×Kd)→List Dt
  | []=>[]
  | f :: r=>.tup [.str f.1,f.2.dt] :: dtF r
def dtK:List Kd→List Dt
  | []=>[]
  | k :: r=>k.dt :: dtK r
end
theorem Kd.deep_pos:∀ k:Kd,1≤k.deep
  | .num _ _=>bJ _
  | .row k _=>Nat.le_add_left 1 k.deep
  | .rcd fs=>Nat.le_add_left 1 (eV fs)
  | .cho ks=>Nat.le_add_left 1 (eY ks)
end Lf
namespace Lf
open PySem L2
theorem dn_ {H:Hp} {p:Addr} (h:H p=none) (o:HO):Same H (upd H p o):=fun b u q=>by rw [fX (zN q h)]; exact q
def xT (p:Addr) (H:Hp):Hp:=fun b=>if b=p then none else H b
theorem fx_ {p b:Addr} {H:Hp} (h:b≠p):xT p H b=H b:=if_neg h
theorem is_ {p b:Addr} {H:Hp} {o:HO} (h:xT p H b=some o):b≠p∧H b=some o:=by
  by_cases e:b=p
  · subst e; rw [show xT b H b=none from if_pos rfl] at h; cases h
  · rw [fx_ e] at h; exact ⟨e,h⟩
theorem aCa {p:Addr} {H H':Hp} (e:Same H H'):Same (xT p H) (xT p H'):=fun b o h=>by
  obtain ⟨n,q⟩:=is_ h
  rw [fx_ n]
  exact e b o q
abbrev SameX (p:Addr) (H H':Hp):Prop:=Same (xT p H) (xT p H')
theorem SameX.upd (p:Addr) (H:Hp) (o:HO):SameX p H (L2.upd H p o):=fun b u h=>by
  obtain ⟨n,q⟩:=is_ h
  rw [fx_ n,fX n]
  exact q
theorem SameX.get {p b:Addr} {H H':Hp} {o:HO} (e:SameX p H H') (n:b≠p) (h:H b=some o):H' b=some o:=by
  have:=e b o (by rw [fx_ n]; exact h)
  rw [fx_ n] at this
  exact this
theorem SameX.of {p:Addr} {H H':Hp} (e:Same H H'):SameX p H H':=aCa e
theorem aHx {α:Type} {xs:List α} {i:Int} (h0:0≤i) (h1:i < (xs.length:Int)):∃ v,atI xs i=some v∧v∈xs:=by
  have hk:i.toNat < xs.length:=by omega
  have ek:((i.toNat:Nat):Int)=i:=by omega
  have q:atI xs ((i.toNat:Nat):Int)=some xs[i.toNat]:=fj_ (aD hk)
  rw [ek] at q
  exact ⟨_,q,List.getElem_mem _⟩
theorem jQ (n:Nat) (h:n≤1000):n≤sizeLine:=Nat.le_of_lt (rO h)
end Lf
namespace L2
open PySem PySem.Spec PyProof.Rows
section
variable {κ:Type} [DecidableEq κ]
def kW (kvs:List (κ×V)) (k:κ):Option V:=(kvs.find? fun kv=>decide (kv.1=k)).map (·.2)
def lY (kvs:List (κ×V)) (k:κ) (v:V):List (κ×V) :=
  if (kvs.any fun kv=>decide (kv.1=k))=true then kvs.map (fun kv=>if kv.1=k then (kv.1,v) else kv) else kvs ++ [(k,v)]
theorem hh_ {p:κ×V} {r:List (κ×V)} {k:κ} (e:p.1=k):kW (p :: r) k=some p.2:=by simp [kW,fP,e]
theorem hi_ {p:κ×V} {r:List (κ×V)} {k:κ} (e:¬ p.1=k):kW (p :: r) k=kW r k:=by simp [kW,fP,e]
theorem wJ (k:κ):∀ kvs:List (κ×V),(kvs.any fun kv=>decide (kv.1=k))=(kW kvs k).isSome
  | []=>rfl
  | p :: r => by
    rw [fW]
    by_cases e:p.1=k
    · simp only [hh_ e,decide_eq_true e,Bool.true_or,cL]
    · rw [hi_ e,decide_eq_false e,Bool.false_or]; exact wJ k r
theorem im_ (kvs:List (κ×V)) (k:κ) (v:V):(lY kvs k v).length≤kvs.length + 1:=by
  unfold lY
  split
  · rw [aE]; omega
  · rw [aI,aL,bG]; omega
theorem RelO.isSome_eq {o:Option V} {u:Option Value} (r:RelO o u):o.isSome=u.isSome:=by
  cases o with
  | none => cases u with
    | none=>rfl
    | some _=>exact (show False from r).elim
  | some _ => cases u with
    | none=>exact (show False from r).elim
    | some _=>rfl
theorem KV.val {kvs:List (κ×V)} {vs:List (κ×Value)} (r:KV kvs vs) (k:κ):RelO (kW kvs k) (valueAt vs k):=by
  unfold KV at r
  induction r with
  | nil=>exact True.intro
  | @cons p q ps qs h t ih =>
    obtain ⟨h1,h2⟩:=h
    by_cases e:p.1=k
    · have e' : q.1 = k := h1.symm.trans e
      have b:valueAt (q :: qs) k=some q.2:=by simp [valueAt,fP,e']
      rw [hh_ e,b]; exact h2
    · have e' : ¬ q.1 = k := fun z => e (h1.trans z)
      have b:valueAt (q :: qs) k=valueAt qs k:=by simp [valueAt,fP,e']
      rw [hi_ e,b]; exact ih
theorem KV.any {kvs:List (κ×V)} {vs:List (κ×Value)} (r:KV kvs vs) (k:κ):(kvs.any fun kv=>decide (kv.1=k))=vs.any fun kv=>decide (kv.1=k):=by
  unfold KV at r
  induction r with
  | nil=>rfl
  | cons h t ih=>rw [fW,fW,ih,h.1]
theorem KV.repl {kvs:List (κ×V)} {vs:List (κ×Value)} (r:KV kvs vs) (k:κ) {y:V} {u:Value} (ry:RelV y u) :
    KV (kvs.map fun kv=>if kv.1=k then (kv.1,y) else kv) (vs.map fun kv=>if kv.1=k then (kv.1,u) else kv):=by
  unfold KV at r ⊢
  induction r with
  | nil=>exact .nil
  | @cons p q ps qs h t ih =>
    rw [aP,aP]
    refine .cons ?_ ih
    obtain ⟨h1,h2⟩:=h
    by_cases e:p.1=k
    · rw [if_pos e,if_pos (h1.symm.trans e)]; exact ⟨h1,ry⟩
    · rw [if_neg e,if_neg (fun z=>e (h1.trans z))]; exact ⟨h1,h2⟩
theorem KV.put {kvs:List (κ×V)} {vs:List (κ×Value)} (r:KV kvs vs) (k:κ) {y:V} {u:Value} (ry:RelV y u):KV (lY kvs k y) (stored vs k u):=by
  unfold lY stored
  rw [r.any k]
  by_cases e:(vs.any fun kv=>decide (kv.1=k))=true
  · rw [if_pos e,if_pos e]; exact r.repl k ry
  · rw [if_neg e,if_neg e]; exact Paired.snoc r ⟨rfl,ry⟩
theorem KV.length {kvs:List (κ×V)} {vs:List (κ×Value)} (r:KV kvs vs):kvs.length=vs.length:=Paired.length r
end
theorem xN {P:Program} {w:World} {k:Key} {u:Value} (r:RelV (kV k) u):(fR P w).is k u=true:=by
  cases k with
  | inl i=>obtain ⟨t,e⟩:=(show ∃ t,u=Value.int i t from r); subst e; exact xI P w i t
  | inr x=>obtain ⟨t,e⟩:=(show ∃ t,u=Value.str x t from r); subst e; exact xH P w x t
theorem sG {P:Program} {w:World}:∀ {ks:List Key} {us:List Value},Vals (ks.map kV) us→ItemsAre (fR P w) ks us
  | [],_,r=>by rw [bM] at r; cases r; exact .nil
  | k :: ks, _, r => by
    rw [aP] at r
    cases r with
    | cons h t=>exact .cons (xN h) (sG t)
abbrev KT (H:Hp):List (List Key×V)→List (List Key×Addr×Value)→Prop:=Paired fun p q=>p.1=q.1∧H q.2.1=some (.tup (p.1.map kV))∧RelV p.2 q.2.2
theorem KT.val {H:Hp} {kvs:List (List Key×V)} {xs:List (List Key×Addr×Value)} (r:KT H kvs xs) (k:List Key):RelO (kW kvs k) ((atKey xs k).map (·.2)):=by
  induction r with
  | nil=>exact True.intro
  | @cons p q ps qs h t ih =>
    obtain ⟨h1,_,h2⟩:=h
    by_cases e:p.1=k
    · have e' : q.1 = k := h1.symm.trans e
      have b:atKey (q :: qs) k=some q.2:=by simp [atKey,fP,e']
      rw [hh_ e,b]; exact h2
    · have e' : ¬ q.1 = k := fun z => e (h1.trans z)
      have b:atKey (q :: qs) k=atKey qs k:=by simp [atKey,fP,e']
      rw [hi_ e,b]; exact ih
theorem KT.repl {H:Hp} {kvs:List (List Key×V)} {xs:List (List Key×Addr×Value)} (r:KT H kvs xs) (k:List Key) {y:V} {u:Value} (ry:RelV y u) :
    KT H (kvs.map fun kv=>if kv.1=k then (kv.1,y) else kv) (xs.map (putAt k u)):=by
  induction r with
  | nil=>exact .nil
  | @cons p q ps qs h t ih =>
    rw [aP,aP]
    refine .cons ?_ ih
    obtain ⟨h1,h2,h3⟩:=h
    unfold putAt
    by_cases e:p.1=k
    · rw [if_pos e,if_pos (h1.symm.trans e)]; exact ⟨h1,h2,ry⟩
    · rw [if_neg e,if_neg (fun z=>e (h1.trans z))]; exact ⟨h1,h2,h3⟩
theorem KT.put {H:Hp} {kvs:List (List Key×V)} {xs:List (List Key×Addr×Value)} (r:KT H kvs xs) (k:List Key) {b:Addr} {y:V} {u:Value} (hb:H b=some (.tup (k.map kV))) (ry:RelV y u) :
    KT H (lY kvs k y) (storedH xs k b u):=by
  have e:(kvs.any fun kv=>decide (kv.1=k))=(atKey xs k).isSome:=by
    rw [wJ,(r.val k).isSome_eq,Option.isSome_map]
  unfold lY storedH
  rw [e]
  by_cases q:(atKey xs k).isSome=true
  · rw [if_pos q,if_pos q]; exact r.repl k ry
  · rw [if_neg q,if_neg q]; exact Paired.snoc r ⟨rfl,hb,ry⟩
theorem KT.keeps {H H':Hp} {kvs:List (List Key×V)} {xs:List (List Key×Addr×Value)} (r:KT H kvs xs) (ht:∀ b ys,H b=some (.tup ys)→H' b=some (.tup ys)):KT H' kvs xs :=
  Paired.mapP r fun _ _ z=>⟨z.1,ht _ _ z.2.1,z.2.2⟩
section
variable {P:Program} {w:World} {H:Hp} {h:Heap} {a:Addr}
theorem aMe {u:HO} (ok:HOk P w H h) (e:Rd H a u):ObjOk P w H h a u:=e.ok ok
theorem sP {kvs:List (Key×V)} (ok:HOk P w H h) (e:Rd H a (.dK kvs)):kvs.length≤sizeLine∧(a == sysModules)=false∧∃ vs,KV kvs vs∧h.DictOf (fR P w) a vs :=
  show ObjOk P w H h a (.dK kvs) from aMe ok e
theorem aUz {kvs:List (Key×V)} (ok:HOk P w H h) (e:H a=some (.dK kvs)):kvs.length≤sizeLine∧(a == sysModules)=false∧∃ vs,KV kvs vs∧h.DictOf (fR P w) a vs:=sP ok (.inl e)
theorem pQ {ks:List Key} (ok:HOk P w H h) (e:H a=some (.tup (ks.map kV))):(tupleKind (fR P w)).is h ks a:=by
  obtain ⟨_,its,r,o,h1,h2,n,h3⟩:=(show ObjOk P w H h a (.tup (ks.map kV)) from ok a _ e)
  exact ⟨o,its.toArray,n,h1,h2,h3,by simpa using sG r⟩
theorem yM {kvs:List (List Key×V)} (ok:HOk P w H h) (e:Rd H a (.dT kvs)):kvs.length≤sizeLine∧(a == sysModules)=false ∧
    ∃ xs,KT H kvs xs∧h.DictOfH (tupleKind (fR P w)) a xs:=by
  obtain ⟨z,y,xs,r,o,es,ep,h1,h2,h3,h4,h5⟩:=(show ObjOk P w H h a (.dT kvs) from aMe ok e)
  refine ⟨z,y,xs,r,o,es,ep,h1,h2,h3,h4,fun x hx => ?_,h5⟩
  have all:∀ {l:List (List Key×V)} {m:List (List Key×Addr×Value)},KT H l m→∀ x∈m,(tupleKind (fR P w)).is h x.1 x.2.1:=by
    intro l m q
    induction q with
    | nil=>intro x hx; exact nomatch hx
    | @cons p q ps qs hq t ih =>
      intro x hx
      rcases aF.mp hx with e | hx
      · subst e
        exact pQ ok (by rw [← hq.1]; exact hq.2.1)
      · exact ih x hx
  exact all r x hx
theorem aUy {kvs:List (List Key×V)} (ok:HOk P w H h) (e:H a=some (.dT kvs)):kvs.length≤sizeLine∧(a == sysModules)=false ∧
    ∃ xs,KT H kvs xs∧h.DictOfH (tupleKind (fR P w)) a xs:=yM ok (.inl e)
end
def DGet (H:Hp) (a:Addr) (y:V) (r:Option V):Prop :=
  (∃ kvs k,Rd H a (.dK kvs)∧y=kV k∧r=kW kvs k)∨∃ kvs k b,Rd H a (.dT kvs)∧y=.ref b∧H b=some (.tup (k.map kV))∧r=kW kvs k
def DPut (H:Hp) (a:Addr) (y v:V) (H':Hp):Prop :=
  (∃ kvs k,H a=some (.dK kvs)∧y=kV k∧kvs.length < sizeLine∧H'=upd H a (.dK (lY kvs k v))) ∨
  ∃ kvs k b,H a=some (.dT kvs)∧y=.ref b∧H b=some (.tup (k.map kV))∧kvs.length < sizeLine∧H'=upd H a (.dT (lY kvs k v))
theorem DGet.k {H:Hp} {a:Addr} {kvs:List (Key×V)} {k:Key} (e:H a=some (.dK kvs)):DGet H a (kV k) (kW kvs k):=.inl ⟨kvs,k,.inl e,rfl,rfl⟩
theorem DPut.k {H:Hp} {a:Addr} {kvs:List (Key×V)} {k:Key} {v:V} (e:H a=some (.dK kvs)) (hl:kvs.length < sizeLine):DPut H a (kV k) v (upd H a (.dK (lY kvs k v))):=.inl ⟨kvs,k,e,rfl,hl,rfl⟩
section
variable {X:Cx} {pins:gC} {σ:St} {H:Hp} {s:Shared} {a:Addr} {y v:V} {u r:Value} {o:Option V} {A:Around} {E:gU}
theorem Inv.big (I:Inv X pins σ H s):sysModules < s.heap.objs.size:=by
  have h:mainGlobals < s.heap.objs.size:=(I.mod.glob.keeps I.bk).lt
  exact Nat.lt_trans (by decide) h
theorem aCi {Q:gU} (hu:A.units + 1 < cLine) (I:Inv X pins σ H s) (g:DGet H a y (some v)) (ry:RelV y u) (h:∀ w' s',Inv X pins σ H s'→RelV v w'→Q w' s') :
    wpAny (model X.prog X.w) A (getItem (.ref a) u) Q E s:=by
  rcases g with ⟨kvs,k,e,ey,l⟩ | ⟨kvs,k,b,e,ey,eb,l⟩
  · subst ey
    obtain ⟨z,hd,vs,rel,dd⟩:=sP I.hok e
    obtain ⟨w',hw,rw'⟩:=RelO.some_of (v:=v) (o:=valueAt vs k) (by rw [l]; exact rel.val k)
    exact wpAny_getItem_of (xN ry) dd.mapOf hw (h w' _ (I.tok _) rw')
  · subst ey
    cases (show u=Value.ref b from ry)
    obtain ⟨z,hd,xs,rel,dd⟩:=yM I.hok e
    obtain ⟨w',hw,rw'⟩:=RelO.some_of (v:=v) (o:=(atKey xs k).map (·.2)) (by rw [l]; exact rel.val k)
    obtain ⟨p,hp,hp2⟩:=eP.mp hw
    refine wpAny_getItem_heap (tupleKind_room_in1 hu) (pQ I.hok eb) dd hp ?_
    rw [hp2]
    exact h w' _ (I.tok _) rw'
theorem aYu {Q:gU} (hu:A.units + 1 < cLine) (I:Inv X pins σ H s) (g:DGet H a y o) (ry:RelV y u) (h:∀ s',Inv X pins σ H s'→Q (.bool o.isSome) s') :
    wpAny (model X.prog X.w) A (compareOp .In u (.ref a)) Q E s:=by
  rcases g with ⟨kvs,k,e,ey,l⟩ | ⟨kvs,k,b,e,ey,eb,l⟩
  · subst ey
    obtain ⟨z,hd,vs,rel,dd⟩:=sP I.hok e
    refine wpAny_in_of (xN ry) hd dd.mapOf ?_
    rw [← (rel.val k).isSome_eq,← l]
    exact h _ (I.tok _)
  · subst ey
    cases (show u=Value.ref b from ry)
    obtain ⟨z,hd,xs,rel,dd⟩:=yM I.hok e
    refine wpAny_in_heap (tupleKind_room_in1 hu) (pQ I.hok eb) hd dd ?_
    have q:=(rel.val k).isSome_eq
    rw [Option.isSome_map] at q
    rw [← q,← l]
    exact h _ (I.tok _)
theorem aLh {Q:gU} (hu:A.units + 1 < cLine) (I:Inv X pins σ H s) (g:DGet H a y o) (ry:RelV y u) (h:∀ s',Inv X pins σ H s'→Q (.bool (!o.isSome)) s') :
    wpAny (model X.prog X.w) A (compareOp .NotIn u (.ref a)) Q E s:=by
  rcases g with ⟨kvs,k,e,ey,l⟩ | ⟨kvs,k,b,e,ey,eb,l⟩
  · subst ey
    obtain ⟨z,hd,vs,rel,dd⟩:=sP I.hok e
    refine wpAny_notIn_of (xN ry) hd dd.mapOf ?_
    rw [← (rel.val k).isSome_eq,← l]
    exact h _ (I.tok _)
  · subst ey
    cases (show u=Value.ref b from ry)
    obtain ⟨z,hd,xs,rel,dd⟩:=yM I.hok e
    refine wpAny_notIn_heap (tupleKind_room_in1 hu) (pQ I.hok eb) hd dd ?_
    have q:=(rel.val k).isSome_eq
    rw [Option.isSome_map] at q
    rw [← q,← l]
    exact h _ (I.tok _)
theorem aAc {h':Heap} {t':Nat} {ob:HO} (I:Inv X pins σ H s) (mu:Mut (H a)) (hs:Heap.SameBut a s.heap h') (he:∃ q,h'.get? a=some q) (new:ObjOk X.prog X.w (upd H a ob) h' a ob) :
    Inv X pins σ (upd H a ob) { s with heap:=h',toks:=t' } :=
  I.write (x:=a) (e:=a) mu (.inl rfl) (fun b q hb z=>(hs.2 b hb).trans z) he new
theorem aQt {P:Program} {w:World} {H':Hp} {h':Heap} {kvs:List (Key×V)} {vs:List (Key×Value)} (z:kvs.length≤sizeLine) (hd:(a == sysModules)=false) (rel:KV kvs vs) (dd:h'.DictOf (fR P w) a vs) :
    ObjOk P w H' h' a (.dK kvs):=⟨z,hd,vs,rel,dd⟩
theorem aCh {H':Hp} {Q:Unit→Shared→Prop} (hu:A.units + 1 < cLine) (I:Inv X pins σ H s) (g:DPut H a y v H') (ry:RelV y u) (rv:RelV v r) (h:∀ s',Inv X pins σ H' s'→Q () s') :
    wpAny (model X.prog X.w) A (setItem (.ref a) u r) Q E s:=by
  rcases g with ⟨kvs,k,e,ey,l,eH⟩ | ⟨kvs,k,b,e,ey,eb,l,eH⟩
  · subst ey eH
    obtain ⟨z,hd,vs,rel,dd⟩:=aUz I.hok e
    have hz:vs.length≤sizeLine:=by rw [← rel.length]; exact z
    have hl:(lY kvs k v).length≤sizeLine:=by have:=im_ kvs k v; omega
    refine wpAny_setItem_pairs (hsz:=hz) (xN ry) dd fun h' dd' hs=>h _ ?_
    have he:∃ q,h'.get? a=some q:=let ⟨q,_,_,hq,_⟩:=dd'; ⟨q,hq⟩
    exact aAc I (by rw [e]; exact True.intro) hs he (aQt hl hd (rel.put k rv) dd')
  · subst ey eH
    cases (show u=Value.ref b from ry)
    obtain ⟨z,hd,xs,rel,dd⟩:=aUy I.hok e
    have hz:xs.length≤sizeLine:=by rw [← Paired.length rel]; exact z
    have hl:(lY kvs k v).length≤sizeLine:=by have:=im_ kvs k v; omega
    refine wpAny_setItem_heap (hsz:=hz) (tupleKind_room_in1 hu) (pQ I.hok eb) dd fun h' dd' hs=>h _ ?_
    obtain ⟨q,es,ep,hq,h2,h3,h4,_,h5⟩:=dd'
    refine aAc I (by rw [e]; exact True.intro) hs ⟨q,hq⟩ ⟨hl,hd,_,(rel.put k eb rv).keeps fun c ys ec => ?_,q,es,ep,hq,h2,h3,h4,h5⟩
    rw [fX (aTl ec e (fun z=>nomatch z))]
    exact ec
end
section
variable {X:Cx} {pins:gC} {σ:St} {H:Hp} {s:Shared} {a:Addr} {kvs:List (Key×V)} {k:Key} {u:Value} {A:Around} {E:gU}
theorem aVa {Q:gU} (I:Inv X pins σ H s) (e:Rd H a (.dK kvs)) (h:∀ t s',Inv X pins σ H s'→Q (.int kvs.length t) s'):wpAny (model X.prog X.w) A (call (.builtin "len") [.ref a]) Q E s:=by
  obtain ⟨z,hd,vs,rel,dd⟩:=sP I.hok e
  refine call_len_dict hd dd (by rw [← rel.length]; rw [sizeLine_eq] at z; omega) ?_
  rw [← rel.length]
  exact h _ _ (I.tok _)
end
def aRj (i:Expr):Prop := ∀ ov iv,subscripted i false ov iv=operate [ov,iv] (getItem ov iv)
theorem aIp {prog:Program} {w:World} {A:Around} {E:gU} {s:Shared} {env:Env} {value slice:Expr} {pos:Pos} {T id:String} {Q:gU}
    (hl:typeLookup (.type T) "__getitem__" = pure (some (.builtin id))) (hs:aRj slice)
    (h:wpAny (model prog w) A (eval value env) (fun o s₁=>wpAny (model prog w) A (eval slice env) (fun i s₂=>s₂.TypeIs o T∧wpAny (model prog w) A (getItem o i) Q E s₂) E s₁) E s) :
    wpAny (model prog w) A (eval (.Subscript value slice pos) env) Q E s:=by
  refine Subscript_ (wpAny_mono h (fun o s₁ h₁=>wpAny_mono h₁ (fun i s₂ h₂ => ?_) fun _ _ x=>x) fun _ _ x=>x)
  obtain ⟨hT,h₂⟩:=h₂
  unfold subscriptTail
  refine wpAny_bind ?_
  rw [getitemInPython_of_ne hT.not_modules]
  refine wpAny_bind (wpAny_specialOf hT hl ?_)
  have fin:wpAny (model prog w) A (subscripted slice false o i) (fun r s₃=>wpAny (model prog w) A (letTemporaryGo value o r >>= fun _=>pure r) Q E s₃) E s₂:=by
    rw [hs o i]
    exact wpAny_operating (wpAny_mono h₂ (fun r s₃ h₃=>wpAny_bind (wpAny_letTemporaryGo (wpAny_pure h₃))) fun _ _ x=>x)
  first
    | exact wpAny_pure (wpAny_bind fin)
    | exact wpAny_bind (wpAny_pure (wpAny_bind fin))
    | exact wpAny_bind fin
theorem yO {X:Cx} {pins:gC} {σ:St} {H:Hp} {s:Shared} {a:Addr} {y:V} {o:Option V} (I:Inv X pins σ H s) (g:DGet H a y o):s.TypeIs (.ref a) "dict" := by
  rcases g with ⟨kvs,k,e,_,_⟩ | ⟨kvs,k,b,e,_,_,_⟩
  · obtain ⟨_, _, vs, _, dd⟩ := sP I.hok e
    exact dd.typeIs
  · obtain ⟨_, _, xs, _, dd⟩ := yM I.hok e
    exact dd.typeIs
def aSu (td ty:TE):TE:=fun σ H Q=>td σ H fun x H1=>ty σ H1 fun y H2 => ∃ a v,x=.ref a∧DGet H2 a y (some v)∧Q v H2
def aXi (ty td:TE):TE:=fun σ H Q=>ty σ H fun y H1=>td σ H1 fun x H2 => ∃ a o,x=.ref a∧DGet H2 a y o∧Q (.bl o.isSome) H2
def o4 (ty td:TE):TE:=fun σ H Q=>ty σ H fun y H1=>td σ H1 fun x H2 => ∃ a o,x=.ref a∧DGet H2 a y o∧Q (.bl (!o.isSome)) H2
def aMc (td ty tv:TE):TS:=fun D σ H=>tv σ H fun v H1=>td σ H1 fun x H2=>ty σ H2 fun y H3 => ∃ a H4,x=.ref a∧DPut H3 a y v H4∧D.nx σ H4
section
variable {X:Cx} {o i e value:Expr} {pos pos' tpos:Pos} {td ty tv:TE}
theorem aJd (hu:X.A.units + 1 < cLine) (ho:PE X o td) (hi:PE X i ty) (hs:aRj i):PE X (.Subscript o i pos) (aSu td ty):=by
  intro pins s σ H Q I h
  refine aIp PySem.F.slot_dict_getitem.lookup hs (fL (ho pins s σ H _ I h) fun u s1 ⟨x,H1,I1,rx,q1⟩=>fL (hi pins s1 σ H1 _ I1 q1) fun iv s2 ⟨y,H2,I2,ry,a,v,ex,g,q2⟩ => ?_)
  subst ex
  obtain rfl:u=Value.ref a:=rx
  exact ⟨yO I2 g,aCi hu I2 g ry fun w' s3 I3 rw'=>⟨v,H2,I3,rw',q2⟩⟩
theorem aOi (hu:X.A.units + 1 < cLine) (hi:PE X i ty) (ho:PE X o td):PC X .In i o (aXi ty td):=by
  intro pins s σ H Q I h
  refine fL (hi pins s σ H _ I h) fun iv s1 ⟨y,H1,I1,ry,q1⟩=>fL (ho pins s1 σ H1 _ I1 q1) fun u s2 ⟨x,H2,I2,rx,a,ov,ex,g,q2⟩ => ?_
  subst ex
  obtain rfl:u=Value.ref a:=rx
  exact aYu hu I2 g ry fun s3 I3=>⟨.bl ov.isSome,H2,I3,rfl,q2⟩
theorem aBl (hu:X.A.units + 1 < cLine) (hi:PE X i ty) (ho:PE X o td):PC X .NotIn i o (o4 ty td):=by
  intro pins s σ H Q I h
  refine fL (hi pins s σ H _ I h) fun iv s1 ⟨y,H1,I1,ry,q1⟩=>fL (ho pins s1 σ H1 _ I1 q1) fun u s2 ⟨x,H2,I2,rx,a,ov,ex,g,q2⟩ => ?_
  subst ex
  obtain rfl:u=Value.ref a:=rx
  exact aLh hu I2 g ry fun s3 I3=>⟨.bl (!ov.isSome),H2,I3,rfl,q2⟩
theorem uI (hu:X.A.units + 1 < cLine) (ho:PE X o td) (hi:PE X i ty) (hv:PE X value tv) (hs:swapsWith value (some (.Subscript o i pos')) pos.line X.env=pure false) :
    PS X (.Assign [.Subscript o i pos'] value pos) (aMc td ty tv):=by
  intro pins s σ H D I h
  refine wpAny_Assign_Subscript (fL (hv pins s σ H _ I h) fun r s1 ⟨v,H1,I1,rv,q1⟩=>fL (ho pins s1 σ H1 _ I1 q1) fun u s2 ⟨x,H2,I2,rx,q2⟩=>fL (hi pins s2 σ H2 _ I2 q2) fun iv s3 ⟨y,H3,I3,ry,a,H4,ex,g,q3⟩ => ?_) hs
  subst ex
  obtain rfl:u=Value.ref a:=rx
  exact aCh hu I3 g ry rv fun s4 I4=>⟨σ,H4,I4,q3⟩
end
theorem aHg {P:Program} {w:World} {H:Hp} (h:Heap) (hb:sysModules < h.objs.size):ObjOk P w H (h.push { cls:=.type "dict",data:=.dict #[] }) h.objs.size (.dK []) :=
  ⟨dB _,beq_eq_false_iff_ne.mpr (Ne.symm (cW hb)),[],.nil,Heap.DictOf.new h⟩
def aNo:TE:=fun _ H Q => ∀ p,H p=none→Q (.ref p) (upd H p (.dK []))
section
variable {X:Cx} {pos:Pos}
theorem aEz:PE X (.Dict [] [] pos) aNo:=fun pins s σ H Q I h =>
  wpAny_Dict_empty ⟨.ref s.heap.objs.size,_,I.laid (a:=s.heap.objs.size) (o:=.dK []) (t':=s.toks) (fun _ _ q=>aA _ q) (bJ _) (aHg s.heap I.big),rfl,h _ (I.hok.fresh (bJ _))⟩
end
theorem vZ:bootBuiltins "all" = some (.builtin "all"):=by decide +kernel
theorem m_:∀ {bs:List Bool} {us:List Value},Vals (bs.map V.bl) us→us=bs.map Value.bool
  | [],_,h=>by cases h; rfl
  | b :: bs, _, h => by
    cases h with
    | cons ra rb =>
      cases ra
      rw [m_ rb]
      rfl
theorem aBg:∀ (bs:List Bool),(List.range bs.length).all (fun i=>bs[i]?.getD false)=bs.all id:=by
  intro bs
  rw [Bool.eq_iff_iff,fD,fD]
  constructor
  · intro h b hb
    obtain ⟨i,hi,rfl⟩:=List.getElem_of_mem hb
    have:=h i (iA.mpr hi)
    rw [aD hi] at this
    exact this
  · intro h i hi
    have hi':=iA.mp hi
    rw [aD hi']
    exact h _ (List.getElem_mem hi')
section
variable {X:Cx}
def aEo (K:dH):List V→Hp→VK→Prop:=fun xs H Q => ∃ (p:Addr) (bs:List Bool),xs=[.ref p]∧SqL K H p (bs.map V.bl)∧Q (.bl (bs.all id)) H
theorem aCs (hc:X.calm=true):CallR X (.builtin "all") (aEo X.K):=by
  intro pins s σ H xs us Q I r h
  obtain ⟨p,bs,rfl,hq,q⟩:=h
  obtain ⟨u,rfl,rx⟩:=jZ r
  cases rx
  obtain ⟨its,r',pl,hz⟩:=I.list hq
  have hi:=m_ r'
  subst hi
  have hh:X.A.in1.handled=none:=I.ok.hd hc
  have lt:p < s.heap.objs.size:=by obtain ⟨_,e,_⟩:=pl.isList; exact aR e
  refine call_all_walk (wpAny_pyIter_list pl.isList ⟨_,_,_,_,_,_,fun i=>bs[i]?.getD false,rfl,Walks.list hh s.heap.objs.size p (cW lt) (bs.map Value.bool).toArray,⟨⟨_,aU _ rfl,rfl,rfl⟩,?_⟩,?_,fun h' tk hk => ?_⟩)
  · obtain ⟨o, e, r⟩ := pl.isList
    exact ⟨o,aA _ e,r⟩
  · intro i v s' Q' E' hv hQ
    have hv':(bs.map Value.bool)[i]? = some v:=by simpa using hv
    rw [cE] at hv'
    cases hb:bs[i]? with
    | none=>rw [hb] at hv'; cases hv'
    | some b =>
      rw [hb] at hv'
      cases hv'
      have hQ':Q' (bs[i]?.getD false) s':=hQ
      rw [hb] at hQ'
      exact wpAny_truthy_bool hQ'
  · have hk' : ∀ b o, s.heap.get? b = some o → h'.get? b = some o := fun b o e => hk b o (by simp; exact cW (aR e)) (aA _ e)
    refine ⟨.bl _,H,I.kept hk',?_,q⟩
    show Value.bool _=Value.bool _
    rw [bA,aE,aBg]
end
def Ite (K:dH) (a:Addr):It :=
  ⟨fun i H => ∃ xs x,SqL K H a xs∧xs[i]? = some x,
   fun i H v H' => ∃ p x,v=.ref p∧H p=none∧H'=upd H p (.tup [.int (i:Int),x])∧∀ xs,SqL K H a xs→xs[i]? = some x,
   fun i H => ∃ xs,SqL K H a xs∧xs.length≤i⟩
theorem aBc {P:Program} {w:World} {K:dH} {es:List Expr} {kk:Nat} {tpos:Pos} {a e it:Addr} (hne:e≠it) :
    Turn P w K (.Tuple es kk tpos) (Ite K a) [e,it] e (fun i h=>(∃ old,IsEnum h e it (i:Int) old)∧h.IsListIter it a i) where
  mem:=by simp
  obj:=fun i h st c hb=>by
    obtain ⟨⟨old,he⟩,h1⟩:=st
    simp only [aF,aV,or_false] at hb
    rcases hb with rfl | rfl
    · exact ⟨_,he,fun v e=>nomatch e⟩
    · obtain ⟨o,e,_,d⟩:=h1; exact ⟨o,e,fun v z=>by rw [d] at z; cases z⟩
  keep:=fun i h h' st k=>by
    obtain ⟨⟨old,he⟩,o,a,r⟩:=st
    exact ⟨⟨old,k e (by simp) _ he⟩,⟨o,k it (by simp) o a,r⟩⟩
  item:=by
    intro X hP hw hK hc i pins s σ H E I hf st hg
    subst hP hw hK
    obtain ⟨xs,x,q1,e1⟩:=hg
    obtain ⟨its1,r1,p1,z1⟩:=I.list q1
    obtain ⟨u1,eu1,ru1⟩:=r1.get e1
    obtain ⟨⟨old,he⟩,h1⟩:=st
    have lt:∀ {c o},s.heap.get? c=some o→s.heap.objs.size≠c:=fun e=>fU (aR e)
    refine wpAny_pyNext_enum_item he h1 p1.isList (x:=u1) (by simpa using eu1) hne fun h' a1 a2 a3 a4 hk => ?_
    refine ⟨_,rfl,wpAny_letOwnedTupleGo_enum a1 fun h'' b1 b2 => ?_⟩
    have b2':Heap.SameBut e h' h'':=b2
    have kk:∀ c o,c∉[e,it]→s.heap.get? c=some o→h''.get? c=some o:=fun c o hc e=>by
      simp only [aF,aV,or_false,not_or] at hc
      exact b2'.extBut _ _ hc.1 (hk c o hc.1 hc.2 e)
    have tT:h''.get? s.heap.objs.size=some { cls:=.type "tuple",data:=.seq #[.int i s.toks,u1] }:=b2'.extBut _ _ (lt he) a3
    have nT:H s.heap.objs.size=none:=I.hok.fresh (bJ _)
    have I':Inv X pins σ (upd H s.heap.objs.size (.tup [.int (i:Int),x])) { s with heap:=h'',toks:=s.toks + 1 }:=I.turnedT (t':=s.toks + 1) (its:=[.int i s.toks,u1]) hf kk (bJ _) (.cons ⟨_,rfl⟩ (.cons ru1 .nil)) (by show 2≤sizeLine; decide) ⟨_,tT,rfl,_,rfl⟩
    obtain ⟨o2,ho2,r2⟩:=a2
    refine ⟨.ref s.heap.objs.size,upd H s.heap.objs.size (.tup [.int (i:Int),x]),I',rfl,⟨_,x,rfl,nT,rfl,fun xs' w1=>by rw [I.list_inj w1 q1]; exact e1⟩,⟨⟨_,b1⟩,⟨o2,b2'.extBut _ _ (Ne.symm hne) ho2,r2⟩⟩,fun c hc => ?_⟩
    obtain ⟨o,eo⟩ : ∃ o,s.heap.get? c=some o:=by
      simp only [aF,aV,or_false] at hc
      rcases hc with rfl | rfl
      · exact ⟨_,he⟩
      · obtain ⟨o,e,_⟩:=h1; exact ⟨o,e⟩
    rw [fX (Ne.symm (lt eo))]
    exact (hf c hc).1
  done:=by
    intro X hP hw hK hc i pins s σ H E I hf st hg
    subst hP hw hK
    obtain ⟨xs,q1,e⟩:=hg
    obtain ⟨its1,r1,p1,z1⟩:=I.list q1
    obtain ⟨⟨old,he⟩,h1⟩:=st
    have l1:=r1.length
    refine wpAny_pyNext_enum_end (I.ok.hd hc) he h1 p1.isList (by simp; omega) fun h' hk=>⟨rfl,I.turnedL (t':=s.toks) hf fun c o hc e => ?_⟩
    simp only [aF,aV,or_false,not_or] at hc
    exact hk c o hc.2 e
  self:=fun _ _ _ _ _ st h=>by
    obtain ⟨⟨old,he⟩,_⟩:=st
    exact wpAny_pyIter_enum he h
theorem vX:bootBuiltins "enumerate" = some (.type "enumerate"):=by decide +kernel
def aUa (K:dH) (ta:TA):TI:=fun σ H R=>ta σ H fun vs H1 => ∃ a,vs=[.ref a]∧(∃ xs,SqL K H1 a xs)∧R (Ite K a) H1
theorem aIz {X:Cx} {ea:Expr} {ta:TA} {p pos:Pos} {es:List Expr} {kk:Nat} {tpos:Pos} (hg:Gl X "enumerate") (hm:X.mg "enumerate" = none) (ha:PA X [ea] ta) (hs:starEach [ea] X.env=[(false,eval ea X.env)]:=by rfl) :
    PI X (.Tuple es kk tpos) (.Call (.Name "enumerate" p) [ea] [] pos) (aUa X.K ta):=by
  intro pins s σ H R I h
  refine Call_ (gh_ I hg hm vX (eG (fL (ha pos pins s σ H _ I h) fun us s1 ⟨vs,H1,I1,r1,q1⟩ => ?_) hs rfl))
  obtain ⟨a,e,⟨xs,w1⟩,q⟩:=q1
  subst e
  obtain ⟨u,rfl,ru⟩:=jZ r1
  cases ru
  obtain ⟨its1,r2,p1,z1⟩:=I1.list w1
  refine call_enumerate_list p1.isList fun h' he hi hsz hk=>wpAny_pyIter_enum he ?_
  refine ⟨_,_,_,_,H1,rfl,I1.kept (t':=s1.toks) hk,aBc (a:=a) (e:=s1.heap.objs.size + 1) (it:=s1.heap.objs.size) (Nat.succ_ne_self _),⟨⟨_,he⟩,hi⟩,fun c hc => ?_,q⟩
  have hle:s1.heap.objs.size≤c:=by
    simp only [aF,aV,or_false] at hc
    rcases hc with rfl | rfl <;> omega
  exact I1.fpOk hle (I1.hok.fresh hle)
section
variable {X:Cx}
def aSz (K:dH):V→Hp→VK→Prop:=fun x H Q => ∃ a xs,x=.ref a∧SqL K H a xs∧∀ p,H p=none→Q (.ref p) (upd H p (.lst xs.reverse))
def aSp (K:dH) (te:TE):TE:=fun σ H Q=>te σ H fun x H1=>aSz K x H1 Q
theorem aJa {e:Expr} {te:TE} {k:Nat} {p1 p2 p3 pos:Pos} (he:PE X e te):PE X (.Subscript e (.Slice none none (some (.UnaryOp .USub (.Constant (.int 1) k p1) p2)) p3) pos) (aSp X.K te):=by
  intro pins s σ H Q I h
  refine Subscript_ (fL (he pins s σ H _ I h) fun v s1 ⟨x,H1,I1,r1,q1⟩ => ?_)
  obtain ⟨a,xs,rfl,hx,q⟩:=q1
  cases r1
  refine wpAny_Slice ?_
  rw [evalPart_none]
  refine wpAny_pure (wpAny_pure ?_)
  rw [evalPart_some]
  refine fL ((t6 tO jE:PE X (.UnaryOp .USub (.Constant (.int 1) k p1) p2) _) pins s1 σ H1 (fun x H'=>x=.int (-1)∧H'=H1) I1 ⟨_,rfl,rfl,rfl⟩) fun vs s2 ⟨y,H2,I2,r2,e2,e3⟩ => ?_
  subst e2 e3
  obtain ⟨t,rfl⟩:=r2
  have I3:Inv X pins σ H2 { s2 with heap:=s2.heap.push { cls:=.type "slice",data:=.fields #[.none,.none,.int (-1) t] } }:=I2.kept (t':=s2.toks) fun b ob q=>aA _ q
  obtain ⟨its,r,ht,hz⟩:=I3.list hx
  have hlen:=r.length
  refine tail_any (ops:=[.ref a,.ref s2.heap.objs.size]) ht.isList.typeIs slot_list_getitem.lookup ?_ (by with_unfolding_all rfl)
  refine wpAny_getItem_list_slice ht.isList (Heap.IsSliceOf.new ..) .none .none (.int _ _) (by simp) ?_ (by rw [bA] <;> omega)
  rw [PySem.W.krv_pick]
  refine ⟨.ref _,_,I3.laid (t':=s2.toks) (o:=.lst xs.reverse) (fun b ob q=>aA _ q) (bJ _) ?_,rfl,q _ (I3.hok.fresh (bJ _))⟩
  exact ⟨by rw [iE]; exact hz,its.reverse,0,r.reverse,aU _ rfl⟩
end
end L2
namespace Lf
open PySem L2
end Lf
namespace L2
open PySem PySem.Spec PyProof.Rows
end L2
namespace Lf
open PySem PySem.W PyProof.Rows
end Lf
namespace L2
open PySem PySem.Spec PyProof.Rows PySem.W
section
variable {prog:Program} {w:World} {A:Around} {E:gU} {s:Shared}
abbrev TI2:=Addr×List Int
def t0:TI2:=(0,[])
end
end L2
namespace Lf
open PySem
def Pw (m:Int):Prop:=m=1∨m=2∨m=4∨m=8
theorem Pw.max {a b:Int} (ha:Pw a) (hb:Pw b):Pw (max a b):=by
  by_cases h:a≤b
  · rw [Int.max_eq_right h]; exact hb
  · rw [Int.max_eq_left (by omega)]; exact ha
theorem Pw.maxL {l:List Int} (h:∀ a∈l,Pw a):Pw (maxL 1 l):=by
  induction l with
  | nil=>exact .inl rfl
  | cons b r ih=>exact Pw.max (h b aB) (ih fun a ha=>h a (aC _ ha))
theorem Pw.pos {a:Int} (h:Pw a):1≤a:=by rcases h with rfl | rfl | rfl | rfl <;> decide
theorem lV {m:Int} (h:1≤m):up 1 m=m:=by
  obtain ⟨a,b⟩:=jW (n:=1) (m:=m) (by omega)
  exact pJ (by omega) aDt (Int.emod_self) (by omega) (by omega)
end Lf
namespace Lf
def gX (l:List Bool) (p:Nat) (bs:List Bool):List Bool:=l.mapIdx fun i b=>b || (decide (p≤i) && bs[i - p]?.getD false)
theorem db_ (l:List Bool) (p:Nat) (bs:List Bool):(gX l p bs).length=l.length:=by simp [gX]
theorem ii_ (l:List Bool) (p:Nat) (bs:List Bool) (i:Nat) (h:i < l.length):(gX l p bs)[i]?.getD false=(l[i]?.getD false || (decide (p≤i) && bs[i - p]?.getD false)):=by
  rw [gX,List.getElem?_mapIdx,aD h]
  rfl
theorem d4 (l:List Bool) (p:Nat) (bs:List Bool) (i:Nat):(gX l p bs)[i]? = l[i]?.map fun b=>b || (decide (p≤i) && bs[i - p]?.getD false):=by
  rw [gX,List.getElem?_mapIdx]
mutual
def Kd.fil:Kd→List Bool
  | .num w _=>List.replicate w.toNat true
  | .row k n=>(List.replicate n.toNat (gX (List.replicate (up k.rm.1 k.rm.2).toNat false) 0 k.fil)).flatten
  | .rcd fs=>nA (eF 0 (rmF fs)) fs (List.replicate (kE (rmF fs)).1.toNat false)
  | .cho ks=>qX (up 1 (hZ (rmK ks)).2).toNat ks ((List.replicate (hZ (rmK ks)).1.toNat false).set 0 true)
def nA:List Int→List (PySem.Str×Kd)→List Bool→List Bool
  | _,[],l=>l
  | [],_ :: _,l=>l
  | p :: ps,f :: r,l=>nA ps r (gX l p.toNat f.2.fil)
def qX:Nat→List Kd→List Bool→List Bool
  | _,[],l=>l
  | p,k :: r,l=>qX p r (gX l p k.fil)
end
theorem yC:∀ (fs:List (PySem.Str×Kd)) (ps:List Int) (l:List Bool),(nA ps fs l).length=l.length
  | [],_,_=>by simp [nA]
  | _ :: _,[],_=>by simp [nA]
  | f :: r,p :: ps,l=>by show (nA ps r _).length=_; rw [yC r,db_]
theorem yA:∀ (ks:List Kd) (p:Nat) (l:List Bool),(qX p ks l).length=l.length
  | [],_,_=>by simp [qX]
  | k :: r,p,l=>by show (qX p r _).length=_; rw [yA r,db_]
theorem Kd.fil_len:∀ {kd:Kd},kd.Ok→kd.fil.length=kd.rm.1.toNat
  | .num w m,_=>by show (List.replicate _ _).length=_; rw [aG]; rfl
  | .row k n, h => by
    obtain ⟨hk,h0,h1⟩:=h
    obtain ⟨a,b,c,d⟩:=k.bd hk
    obtain ⟨u1,u2⟩:=jW (n:=k.rm.1) (m:=k.rm.2) (by omega)
    show (List.replicate n.toNat (gX (List.replicate (up k.rm.1 k.rm.2).toNat false) 0 k.fil)).flatten.length=(n * up k.rm.1 k.rm.2).toNat
    rw [List.length_flatten,List.map_replicate,List.sum_replicate_nat,db_,aG,Int.toNat_mul h0 (by omega)]
  | .rcd fs,h=>by show (nA _ _ _).length=_; rw [yC,aG]; rfl
  | .cho ks,h=>by show (qX _ _ _).length=_; rw [yA,bF,aG]; rfl
def Kd.bz (kd:Kd) (i:Nat):Bool:=kd.fil[i]?.getD false
def bzF:List Int→List (PySem.Str×Kd)→Nat→Bool
  | _,[],_=>false
  | [],_ :: _,_=>false
  | p :: ps,f :: r,i=>(decide (p.toNat≤i) && f.2.bz (i - p.toNat)) || bzF ps r i
def bzK:Nat→List Kd→Nat→Bool
  | _,[],_=>false
  | p,k :: r,i=>(decide (p≤i) && k.bz (i - p)) || bzK p r i
theorem yD:∀ (fs:List (PySem.Str×Kd)) (ps:List Int) (l:List Bool) (i:Nat),i < l.length→(nA ps fs l)[i]?.getD false=(l[i]?.getD false || bzF ps fs i)
  | [],_,_,_,_=>by simp [nA,bzF]
  | _ :: _,[],_,_,_=>by simp [nA,bzF]
  | f :: r, p :: ps, l, i, h => by
    show (nA ps r _)[i]?.getD false=(_ || ((decide (p.toNat≤i) && f.2.fil[i - p.toNat]?.getD false) || bzF ps r i))
    rw [yD r ps _ i (by rw [db_]; exact h),ii_ _ _ _ _ h,Bool.or_assoc]
theorem yB:∀ (ks:List Kd) (p:Nat) (l:List Bool) (i:Nat),i < l.length→(qX p ks l)[i]?.getD false=(l[i]?.getD false || bzK p ks i)
  | [],_,_,_,_=>by simp [qX,bzK]
  | k :: r, p, l, i, h => by
    show (qX p r _)[i]?.getD false=(_ || ((decide (p≤i) && k.fil[i - p]?.getD false) || bzK p r i))
    rw [yB r p _ i (by rw [db_]; exact h),ii_ _ _ _ _ h,Bool.or_assoc]
theorem Kd.bz_lt {kd:Kd} (h:kd.Ok) {i:Nat} (hb:kd.bz i=true):i < kd.rm.1.toNat:=by
  by_cases hi:i < kd.fil.length
  · rw [kd.fil_len h] at hi; exact hi
  · unfold Kd.bz at hb
    rw [bQ (by omega)] at hb
    cases hb
end Lf
namespace Lf
open PySem
theorem uQ {n:Nat} {l:List Bool} (h:l.length≤n):gX (List.replicate n false) 0 l=l ++ List.replicate (n - l.length) false:=by
  refine fO fun i => ?_
  rw [d4]
  by_cases hi:i < n
  · rw [bI, if_pos hi]
    show some (false || (decide (0≤i) && l[i - 0]?.getD false))=_
    rw [Nat.sub_zero,decide_eq_true (dB _),gK,Bool.false_or]
    by_cases hl:i < l.length
    · rw [bY hl,aD hl]; rfl
    · rw [bD (by omega),bI,if_pos (by omega),bQ (by omega)]; rfl
  · rw [bI, if_neg hi]
    rw [bD (by omega),bI,if_neg (by omega)]
    rfl
theorem aAi:∀ {ks:List Kd} {p i:Nat},bzK p ks i=(decide (p≤i) && ks.any fun k=>k.bz (i - p))
  | [],p,i=>by simp [bzK]
  | k :: r, p, i => by
    show ((decide (p≤i) && k.bz (i - p)) || bzK p r i)=_
    rw [aAi,fW,← Bool.and_or_distrib_left]
theorem xZ:∀ (n:Nat) (s:List Bool) (i:Nat),((List.replicate n s).flatten)[i]?.getD false=true↔∃ j,j < n∧j * s.length≤i∧s[i - j * s.length]?.getD false=true
  | 0, s, i => by
    constructor
    · intro h; simp at h
    · rintro ⟨j,hj,_⟩; omega
  | n + 1, s, i => by
    rw [aX,dE]
    by_cases hi:i < s.length
    · rw [bY hi]
      constructor
      · intro h; exact ⟨0,by omega,by omega,by simpa using h⟩
      · rintro ⟨j, hj, h1, h2⟩
        cases j with
        | zero=>simpa using h2
        | succ j =>
          exfalso
          rw [Nat.succ_mul] at h1
          omega
    · rw [bD (by omega), xZ n s]
      constructor
      · rintro ⟨j, hj, h1, h2⟩
        refine ⟨j + 1,by omega,by rw [Nat.succ_mul]; omega,?_⟩
        rw [Nat.succ_mul]
        have:i - (j * s.length + s.length)=i - s.length - j * s.length:=by omega
        rw [this]; exact h2
      · rintro ⟨j, hj, h1, h2⟩
        cases j with
        | zero =>
          exfalso
          rw [Nat.zero_mul,Nat.sub_zero,bQ (by omega)] at h2
          cases h2
        | succ j =>
          rw [Nat.succ_mul] at h1 h2
          refine ⟨j,by omega,by omega,?_⟩
          have:i - s.length - j * s.length=i - (j * s.length + s.length):=by omega
          rw [this]; exact h2
theorem aHq {kd:Kd} {n:Int} (h:kd.Ok) (i:Nat):(Kd.row kd n).bz i=true↔∃ j,j < n.toNat∧j * (up kd.rm.1 kd.rm.2).toNat≤i∧kd.bz (i - j * (up kd.rm.1 kd.rm.2).toNat)=true:=by
  obtain ⟨a,b,c,d⟩:=kd.bd h
  obtain ⟨u1,u2⟩:=jW (n:=kd.rm.1) (m:=kd.rm.2) (by omega)
  have hl:=kd.fil_len h
  show ((List.replicate n.toNat (gX (List.replicate (up kd.rm.1 kd.rm.2).toNat false) 0 kd.fil)).flatten)[i]?.getD false=true↔_
  rw [xZ,db_,aG,uQ (by omega)]
  have key:∀ r,(kd.fil ++ List.replicate ((up kd.rm.1 kd.rm.2).toNat - kd.fil.length) false)[r]?.getD false=kd.bz r:=fun r=>by
    unfold Kd.bz
    by_cases hr:r < kd.fil.length
    · rw [bY hr]
    · rw [bD (by omega), bQ (l := kd.fil) (by omega), bI]
      split <;> rfl
  constructor
  · rintro ⟨j,h1,h2,h3⟩; rw [key] at h3; exact ⟨j,h1,h2,h3⟩
  · rintro ⟨j,h1,h2,h3⟩; exact ⟨j,h1,h2,by rw [key]; exact h3⟩
end Lf
namespace Lf
inductive Vd where
  | num (n:Int)
  | row (vs:List Vd)
  | rcd (vs:List Vd)
  | cho (k:Nat) (v:Vd)
def jV:Nat→Int→List Int
  | 0,_=>[]
  | w + 1,n=>n % 256 :: jV w (n / 256)
theorem hn_:∀ (w:Nat) (n:Int),(jV w n).length=w
  | 0,_=>rfl
  | w + 1,n=>by show (jV w _).length + 1=_; rw [hn_ w]
theorem gy_:∀ (w:Nat) (n:Int),∀ b∈jV w n,0≤b∧b < 256
  | 0,_,b,h=>(nomatch h)
  | w + 1, n, b, h => by
    rcases aF.mp h with e | e
    · rw [e]; exact ⟨dX _ (by decide),dG _ (by decide)⟩
    · exact gy_ w _ b e
theorem rY:∀ (w:Nat) (n:Int),jV (w + 1) n=jV w n ++ [n / 256 ^ w % 256]
  | 0,n=>by show [n % 256]=[n / 1 % 256]; rw [Int.ediv_one]
  | w + 1, n => by
    show n % 256 :: jV (w + 1) (n / 256)=n % 256 :: jV w (n / 256) ++ _
    rw [rY w (n / 256),Int.ediv_ediv_of_nonneg (by decide)]
    have e:(256:Int) * 256 ^ w=256 ^ (w + 1):=by rw [iV,Int.mul_comm]
    rw [e]
    rfl
def lay (l:List Int) (p:Nat) (some:List Int):List Int:=l.mapIdx fun i b=>if p≤i∧i < p + some.length then some.getD (i - p) 0 else b
theorem dy_ (l:List Int) (p:Nat) (some:List Int):(lay l p some).length=l.length:=by simp [lay]
theorem gi_ (l:List Int) (p:Nat) (s:List Int) (i:Nat):(lay l p s)[i]? = l[i]?.map fun b=>if p≤i∧i < p + s.length then s.getD (i - p) 0 else b:=by
  rw [lay,List.getElem?_mapIdx]
theorem aKg (l:List Int) (p:Nat):lay l p []=l:=by
  refine fO fun i => ?_
  rw [gi_]
  cases l[i]? with
  | none=>rfl
  | some c =>
    show some (if p≤i∧i < p + 0 then _ else c)=some c
    rw [if_neg (by omega)]
theorem aGb {l:List Int} {p:Nat} {s:List Int} {b:Int} (h:p + s.length < l.length):lay l p (s ++ [b])=(lay l p s).set (p + s.length) b:=by
  refine fO fun i => ?_
  by_cases hi:i=p + s.length
  · subst hi
    rw [eQ (by rw [dy_]; exact h),gi_,aD h]
    show some (if p≤p + s.length∧p + s.length < p + (s ++ [b]).length then (s ++ [b]).getD (p + s.length - p) 0 else _)=some b
    rw [if_pos ⟨by omega,by rw [aI]; show _ < p + (s.length + 1); omega⟩,fM,aM,bD (bJ _),Nat.sub_self]
    rfl
  · rw [dF (fun e => hi e.symm), gi_, gi_]
    cases l[i]? with
    | none=>rfl
    | some c =>
      show some (if _ then _ else c)=some (if _ then _ else c)
      by_cases hp:p≤i∧i < p + s.length
      · rw [if_pos hp,if_pos ⟨hp.1,by rw [aI]; show i < p + (s.length + 1); omega⟩,aM,aM,bY (by omega)]
      · rw [if_neg hp,if_neg (by rw [aI]; show ¬ (p≤i∧i < p + (s.length + 1)); omega)]
def gL (f:Vd→List Int) (step:Nat):Nat→List Vd→List Int→List Int
  | _,[],l=>l
  | j,v :: r,l=>gL f step (j + 1) r (lay l (j * step) (f v))
mutual
def Kd.byt:Kd→Vd→List Int
  | .num w _,.num n=>jV w.toNat n
  | .row k n,.row vs=>gL k.byt (up k.rm.1 k.rm.2).toNat 0 vs (List.replicate (n * up k.rm.1 k.rm.2).toNat 0)
  | .rcd fs,.rcd vs=>gD (eF 0 (rmF fs)) fs vs (List.replicate (kE (rmF fs)).1.toNat 0)
  | .cho ks,.cho k v=>lay ((List.replicate (hZ (rmK ks)).1.toNat (0:Int)).set 0 (k:Int)) (up 1 (hZ (rmK ks)).2).toNat (qI ks k v)
  | _,_=>[]
def gD:List Int→List (PySem.Str×Kd)→List Vd→List Int→List Int
  | p :: ps,f :: r,v :: vs,l=>gD ps r vs (lay l p.toNat (f.2.byt v))
  | _,_,_,l=>l
def qI:List Kd→Nat→Vd→List Int
  | [],_,_=>[]
  | k :: _,0,v=>k.byt v
  | _ :: r,j + 1,v=>qI r j v
end
mutual
def Kd.Val:Kd→Vd→Prop
  | .num w _,.num n=>0≤n∧n < 256 ^ w.toNat
  | .row k n,.row vs=>(vs.length:Int)=n∧∀ v∈vs,k.Val v
  | .rcd fs,.rcd vs=>fB fs vs
  | .cho ks,.cho k v=>jH ks k v
  | _,_=>False
def fB:List (PySem.Str×Kd)→List Vd→Prop
  | [],[]=>True
  | f :: r,v :: vs=>f.2.Val v∧fB r vs
  | _,_=>False
def jH:List Kd→Nat→Vd→Prop
  | [],_,_=>False
  | k :: _,0,v=>k.Val v
  | _ :: r,j + 1,v=>jH r j v
end
theorem ek_ (f:Vd→List Int) (step:Nat):∀ (vs:List Vd) (j:Nat) (l:List Int),(gL f step j vs l).length=l.length
  | [],_,_=>rfl
  | v :: r,j,l=>by show (gL f step (j + 1) r _).length=_; rw [ek_ f step r,dy_]
theorem gn_:∀ (fs:List (PySem.Str×Kd)) (ps:List Int) (vs:List Vd) (l:List Int),(gD ps fs vs l).length=l.length
  | [],_,_,_=>by simp [gD]
  | _ :: _,[],_,_=>by simp [gD]
  | _ :: _,_ :: _,[],_=>by simp [gD]
  | f :: r,p :: ps,v :: vs,l=>by simp only [gD]; rw [gn_ r,dy_]
theorem Kd.byt_len:∀ {kd:Kd} {v:Vd},kd.Val v→(kd.byt v).length=kd.rm.1.toNat
  | .num w m,.num n,_=>by simp only [Kd.byt]; rw [hn_]; rfl
  | .row k n,.row vs,_=>by simp only [Kd.byt]; rw [ek_,aG]; rfl
  | .rcd fs,.rcd vs,_=>by simp only [Kd.byt]; rw [gn_,aG]; rfl
  | .cho ks,.cho k v,_=>by simp only [Kd.byt]; rw [dy_,bF,aG]; rfl
theorem oB {l:List Int} {i:Nat} (h:l.getD i 0≠0):i < l.length:=by
  by_cases c:i < l.length
  · exact c
  · rw [aM, bQ (by omega)] at h
    exact absurd rfl h
theorem hr_ (n i:Nat):(List.replicate n (0:Int)).getD i 0=0:=by
  rw [aM,bI]
  split <;> rfl
theorem i5 {l s:List Int} {p i:Nat} (h:(lay l p s).getD i 0≠0):(p≤i∧s.getD (i - p) 0≠0)∨l.getD i 0≠0:=by
  have hi:=oB h
  rw [dy_] at hi
  rw [aM,gi_,aD hi] at h
  have h':(if p≤i∧i < p + s.length then s.getD (i - p) 0 else l[i])≠0:=h
  by_cases c:p≤i∧i < p + s.length
  · rw [if_pos c] at h'
    exact .inl ⟨c.1,h'⟩
  · rw [if_neg c] at h'
    refine .inr ?_
    rw [aM,aD hi]
    exact h'
theorem sE (f:Vd→List Int) (step:Nat):∀ (vs:List Vd) (j:Nat) (l:List Int) (i:Nat),(gL f step j vs l).getD i 0≠0→l.getD i 0≠0∨∃ t v,vs[t]? = some v∧(j + t) * step≤i∧(f v).getD (i - (j + t) * step) 0≠0
  | [],_,_,_,h=>.inl h
  | v :: r, j, l, i, h => by
    rcases sE f step r (j + 1) _ i h with a | ⟨t,u,a,b,c⟩
    · rcases i5 a with ⟨b, c⟩ | b
      · exact .inr ⟨0,v,rfl,b,c⟩
      · exact .inl b
    · have e : j + 1 + t = j + (t + 1) := by omega
      rw [e] at b c
      exact .inr ⟨t + 1,u,a,b,c⟩
mutual
theorem Kd.byt_nz:∀ (kd:Kd) (v:Vd) (i:Nat),kd.Ok→kd.Val v→(kd.byt v).getD i 0≠0→kd.bz i=true
  | .num w m, .num n, i, h, hv, hz => by
    have hi:=oB hz
    rw [Kd.byt_len hv] at hi
    have hi:i < w.toNat:=hi
    unfold Kd.bz
    show (List.replicate w.toNat true)[i]?.getD false=true
    rw [bI,if_pos hi]
    rfl
  | .row k n, .row vs, i, h, hv, hz => by
    simp only [Kd.byt] at hz
    obtain ⟨v1,v2⟩:=(show (vs.length:Int)=n∧∀ v∈vs,k.Val v from by simpa only [Kd.Val] using hv)
    rcases sE _ _ _ _ _ _ hz with a | ⟨t,u,a,b,c⟩
    · exact absurd (hr_ _ _) a
    · rw [iS] at b c
      have ht:=(aK.mp a).1
      exact (aHq h.1 i).mpr ⟨t,by omega,b,Kd.byt_nz k u _ h.1 (v2 u (aS a)) c⟩
  | .rcd fs, .rcd vs, i, h, hv, hz => by
    have hi:=oB hz
    rw [Kd.byt_len hv] at hi
    have hi:i < (kE (rmF fs)).1.toNat:=hi
    have hv':fB fs vs:=by simpa only [Kd.Val] using hv
    simp only [Kd.byt] at hz
    unfold Kd.bz
    show (nA (eF 0 (rmF fs)) fs (List.replicate (kE (rmF fs)).1.toNat false))[i]?.getD false=true
    rw [yD _ _ _ _ (by rw [aG]; exact hi)]
    rcases aAk fs (eF 0 (rmF fs)) vs _ i h.1 hv' hz with a | a
    · exact absurd (hr_ _ _) a
    · rw [a,Bool.or_true]
  | .cho ks, .cho k v, i, h, hv, hz => by
    have hi:=oB hz
    rw [Kd.byt_len hv] at hi
    have hi:i < (hZ (rmK ks)).1.toNat:=hi
    have hv':jH ks k v:=by simpa only [Kd.Val] using hv
    simp only [Kd.byt] at hz
    unfold Kd.bz
    show (qX (up 1 (hZ (rmK ks)).2).toNat ks ((List.replicate (hZ (rmK ks)).1.toNat false).set 0 true))[i]?.getD false=true
    rw [yB _ _ _ _ (by rw [bF,aG]; exact hi)]
    rcases i5 hz with ⟨a,b⟩ | a
    · rw [aAi, decide_eq_true a, aAj ks k v _ h.1 hv' b]
      exact Bool.or_true _
    · by_cases c : i = 0
      · subst c
        rw [eQ (by rw [aG]; exact hi)]
        rfl
      · rw [aM, dF (fun e => c e.symm), ← aM] at a
        exact absurd (hr_ _ _) a
  | .num _ _,.row _,_,_,hv,_ | .num _ _,.rcd _,_,_,hv,_ | .num _ _,.cho _ _,_,_,hv,_=>by simp only [Kd.Val] at hv
  | .row _ _,.num _,_,_,hv,_ | .row _ _,.rcd _,_,_,hv,_ | .row _ _,.cho _ _,_,_,hv,_=>by simp only [Kd.Val] at hv
  | .rcd _,.num _,_,_,hv,_ | .rcd _,.row _,_,_,hv,_ | .rcd _,.cho _ _,_,_,hv,_=>by simp only [Kd.Val] at hv
  | .cho _,.num _,_,_,hv,_ | .cho _,.row _,_,_,hv,_ | .cho _,.rcd _,_,_,hv,_=>by simp only [Kd.Val] at hv
theorem aAk:∀ (fs:List (PySem.Str×Kd)) (ps:List Int) (vs:List Vd) (l:List Int) (i:Nat),okF fs→fB fs vs→(gD ps fs vs l).getD i 0≠0→l.getD i 0≠0∨bzF ps fs i=true
  | [],ps,vs,l,i,_,_,h=>by simp only [gD] at h; exact .inl h
  | f :: r,[],vs,l,i,_,_,h=>by simp only [gD] at h; exact .inl h
  | f :: r,p :: ps,[],l,i,_,hv,h=>by simp only [fB] at hv
  | f :: r, p :: ps, v :: vs, l, i, ho, hv, h => by
    simp only [gD] at h
    simp only [fB] at hv
    rcases aAk r ps vs _ i ho.2 hv.2 h with a | a
    · rcases i5 a with ⟨b, c⟩ | b
      · right
        show ((decide (p.toNat≤i) && f.2.bz (i - p.toNat)) || bzF ps r i)=true
        rw [decide_eq_true b,Kd.byt_nz f.2 v _ ho.1 hv.1 c]
        rfl
      · exact .inl b
    · right
      show ((decide (p.toNat≤i) && f.2.bz (i - p.toNat)) || bzF ps r i)=true
      rw [a,Bool.or_true]
theorem aAj:∀ (ks:List Kd) (k:Nat) (v:Vd) (i:Nat),okK ks→jH ks k v→(qI ks k v).getD i 0≠0→(ks.any fun k=>k.bz i)=true
  | [],k,v,i,_,hv,_=>by simp only [jH] at hv
  | a :: r, 0, v, i, ho, hv, h => by
    simp only [qI] at h
    simp only [jH] at hv
    rw [fW,Kd.byt_nz a v i ho.1 hv h]
    rfl
  | a :: r, j + 1, v, i, ho, hv, h => by
    simp only [qI] at h
    simp only [jH] at hv
    rw [fW,aAj r j v i ho.2 hv h,Bool.or_true]
end
end Lf
namespace Lf
theorem oA {l s:List Int} {p i:Nat} (hi:i < l.length):(lay l p s).getD i 0=if p≤i∧i < p + s.length then s.getD (i - p) 0 else l.getD i 0:=by
  rw [aM,gi_,aD hi]
  show (if p≤i∧i < p + s.length then s.getD (i - p) 0 else l[i])=_
  split
  · rfl
  · rw [aM, aD hi]
    rfl
theorem ip_ (f:Vd→List Int) (step:Nat):∀ (vs:List Vd) (j:Nat) (l:List Int) (i:Nat),i < j * step→(gL f step j vs l).getD i 0=l.getD i 0
  | [],_,_,_,_=>rfl
  | v :: r, j, l, i, h => by
    have h':i < (j + 1) * step:=bL h (Nat.mul_le_mul_right _ (Nat.le_succ _))
    show (gL f step (j + 1) r _).getD i 0=_
    rw [ip_ f step r (j + 1) _ i h']
    by_cases c:i < l.length
    · rw [oA c,if_neg (by omega)]
    · rw [aM,aM,bQ (by rw [dy_]; omega),bQ (by omega)]
theorem pO (f:Vd→List Int) (step:Nat):∀ (vs:List Vd) (j:Nat) (l:List Int) (i t:Nat) (v:Vd),(∀ u∈vs,(f u).length≤step)→vs[t]? = some v→(j + t) * step≤i→i < (j + t) * step + (f v).length→i < l.length→(gL f step j vs l).getD i 0=(f v).getD (i - (j + t) * step) 0
  | [],_,_,_,_,_,_,h,_,_,_=>by simp at h
  | u :: r, j, l, i, 0, v, hs, h, h1, h2, h3 => by
    have e:u=v:=by simpa using h
    subst e
    have hl:=hs u aB
    rw [iT] at h1 h2 ⊢
    show (gL f step (j + 1) r _).getD i 0=_
    rw [ip_ f step r (j + 1) _ i (by rw [Nat.add_mul,Nat.one_mul]; omega),oA h3,if_pos ⟨h1,h2⟩]
  | u :: r, j, l, i, t + 1, v, hs, h, h1, h2, h3 => by
    have e:j + (t + 1)=j + 1 + t:=by omega
    rw [e] at h1 h2 ⊢
    exact pO f step r (j + 1) _ i t v (fun w hw=>hs w (aC _ hw)) (by simpa using h) h1 h2 (by rw [dy_]; exact h3)
end Lf
namespace Lf
theorem sU:∀ (fs:List (PySem.Str×Kd)) (ps:List Int) (vs:List Vd) (l:List Int) (i:Nat),(∀ p∈ps,i < p.toNat)→(gD ps fs vs l).getD i 0=l.getD i 0
  | [],ps,vs,l,i,_=>by simp only [gD]
  | f :: r,[],vs,l,i,_=>by simp only [gD]
  | f :: r,p :: ps,[],l,i,_=>by simp only [gD]
  | f :: r, p :: ps, v :: vs, l, i, h => by
    simp only [gD]
    rw [sU r ps vs _ i fun q hq=>h q (aC _ hq)]
    have hp:=h p aB
    by_cases c:i < l.length
    · rw [oA c,if_neg (by omega)]
    · rw [aM,aM,bQ (by rw [dy_]; omega),bQ (by omega)]
end Lf
namespace Lf
end Lf
namespace L2
open PySem PySem.Spec PyProof.Rows
section
variable {X:Cx} {pins:gC} {σ:St} {H:Hp} {s:Shared} {a:Addr}
theorem Inv.other {u u':HO} (I:Inv X pins σ H s) (e:H a=some u) (n1:∀ y,u ≠ .own y) (n2:∀ xs,u ≠ .tup xs) (n3:∀ ps,u ≠ .tbl ps) (n4:∀ o v,X.H₀ a≠some (.frz o v)) (hok:ObjOk X.prog X.w (upd H a u') s.heap a u'):Inv X pins σ (upd H a u') s:=by
  have ne:∀ {b:Addr},H b=none→b≠a:=fun h z=>by rw [z,e] at h; cases h
  refine ⟨I.ok,I.os,I.bare,⟨I.base.keep,I.base.slot,fun b o h1 h2 h3 => ?_,I.base.there,fun b xs h => ?_,fun b o v h => ?_,fun b ps h => ?_⟩,I.loc,I.cell,?_,fun x c h => ?_,fun p hp => ?_,fun b v h => ?_,I.len⟩
  · have := I.base.free b o h1 h2 h3
    rw [fX (ne this)]; exact this
  · have := I.base.tups b xs h
    rw [fX (fun z=>by rw [z,e] at this; exact n2 _ (Option.some.inj this))]; exact this
  · have := I.base.frzs b o v h
    rw [fX (fun z=>n4 o v (by rw [← z]; exact h))]; exact this
  · obtain ⟨m, q⟩ := I.base.tbls b ps h
    exact ⟨m,by rw [fX (fun z=>by rw [z,e] at q; exact n3 _ (Option.some.inj q))]; exact q⟩
  · rw [fX (ne I.free)]; exact I.free
  · rw [fX (ne (I.freeC x c h))]; exact I.freeC x c h
  · obtain ⟨p1, p2, p3⟩ := I.pin p hp
    exact ⟨p1,by rw [fX (ne p2)]; exact p2,p3⟩
  · by_cases hb : b = a
    · subst hb
      rw [cJ] at h
      cases h
      exact hok
    · rw [fX hb] at h
      refine (I.hok b v h).stay (fun _ _ _ q=>q) (fun c q => ?_) fun c xs q => ?_
      · rw [fX (fun z=>by rw [z,e] at q; exact n1 _ (Option.some.inj q))]; exact q
      · rw [fX (fun z=>by rw [z,e] at q; exact n2 _ (Option.some.inj q))]; exact q
theorem aHf {P:Program} {w:World} {H H':Hp} {h:Heap} {a:Addr} {kvs:List (Key×V)} (x:ObjOk P w H h a (.dK kvs)):ObjOk P w H' h a (.dK kvs):=x
theorem Inv.freeze {kvs:List (Key×V)} (I:Inv X pins σ H s) (e:H a=some (.dK kvs)):∃ o,Inv X pins σ (upd H a (.frz o (.dK kvs))) s:=by
  have x:=I.hok a _ e
  obtain ⟨_,_,vs,r,o,es,ep,h1,h2⟩:=id x
  refine ⟨o,I.other e (fun _ z=>by cases z) (fun _ z=>by cases z) (fun _ z=>by cases z) (fun o v z => ?_) ⟨h1,aHf x⟩⟩
  have:=I.base.frzs a o v z
  rw [e] at this; cases this
theorem Inv.thaw {o:Obj} {kvs:List (Key×V)} (I:Inv X pins σ H s) (e:H a=some (.frz o (.dK kvs))) (n:∀ o v,X.H₀ a≠some (.frz o v)):Inv X pins σ (upd H a (.dK kvs)) s :=
  I.other e (fun _ z=>by cases z) (fun _ z=>by cases z) (fun _ z=>by cases z) n (aHf (I.hok a _ e).2)
end
def aXh (H0:Hp) (t:TE):TE:=fun σ H Q => ∃ a kvs,H a=some (.dK kvs)∧(∀ o v,H0 a≠some (.frz o v))∧∀ o,t σ (upd H a (.frz o (.dK kvs))) fun v H'=>H' a=some (.frz o (.dK kvs))∧Q v (upd H' a (.dK kvs))
theorem aOe {X:Cx} {e:Expr} {t:TE} (h:PE X e t):PE X e (aXh X.H₀ t):=by
  intro pins s σ H Q I ⟨a,kvs,ha,hn,q⟩
  obtain ⟨o,I1⟩:=I.freeze ha
  refine fL (h pins s σ _ _ I1 (q o)) fun u s1 ⟨v,H1,I2,r,e1,q1⟩=>⟨v,_,I2.thaw e1 hn,r,q1⟩
def Itd (a:Addr) (o:Obj) (kvs:List (Key×V)):It :=
  ⟨fun i H=>H a=some (.frz o (.dK kvs))∧i < kvs.length,fun i H x H'=>H'=H∧∃ kv,kvs[i]? = some kv∧x=kV kv.1,fun i H=>H a=some (.frz o (.dK kvs))∧kvs.length≤i⟩
theorem aTq {P:Program} {w:World} {k:Key} {u:Value} (h:(fR P w).is k u=true):RelV (kV k) u:=by
  cases k with
  | inl i=>exact Value.isInt_shape (k:=i) h
  | inr x=>exact Value.isStrOf_shape (x:=x) h
theorem KV.at' {kvs:List (Key×V)} {vs:List (Key×Value)} (r:KV kvs vs):∀ {i:Nat} {kv:Key×V},kvs[i]? = some kv→∃ u,vs[i]? = some (kv.1,u):=by
  induction r with
  | nil=>intro i kv h; simp at h
  | @cons p q ps qs hq t ih =>
    intro i kv h
    cases i with
    | zero=>simp at h; subst h; exact ⟨q.2,by simp [hq.1]⟩
    | succ i=>obtain ⟨u,e⟩:=ih (i:=i) (by simpa using h); exact ⟨u,by simpa using e⟩
theorem xY {X:Cx} {pins:gC} {σ:St} {H:Hp} {s:Shared} {a:Addr} {o:Obj} {kvs:List (Key×V)} {es:Array DictEntry} {ep:Nat} (I:Inv X pins σ H s) (e:H a=some (.frz o (.dK kvs))) (hd:o.data=.dict es ep) :
    (a == sysModules)=false∧∃ vs,KV kvs vs∧s.heap.DictAt (fR X.prog X.w) a vs ep:=by
  obtain ⟨h0,_,y,vs,r,o',es',ep',h1,h2,h3,h4⟩:=(show ObjOk X.prog X.w H s.heap a (.frz o (.dK kvs)) from I.hok a _ e)
  rw [h0] at h1
  cases h1
  rw [hd] at h3
  cases h3
  exact ⟨y,vs,r,o,es,h0,h2,hd,h4⟩
theorem aBb {P:Program} {w:World} {K:dH} {tg:Expr} (a it:Addr) (hne:a≠it) (o:Obj) (kvs:List (Key×V)) (es:Array DictEntry) (ep:Nat) (hd:o.data=.dict es ep):Turn P w K tg (Itd a o kvs) [it] it (fun i h=>h.IsKeyIter it a i kvs.length ep) where
  mem:=by simp
  obj:=fun i h st b hb=>by
    have e:b=it:=by simpa using hb
    subst e
    obtain ⟨o,e,c,d⟩:=st
    exact ⟨o,e,fun v z=>by rw [d] at z; cases z⟩
  keep:=fun i h h' st k=>st.at fun o e=>k it (by simp) o e
  item:=by
    intro X hP hw hK hc i pins s σ H E I hf st hg
    subst hP hw hK
    obtain ⟨ha,hi⟩:=hg
    obtain ⟨y,vs,r,dd⟩:=xY I ha hd
    obtain ⟨f0,f1,f2,f3,f4,f5⟩:=hf it (by simp)
    have hl:kvs.length=vs.length:=r.length
    obtain ⟨u,hu⟩:=r.at' (aD hi)
    rw [hl] at st
    refine wpAny_pyNext_dict_item st dd hu fun key h' hk st' sb => ?_
    have I1:Inv X pins σ H { s with heap:=h' }:=I.turned (t':=s.toks) (fun b o hb e=>(sb.2 b hb).trans e) f0 f1 f3 f4 f5
    rw [← hl] at st'
    obtain ⟨o',e,c,d⟩:=id st'
    exact ⟨key,rfl,x6 (s:={ s with heap:=h' }) e c d (by decide) ⟨kV kvs[i].1,H,I1,aTq hk,⟨rfl,_,aD hi,rfl⟩,st',fun b hb=>(hf b hb).1⟩⟩
  done:=by
    intro X hP hw hK hc i pins s σ H E I hf st hg
    subst hP hw hK
    obtain ⟨ha,hi⟩:=hg
    obtain ⟨y,vs,r,dd⟩:=xY I ha hd
    obtain ⟨f0,f1,f2,f3,f4,f5⟩:=hf it (by simp)
    have hl:kvs.length=vs.length:=r.length
    rw [hl] at st
    exact wpAny_pyNext_dict_end (I.ok.hd hc) st dd (by simp; omega) fun h' eb=>⟨rfl,I.turned (t':=s.toks) (fun b o hb e=>eb b o hb e) f0 f1 f3 f4 f5⟩
  self:=fun _ _ _ _ _ st h=>wpAny_pyIter_keyiter st h
def aGo (tl:TE):TI:=fun σ H R=>tl σ H fun x H1 => ∃ a o kvs,x=.ref a∧H1 a=some (.frz o (.dK kvs))∧R (Itd a o kvs) H1
theorem t4 {X:Cx} {tg l:Expr} {tl:TE} (hl:PE X l tl):PI X tg l (aGo tl):=by
  intro pins s σ H R I h
  refine fL (hl pins s σ H _ I h) fun v s1 ⟨x,H1,I1,r1,q1⟩ => ?_
  obtain ⟨a,o,kvs,e,ha,q⟩:=q1
  subst e
  cases r1
  obtain ⟨h0,_,y,vs,r,o',es,ep,h1,h2,h3,h4⟩:=(show ObjOk X.prog X.w H1 s1.heap a (.frz o (.dK kvs)) from I1.hok a _ ha)
  rw [h0] at h1
  cases h1
  have hl:kvs.length=vs.length:=r.length
  refine wpAny_pyIter_dict y (⟨o,es,h0,h2,h3,h4⟩ : s1.heap.DictAt (fR X.prog X.w) a vs ep) ?_
  refine ⟨s1.heap.objs.size,[s1.heap.objs.size],_,_,H1,rfl,I1.kept (t':=s1.toks) fun b o e=>aA _ e,aBb a _ (cW (aR h0)) o kvs es ep h3,⟨_,aU _ rfl,rfl,by rw [hl]; rfl⟩,fun b hb => ?_,q⟩
  have e:b=s1.heap.objs.size:=by simpa using hb
  subst e
  exact I1.fpOk (bJ _) (I1.hok.fresh (bJ _))
section
variable {X:Cx}
theorem gj_ (a:Int) (t:Tok) {prog:Program} {w:World} {A:Around} {E:gU} {s:Shared} {Q:gU} (h:∀ t',Q (.int (Builtin.Int.intBits a) t') { s with toks:=s.toks + 1 }) :
    wpAny (model prog w) A (call (.builtin "int.bit_length") [.int a t]) Q E s:=by
  refine wpAny_call_entry F.slot_int_bit_length (typeIs_int s a t) F.entry_int_bit_length ?_ (F.args_int_bit_length_1 _)
  unfold Builtin.«int.bit_length»
  obtain ⟨hp,g,d,tk,os⟩:=s
  wp_walk
  exact ⟨_,rfl,h _⟩
def aMg:V→List V→Hp→VK→Prop:=fun x vs H Q => ∃ i:Int,x=.int i∧vs=[]∧Q (.int (Builtin.Int.intBits i)) H
theorem qV:MtR X "int.bit_length" aMg:=by
  intro pins s σ H x vs v us Q I rx rv h
  obtain ⟨i,rfl,rfl,q⟩:=h
  obtain ⟨t,rfl⟩:=rx
  cases rv
  exact gj_ i t fun t'=>⟨.int _,H,I.tok _,⟨_,rfl⟩,q⟩
end
end L2
namespace L2
open PySem PySem.W PySem.Spec PyProof.Rows PySem.Calls
def aLt (h:Heap):Frag:=(List.range h.objs.size).filterMap fun a=>(h.get? a).map fun o=>(a,o)
theorem pM {α β:Type} [BEq α] [LawfulBEq α] {a:α} {b:β}:∀ {l:List (α×β)},l.lookup a=some b→(a,b)∈l
  | [],h=>by simp at h
  | (c, d) :: r, h => by
    by_cases e:a=c
    · subst e; simp at h; subst h; exact aB
    · rw [cP, beq_eq_false_iff_ne.mpr e] at h
      exact aC _ (pM h)
theorem aLs (h:Heap):(aLt h).In h:=fun a o e=>by
  obtain ⟨b,_,hb⟩:=List.mem_filterMap.mp (pM e)
  obtain ⟨o',h1,h2⟩:=eP.mp hb
  cases h2
  exact h1
def exHook {α:Type} (f:Frag→α) (v:α):Hook where
  α:=α
  obs:=fun s=>f (aLt s.heap)
  val:=fun _=>v
  says:=fun _ h => ∃ K:Frag,K.In h∧f K=v
  of:=fun _ s e=>⟨aLt s.heap,aLs _,e⟩
  keeps:=fun _ _ _ e g=>by
    obtain ⟨K,k,e⟩:=e
    exact ⟨K,fun a o q=>g _ _ (k a o q),e⟩
theorem aCt:∀ w:World,((boot_heap w.params).isNs mainGlobals && (Array.mk []:Array GenState).size == 0,(boot_heap w.params).objs.size,(boot_heap w.params).nsMap mainGlobals "__annotations__")=(true,11,some (.ref 6)):=fun w=>by kernel_rfl
noncomputable def onceSeen (tr:(String→Option Builtin)→Program→World→Nat→Option Value→Nat→Shared→Thread→Option Shared) (tb:String→Option Builtin) (im:List Stmt→List Str) {β:Type} (os:List Str→Shared→β) (p:Program) (N:Nat) {α:Type} (Yf:Frag→α) (w:World) (o:OsState):Option (Bool×β×α) :=
  (tr tb p w 11 (some (.ref 6)) N ⟨boot_heap w.params,Array.mk [],boot_drawn,boot_toks,o⟩ (topStub p)).map fun s₁ =>
    (staticsOk (im p.main.body) (boot_heap w.params) s₁.heap && namesBound p s₁.heap && gensDone s₁ && laidKept (boot_heap w.params) s₁.heap,os (im p.main.body) s₁,Yf (aLt s₁.heap))
theorem aBu {p q:Program} {loose:List Str} {Xt:Shared→Bool} {α:Type} {Yf:Frag→α} {v:α} {N:Nat} {g0:Bool} (hN:Nat.ble 600 N=true) (e:opening p=plainProg p.main.scope.names) (f:∀ s,fenceModules? p s=some s)
    (all:∀ w:World,onceSeen topRun treeTable importedModules (fun m s=>openSeen q loose m Xt g0 s) p N Yf w=fun _=>some (true,openGood q loose,v)) :
    LeftO p q loose Xt (exHook Yf v).obs (exHook Yf v).val N g0:=fun w=>by
  obtain ⟨⟨h,gs,d,k,os⟩,e1,e'⟩:=eP.mp (boot_open e hN f w)
  obtain ⟨rfl,rfl,rfl,rfl⟩ : h=boot_heap w.params∧gs=Array.mk []∧d=boot_drawn∧k=boot_toks:=by simpa using e'
  obtain ⟨z1,z2,z3⟩ : _∧_∧_:=by simpa only [Prod.mk.injEq] using aCt w
  obtain ⟨s₁,r,r2⟩:=eP.mp (congrFun (all w) os)
  obtain ⟨l1,l2,l3⟩ : _∧_∧_:=by simpa only [Prod.mk.injEq] using r2
  have t:topFrom treeTable p w N ⟨boot_heap w.params,Array.mk [],boot_drawn,boot_toks,os⟩=some s₁:=by
    unfold topFrom
    dsimp only
    rw [z1,z2,z3]
    show (topRun treeTable p w 11 (some (.ref 6)) N _ (topStub p)).bind _=_
    rw [r]
    show (match staticsOk (importedModules p.main.body) (boot_heap w.params) s₁.heap && namesBound p s₁.heap && gensDone s₁ && laidKept (boot_heap w.params) s₁.heap with | true=>_ | false=>_)=_
    rw [l1]
  unfold openEnds
  rw [e1]
  show (topFrom treeTable p w N _).map _=_
  rw [t]
  exact congrArg some (Prod.ext l2 l3)
theorem walk_ex {l:PySem.W.OpenLaw} {n k:Nat} {q:Program} {loose:List Str} {XP:(Str→Option Value)→Heap→Prop} {α:Type} {f:Frag→α} {v:α} {d:DefRec} {CX:CXT} {sp:PySem.W.Frag→Sp} {x:Str}
    (hn:l.most=some n) (hn2:n≤sizeLine) (hdf:d.params.defaults=[]) (hr:Room k callerA)
    (F:∀ (w:World) (K:Frag) (mg:gO) (fa:Addr) (h:Heap),f K=v→K.In h→h.Ns mainGlobals mg→mg d.name=some (.ref fa) →
      ∃ fd : FuncData, (∀ (s : Shared) (u : Value), BindsTo s fd ⟨[u], []⟩ [(x, u)]) ∧
        ∀ base:Heap,K.In base→base.Ns mainGlobals mg→FnOk l.prog w K mg base CX k fa fd [x] (sp K))
    (hsp:∀ (K:dH) (H:Hp) (a:Addr) (ns:List Int),ns.length≤n→aRi H→SqL K H a (ns.map V.int)→sp K [.ref a] H (fun v _=>v=.bl true) fun _ _ _=>False)
    (hCX:∀ (H:Hp) (s:Shared) (e:Value) (s':Shared),CX [] H s (fun _ _ _=>False) e s'→False) :
    PySem.W.WalkO q loose XP (exHook f v).says l.row.toRowW d [] (fun f vs=>PySem.call f vs):=by
  refine Att.attach_call hn hdf fun w s₀ s₁ mg mb fa o pm cd doc a vs ns G Y ho hd hcd hmg hobj hints hlen hg => ?_
  obtain ⟨K,KX,hK⟩:=Y
  obtain ⟨fd,hb,hF⟩:=F w K mg fa _ hK KX G.T.g hmg
  exact aGd KX G.T.g G.T.b G.T.builtins G.T.nolimit hg hobj hints (bP hlen hn2) hr hF hb (fun H hO hS=>hsp K H a ns hlen hO hS) fun H e s'=>hCX H s₁ e s'
def kP (p:Program) (i:Nat):Stmt:=p.main.body.getD i (.Pass ⟨0,0,0,0⟩)
def gY (s:Stmt):Str:=match s with
  | .FunctionDef n .. => n
  | .Assign [.Name n _] _ _=>n
  | _=>⟨#[]⟩
abbrev FO:=Option ((Str×Str×Arguments×FuncBody×Scope)×(Addr×List (Str×Addr)×Value×Addr)×Bool)
def uV (K:Frag) (n:Str):FO:=match nsIn K mainGlobals n with
  | some (some (.ref f)) => (match K.lookup f with
    | some ⟨_,_,.func fd,_⟩=>some ((fd.name,fd.qualname,fd.params,fd.body,fd.scope),(fd.globals,fd.closure,fd.defaults,fd.builtins),codeIn K fd.code n)
    | _=>none)
  | _=>none
def vP (s:Stmt):FO:=some ((gY s,gY s,oE s,.stmts (iJ s),aQ s),(mainGlobals,[],.none,builtinsNs),true)
def xA (K:Frag) (n:Str):Bool:=match nsIn K mainGlobals n with
  | some none=>true
  | _=>false
def uU (K:Frag) (n:Str):Option V:=match nsIn K mainGlobals n with
  | some (some v)=>aLu v
  | _=>none
def aPt (K:Frag) (n:Str):Option (List (Option V)):=match nsIn K mainGlobals n with
  | some (some (.ref a)) => (match K.lookup a with
    | some ⟨.type "tuple",_,.seq xs _,_⟩=>some (xs.toList.map aLu)
    | _=>none)
  | _=>none
theorem iZ {K:Frag} {s:Stmt} (h:uV K (gY s)=vP s):∃ f fd,nsIn K mainGlobals (gY s)=some (some (.ref f))∧Fun K (gY s) (gY s) s f fd:=by
  unfold uV at h
  cases e:nsIn K mainGlobals (gY s) with
  | none=>rw [e] at h; cases h
  | some o =>
    cases o with
    | none=>rw [e] at h; cases h
    | some v =>
      cases v with
      | ref f =>
        rw [e] at h
        dsimp only at h
        cases e2:K.lookup f with
        | none=>rw [e2] at h; cases h
        | some ob =>
          obtain ⟨oc,od,da,sl⟩:=ob
          rw [e2] at h
          cases da with
          | func fd =>
            obtain ⟨nm,qn,pa,bo,sc,gl,cl,df,kw,dc,pm,an,cd,ct,bl⟩:=fd
            simp only [vP,Option.some.injEq,Prod.mk.injEq] at h
            obtain ⟨⟨rfl,rfl,rfl,rfl,rfl⟩,⟨rfl,rfl,rfl,rfl⟩,h3⟩:=h
            refine ⟨f,_,rfl,⟨oc,od,kw,dc,pm,an,cd,ct,sl,rfl,e2,h3⟩,?_⟩
            unfold keepIn
            dsimp only
            rw [e2]
          | _=>cases h
      | _=>rw [e] at h; cases h
theorem aFt {K:Frag} {n:Str} (h:xA K n=true):nsIn K mainGlobals n=some none:=by
  unfold xA at h
  split at h
  · assumption
  · cases h
theorem aHy:∀ {v:Value} {x:V},aLu v=some x→RelV x v
  | .none,x,h=>by cases h; rfl
  | .bool b,x,h=>by cases h; rfl
  | .int i t,x,h=>by cases h; exact ⟨t,rfl⟩
  | .str i t,x,h=>by cases h; exact ⟨t,rfl⟩
  | .bytes i t,x,h=>by cases h; exact ⟨t,rfl⟩
  | .float i t,x,h=>by cases h; exact ⟨t,rfl⟩
  | .ref a,x,h=>by cases h; rfl
  | .type n,x,h=>by cases h; rfl
  | .builtin _,x,h=>by cases h
theorem rW {K:Frag} {n:Str} {x:V} (h:uU K n=some x):∃ v,nsIn K mainGlobals n=some (some v)∧RelV x v:=by
  unfold uU at h
  split at h
  · exact ⟨_,by assumption,aHy h⟩
  · cases h
section
variable {K:Frag} {x qual:Str} {st:Stmt} {f:Addr} {fd:FuncData} {p1 p2 p3 p4 p5 p6:Str}
abbrev BA (x qual:Str) (st:Stmt) (us:List Value) (r:List (Str×Value)):Prop := ∀ (kV doc pm:Value) (an:Option Addr) (cdv ct:Value),bindArgs (PySem.W.fnOf x qual (oE st) (iJ st) (aQ st) .none kV doc pm an cdv ct) ⟨us,[]⟩=pure r
theorem hU (F:Fun K x qual st f fd) (h:∀ a,BA x qual st [a] [(p1,a)]):Binds K fd [p1] []:=F.binds fun _ _ _ _ _ _ us hl=>by
  match us,hl with
  | [a],_=>exact h a _ _ _ _ _ _
theorem fV (F:Fun K x qual st f fd) (h:∀ a b,BA x qual st [a,b] [(p1,a),(p2,b)]):Binds K fd [p1,p2] []:=F.binds fun _ _ _ _ _ _ us hl=>by
  match us,hl with
  | [a,b],_=>exact h a b _ _ _ _ _ _
theorem kH (F:Fun K x qual st f fd) (h:∀ a b c,BA x qual st [a,b,c] [(p1,a),(p2,b),(p3,c)]):Binds K fd [p1,p2,p3] []:=F.binds fun _ _ _ _ _ _ us hl=>by
  match us,hl with
  | [a,b,c],_=>exact h a b c _ _ _ _ _ _
end
def bltNs:List Str:=[⟨#[105,115,105,110,115,116,97,110,99,101]⟩,⟨#[105,110,116]⟩,⟨#[98,111,111,108]⟩,⟨#[108,105,115,116]⟩,⟨#[108,101,110]⟩,⟨#[115,116,114]⟩,⟨#[116,117,112,108,101]⟩,⟨#[97,108,108]⟩,⟨#[100,105,99,116]⟩,⟨#[109,97,120]⟩,⟨#[109,105,110]⟩,⟨#[114,97,110,103,101]⟩,⟨#[122,105,112]⟩,⟨#[101,110,117,109,101,114,97,116,101]⟩,⟨#[115,111,114,116,101,100]⟩,⟨#[115,117,109]⟩,⟨#[114,101,118,101,114,115,101,100]⟩]
theorem i8 {K:Frag} (h:bltNs.map (xA K)=List.replicate 17 true) {n:Str} (i:Nat) (hi:i < 17) (e:bltNs[i]? = some n):nsIn K mainGlobals n=some none:=by
  refine aFt ?_
  have:=congrArg (fun l=>l[i]?) h
  simp only [cE,e,Option.map_some,bI,hi,if_true,Option.some.injEq] at this
  exact this
end L2
namespace Lf
open PySem L2
def All2 {α β:Type} (g:α→β→Prop):List α→List β→Prop
  | [],ys=>ys=[]
  | x :: xs,ys => ∃ y yr,ys=y :: yr∧g x y∧All2 g xs yr
section
variable {α β:Type} {g h:α→β→Prop}
theorem All2.nil:All2 g [] []:=rfl
theorem All2.imp (i:∀ v x,g v x→h v x):∀ {vs:List α} {xs:List β},All2 g vs xs→All2 h vs xs
  | [],_,e=>e
  | _ :: _,_,⟨x,xr,e,a,b⟩=>⟨x,xr,e,i _ _ a,All2.imp i b⟩
theorem All2.len:∀ {vs:List α} {xs:List β},All2 g vs xs→xs.length=vs.length
  | [],_,e=>by rw [show _=[] from e]; rfl
  | _ :: _,_,⟨x,xr,e,a,b⟩=>by rw [e,aL,aL,All2.len b]
theorem All2.get:∀ {vs:List α} {xs:List β} {i:Nat} {x:β},All2 g vs xs→xs[i]? = some x→∃ v,vs[i]? = some v∧g v x
  | [],_,_,_,e,h=>by rw [show _=[] from e] at h; simp at h
  | v :: vs,_,0,x,⟨y,yr,e,a,b⟩,h=>by rw [e] at h; cases (Option.some.inj h); exact ⟨v,rfl,a⟩
  | v :: vs, _, i + 1, x, ⟨y, yr, e, a, b⟩, h => by
    rw [e] at h
    obtain ⟨u,hu,hg⟩:=All2.get (i:=i) b (by simpa using h)
    exact ⟨u,by simpa using hu,hg⟩
theorem All2.at:∀ {vs:List α} {xs:List β} {i:Nat} {v:α},All2 g vs xs→vs[i]? = some v→∃ x,xs[i]? = some x∧g v x
  | [],_,_,_,e,h=>by simp at h
  | v :: vs,_,0,w,⟨y,yr,e,a,b⟩,h=>by rw [e]; cases (Option.some.inj h); exact ⟨y,rfl,a⟩
  | v :: vs, _, i + 1, w, ⟨y, yr, e, a, b⟩, h => by
    rw [e]
    obtain ⟨u,hu,hg⟩:=All2.at (i:=i) b (by simpa using h)
    exact ⟨u,by simpa using hu,hg⟩
theorem All2.app {us:List α} {ys:List β} (hu:All2 g us ys):∀ {vs:List α} {xs:List β},All2 g vs xs→All2 g (vs ++ us) (xs ++ ys)
  | [],_,e=>by rw [show _=[] from e]; exact hu
  | _ :: _,_,⟨y,yr,e,a,b⟩=>by rw [e]; exact ⟨y,yr ++ ys,rfl,a,All2.app hu b⟩
theorem All2.one {v:α} {x:β} (hg:g v x):All2 g [v] [x]:=⟨x,[],rfl,hg,rfl⟩
theorem All2.snoc {v:α} {x:β} (hg:g v x) {vs:List α} {xs:List β} (h:All2 g vs xs):All2 g (vs ++ [v]) (xs ++ [x]):=All2.app (All2.one hg) h
theorem All2.take:∀ (n:Nat) {vs:List α} {xs:List β},All2 g vs xs→All2 g (vs.take n) (xs.take n)
  | 0,_,_,_=>by simp only [List.take_zero]; rfl
  | n + 1,[],_,e=>by rw [show _=[] from e]; rfl
  | n + 1,_ :: _,_,⟨y,yr,e,a,b⟩=>by rw [e]; exact ⟨y,yr.take n,rfl,a,All2.take n b⟩
theorem All2.drop:∀ (n:Nat) {vs:List α} {xs:List β},All2 g vs xs→All2 g (vs.drop n) (xs.drop n)
  | 0,_,_,h=>h
  | n + 1,[],_,e=>by rw [show _=[] from e]; rfl
  | n + 1,_ :: _,_,⟨y,yr,e,a,b⟩=>by rw [e]; exact All2.drop n b
theorem All2.rev:∀ {vs:List α} {xs:List β},All2 g vs xs→All2 g vs.reverse xs.reverse
  | [],_,e=>by rw [show _=[] from e]; rfl
  | _ :: _,_,⟨y,yr,e,a,b⟩=>by rw [e,iU,iU]; exact All2.snoc a (All2.rev b)
theorem All2.set {v:α} {x:β} (hg:g v x):∀ (i:Nat) {vs:List α} {xs:List β},All2 g vs xs→All2 g (vs.set i v) (xs.set i x)
  | _,[],_,e=>by rw [show _=[] from e]; rfl
  | 0,_ :: _,_,⟨y,yr,e,a,b⟩=>by rw [e]; exact ⟨x,yr,rfl,hg,b⟩
  | i + 1,_ :: _,_,⟨y,yr,e,a,b⟩=>by rw [e]; exact ⟨y,yr.set i x,rfl,a,All2.set hg i b⟩
end
inductive Dx where
  | non | bl (b:Bool) | int (i:Int) | str (x:Str) | tup (l:List Dx) | lst (l:List Dx) | dic (l:List (Key×Dx)) | scr (K:dH) (ns:List Int)
  | ins (C:Addr) (fs:List (Str×Dx)) | exc (c:Value)
def aCf (a:Addr) (c:Value):Heap→Prop:=fun h => ∃ o vs,h.get? a=some o∧o.cls=c∧o.data=.fields vs∧o.dict=none
mutual
def IsX (H:Hp):Dx→V→Prop
  | .non,v=>v=.non
  | .bl b,v=>v=.bl b
  | .int i,v=>v=.int i
  | .str x,v=>v=.str x
  | .tup ds,v => ∃ a vs,v=.ref a∧H a=some (.tup vs)∧IsXs H ds vs
  | .lst ds,v => ∃ a vs,v=.ref a∧H a=some (.lst vs)∧IsXs H ds vs
  | .dic ks,v => ∃ a ws,v=.ref a∧Rd H a (.dK ws)∧IsXk H ks ws
  | .scr K ns,v => ∃ a,v=.ref a∧SqL K H a (ns.map V.int)
  | .ins C fs,v => ∃ a dx ws,v=.ref a∧H a=some (.ins C dx ws)∧IsXf H fs ws
  | .exc c,v => ∃ a,v=.ref a∧H a=some (.ext (aCf a c))
def IsXs (H:Hp):List Dx→List V→Prop
  | [],vs=>vs=[]
  | d :: r,vs => ∃ v vr,vs=v :: vr∧IsX H d v∧IsXs H r vr
def IsXk (H:Hp):List (Key×Dx)→List (Key×V)→Prop
  | [],ws=>ws=[]
  | k :: r,ws => ∃ w wr,ws=w :: wr∧(k.1=w.1∧IsX H k.2 w.2)∧IsXk H r wr
def IsXf (H:Hp):List (Str×Dx)→List (Str×V)→Prop
  | [],ws=>ws=[]
  | k :: r,ws => ∃ w wr,ws=w :: wr∧(k.1=w.1∧IsX H k.2 w.2)∧IsXf H r wr
end
theorem IsXs.all {H:Hp}:∀ {ds:List Dx} {vs:List V},IsXs H ds vs↔All2 (IsX H) ds vs
  | [],vs=>by simp only [IsXs,All2]
  | d :: r, vs => by
    simp only [IsXs,All2]
    constructor
    · rintro ⟨v,vr,e,a,b⟩; exact ⟨v,vr,e,a,IsXs.all.mp b⟩
    · rintro ⟨v,vr,e,a,b⟩; exact ⟨v,vr,e,a,IsXs.all.mpr b⟩
abbrev KvX (H:Hp) (k:Key×Dx) (w:Key×V):Prop:=k.1=w.1∧IsX H k.2 w.2
theorem IsXk.all {H:Hp}:∀ {ds:List (Key×Dx)} {vs:List (Key×V)},IsXk H ds vs↔All2 (KvX H) ds vs
  | [],vs=>by simp only [IsXk,All2]
  | d :: r, vs => by
    simp only [IsXk,All2]
    constructor
    · rintro ⟨v,vr,e,a,b⟩; exact ⟨v,vr,e,a,IsXk.all.mp b⟩
    · rintro ⟨v,vr,e,a,b⟩; exact ⟨v,vr,e,a,IsXk.all.mpr b⟩
abbrev FvX (H:Hp) (k:Str×Dx) (w:Str×V):Prop:=k.1=w.1∧IsX H k.2 w.2
theorem IsXf.all {H:Hp}:∀ {ds:List (Str×Dx)} {vs:List (Str×V)},IsXf H ds vs↔All2 (FvX H) ds vs
  | [],vs=>by simp only [IsXf,All2]
  | d :: r, vs => by
    simp only [IsXf,All2]
    constructor
    · rintro ⟨v,vr,e,a,b⟩; exact ⟨v,vr,e,a,IsXf.all.mp b⟩
    · rintro ⟨v,vr,e,a,b⟩; exact ⟨v,vr,e,a,IsXf.all.mpr b⟩
def SameF (H H':Hp):Prop := ∀ b o,H b=some o→H' b=some o∨∃ ob ws,(o=.dK ws∧H' b=some (.frz ob (.dK ws)))∨(o=.frz ob (.dK ws)∧H' b=some (.dK ws))
theorem SameF.of {H H':Hp} (e:Same H H'):SameF H H':=fun b o h=>.inl (e _ _ h)
theorem SameF.tup {H H':Hp} (e:SameF H H') {a:Addr} {vs:List V} (h:H a=some (.tup vs)):H' a=some (.tup vs):=by
  rcases e _ _ h with q | ⟨ob,ws,q | q⟩
  · exact q
  · cases q.1
  · cases q.1
theorem SameF.lst {H H':Hp} (e:SameF H H') {a:Addr} {vs:List V} (h:H a=some (.lst vs)):H' a=some (.lst vs):=by
  rcases e _ _ h with q | ⟨ob,ws,q | q⟩
  · exact q
  · cases q.1
  · cases q.1
theorem SameF.dic {H H':Hp} (e:SameF H H') {a:Addr} {ws:List (Key×V)} (h:Rd H a (.dK ws)):Rd H' a (.dK ws):=by
  rcases h with h | ⟨o,h⟩
  · rcases e _ _ h with q | ⟨ob, ws, q | q⟩
    · exact .inl q
    · obtain ⟨q1,q2⟩:=q; cases q1; exact .inr ⟨_,q2⟩
    · cases q.1
  · rcases e _ _ h with q | ⟨ob, ws, q | q⟩
    · exact .inr ⟨_,q⟩
    · cases q.1
    · obtain ⟨q1,q2⟩:=q; cases q1; exact .inl q2
theorem SameF.ins {H H':Hp} (e:SameF H H') {a C dx:Addr} {ws:List (Str×V)} (h:H a=some (.ins C dx ws)):H' a=some (.ins C dx ws):=by
  rcases e _ _ h with q | ⟨ob,ws,q | q⟩
  · exact q
  · cases q.1
  · cases q.1
theorem SameF.ext {H H':Hp} (e:SameF H H') {a:Addr} {φ:Heap→Prop} (h:H a=some (.ext φ)):H' a=some (.ext φ):=by
  rcases e _ _ h with q | ⟨ob,ws,q | q⟩
  · exact q
  · cases q.1
  · cases q.1
theorem SameF.sq {H H':Hp} (e:SameF H H') {K:dH} {a:Addr} {xs:List V} (h:SqL K H a xs):SqL K H' a xs:=by
  rcases h with (h | ⟨o,h⟩) | h
  · exact .inl (.inl (e.lst h))
  · rcases e _ _ h with q | ⟨ob, ws, q | q⟩
    · exact .inl (.inr ⟨o,q⟩)
    · cases q.1
    · cases q.1
  · exact .inr h
mutual
theorem IsX.sameF {H H':Hp} (e:SameF H H'):∀ (d:Dx) (v:V),IsX H d v→IsX H' d v
  | .non,v,h=>by simpa only [IsX] using h
  | .bl _,v,h=>by simpa only [IsX] using h
  | .int _,v,h=>by simpa only [IsX] using h
  | .str _,v,h=>by simpa only [IsX] using h
  | .tup ds, v, h => by
    simp only [IsX] at h ⊢
    obtain ⟨a,vs,h1,h2,h3⟩:=h
    exact ⟨a,vs,h1,e.tup h2,IsXs.sameF e ds vs h3⟩
  | .lst ds, v, h => by
    simp only [IsX] at h ⊢
    obtain ⟨a,vs,h1,h2,h3⟩:=h
    exact ⟨a,vs,h1,e.lst h2,IsXs.sameF e ds vs h3⟩
  | .dic ks, v, h => by
    simp only [IsX] at h ⊢
    obtain ⟨a,ws,h1,h2,h3⟩:=h
    exact ⟨a,ws,h1,e.dic h2,IsXk.sameF e ks ws h3⟩
  | .scr K ns, v, h => by
    simp only [IsX] at h ⊢
    obtain ⟨a,h1,h2⟩:=h
    exact ⟨a,h1,e.sq h2⟩
  | .ins C fs, v, h => by
    simp only [IsX] at h ⊢
    obtain ⟨a,dx,ws,h1,h2,h3⟩:=h
    exact ⟨a,dx,ws,h1,e.ins h2,IsXf.sameF e fs ws h3⟩
  | .exc c, v, h => by
    simp only [IsX] at h ⊢
    obtain ⟨a,h1,h2⟩:=h
    exact ⟨a,h1,e.ext h2⟩
theorem IsXs.sameF {H H':Hp} (e:SameF H H'):∀ (ds:List Dx) (vs:List V),IsXs H ds vs→IsXs H' ds vs
  | [],vs,h=>by simpa only [IsXs] using h
  | d :: r, vs, h => by
    simp only [IsXs] at h ⊢
    obtain ⟨v,vr,h1,h2,h3⟩:=h
    exact ⟨v,vr,h1,IsX.sameF e d v h2,IsXs.sameF e r vr h3⟩
theorem IsXk.sameF {H H':Hp} (e:SameF H H'):∀ (ds:List (Key×Dx)) (ws:List (Key×V)),IsXk H ds ws→IsXk H' ds ws
  | [],vs,h=>by simpa only [IsXk] using h
  | d :: r, vs, h => by
    simp only [IsXk] at h ⊢
    obtain ⟨v,vr,h1,h2,h3⟩:=h
    exact ⟨v,vr,h1,⟨h2.1,IsX.sameF e d.2 v.2 h2.2⟩,IsXk.sameF e r vr h3⟩
theorem IsXf.sameF {H H':Hp} (e:SameF H H'):∀ (ds:List (Str×Dx)) (ws:List (Str×V)),IsXf H ds ws→IsXf H' ds ws
  | [],vs,h=>by simpa only [IsXf] using h
  | d :: r, vs, h => by
    simp only [IsXf] at h ⊢
    obtain ⟨v,vr,h1,h2,h3⟩:=h
    exact ⟨v,vr,h1,⟨h2.1,IsX.sameF e d.2 v.2 h2.2⟩,IsXf.sameF e r vr h3⟩
end
theorem IsX.toF {H H':Hp} {d:Dx} {v:V} (h:IsX H d v) (e:SameF H H'):IsX H' d v:=IsX.sameF e d v h
theorem IsX.to {H H':Hp} {d:Dx} {v:V} (h:IsX H d v) (e:Same H H'):IsX H' d v:=IsX.sameF (.of e) d v h
theorem IsX.int_eq {H:Hp} {i:Int} {v:V} (h:IsX H (.int i) v):v=.int i:=by simpa only [IsX] using h
theorem IsX.bl_eq {H:Hp} {i:Bool} {v:V} (h:IsX H (.bl i) v):v=.bl i:=by simpa only [IsX] using h
theorem IsX.str_eq {H:Hp} {i:Str} {v:V} (h:IsX H (.str i) v):v=.str i:=by simpa only [IsX] using h
theorem IsX.non_eq {H:Hp} {v:V} (h:IsX H .non v):v=.non:=by simpa only [IsX] using h
theorem IsX.tup_eq {H:Hp} {l:List Dx} {v:V} (h:IsX H (.tup l) v):∃ a vs,v=.ref a∧H a=some (.tup vs)∧All2 (IsX H) l vs:=by
  simp only [IsX] at h
  obtain ⟨a,vs,h1,h2,h3⟩:=h
  exact ⟨a,vs,h1,h2,IsXs.all.mp h3⟩
theorem IsX.lst_eq {H:Hp} {l:List Dx} {v:V} (h:IsX H (.lst l) v):∃ a vs,v=.ref a∧H a=some (.lst vs)∧All2 (IsX H) l vs:=by
  simp only [IsX] at h
  obtain ⟨a,vs,h1,h2,h3⟩:=h
  exact ⟨a,vs,h1,h2,IsXs.all.mp h3⟩
theorem IsX.dic_eq {H:Hp} {l:List (Key×Dx)} {v:V} (h:IsX H (.dic l) v):∃ a ws,v=.ref a∧Rd H a (.dK ws)∧All2 (KvX H) l ws:=by
  simp only [IsX] at h
  obtain ⟨a,vs,h1,h2,h3⟩:=h
  exact ⟨a,vs,h1,h2,IsXk.all.mp h3⟩
theorem IsX.scr_eq {H:Hp} {K:dH} {ns:List Int} {v:V} (h:IsX H (.scr K ns) v):∃ a,v=.ref a∧SqL K H a (ns.map V.int):=by simpa only [IsX] using h
theorem IsX.of_scr {H:Hp} {K:dH} {ns:List Int} {a:Addr} (h:SqL K H a (ns.map V.int)):IsX H (.scr K ns) (.ref a):=by simp only [IsX]; exact ⟨a,rfl,h⟩
theorem IsX.ins_eq {H:Hp} {C:Addr} {fs:List (Str×Dx)} {v:V} (h:IsX H (.ins C fs) v):∃ a dx ws,v=.ref a∧H a=some (.ins C dx ws)∧All2 (FvX H) fs ws:=by
  simp only [IsX] at h
  obtain ⟨a,dx,ws,h1,h2,h3⟩:=h
  exact ⟨a,dx,ws,h1,h2,IsXf.all.mp h3⟩
theorem IsX.exc_eq {H:Hp} {c:Value} {v:V} (h:IsX H (.exc c) v):∃ a,v=.ref a∧H a=some (.ext (aCf a c)):=by simpa only [IsX] using h
theorem IsX.of_ins {H:Hp} {C a dx:Addr} {fs:List (Str×Dx)} {ws:List (Str×V)} (h:H a=some (.ins C dx ws)) (h':All2 (FvX H) fs ws):IsX H (.ins C fs) (.ref a):=by simp only [IsX]; exact ⟨a,dx,ws,rfl,h,IsXf.all.mpr h'⟩
theorem IsX.of_exc {H:Hp} {c:Value} {a:Addr} (h:H a=some (.ext (aCf a c))):IsX H (.exc c) (.ref a):=by simp only [IsX]; exact ⟨a,rfl,h⟩
theorem IsX.of_int {H:Hp} (i:Int):IsX H (.int i) (.int i):=by simp only [IsX]
theorem IsX.of_bl {H:Hp} (i:Bool):IsX H (.bl i) (.bl i):=by simp only [IsX]
theorem IsX.of_str {H:Hp} (i:Str):IsX H (.str i) (.str i):=by simp only [IsX]
theorem IsX.of_non {H:Hp}:IsX H .non .non:=by simp only [IsX]
theorem IsX.of_tup {H:Hp} {l:List Dx} {a:Addr} {vs:List V} (h:H a=some (.tup vs)) (h':All2 (IsX H) l vs):IsX H (.tup l) (.ref a):=by simp only [IsX]; exact ⟨a,vs,rfl,h,IsXs.all.mpr h'⟩
theorem IsX.of_lst {H:Hp} {l:List Dx} {a:Addr} {vs:List V} (h:H a=some (.lst vs)) (h':All2 (IsX H) l vs):IsX H (.lst l) (.ref a):=by simp only [IsX]; exact ⟨a,vs,rfl,h,IsXs.all.mpr h'⟩
theorem IsX.of_dic {H:Hp} {l:List (Key×Dx)} {a:Addr} {vs:List (Key×V)} (h:Rd H a (.dK vs)) (h':All2 (KvX H) l vs):IsX H (.dic l) (.ref a):=by simp only [IsX]; exact ⟨a,vs,rfl,h,IsXk.all.mpr h'⟩
inductive Ow where
  | tr (d:Dx) | ol (a:Addr) (l:List Ow) | od (a:Addr) (l:List (Key×Ow)) | oi (C a dx:Addr) (l:List (Str×Ow))
mutual
def Ow.d:Ow→Dx
  | .tr d=>d
  | .ol _ l=>.lst (aFg l)
  | .od _ l=>.dic (aFh l)
  | .oi C _ _ l=>.ins C (aFi l)
def aFg:List Ow→List Dx
  | []=>[]
  | o :: r=>o.d :: aFg r
def aFh:List (Key×Ow)→List (Key×Dx)
  | []=>[]
  | o :: r=>(o.1,o.2.d) :: aFh r
def aFi:List (Str×Ow)→List (Str×Dx)
  | []=>[]
  | o :: r=>(o.1,o.2.d) :: aFi r
end
mutual
def Ow.fp:Ow→List Addr
  | .tr _=>[]
  | .ol a l=>a :: uN l
  | .od a l=>a :: uO l
  | .oi _ a dx l=>a :: dx :: uP l
def uN:List Ow→List Addr
  | []=>[]
  | o :: r=>o.fp ++ uN r
def uO:List (Key×Ow)→List Addr
  | []=>[]
  | o :: r=>o.2.fp ++ uO r
def uP:List (Str×Ow)→List Addr
  | []=>[]
  | o :: r=>o.2.fp ++ uP r
end
mutual
def OwOk (G H:Hp):Ow→V→Prop
  | .tr d,v=>IsX G d v
  | .ol a l,v=>v=.ref a∧∃ vs,H a=some (.lst vs)∧OwOks G H l vs
  | .od a l,v=>v=.ref a∧∃ ws,H a=some (.dK ws)∧OwOkk G H l ws
  | .oi C a dx l,v=>v=.ref a∧∃ ws,H a=some (.ins C dx ws)∧H dx=some (.own a)∧OwOkf G H l ws
def OwOks (G H:Hp):List Ow→List V→Prop
  | [],vs=>vs=[]
  | o :: r,vs => ∃ v vr,vs=v :: vr∧OwOk G H o v∧OwOks G H r vr
def OwOkk (G H:Hp):List (Key×Ow)→List (Key×V)→Prop
  | [],vs=>vs=[]
  | o :: r,vs => ∃ v vr,vs=v :: vr∧(o.1=v.1∧OwOk G H o.2 v.2)∧OwOkk G H r vr
def OwOkf (G H:Hp):List (Str×Ow)→List (Str×V)→Prop
  | [],vs=>vs=[]
  | o :: r,vs => ∃ v vr,vs=v :: vr∧(o.1=v.1∧OwOk G H o.2 v.2)∧OwOkf G H r vr
end
section
variable {G G' H H':Hp}
mutual
theorem OwOk.mono (e:SameF G G'):∀ (o:Ow) (v:V),(∀ b∈o.fp,H' b=H b)→OwOk G H o v→OwOk G' H' o v
  | .tr d,v,_,h=>by simp only [OwOk] at h ⊢; exact h.toF e
  | .ol a l, v, k, h => by
    simp only [OwOk,Ow.fp] at h k ⊢
    obtain ⟨h1,vs,h2,h3⟩:=h
    exact ⟨h1,vs,by rw [k a aB]; exact h2,OwOks.mono e l vs (fun b hb=>k b (aC _ hb)) h3⟩
  | .od a l, v, k, h => by
    simp only [OwOk,Ow.fp] at h k ⊢
    obtain ⟨h1,vs,h2,h3⟩:=h
    exact ⟨h1,vs,by rw [k a aB]; exact h2,OwOkk.mono e l vs (fun b hb=>k b (aC _ hb)) h3⟩
  | .oi C a dx l, v, k, h => by
    simp only [OwOk,Ow.fp] at h k ⊢
    obtain ⟨h1,vs,h2,h4,h3⟩:=h
    exact ⟨h1,vs,by rw [k a aB]; exact h2,by rw [k dx (aC _ aB)]; exact h4,OwOkf.mono e l vs (fun b hb=>k b (aC _ (aC _ hb))) h3⟩
theorem OwOks.mono (e:SameF G G'):∀ (l:List Ow) (vs:List V),(∀ b∈uN l,H' b=H b)→OwOks G H l vs→OwOks G' H' l vs
  | [],vs,_,h=>by simpa only [OwOks] using h
  | o :: r, vs, k, h => by
    simp only [OwOks,uN] at h k ⊢
    obtain ⟨v,vr,h1,h2,h3⟩:=h
    exact ⟨v,vr,h1,OwOk.mono e o v (fun b hb=>k b (bH _ hb)) h2,OwOks.mono e r vr (fun b hb=>k b (aJ _ hb)) h3⟩
theorem OwOkk.mono (e:SameF G G'):∀ (l:List (Key×Ow)) (vs:List (Key×V)),(∀ b∈uO l,H' b=H b)→OwOkk G H l vs→OwOkk G' H' l vs
  | [],vs,_,h=>by simpa only [OwOkk] using h
  | o :: r, vs, k, h => by
    simp only [OwOkk,uO] at h k ⊢
    obtain ⟨v,vr,h1,h2,h3⟩:=h
    exact ⟨v,vr,h1,⟨h2.1,OwOk.mono e o.2 v.2 (fun b hb=>k b (bH _ hb)) h2.2⟩,OwOkk.mono e r vr (fun b hb=>k b (aJ _ hb)) h3⟩
theorem OwOkf.mono (e:SameF G G'):∀ (l:List (Str×Ow)) (vs:List (Str×V)),(∀ b∈uP l,H' b=H b)→OwOkf G H l vs→OwOkf G' H' l vs
  | [],vs,_,h=>by simpa only [OwOkf] using h
  | o :: r, vs, k, h => by
    simp only [OwOkf,uP] at h k ⊢
    obtain ⟨v,vr,h1,h2,h3⟩:=h
    exact ⟨v,vr,h1,⟨h2.1,OwOk.mono e o.2 v.2 (fun b hb=>k b (bH _ hb)) h2.2⟩,OwOkf.mono e r vr (fun b hb=>k b (aJ _ hb)) h3⟩
end
def aLv (H:Hp) (b:Addr):Prop := ∃ o,H b=some o∧∀ ob u,o ≠ .frz ob u
mutual
theorem OwOk.there:∀ (o:Ow) (v:V),OwOk G H o v→∀ b∈o.fp,aLv H b
  | .tr d,v,_,b,hb=>by simp only [Ow.fp] at hb; cases hb
  | .ol a l, v, h, b, hb => by
    simp only [OwOk,Ow.fp] at h hb
    obtain ⟨h1,vs,h2,h3⟩:=h
    rcases aF.mp hb with rfl | hb
    · exact ⟨_,h2,fun _ _ z=>nomatch z⟩
    · exact OwOks.there l vs h3 b hb
  | .od a l, v, h, b, hb => by
    simp only [OwOk,Ow.fp] at h hb
    obtain ⟨h1,vs,h2,h3⟩:=h
    rcases aF.mp hb with rfl | hb
    · exact ⟨_,h2,fun _ _ z=>nomatch z⟩
    · exact OwOkk.there l vs h3 b hb
  | .oi C a dx l, v, h, b, hb => by
    simp only [OwOk,Ow.fp] at h hb
    obtain ⟨h1,vs,h2,h4,h3⟩:=h
    rcases aF.mp hb with rfl | hb
    · exact ⟨_,h2,fun _ _ z=>nomatch z⟩
    · rcases aF.mp hb with rfl | hb
      · exact ⟨_,h4,fun _ _ z=>nomatch z⟩
      · exact OwOkf.there l vs h3 b hb
theorem OwOks.there:∀ (l:List Ow) (vs:List V),OwOks G H l vs→∀ b∈uN l,aLv H b
  | [],vs,_,b,hb=>by simp only [uN] at hb; cases hb
  | o :: r, vs, h, b, hb => by
    simp only [OwOks,uN] at h hb
    obtain ⟨v,vr,h1,h2,h3⟩:=h
    rcases bZ.mp hb with hb | hb
    · exact OwOk.there o v h2 b hb
    · exact OwOks.there r vr h3 b hb
theorem OwOkk.there:∀ (l:List (Key×Ow)) (vs:List (Key×V)),OwOkk G H l vs→∀ b∈uO l,aLv H b
  | [],vs,_,b,hb=>by simp only [uO] at hb; cases hb
  | o :: r, vs, h, b, hb => by
    simp only [OwOkk,uO] at h hb
    obtain ⟨v,vr,h1,h2,h3⟩:=h
    rcases bZ.mp hb with hb | hb
    · exact OwOk.there o.2 v.2 h2.2 b hb
    · exact OwOkk.there r vr h3 b hb
theorem OwOkf.there:∀ (l:List (Str×Ow)) (vs:List (Str×V)),OwOkf G H l vs→∀ b∈uP l,aLv H b
  | [],vs,_,b,hb=>by simp only [uP] at hb; cases hb
  | o :: r, vs, h, b, hb => by
    simp only [OwOkf,uP] at h hb
    obtain ⟨v,vr,h1,h2,h3⟩:=h
    rcases bZ.mp hb with hb | hb
    · exact OwOk.there o.2 v.2 h2.2 b hb
    · exact OwOkf.there r vr h3 b hb
end
mutual
theorem OwOk.tree (e:SameF G G'):∀ (o:Ow) (v:V),(∀ b∈o.fp,G' b=H b)→OwOk G H o v→IsX G' o.d v
  | .tr d,v,_,h=>by simp only [OwOk,Ow.d] at h ⊢; exact h.toF e
  | .ol a l, v, k, h => by
    simp only [OwOk,Ow.fp,Ow.d] at h k ⊢
    obtain ⟨h1,vs,h2,h3⟩:=h
    subst h1
    exact IsX.of_lst (by rw [k a aB]; exact h2) (OwOks.tree e l vs (fun b hb=>k b (aC _ hb)) h3)
  | .od a l, v, k, h => by
    simp only [OwOk,Ow.fp,Ow.d] at h k ⊢
    obtain ⟨h1,vs,h2,h3⟩:=h
    subst h1
    exact IsX.of_dic (.inl (by rw [k a aB]; exact h2)) (OwOkk.tree e l vs (fun b hb=>k b (aC _ hb)) h3)
  | .oi C a dx l, v, k, h => by
    simp only [OwOk,Ow.fp,Ow.d] at h k ⊢
    obtain ⟨h1,vs,h2,h4,h3⟩:=h
    subst h1
    exact IsX.of_ins (by rw [k a aB]; exact h2) (OwOkf.tree e l vs (fun b hb=>k b (aC _ (aC _ hb))) h3)
theorem OwOks.tree (e:SameF G G'):∀ (l:List Ow) (vs:List V),(∀ b∈uN l,G' b=H b)→OwOks G H l vs→All2 (IsX G') (aFg l) vs
  | [],vs,_,h=>by simpa only [OwOks,aFg,All2] using h
  | o :: r, vs, k, h => by
    simp only [OwOks,uN,aFg] at h k ⊢
    obtain ⟨v,vr,h1,h2,h3⟩:=h
    exact ⟨v,vr,h1,OwOk.tree e o v (fun b hb=>k b (bH _ hb)) h2,OwOks.tree e r vr (fun b hb=>k b (aJ _ hb)) h3⟩
theorem OwOkk.tree (e:SameF G G'):∀ (l:List (Key×Ow)) (vs:List (Key×V)),(∀ b∈uO l,G' b=H b)→OwOkk G H l vs→All2 (KvX G') (aFh l) vs
  | [],vs,_,h=>by simpa only [OwOkk,aFh,All2] using h
  | o :: r, vs, k, h => by
    simp only [OwOkk,uO,aFh] at h k ⊢
    obtain ⟨v,vr,h1,h2,h3⟩:=h
    exact ⟨v,vr,h1,⟨h2.1,OwOk.tree e o.2 v.2 (fun b hb=>k b (bH _ hb)) h2.2⟩,OwOkk.tree e r vr (fun b hb=>k b (aJ _ hb)) h3⟩
theorem OwOkf.tree (e:SameF G G'):∀ (l:List (Str×Ow)) (vs:List (Str×V)),(∀ b∈uP l,G' b=H b)→OwOkf G H l vs→All2 (FvX G') (aFi l) vs
  | [],vs,_,h=>by simpa only [OwOkf,aFi,All2] using h
  | o :: r, vs, k, h => by
    simp only [OwOkf,uP,aFi] at h k ⊢
    obtain ⟨v,vr,h1,h2,h3⟩:=h
    exact ⟨v,vr,h1,⟨h2.1,OwOk.tree e o.2 v.2 (fun b hb=>k b (bH _ hb)) h2.2⟩,OwOkf.tree e r vr (fun b hb=>k b (aJ _ hb)) h3⟩
end
end
inductive Sv where
  | tr (d:Dx) | ol (l:List Dx) | od (l:List (Key×Dx)) | ow (o:Ow)
def Sv.d:Sv→Dx
  | .tr d=>d
  | .ol l=>.lst l
  | .od l=>.dic l
  | .ow o=>o.d
inductive Sl where
  | un | v (s:Sv) | bw (l:List Dx) | bo (o:Ow) | pn (v:V)
abbrev Rw:=Sl×Option V
def jC:Rw→List Addr
  | (.v (.ol _),some (.ref a))=>[a]
  | (.v (.od _),some (.ref a))=>[a]
  | (.bw _,some (.ref a))=>[a]
  | (.v (.ow o),_)=>o.fp
  | (.bo o,_)=>o.fp
  | _=>[]
def cF (P:List Rw):List Addr:=P.flatMap jC
def hid (O:List Addr) (H:Hp):Hp:=fun b=>if b∈O then none else H b
theorem bS {O:List Addr} {H:Hp} {b:Addr} {o:HO}:hid O H b=some o↔b∉O∧H b=some o:=by
  unfold hid
  by_cases h:b∈O
  · rw [if_pos h]; simp [h]
  · rw [if_neg h]; simp [h]
theorem pV {O:List Addr} {H H':Hp} (e:Same H H'):Same (hid O H) (hid O H'):=fun b o h=>bS.mpr ⟨(bS.mp h).1,e _ _ (bS.mp h).2⟩
theorem oJ {O O':List Addr} {H:Hp} (e:∀ a∈O',a∈O):Same (hid O H) (hid O' H):=fun b o h=>bS.mpr ⟨fun z=>(bS.mp h).1 (e _ z),(bS.mp h).2⟩
theorem w_ {O:List Addr} {H:Hp}:Same (hid O H) H:=fun b o h=>(bS.mp h).2
def nf:Option HO→Option HO
  | some (.frz _ _)=>none
  | o=>o
theorem nY {x:Option HO} {o:HO} (h:nf x=some o):x=some o:=by
  unfold nf at h
  split at h
  · cases h
  · exact h
theorem uY {x y:Option HO} {o:HO} (h:nf x=some o) (e:∀ o,x=some o→y=some o):nf y=some o:=by
  have hx:=nY h
  rw [hx] at h
  rw [e o hx]
  exact h
def ext (Hs H0 H:Hp):Hp:=fun b=>match H0 b with | none=>nf (H b) | some _=>Hs b
theorem qL {Hs H0 H:Hp} {b:Addr} (h:H0 b=none):ext Hs H0 H b=nf (H b):=by unfold ext; rw [h]
theorem qP {Hs H0 H:Hp} {b:Addr} {o:HO} (h:H0 b=some o):ext Hs H0 H b=Hs b:=by unfold ext; rw [h]
theorem gk_ {Hs H0 H H':Hp} (e:Same H H'):Same (ext Hs H0 H) (ext Hs H0 H'):=fun b o h=>by
  cases q:H0 b with
  | none=>rw [qL q] at h ⊢; exact uY h (e b)
  | some u=>rw [qP q] at h ⊢; exact h
def RowOk (O:List Addr) (G H:Hp):Rw→Prop
  | (.un,_)=>True
  | (.pn w,v)=>v=some w
  | (.v (.tr d),v) => ∃ x,v=some x∧IsX (hid O G) d x
  | (.v (.ol l),v) => ∃ a vs,v=some (.ref a)∧H a=some (.lst vs)∧All2 (IsX (hid O G)) l vs
  | (.v (.od l),v) => ∃ a ws,v=some (.ref a)∧H a=some (.dK ws)∧All2 (KvX (hid O G)) l ws
  | (.bw l,v) => ∃ a vs,v=some (.ref a)∧H a=some (.lst vs)∧All2 (IsX (hid O G)) l vs
  | (.v (.ow o),v) => ∃ x,v=some x∧OwOk (hid O G) H o x
  | (.bo o,v) => ∃ x,v=some x∧OwOk (hid O G) H o x
theorem KvX.toF {H H':Hp} {k:Key×Dx} {w:Key×V} (h:KvX H k w) (e:SameF H H'):KvX H' k w:=⟨h.1,h.2.toF e⟩
theorem KvX.to {H H':Hp} {k:Key×Dx} {w:Key×V} (h:KvX H k w) (e:Same H H'):KvX H' k w:=⟨h.1,h.2.to e⟩
theorem RowOk.mono {O O':List Addr} {G G' H H':Hp} {r:Rw} (h:RowOk O G H r) (e:SameF (hid O G) (hid O' G')) (ho:∀ a∈jC r,H' a=H a):RowOk O' G' H' r:=by
  match r,h,ho with
  | (.un,_),_,_=>trivial
  | (.pn w,v),h,_=>exact h
  | (.v (.tr d),v),⟨x,h1,h2⟩,_=>exact ⟨x,h1,h2.toF e⟩
  | (.v (.ol l), v), ⟨a, vs, h1, h2, h3⟩, ho =>
    subst h1
    exact ⟨a,vs,rfl,by rw [ho a (aO.mpr rfl)]; exact h2,h3.imp fun _ _ z=>z.toF e⟩
  | (.v (.od l), v), ⟨a, vs, h1, h2, h3⟩, ho =>
    subst h1
    exact ⟨a,vs,rfl,by rw [ho a (aO.mpr rfl)]; exact h2,h3.imp fun _ _ z=>z.toF e⟩
  | (.bw l, v), ⟨a, vs, h1, h2, h3⟩, ho =>
    subst h1
    exact ⟨a,vs,rfl,by rw [ho a (aO.mpr rfl)]; exact h2,h3.imp fun _ _ z=>z.toF e⟩
  | (.v (.ow o),v),⟨x,h1,h2⟩,ho=>exact ⟨x,h1,OwOk.mono e o x ho h2⟩
  | (.bo o,v),⟨x,h1,h2⟩,ho=>exact ⟨x,h1,OwOk.mono e o x ho h2⟩
structure Fm where
  H0:Hp
  Hs:Hp
  B:List Addr
  sub:Same Hs H0
  nb:∀ b∈B,Hs b=none
  ib:∀ b∈B,∃ o,H0 b=some o
abbrev Fm.vis (F:Fm) (H:Hp):Hp:=ext F.Hs F.H0 H
def FrOk (F:Fm) (r:Rw) (a:Addr):Prop:=match r.1 with
  | .bw _=>a∈F.B
  | .bo _=>a∈F.B∨F.H0 a=none
  | _=>F.H0 a=none
theorem FrOk.or {F:Fm} {r:Rw} {a:Addr} (h:FrOk F r a):a∈F.B∨F.H0 a=none:=by
  unfold FrOk at h
  split at h
  · exact .inl h
  · exact h
  · exact .inr h
structure Rep (F:Fm) (P:List Rw) (H:Hp):Prop where
  nd:(cF P).Nodup
  ok:∀ r∈P,RowOk (cF P) (F.vis H) H r
  fr:∀ r∈P,∀ a∈jC r,FrOk F r a
  kp:∀ b o,F.H0 b=some o→b∉F.B→H b=some o
  lv:∀ b∈F.B,∃ o,H b=some o
section
variable {F:Fm} {P P':List Rw} {H H':Hp} {r r':Rw} {d:Dx} {v:V} {a p:Addr} {l l':List Dx} {vs vs':List V} {k k':List (Key×Dx)} {ws ws':List (Key×V)} {s:Sv} {x:Option V}
theorem ci_:cF (r :: P)=jC r ++ cF P:=by
  unfold cF
  rw [List.flatMap_cons]
theorem pC:cF (P ++ P')=cF P ++ cF P':=by
  unfold cF
  rw [iF]
theorem mL (h:jC r=[a]):cF (r :: P)=a :: cF P:=by rw [ci_,h]; rfl
theorem dh_ (h:jC r=[]):cF (r :: P)=cF P:=by rw [ci_,h]; rfl
theorem aBm (h:P.Perm P'):(cF P).Perm (cF P'):=h.flatMap_right _
theorem Rep.vis (R:Rep F P H):Same (F.vis H) H:=fun b o h=>by
  cases q:F.H0 b with
  | none=>exact nY ((qL q).symm.trans h)
  | some u =>
    have h:=(qP q).symm.trans h
    have:=F.sub _ _ h
    exact R.kp b o this fun z=>by rw [F.nb b z] at h; cases h
theorem Rep.hv (R:Rep F P H) {O:List Addr}:Same (hid O (F.vis H)) H:=fun b o h=>R.vis b o (bS.mp h).2
theorem Rep.fresh (R:Rep F P H) (hp:H p=none):F.H0 p=none:=by
  cases q:F.H0 p with
  | none=>rfl
  | some o =>
    by_cases hB:p∈F.B
    · obtain ⟨u,hu⟩:=R.lv p hB; rw [hp] at hu; cases hu
    · rw [R.kp p o q hB] at hp; cases hp
theorem Rep.perm (R:Rep F P H) (h:P.Perm P'):Rep F P' H:=by
  have hp:(cF P).Perm (cF P'):=aBm h
  exact ⟨hp.nodup_iff.mp R.nd,fun r hr=>(R.ok r (h.mem_iff.mpr hr)).mono (.of (oJ fun a ha=>hp.mem_iff.mpr ha)) fun _ _=>rfl,fun r hr=>R.fr r (h.mem_iff.mpr hr),R.kp,R.lv⟩
theorem Rep.tail (R:Rep F (r :: P) H):Rep F P H:=by
  have hs:∀ a∈cF P,a∈cF (r :: P):=fun a ha=>by rw [ci_]; exact aJ _ ha
  refine ⟨?_,fun x hx=>(R.ok x (aC _ hx)).mono (.of (oJ hs)) fun _ _=>rfl,fun x hx=>R.fr x (aC _ hx),R.kp,R.lv⟩
  have:=R.nd
  rw [ci_] at this
  exact (gG.mp this).2.1
theorem dx_ (h:r∈P) (e:a∈jC r):a∈cF P:=List.mem_flatMap.mpr ⟨r,h,e⟩
theorem aTm {α:Type} {x:α} {l:List α} (h:l=[x]):x∈l:=by rw [h]; exact aO.mpr rfl
theorem eq1 {α:Type} {x y:α} {l:List α} (h:l=[x]) (hy:y∈l):y=x:=by rw [h] at hy; exact aO.mp hy
theorem Rep.own_in (R:Rep F P H) (h:a∈cF P):∃ o,H a=some o:=by
  obtain ⟨⟨sl,v⟩,hr,e⟩:=List.mem_flatMap.mp h
  have t:=R.ok (sl,v) hr
  cases sl with
  | v s =>
    cases s with
    | tr d=>exact absurd (show a∈([]:List Addr) from e) aV
    | ol l =>
      obtain ⟨c,vs,h1,h2,_⟩:=t
      cases h1
      rw [aO.mp (show a∈[c] from e)]
      exact ⟨_,h2⟩
    | od l =>
      obtain ⟨c,vs,h1,h2,_⟩:=t
      cases h1
      rw [aO.mp (show a∈[c] from e)]
      exact ⟨_,h2⟩
    | ow o =>
      obtain ⟨x,h1,h2⟩:=t
      obtain ⟨u,hu,_⟩:=OwOk.there o x h2 a e
      exact ⟨u,hu⟩
  | bw l =>
    obtain ⟨c,vs,h1,h2,_⟩:=t
    cases h1
    rw [aO.mp (show a∈[c] from e)]
    exact ⟨_,h2⟩
  | bo o =>
    obtain ⟨x,h1,h2⟩:=t
    obtain ⟨u,hu,_⟩:=OwOk.there o x h2 a e
    exact ⟨u,hu⟩
  | un=>exact absurd (show a∈([]:List Addr) from e) aV
  | pn _=>exact absurd (show a∈([]:List Addr) from e) aV
theorem Rep.not_own (R:Rep F P H) (hp:H p=none):p∉cF P:=fun z=>by
  obtain ⟨o,ho⟩:=R.own_in z
  rw [hp] at ho
  cases ho
theorem Rep.grow (R:Rep F P H) (e:Same H H'):Rep F P H':=by
  refine ⟨R.nd,fun r hr=>(R.ok r hr).mono (.of (pV (gk_ e))) fun a ha => ?_,R.fr,fun b o h1 h2=>e _ _ (R.kp b o h1 h2),fun b hb => ?_⟩
  · obtain ⟨o, ho⟩ := R.own_in (dx_ hr ha)
    rw [ho,e _ _ ho]
  · obtain ⟨o, ho⟩ := R.lv b hb
    exact ⟨o,e _ _ ho⟩
theorem Rep.cons0 (R:Rep F P H) (ho:jC r=[]) (h:RowOk (cF P) (F.vis H) H r):Rep F (r :: P) H:=by
  refine ⟨by rw [dh_ ho]; exact R.nd,fun x hx => ?_,fun x hx a ha => ?_,R.kp,R.lv⟩
  · rw [dh_ ho]
    rcases aF.mp hx with rfl | hx
    · exact h
    · exact R.ok x hx
  · rcases aF.mp hx with rfl | hx
    · rw [ho] at ha; cases ha
    · exact R.fr x hx a ha
theorem Rep.add (R:Rep F P H) (h:IsX (hid (cF P) (F.vis H)) d v):Rep F ((.v (.tr d),some v) :: P) H:=R.cons0 rfl ⟨v,rfl,h⟩
theorem Rep.addU (R:Rep F P H):Rep F ((.un,x) :: P) H:=R.cons0 rfl trivial
theorem Rep.head (R:Rep F ((.v s,x) :: P) H):∃ v,x=some v∧IsX (hid (cF P) (F.vis H)) s.d v:=by
  have h:=R.ok _ aB
  have hs:∀ a∈cF P,a∈cF ((.v s,x) :: P):=fun a ha=>by rw [ci_]; exact aJ _ ha
  have hn:=R.nd
  have hf:=R.fr _ aB
  match s,h with
  | .tr d,⟨v,h1,h2⟩=>exact ⟨v,h1,h2.to (oJ hs)⟩
  | .ol l, ⟨a, vs, h1, h2, h3⟩ =>
    subst h1
    have q:F.H0 a=none:=hf a (aO.mpr rfl)
    rw [mL (a:=a) rfl] at hn
    exact ⟨.ref a,rfl,IsX.of_lst (vs:=vs) (bS.mpr ⟨(dC.mp hn).1,(qL q).trans (by rw [h2]; rfl)⟩) (h3.imp fun _ _ z=>z.to (oJ hs))⟩
  | .od l, ⟨a, vs, h1, h2, h3⟩ =>
    subst h1
    have q:F.H0 a=none:=hf a (aO.mpr rfl)
    rw [mL (a:=a) rfl] at hn
    exact ⟨.ref a,rfl,IsX.of_dic (vs:=vs) (.inl (bS.mpr ⟨(dC.mp hn).1,(qL q).trans (by rw [h2]; rfl)⟩)) (h3.imp fun _ _ z=>z.to (oJ hs))⟩
  | .ow o, ⟨v, h1, h2⟩ =>
    refine ⟨v,h1,OwOk.tree (.of (oJ hs)) o v (fun b hb => ?_) h2⟩
    have q:F.H0 b=none:=hf b hb
    obtain ⟨u,hu,hn'⟩:=OwOk.there o v h2 b hb
    rw [ci_] at hn
    have hb2:b∉cF P:=fun z=>(gG.mp hn).2.2 b hb b z rfl
    rw [hu]
    refine bS.mpr ⟨hb2,(qL q).trans ?_⟩
    rw [hu]
    unfold nf
    split
    · rename_i e; cases e; exact absurd rfl (hn' _ _)
    · rfl
theorem Rep.frz (R:Rep F ((.v s,x) :: P) H):Rep F ((.v (.tr s.d),x) :: P) H:=by
  obtain ⟨v,rfl,h⟩:=R.head
  exact R.tail.add h
theorem vI {O:List Addr} {Hs H0:Hp} (hp:H p=none) {o:HO} (hq:H0 p=none):Same (hid O (ext Hs H0 H)) (hid (p :: O) (ext Hs H0 (upd H p o))):=fun b u hb=>by
  have hb':=bS.mp hb
  have hbp:b≠p:=fun z=>by have:=nY ((qL hq).symm.trans (z ▸ hb'.2)); rw [hp] at this; cases this
  refine bS.mpr ⟨fun z=>(aF.mp z).elim hbp hb'.1,?_⟩
  cases q:H0 b with
  | none=>exact (qL q).trans ((congrArg nf (fX hbp)).trans ((qL q).symm.trans hb'.2))
  | some w=>exact (qP q).trans ((qP q).symm.trans hb'.2)
theorem Rep.new_own (R:Rep F P H) (hp:H p=none) {o:HO} (hA:jC (.v s,some (.ref p))=[p]) (h:RowOk (p :: cF P) (F.vis (upd H p o)) (upd H p o) (.v s,some (.ref p))):Rep F ((.v s,some (.ref p)) :: P) (upd H p o):=by
  have hno:=R.not_own hp
  have hq:=R.fresh hp
  refine ⟨by rw [mL hA]; exact dC.mpr ⟨hno,R.nd⟩,fun r hr => ?_,fun r hr a ha => ?_,fun b o h1 h2 => ?_,fun b hb => ?_⟩
  · rw [mL hA]
    rcases aF.mp hr with rfl | hr
    · exact h
    · exact (R.ok r hr).mono (.of (vI hp hq)) fun a ha=>fX fun z=>hno (z ▸ dx_ hr ha)
  · rcases aF.mp hr with rfl | hr
    · cases eq1 hA ha; exact hq
    · exact R.fr r hr a ha
  · have := R.kp b o h1 h2
    rw [fX fun z=>by rw [z,hp] at this; cases this]
    exact this
  · obtain ⟨u, hu⟩ := R.lv b hb
    exact ⟨u,by rw [fX fun z=>by rw [z,hp] at hu; cases hu]; exact hu⟩
theorem Rep.newL (R:Rep F P H) (hp:H p=none) (h:All2 (IsX (hid (cF P) (F.vis H))) l vs):Rep F ((.v (.ol l),some (.ref p)) :: P) (upd H p (.lst vs)) :=
  R.new_own hp rfl ⟨p,vs,rfl,cJ,h.imp fun _ _ z=>z.to (vI hp (R.fresh hp))⟩
theorem Rep.newD (R:Rep F P H) (hp:H p=none) (h:All2 (KvX (hid (cF P) (F.vis H))) k ws):Rep F ((.v (.od k),some (.ref p)) :: P) (upd H p (.dK ws)) :=
  R.new_own hp rfl ⟨p,ws,rfl,cJ,h.imp fun _ _ z=>z.to (vI hp (R.fresh hp))⟩
theorem Rep.newT (R:Rep F P H) (hp:H p=none) (h:All2 (IsX (hid (cF P) (F.vis H))) l vs):Rep F ((.v (.tr (.tup l)),some (.ref p)) :: P) (upd H p (.tup vs)):=by
  have e:Same H (upd H p (.tup vs)):=dn_ hp _
  exact (R.grow e).add (IsX.of_tup (vs:=vs) (bS.mpr ⟨R.not_own hp,(qL (R.fresh hp)).trans (by rw [cJ]; rfl)⟩) (h.imp fun _ _ z=>z.to (pV (gk_ e))))
theorem vH {O:List Addr} {o:HO} {Hs H0:Hp}:Same (hid (a :: O) (ext Hs H0 H)) (hid (a :: O) (ext Hs H0 (upd H a o))):=fun b u hb=>by
  have hb':=bS.mp hb
  have hba:b≠a:=fun z=>hb'.1 (by rw [z]; exact aB)
  refine bS.mpr ⟨hb'.1,?_⟩
  cases q:H0 b with
  | none=>exact (qL q).trans ((congrArg nf (fX hba)).trans ((qL q).symm.trans hb'.2))
  | some w=>exact (qP q).trans ((qP q).symm.trans hb'.2)
theorem Rep.put {o:HO} (R:Rep F (r :: P) H) (hA:jC r=[a]) (hA':jC r'=[a]) (hF:FrOk F r a→FrOk F r' a) (h:RowOk (a :: cF P) (F.vis (upd H a o)) (upd H a o) r'):Rep F (r' :: P) (upd H a o):=by
  have hn:=R.nd
  rw [mL hA] at hn
  have hna:=(dC.mp hn).1
  have R1:=R.ok
  rw [mL hA] at R1
  have hfr:=R.fr r aB a (aTm hA)
  refine ⟨by rw [mL hA']; exact hn,fun x hx => ?_,fun x hx b hb => ?_,fun b u h1 h2 => ?_,fun b hb => ?_⟩
  · rw [mL hA']
    rcases aF.mp hx with rfl | hx
    · exact h
    · exact (R1 x (aC _ hx)).mono (.of vH) fun b hb=>fX fun z=>hna (z ▸ dx_ hx hb)
  · rcases aF.mp hx with rfl | hx
    · cases eq1 hA' hb; exact hF hfr
    · exact R.fr x (aC _ hx) b hb
  · have hb := R.kp b u h1 h2
    by_cases z:b=a
    · subst z
      rcases hfr.or with hfr | hfr
      · exact absurd hfr h2
      · rw [hfr] at h1; cases h1
    · rw [fX z]; exact hb
  · by_cases z : b = a
    · subst z; exact ⟨o,cJ⟩
    · rw [fX z]; exact R.lv b hb
theorem Rep.putD (R:Rep F ((.v (.od k),some (.ref a)) :: P) H) (h:All2 (KvX (hid (a :: cF P) (F.vis H))) k' ws'):Rep F ((.v (.od k'),some (.ref a)) :: P) (upd H a (.dK ws')) :=
  R.put (a:=a) rfl rfl id ⟨a,ws',rfl,cJ,h.imp fun _ _ z=>z.to vH⟩
theorem Rep.atL (R:Rep F ((.v (.ol l),x) :: P) H):∃ a vs,x=some (.ref a)∧H a=some (.lst vs)∧All2 (IsX (hid (a :: cF P) (F.vis H))) l vs:=by
  obtain ⟨a,vs,h1,h2,h3⟩:=R.ok _ aB
  subst h1
  exact ⟨a,vs,rfl,h2,by rw [← mL (a:=a) (r:=(.v (.ol l),some (.ref a))) rfl]; exact h3⟩
theorem Rep.atB (R:Rep F ((.bw l,x) :: P) H):∃ a vs,x=some (.ref a)∧H a=some (.lst vs)∧All2 (IsX (hid (a :: cF P) (F.vis H))) l vs:=by
  obtain ⟨a,vs,h1,h2,h3⟩:=R.ok _ aB
  subst h1
  exact ⟨a,vs,rfl,h2,by rw [← mL (a:=a) (r:=(.bw l,some (.ref a))) rfl]; exact h3⟩
theorem Rep.atD (R:Rep F ((.v (.od k),x) :: P) H):∃ a ws,x=some (.ref a)∧H a=some (.dK ws)∧All2 (KvX (hid (a :: cF P) (F.vis H))) k ws:=by
  obtain ⟨a,vs,h1,h2,h3⟩:=R.ok _ aB
  subst h1
  exact ⟨a,vs,rfl,h2,by rw [← mL (a:=a) (r:=(.v (.od k),some (.ref a))) rfl]; exact h3⟩
theorem Rep.atT (R:Rep F ((.v (.tr d),x) :: P) H):∃ v,x=some v∧IsX (hid (cF P) (F.vis H)) d v:=R.head
end
section
variable {ρ:List Sl} {σ:St} {i:Nat} {s s':Sl} {v v':Option V}
theorem aMv (h1:ρ[i]? = some s) (h2:σ[i]? = some v):(ρ.zip σ)[i]? = some (s,v):=(cT (z:=(s,v))).mpr ⟨h1,h2⟩
theorem aMh {α:Type}:∀ (l:List α) (i:Nat) (h:i < l.length),l.Perm (l[i] :: l.eraseIdx i)
  | x :: l,0,_=>.refl _
  | x :: l,i + 1,h=>((aMh l i (by simpa using h)).cons x).trans (.swap _ _ _)
theorem aEs {α:Type} {l:List α} {x:α} {i:Nat} (h:l[i]? = some x):l.Perm (x :: l.eraseIdx i):=by
  obtain ⟨hi,e⟩:=aK.mp h
  subst e
  exact aMh l i hi
theorem fk_ (h1:ρ[i]? = some s) (h2:σ[i]? = some v):(ρ.zip σ).Perm ((s,v) :: (ρ.zip σ).eraseIdx i):=aEs (aMv h1 h2)
theorem l_:∀ {ρ:List Sl} {σ:St} (i:Nat),(ρ.set i s).zip (σ.set i v)=(ρ.zip σ).set i (s,v)
  | [],_,_=>by simp
  | _ :: _,[],_=>by simp
  | a :: ρ,b :: σ,0=>rfl
  | a :: ρ,b :: σ,i + 1=>by simp only [bV,cG]; rw [l_ i]
theorem nJ (hl:ρ.length=σ.length) (h:i < ρ.length):((ρ.set i s).zip (σ.set i v)).Perm ((s,v) :: (ρ.zip σ).eraseIdx i):=by
  rw [l_]
  have hi:i < (ρ.zip σ).length:=by rw [cQ]; omega
  have:=aEs (l:=(ρ.zip σ).set i (s,v)) (x:=(s,v)) (i:=i) (by rw [eQ hi])
  rwa [List.eraseIdx_set_eq] at this
theorem aEe (h:σ[i]? = some v):σ.set i v=σ:=by
  obtain ⟨hi,e⟩:=aK.mp h
  subst e
  exact List.set_getElem_self hi
theorem dc_ (hl:ρ.length=σ.length) (h:i < ρ.length) (h2:σ[i]? = some v):((ρ.set i s).zip σ).Perm ((s,v) :: (ρ.zip σ).eraseIdx i):=by
  have:=nJ (s:=s) (v:=v) hl h
  rwa [aEe h2] at this
end
end Lf
namespace L2
open PySem
theorem PE.weak {X:Cx} {e:Expr} {t u:TE} (h:PE X e t) (w:∀ σ H Q,u σ H Q→t σ H Q):PE X e u:=fun pins s σ H Q I q=>h pins s σ H Q I (w σ H Q q)
theorem PT.weak {X:Cx} {e:Expr} {t u:TT} (h:PT X e t) (w:∀ σ H Q,u σ H Q→t σ H Q):PT X e u:=fun pins s σ H Q I q=>h pins s σ H Q I (w σ H Q q)
theorem PW.weak {X:Cx} {e:Expr} {t u:TT} (h:PW X e t) (w:∀ σ H Q,u σ H Q→t σ H Q):PW X e u:=fun wh pins s σ H Q I q=>h wh pins s σ H Q I (w σ H Q q)
theorem PA.weak {X:Cx} {e:List Expr} {t u:TA} (h:PA X e t) (w:∀ σ H Q,u σ H Q→t σ H Q):PA X e u:=fun pos pins s σ H Q I q=>h pos pins s σ H Q I (w σ H Q q)
theorem PE.or {X:Cx} {e:Expr} {t u:TE} (h:PE X e t) (h':PE X e u):PE X e (fun σ H Q=>t σ H Q∨u σ H Q):=fun pins s σ H Q I q=>q.elim (h pins s σ H Q I) (h' pins s σ H Q I)
end L2
namespace Lf
open PySem L2
abbrev En:=List Sl
abbrev XT:=En→(Sv→En→Prop)→Prop
abbrev XC:=En→(Bool→En→Prop)→Prop
abbrev XA:=En→(List Sv→En→Prop)→Prop
structure EOk (F:Fm) (ρ:En) (σ:St) (fr:List Rw) (H:Hp):Prop where
  len:ρ.length=σ.length
  rep:Rep F (ρ.zip σ ++ fr) H
def tX (F:Fm) (t:XT):TE:=fun σ H Q => ∃ ρ fr Qx,EOk F ρ σ fr H∧t ρ Qx∧∀ v s H' ρ',EOk F ρ' σ ((.v s,some v) :: fr) H'→Qx s ρ'→Q v H'
def tXc (F:Fm) (t:XC):TT:=fun σ H Q => ∃ ρ fr Qx,EOk F ρ σ fr H∧t ρ Qx∧∀ b H' ρ',EOk F ρ' σ fr H'→Qx b ρ'→Q b H'
def aDx (ss:List Sv) (vs:List V):List Rw:=(ss.zip vs).map fun p=>(.v p.1,some p.2)
def tXa (F:Fm) (t:XA):TA:=fun σ H Q => ∃ ρ fr Qx,EOk F ρ σ fr H∧t ρ Qx∧∀ vs ss H' ρ',ss.length=vs.length→EOk F ρ' σ (aDx ss vs ++ fr) H'→Qx ss ρ'→Q vs H'
abbrev ExT:=Value→Prop
abbrev cC:ExT:=fun _=>False
def aVm (F:Fm) (H:Hp):Prop := ∀ b o,F.H0 b=some o→b∉F.B→H b=some o
def Air (nw:Addr→Prop) (h':Heap) (H:Hp) (ea:Addr) (cls:Value):Prop:=nw ea∧H ea=none∧∃ oe vs,h'.get? ea=some oe∧oe.cls=cls∧oe.data=.fields vs∧oe.dict=none∧1 < vs.size ∧
  (vs[1]? = some .none∨∃ T oT ts,vs[1]? = some (.ref T)∧T≠ea∧nw T∧H T=none∧h'.get? T=some oT∧oT.data=.fields ts∧ts[3]? = some .none)
def CXe (P:Program) (w:World):CXT:=fun outer H s E e s' => ∃ (ea:Addr) (cls:Value) (H':Hp),e=.ref ea∧s'.os=s.os∧PyProof.Rows.AllBare s'.gens∧Un (frs outer) [] H H' s.heap s'.heap∧HOk P w H' s'.heap∧Air (fun b=>s.heap.get? b=none) s'.heap H' ea cls∧E cls none H'
class OkF (X:Cx) (Ex:ExT) (F:Fm):Prop where
  pass:∀ (pins:gC) (σ:St) (H:Hp) (s:Shared) (e:Value) (s':Shared),Inv X pins σ H s→CXe X.prog X.w X.stack H s (fun c _ H'=>Ex c∧aVm F H') e s'→X.xe e s'
instance {X:Cx} {F:Fm}:OkF X cC F:=⟨fun _ _ _ _ _ _ _ h=>(by obtain ⟨_,_,_,_,_,_,_,_,_,h,_⟩:=h; exact h.elim)⟩
def XE (X:Cx) (Ex:ExT) (e:Expr) (t:XT):Prop := ∀ F,[OkF X Ex F]→PE X e (tX F t)
def XTe (X:Cx) (Ex:ExT) (e:Expr) (t:XC):Prop := ∀ F,[OkF X Ex F]→PT X e (tXc F t)
def XW (X:Cx) (Ex:ExT) (e:Expr) (t:XC):Prop := ∀ F,[OkF X Ex F]→PW X e (tXc F t)
def XAs (X:Cx) (Ex:ExT) (es:List Expr) (t:XA):Prop := ∀ F,[OkF X Ex F]→PA X es (tXa F t)
section
variable {F:Fm} {ρ ρ':En} {σ:St} {fr P:List Rw} {H H':Hp} {s:Sv} {v x y:V} {a b:Dx}
theorem EOk.grow (E:EOk F ρ σ fr H) (e:Same H H'):EOk F ρ σ fr H':=⟨E.len,E.rep.grow e⟩
theorem mX {α:Type} {x:α} {A B:List α}:(A ++ x :: B).Perm (x :: (A ++ B)):=List.perm_middle
theorem EOk.front {r:Rw} (E:EOk F ρ σ (r :: fr) H):Rep F (r :: (ρ.zip σ ++ fr)) H:=E.rep.perm mX
theorem EOk.back {r:Rw} (hl:ρ.length=σ.length) (R:Rep F (r :: (ρ.zip σ ++ fr)) H):EOk F ρ σ (r :: fr) H:=⟨hl,R.perm mX.symm⟩
theorem EOk.drop {r:Rw} (E:EOk F ρ σ (r :: fr) H):EOk F ρ σ fr H:=⟨E.len,E.front.tail⟩
theorem EOk.one (E:EOk F ρ σ ((.v s,some v) :: fr) H):Rep F (ρ.zip σ ++ fr) H∧IsX (hid (cF (ρ.zip σ ++ fr)) (F.vis H)) s.d v:=by
  obtain ⟨v',e,h⟩:=E.front.head
  cases e
  exact ⟨E.front.tail,h⟩
theorem EOk.two {s1 s2:Sv} {v1 v2:V} (E:EOk F ρ σ ((.v s2,some v2) :: (.v s1,some v1) :: fr) H) :
    Rep F (ρ.zip σ ++ fr) H∧IsX (hid (cF (ρ.zip σ ++ fr)) (F.vis H)) s1.d v1∧IsX (hid (cF (ρ.zip σ ++ fr)) (F.vis H)) s2.d v2:=by
  obtain ⟨R1,h1⟩:=E.drop.one
  obtain ⟨R2,h2⟩:=E.one
  refine ⟨R1,h1,h2.to (oJ fun c hc => ?_)⟩
  have:(cF ((.v s1,some v1) :: (ρ.zip σ ++ fr))).Perm (cF (ρ.zip σ ++ (.v s1,some v1) :: fr)):=mX.symm.flatMap_right _
  refine this.mem_iff.mp ?_
  rw [ci_]
  exact aJ _ hc
end
def eE (i:Nat):XT:=fun ρ Q=>match ρ[i]? with
  | some (.v s)=>Q (.tr s.d) (ρ.set i (.v (.tr s.d)))
  | _=>False
def oQ (i:Nat):XT:=fun ρ Q=>match ρ[i]? with
  | some (.v s)=>Q s (ρ.set i .un)
  | _=>False
theorem aKu {ρ:En} {σ:St} {i:Nat} {s:Sl} (hl:ρ.length=σ.length) (h:ρ[i]? = some s):∃ v,σ[i]? = some v:=by
  have:=(aK.mp h).1
  exact ⟨_,aD (by omega)⟩
section
variable {X:Cx} {Ex:ExT} {i:Nat} {x:Str} {pos:Pos}
theorem de_ {F:Fm} {ρ:En} {σ:St} {fr:List Rw} {H:Hp} {s:Sl} (E:EOk F ρ σ fr H) (h:ρ[i]? = some s):∃ v,σ[i]? = some v∧i < ρ.length∧Rep F ((s,v) :: ((ρ.zip σ).eraseIdx i ++ fr)) H:=by
  obtain ⟨v,hv⟩:=aKu E.len h
  exact ⟨v,hv,(aK.mp h).1,E.rep.perm ((fk_ h hv).append_right fr)⟩
theorem oC {F:Fm} {ρ:En} {σ:St} {fr:List Rw} {H:Hp} {s:Sl} {v:Option V} (hl:ρ.length=σ.length) (hi:i < ρ.length) (hv:σ[i]? = some v) (R:Rep F ((s,v) :: ((ρ.zip σ).eraseIdx i ++ fr)) H):EOk F (ρ.set i s) σ fr H :=
  ⟨by rw [bF]; exact hl,R.perm ((dc_ hl hi hv).append_right fr).symm⟩
theorem aZ (h:PE X (.Name x pos) (kA i)):XE X Ex (.Name x pos) (eE i):=fun F=>h.weak fun σ H Q=>by
  rintro ⟨ρ,fr,Qx,E,t,k⟩
  unfold eE at t
  split at t
  · rename_i s hs
    obtain ⟨v,hv,hi,R⟩:=de_ E hs
    obtain ⟨w,rfl,hx⟩:=R.head
    refine ⟨w,hv,k w _ H _ ?_ t⟩
    have R2:=R.frz
    have R3:Rep F ((.v (.tr s.d),some w) :: (.v (.tr s.d),some w) :: ((ρ.zip σ).eraseIdx i ++ fr)) H:=R2.add hx
    exact EOk.back (by rw [bF]; exact E.len) (R3.perm (((dc_ E.len hi hv).append_right fr).symm.cons _))
  · exact t.elim
theorem di_ (h:PE X (.Name x pos) (kA i)):XE X Ex (.Name x pos) (oQ i):=fun F=>h.weak fun σ H Q=>by
  rintro ⟨ρ,fr,Qx,E,t,k⟩
  unfold oQ at t
  split at t
  · rename_i s hs
    obtain ⟨v,hv,hi,R⟩:=de_ E hs
    obtain ⟨w,rfl,hx⟩:=R.head
    refine ⟨w,hv,k w _ H _ ?_ t⟩
    have R3:Rep F ((.v s,some w) :: (.un,some w) :: ((ρ.zip σ).eraseIdx i ++ fr)) H:=(R.addU (x:=some w)).perm (.swap _ _ _)
    exact EOk.back (by rw [bF]; exact E.len) (R3.perm (((dc_ E.len hi hv).append_right fr).symm.cons _))
  · exact t.elim
end
def xC (d:Dx):XT:=fun ρ Q=>Q (.tr d) ρ
theorem aDn {X:Cx} {Ex:ExT} {e:Expr} {v:V} (h:PE X e (tC v)) (d:Dx) (hd:∀ H,IsX H d v):XE X Ex e (xC d):=fun F=>h.weak fun σ H Q=>by
  rintro ⟨ρ,fr,Qx,E,t,k⟩
  exact k v _ H ρ (EOk.back E.len (E.rep.add (hd _))) t
section
variable {X:Cx} {Ex:ExT}
theorem cO {i j pos}:XE X Ex (.Constant (.int i) j pos) (xC (.int i)):=aDn jE _ fun _=>IsX.of_int _
theorem x8 {b j pos}:XE X Ex (.Constant (.bool b) j pos) (xC (.bl b)):=aDn aTd _ fun _=>IsX.of_bl _
theorem zP {j pos}:XE X Ex (.Constant .none j pos) (xC .non):=aDn aOd _ fun _=>IsX.of_non
theorem kM {x j pos}:XE X Ex (.Constant (.str x) j pos) (xC (.str x)):=aDn he_ _ fun _=>IsX.of_str _
end
abbrev G2:=Dx→Dx→(Sv→Prop)→Prop
def OpX (r:R2) (g:G2):Prop := ∀ (F:Fm) (P:List Rw) (H:Hp) (a b:Dx) (x y:V) (Q:VK) (Qx:Sv→Prop),Rep F P H→IsX (hid (cF P) (F.vis H)) a x→IsX (hid (cF P) (F.vis H)) b y→g a b Qx →
  (∀ v s H',Rep F ((.v s,some v) :: P) H'→Qx s→Q v H')→r x y H Q
def xOp (g:G2) (ta tb:XT):XT:=fun ρ Q=>ta ρ fun a ρ1=>tb ρ1 fun b ρ2=>g a.d b.d fun s=>Q s ρ2
theorem mM {F:Fm} {r:R2} {g:G2} {ta tb:XT} (hx:OpX r g):∀ σ H Q,tX F (xOp g ta tb) σ H Q→tOp r (tX F ta) (tX F tb) σ H Q:=by
  rintro σ H Q ⟨ρ,fr,Qx,E,t,k⟩
  refine ⟨ρ,fr,_,E,t,fun v s H' ρ' E' t' => ?_⟩
  refine ⟨ρ',_,_,E',t',fun w s2 H2 ρ2 E2 t2 => ?_⟩
  obtain ⟨R,h1,h2⟩:=E2.two
  exact hx F _ H2 s.d s2.d v w Q (fun z=>Qx z ρ2) R h1 h2 t2 fun v' s' H' R' q=>k v' s' H' ρ2 (EOk.back E2.len R') q
def xB (t:XT):XC:=fun ρ Q=>t ρ fun s ρ'=>match s with
  | .tr (.bl b)=>Q b ρ'
  | _=>False
theorem nP {F:Fm} {t:TE} {u:XT} (h:∀ σ H Q,tX F u σ H Q→t σ H Q):∀ σ H Q,tXc F (xB u) σ H Q→aDz t σ H Q:=by
  rintro σ H Q ⟨ρ,fr,Qx,E,t,k⟩
  refine h _ _ _ ⟨ρ,fr,_,E,t,fun v s H' ρ' E' q => ?_⟩
  split at q
  · rename_i b
    obtain ⟨_,hx⟩:=E'.one
    cases hx.bl_eq
    exact ⟨b,rfl,k b H' ρ' E'.drop q⟩
  · exact q.elim
section
variable {X:Cx} {Ex:ExT} {a b c e:Expr} {pos:Pos} {r r':R2} {g g':G2} {ta tb tc:XT}
theorem rF {op:Operator} (ho:OpR X (binaryOp op) r) (hx:OpX r g) (ha:XE X Ex a ta) (hb:XE X Ex b tb):XE X Ex (.BinOp a op b pos) (xOp g ta tb):=fun F=>(mR ho (ha F) (hb F)).weak (mM hx)
theorem ew_ {op:CmpOp} (ho:OpR X (compareOp op) r) (hx:OpX r g) (ha:XE X Ex a ta) (hb:XE X Ex b tb) (hm:behindInMarks op b=false):XE X Ex (.Compare a [op] [b] pos) (xOp g ta tb):=fun F=>(aJe ho (ha F) (hb F) hm).weak (mM hx)
theorem jS {op:CmpOp} (ho:OpR X (compareOp op) r) (hx:OpX r g) (ha:XE X Ex a ta) (hb:XE X Ex b tb) (hm:behindInMarks op b=false):XTe X Ex (.Compare a [op] [b] pos) (xB (xOp g ta tb)):=fun F=>(gx_ ho (ha F) (hb F) hm).weak (nP (mM hx))
theorem qY {t:XT} (h:XE X Ex e t) (he:∀ whole,isTrue e X.env whole=(do let v ← whole; standAt e.pos; holding [v] (truthy v)):=by intro _; rfl):XTe X Ex e (xB t):=fun F=>(aNw (h F) he).weak (nP fun _ _ _ z=>z)
def aNf (t u:XC):XC:=fun ρ Q=>t ρ fun c ρ1=>if c=true then u ρ1 Q else Q false ρ1
def xOr (t u:XC):XC:=fun ρ Q=>t ρ fun c ρ1=>if c=true then Q true ρ1 else u ρ1 Q
def kS (t:XC):XC:=fun ρ Q=>t ρ fun c ρ1=>Q (!c) ρ1
theorem m5 {t:XC} (h:XTe X Ex a t):XW X Ex (.BoolOp .And [a] pos) t:=fun F=>q_ (h F)
theorem fa_ {t:XC} (h:XTe X Ex a t):XW X Ex (.BoolOp .Or [a] pos) t:=fun F=>aNv (h F)
theorem aDi {t u:XC} {rest:List Expr} (h:XTe X Ex a t) (h':XW X Ex (.BoolOp .And (b :: rest) pos) u):XW X Ex (.BoolOp .And (a :: b :: rest) pos) (aNf t u):=fun F=>(aEp (h F) (h' F)).weak fun σ H Q=>by
  rintro ⟨ρ,fr,Qx,E,t,k⟩
  refine ⟨ρ,fr,_,E,t,fun c H' ρ' E' q => ?_⟩
  cases c with
  | true=>exact ⟨ρ',fr,Qx,E',q,k⟩
  | false=>exact k false H' ρ' E' q
theorem ht_ {t u:XC} {rest:List Expr} (h:XTe X Ex a t) (h':XW X Ex (.BoolOp .Or (b :: rest) pos) u):XW X Ex (.BoolOp .Or (a :: b :: rest) pos) (xOr t u):=fun F=>(aTb (h F) (h' F)).weak fun σ H Q=>by
  rintro ⟨ρ,fr,Qx,E,t,k⟩
  refine ⟨ρ,fr,_,E,t,fun c H' ρ' E' q => ?_⟩
  cases c with
  | true=>exact k true H' ρ' E' q
  | false=>exact ⟨ρ',fr,Qx,E',q,k⟩
theorem wC {t:XC} (h:XTe X Ex a t):XTe X Ex (.UnaryOp .Not a pos) (kS t):=fun F=>(aNx (h F)).weak fun σ H Q=>by
  rintro ⟨ρ,fr,Qx,E,t,k⟩
  exact ⟨ρ,fr,_,E,t,fun c H' ρ' E' q=>k (!c) H' ρ' E' q⟩
theorem XW.pt {t:XC} (h:XW X Ex e t):XTe X Ex e t:=fun F=>(h F).pt
def wH (t u:XT):XT:=fun ρ Q=>xB t ρ fun c ρ1=>if c=true then u ρ1 Q else Q (.tr (.bl false)) ρ1
def aSh (t:XT):XT:=fun ρ Q=>xB t ρ fun c ρ1=>Q (.tr (.bl (!c))) ρ1
theorem fb_ {op} {t:XT} (h:XE X Ex a t):XE X Ex (.BoolOp op [a] pos) t:=fun F=>aOb (h F)
theorem ex_ {t u:XT} {rest:List Expr} (h:XE X Ex a t) (h':XE X Ex (.BoolOp .And (b :: rest) pos) u):XE X Ex (.BoolOp .And (a :: b :: rest) pos) (wH t u):=fun F=>(aOh (h F) (h' F)).weak fun σ H Q=>by
  rintro ⟨ρ,fr,Qx,E,t,k⟩
  refine ⟨ρ,fr,_,E,t,fun v s H' ρ' E' q => ?_⟩
  split at q
  · rename_i c
    obtain ⟨_,hx⟩:=E'.one
    cases hx.bl_eq
    refine ⟨c,rfl,?_⟩
    cases c with
    | true=>exact ⟨ρ',fr,Qx,E'.drop,q,k⟩
    | false=>exact k _ _ H' ρ' (EOk.back E'.len (E'.drop.rep.add (IsX.of_bl _))) q
  · exact q.elim
theorem zO {t:XT} (h:XE X Ex a t):XE X Ex (.UnaryOp .Not a pos) (aSh t):=fun F=>(aOc (h F)).weak fun σ H Q=>by
  rintro ⟨ρ,fr,Qx,E,t,k⟩
  refine ⟨ρ,fr,_,E,t,fun v s H' ρ' E' q => ?_⟩
  split at q
  · rename_i c
    obtain ⟨_,hx⟩:=E'.one
    cases hx.bl_eq
    exact ⟨c,rfl,k _ _ H' ρ' (EOk.back E'.len (E'.drop.rep.add (IsX.of_bl _))) q⟩
  · exact q.elim
end
def fA:XA:=fun ρ Q=>Q [] ρ
def cU (t:XT) (u:XA):XA:=fun ρ Q=>t ρ fun s ρ1=>u ρ1 fun ss ρ2=>Q (s :: ss) ρ2
section
variable {X:Cx} {Ex:ExT} {e:Expr} {es:List Expr} {t:XT} {u:XA} {pos:Pos}
theorem cD:XAs X Ex [] fA:=fun F=>(nF (X:=X)).weak fun σ H Q=>by
  rintro ⟨ρ,fr,Qx,E,t,k⟩
  exact k [] [] H ρ rfl E t
theorem bC (h:XE X Ex e t) (h':XAs X Ex es u) (he:starEach (e :: es) X.env=(false,eval e X.env) :: starEach es X.env:=by rfl):XAs X Ex (e :: es) (cU t u):=fun F=>(jG (h F) (h' F) he).weak fun σ H Q=>by
  rintro ⟨ρ,fr,Qx,E,t,k⟩
  refine ⟨ρ,fr,_,E,t,fun v s H' ρ' E' q=>⟨ρ',_,_,E',q,fun vs ss H2 ρ2 hl E2 q2 => ?_⟩⟩
  refine k (v :: vs) (s :: ss) H2 ρ2 (by rw [aL,aL,hl]) ⟨E2.len,E2.rep.perm ?_⟩ q2
  exact List.Perm.append_left _ List.perm_middle
theorem EOk.many {F:Fm} {ρ:En} {σ:St} {fr:List Rw} {H:Hp}:∀ {ss:List Sv} {vs:List V},ss.length=vs.length→EOk F ρ σ (aDx ss vs ++ fr) H→Rep F (ρ.zip σ ++ fr) H∧All2 (IsX (hid (cF (ρ.zip σ ++ fr)) (F.vis H))) (ss.map Sv.d) vs
  | [],[],_,E=>⟨E.rep,rfl⟩
  | [],_ :: _,h,_=>by simp at h
  | _ :: _,[],h,_=>by simp at h
  | s :: ss, v :: vs, h, E => by
    have E':EOk F ρ σ ((.v s,some v) :: (aDx ss vs ++ fr)) H:=E
    obtain ⟨R,hs⟩:=EOk.many (ss:=ss) (vs:=vs) (by simpa using h) E'.drop
    obtain ⟨_,hx⟩:=E'.one
    refine ⟨R,v,vs,rfl,hx.to (oJ fun c hc => ?_),hs⟩
    have:cF (ρ.zip σ ++ (aDx ss vs ++ fr))=cF (ρ.zip σ) ++ (cF (aDx ss vs) ++ cF fr):=by unfold cF; rw [iF,iF]
    rw [this]
    have h2:cF (ρ.zip σ ++ fr)=cF (ρ.zip σ) ++ cF fr:=by unfold cF; rw [iF]
    rw [h2] at hc
    rcases bZ.mp hc with hc | hc
    · exact bH _ hc
    · exact aJ _ (aJ _ hc)
def aAy (u:XA):XT:=fun ρ Q=>u ρ fun ss ρ'=>ss.length≤1000000∧Q (.tr (.tup (ss.map Sv.d))) ρ'
def wG (u:XA):XT:=fun ρ Q=>u ρ fun ss ρ'=>ss.length≤1000000∧Q (.ol (ss.map Sv.d)) ρ'
theorem jD:(1000000:Nat) < sizeLine:=by rw [sizeLine_eq]; decide
theorem mV {j:Nat} (h:XAs X Ex es u):XE X Ex (.Tuple es j pos) (aAy u):=fun F=>(c_ (h F)).weak fun σ H Q=>by
  rintro ⟨ρ,fr,Qx,E,t,k⟩
  refine ⟨ρ,fr,_,E,t,fun vs ss H2 ρ2 hl E2 q2=>⟨by have:=jD; omega,fun p hp => ?_⟩⟩
  obtain ⟨R,hs⟩:=E2.many hl
  exact k _ _ _ ρ2 (EOk.back E2.len (R.newT hp hs)) q2.2
theorem qG (h:XAs X Ex es u):XE X Ex (.List es pos) (wG u):=fun F=>(uM (h F)).weak fun σ H Q=>by
  rintro ⟨ρ,fr,Qx,E,t,k⟩
  refine ⟨ρ,fr,_,E,t,fun vs ss H2 ρ2 hl E2 q2=>⟨by have:=jD; omega,fun p hp => ?_⟩⟩
  obtain ⟨R,hs⟩:=E2.many hl
  exact k _ _ _ ρ2 (EOk.back E2.len (R.newL hp hs)) q2.2
end
def gI (f:Int→Int→Dx):G2
  | .int i,.int j,Q=>Q (.tr (f i j))
  | _,_,_=>False
def gIC (C:Int→Int→Prop) (f:Int→Int→Dx):G2
  | .int i,.int j,Q=>C i j∧Q (.tr (f i j))
  | _,_,_=>False
theorem wX {f:Int→Int→V} {fd:Int→Int→Dx} (h:∀ H i j,IsX H (fd i j) (f i j)):OpX (rI0 f) (gI fd):=by
  intro F P H a b x y Q Qx R ha hb g k
  unfold gI at g
  split at g
  · cases ha.int_eq; cases hb.int_eq
    exact ⟨_,_,rfl,rfl,k _ _ H (R.add (h _ _ _)) g⟩
  · exact g.elim
theorem d_ {C:Int→Int→Prop} {f:Int→Int→V} {fd:Int→Int→Dx} (h:∀ H i j,IsX H (fd i j) (f i j)):OpX (rI C f) (gIC C fd):=by
  intro F P H a b x y Q Qx R ha hb g k
  unfold gIC at g
  split at g
  · cases ha.int_eq; cases hb.int_eq
    exact ⟨_,_,rfl,rfl,g.1,k _ _ H (R.add (h _ _ _)) g.2⟩
  · exact g.elim
abbrev aXl:G2:=gI fun i j=>.int (i - j)
abbrev aUq:G2:=gIC aMu fun i j=>.int (i / j)
abbrev aXp:G2:=gIC (fun _ j=>0 < j) fun i j=>.int (i % j)
abbrev aXo:G2:=gIC aRm fun i j=>.int (i ^ j.toNat)
abbrev ltX:G2:=gI fun i j=>.bl (decide (i < j))
abbrev leX:G2:=gI fun i j=>.bl (decide (i≤j))
abbrev gtX:G2:=gI fun i j=>.bl (decide (j < i))
abbrev geX:G2:=gI fun i j=>.bl (decide (j≤i))
theorem oi {f:Int→Int→Int}:∀ H i j,IsX H (.int (f i j)) (.int (f i j)):=fun _ _ _=>IsX.of_int _
theorem ob {f:Int→Int→Bool}:∀ H i j,IsX H (.bl (f i j)) (.bl (f i j)):=fun _ _ _=>IsX.of_bl _
def nH:G2
  | .int i,.int j,Q=>Q (.tr (.int (i + j)))
  | .str i,.str j,Q=>i.length + j.length≤1000000∧Q (.tr (.str (i ++ j)))
  | .lst l,.lst m,Q=>l.length + m.length≤1000000∧Q (.ol (l ++ m))
  | _,_,_=>False
def aFw:G2
  | .int i,.int j,Q=>CMulB i j∧Q (.tr (.int (i * j)))
  | .lst l,.int j,Q=>(j≤1000000 ∧ -1000000≤j∧l.length * j.toNat≤1000000)∧Q (.ol (List.replicate j.toNat l).flatten)
  | .str z,.int j,Q=>(z.length≤1000∧0≤j∧j≤1000)∧Q (.tr (.str (Txt.mul z j)))
  | _,_,_=>False
section
variable {X:Cx} {Ex:ExT} {a b e:Expr} {pos:Pos} {ta tb:XT}
theorem jX (ha:XE X Ex a ta) (hb:XE X Ex b tb):XE X Ex (.BinOp a .Add b pos) (xOp nH ta tb):=rF (jO.or (jN.or aOn)) (by
  intro F P H a b x y Q Qx R ha hb g k
  unfold nH at g
  split at g
  · cases ha.int_eq; cases hb.int_eq
    exact .inl ⟨_,_,rfl,rfl,k _ _ H (R.add (IsX.of_int _)) g⟩
  · cases ha.str_eq; cases hb.str_eq
    exact .inr (.inl ⟨_,_,rfl,rfl,by have:=jD; omega,k _ _ H (R.add (IsX.of_str _)) g.2⟩)
  · obtain ⟨p, vs, rfl, h1, h2⟩ := ha.lst_eq
    obtain ⟨q,ws,rfl,h3,h4⟩:=hb.lst_eq
    refine .inr (.inr ⟨p,q,vs,ws,rfl,rfl,R.hv _ _ h1,R.hv _ _ h3,by rw [h2.len,h4.len]; have:=jD; omega,fun l hl=>k _ _ _ (R.newL hl (All2.app h4 h2)) g.2⟩)
  · exact g.elim) ha hb
theorem tD {α β:Type} {g:α→β→Prop} {l:List α} {m:List β} (h:All2 g l m):∀ n,All2 g (List.replicate n l).flatten (List.replicate n m).flatten
  | 0=>rfl
  | n + 1=>by rw [aX,aX,dE,dE]; exact All2.app (tD h n) h
theorem cw_ (ha:XE X Ex a ta) (hb:XE X Ex b tb):XE X Ex (.BinOp a .Mult b pos) (xOp aFw ta tb):=rF (jL.or (aOl.or pD)) (by
  intro F P H a b x y Q Qx R ha hb g k
  unfold aFw at g
  split at g
  · cases ha.int_eq; cases hb.int_eq
    exact .inl ⟨_,_,rfl,rfl,g.1,k _ _ H (R.add (IsX.of_int _)) g.2⟩
  · obtain ⟨p, vs, rfl, h1, h2⟩ := ha.lst_eq
    cases hb.int_eq
    obtain ⟨⟨g1,g2,g3⟩,g4⟩:=g
    refine .inr (.inl ⟨p,_,vs,rfl,rfl,R.hv _ _ h1,by omega,by omega,by rw [h2.len]; have:=jD; omega,fun l hl=>k _ _ _ (R.newL hl (tD h2 _)) g4⟩)
  · cases ha.str_eq; cases hb.int_eq
    exact .inr (.inr ⟨_,_,rfl,rfl,g.1.1,g.1.2.1,g.1.2.2,k _ _ H (R.add (IsX.of_str _)) g.2⟩)
  · exact g.elim) ha hb
theorem hd_ (ha:XE X Ex a ta) (hb:XE X Ex b tb):XE X Ex (.BinOp a .Sub b pos) (xOp aXl ta tb):=rF aOk (wX oi) ha hb
theorem nM (ha:XE X Ex a ta) (hb:XE X Ex b tb):XE X Ex (.BinOp a .FloorDiv b pos) (xOp aUq ta tb):=rF pE (d_ oi) ha hb
theorem hu_ (ha:XE X Ex a ta) (hb:XE X Ex b tb):XE X Ex (.BinOp a .Mod b pos) (xOp aXp ta tb):=rF mB (d_ oi) ha hb
theorem aDl (ha:XE X Ex a ta) (hb:XE X Ex b tb):XE X Ex (.BinOp a .Pow b pos) (xOp aXo ta tb):=rF aOm (d_ oi) ha hb
end
theorem rT:OpX (rI0 fun i j=>.bl (decide (i < j))) ltX:=wX ob
theorem aFd:OpX (rI0 fun i j=>.bl (decide (i≤j))) leX:=wX ob
theorem aTf:OpX (rI0 fun i j=>.bl (decide (j < i))) gtX:=wX ob
theorem aFe:OpX (rI0 fun i j=>.bl (decide (j≤i))) geX:=wX ob
def eqS:Dx→Dx→Option Bool
  | .int i,.int j=>some (decide (i=j))
  | .str i,.str j=>some (decide (i=j))
  | .bl i,.bl j=>some (decide (i=j))
  | .non,.non=>some true
  | .non,.int _=>some false | .int _,.non=>some false | .non,.bl _=>some false | .bl _,.non=>some false | .non,.str _=>some false | .str _,.non=>some false
  | .int _,.str _=>some false | .str _,.int _=>some false | .bl _,.str _=>some false | .str _,.bl _=>some false
  | .lst l,.lst []=>some l.isEmpty
  | _,_=>none
def eqX:G2:=fun a b Q=>match eqS a b with
  | some c=>Q (.tr (.bl c))
  | none=>False
def neX:G2:=fun a b Q=>match eqS a b with
  | some c=>Q (.tr (.bl (!c)))
  | none=>False
def scV:Dx→Option V
  | .int i=>some (.int i)
  | .str i=>some (.str i)
  | .bl i=>some (.bl i)
  | .non=>some .non
  | _=>none
theorem tY {H:Hp} {d:Dx} {x v:V} (h:IsX H d x) (e:scV d=some v):x=v:=by
  cases d <;> simp only [scV,Option.some.injEq] at e <;> first | (subst e; first | exact h.int_eq | exact h.str_eq | exact h.bl_eq | exact h.non_eq) | cases e
theorem yH {a b:Dx} {c:Bool} (h:eqS a b=some c):(∃ l,a=.lst l∧b=.lst []∧c=l.isEmpty)∨∃ x y,scV a=some x∧scV b=some y∧aNp x y=true∧decide (x=y)=c:=by
  unfold eqS at h
  split at h <;> (try simp only [Option.some.injEq] at h) <;> first
    | (subst h; exact .inr ⟨_,_,rfl,rfl,rfl,by simp⟩)
    | (subst h; exact .inl ⟨_,rfl,rfl,rfl⟩)
    | cases h
section
variable {K:dH}
def aIt (K:dH) (n:Bool):R2:=fun x y H Q => ∃ p b xs,x=.ref p∧y=.ref b∧SqL K H p xs∧SqL K H b []∧Q (.bl (if n then !xs.isEmpty else xs.isEmpty)) H
theorem mI:OpX (fun x y H Q=>rEq x y H Q∨aIt K false x y H Q) eqX:=by
  intro F P H a b x y Q Qx R ha hb g k
  unfold eqX at g
  split at g
  · rename_i c hc
    rcases yH hc with ⟨l,rfl,rfl,rfl⟩ | ⟨u,w,h1,h2,h3,h4⟩
    · obtain ⟨p, vs, rfl, q1, q2⟩ := ha.lst_eq
      obtain ⟨p',vs',rfl,q3,q4⟩:=hb.lst_eq
      cases (show vs'=[] from q4)
      refine .inr ⟨p,p',vs,rfl,rfl,SqL.of (R.hv _ _ q1),SqL.of (R.hv _ _ q3),k _ (.tr (.bl l.isEmpty)) H (R.add ?_) g⟩
      have:vs.isEmpty=l.isEmpty:=by
        have:=q2.len
        cases vs <;> cases l <;> simp at this ⊢
      simp only [IsX,this]; rfl
    · cases tY ha h1; cases tY hb h2
      exact .inl ⟨h3,k _ _ H (R.add (by rw [h4]; exact IsX.of_bl _)) g⟩
  · exact g.elim
theorem lA:OpX (fun x y H Q=>rNe x y H Q∨aIt K true x y H Q) neX:=by
  intro F P H a b x y Q Qx R ha hb g k
  unfold neX at g
  split at g
  · rename_i c hc
    rcases yH hc with ⟨l,rfl,rfl,rfl⟩ | ⟨u,w,h1,h2,h3,h4⟩
    · obtain ⟨p, vs, rfl, q1, q2⟩ := ha.lst_eq
      obtain ⟨p',vs',rfl,q3,q4⟩:=hb.lst_eq
      cases (show vs'=[] from q4)
      refine .inr ⟨p,p',vs,rfl,rfl,SqL.of (R.hv _ _ q1),SqL.of (R.hv _ _ q3),k _ (.tr (.bl (!l.isEmpty))) H (R.add ?_) g⟩
      have:vs.isEmpty=l.isEmpty:=by
        have:=q2.len
        cases vs <;> cases l <;> simp at this ⊢
      simp only [IsX,this]; rfl
    · cases tY ha h1; cases tY hb h2
      exact .inl ⟨h3,k _ _ H (R.add (by rw [h4]; exact IsX.of_bl _)) g⟩
  · exact g.elim
end
section
variable {X:Cx} {Ex:ExT} (K:dH) (h:X.K=K)
theorem mJ (hu:X.A.units < cLine) (h:X.K=K:=by rfl):OpR X (compareOp .Eq) (fun x y H Q=>rEq x y H Q∨aIt K false x y H Q):=by subst h; exact t_.or (aFm hu)
theorem ge_ (hu:X.A.units < cLine) (h:X.K=K:=by rfl):OpR X (compareOp .NotEq) (fun x y H Q=>rNe x y H Q∨aIt K true x y H Q):=by subst h; exact aTg.or (wY hu)
end
def aTr (neg:Bool):G2
  | .non,.non,Q=>Q (.tr (.bl !neg))
  | _,.non,Q=>Q (.tr (.bl neg))
  | _,_,_=>False
theorem aQd {H:Hp} {a:Dx} {x:V} (h:IsX H a x) (ha:a ≠ .non):¬ x=.non:=by
  intro z
  subst z
  cases a with
  | non=>exact ha rfl
  | bl _=>cases h.bl_eq
  | int _=>cases h.int_eq
  | str _=>cases h.str_eq
  | tup _=>obtain ⟨_,_,e,_⟩:=h.tup_eq; cases e
  | lst _=>obtain ⟨_,_,e,_⟩:=h.lst_eq; cases e
  | dic _=>obtain ⟨_,_,e,_⟩:=h.dic_eq; cases e
  | scr _ _=>obtain ⟨_,e,_⟩:=h.scr_eq; cases e
  | ins _ _=>obtain ⟨_,_,_,e,_⟩:=h.ins_eq; cases e
  | exc _=>obtain ⟨_,e,_⟩:=h.exc_eq; cases e
theorem aJg:OpX (fun x y H Q=>y=.non∧Q (.bl (!decide (x=.non))) H) (aTr true):=by
  intro F P H a b x y Q Qx R ha hb g k
  unfold aTr at g
  split at g
  · cases ha.non_eq; cases hb.non_eq
    exact ⟨rfl,k _ _ H (R.add (IsX.of_bl _)) g⟩
  · rename_i hna
    cases hb.non_eq
    exact ⟨rfl,k _ _ H (R.add (by rw [decide_eq_false (aQd ha fun z=>hna z)]; exact IsX.of_bl _)) g⟩
  · exact g.elim
def ixX:G2
  | .lst l,.int i,Q=>(match atI l i with | some d=>Q (.tr d) | none=>False)
  | .tup l,.int i,Q=>(match atI l i with | some d=>Q (.tr d) | none=>False)
  | .str z,.int i,Q=>z.length≤1000000∧(match atI z.cps.toList i with | some c=>Q (.tr (.str ⟨#[c]⟩)) | none=>False)
  | _,_,_=>False
theorem qO {α β:Type} {g:α→β→Prop} {l:List α} {m:List β} {i:Int} {d:α} (h:All2 g l m) (e:atI l i=some d):∃ v,atI m i=some v∧g d v:=by
  unfold atI at e ⊢
  rw [h.len]
  obtain ⟨j,h1,h2⟩:=gR.mp e
  obtain ⟨v,h3,h4⟩:=h.at h2
  exact ⟨v,gR.mpr ⟨j,h1,h3⟩,h4⟩
theorem aTe {K:dH}:OpX (fun x y H Q=>aEn K x y H Q∨aNt K x y H Q∨aTa x y H Q) ixX:=by
  intro F P H a b x y Q Qx R ha hb g k
  unfold ixX at g
  split at g
  · obtain ⟨p, vs, rfl, h1, h2⟩ := ha.lst_eq
    cases hb.int_eq
    split at g
    · rename_i d hd
      obtain ⟨v,h3,h4⟩:=qO h2 hd
      exact .inl ⟨p,vs,_,v,rfl,rfl,SqL.of (R.hv _ _ h1),h3,k _ _ H (R.add h4) g⟩
    · exact g.elim
  · obtain ⟨p, vs, rfl, h1, h2⟩ := ha.tup_eq
    cases hb.int_eq
    split at g
    · rename_i d hd
      obtain ⟨v,h3,h4⟩:=qO h2 hd
      exact .inr (.inl ⟨p,vs,_,v,rfl,rfl,SqT.of (R.hv _ _ h1),h3,k _ _ H (R.add h4) g⟩)
    · exact g.elim
  · cases ha.str_eq; cases hb.int_eq
    obtain ⟨g0,g⟩:=g
    split at g
    · rename_i c hc
      exact .inr (.inr ⟨_,_,c,rfl,rfl,by have:=jD; omega,hc,k _ _ H (R.add (IsX.of_str _)) g⟩)
    · exact g.elim
  · exact g.elim
theorem IxR.or {X:Cx} {r r':R2} (h:IxR X r) (h':IxR X r'):IxR X (fun x y H Q=>r x y H Q∨r' x y H Q):=fun a b pins s σ H x y v u Q I rx ry q hs=>q.elim (fun q=>h a b pins s σ H x y v u Q I rx ry q hs) fun q=>h' a b pins s σ H x y v u Q I rx ry q hs
theorem eK {X:Cx} {Ex:ExT} {a b:Expr} {pos:Pos} {ta tb:XT} (K:dH) (ha:XE X Ex a ta) (hb:XE X Ex b tb) (hs:oK b) (h:X.K=K:=by rfl):XE X Ex (.Subscript a b pos) (xOp ixX ta tb):=fun F =>
  (yE (IxR.or (xO K h) (IxR.or (aKi K h) pR)) (ha F) (hb F) hs).weak (mM aTe)
def iR (l:List (Key×Dx)) (k:Key):Option Dx:=(l.find? fun p=>decide (p.1=k)).map (·.2)
theorem pX {G:Hp} {k:Key}:∀ {l:List (Key×Dx)} {ws:List (Key×V)},All2 (KvX G) l ws→(iR l k=none∧kW ws k=none)∨∃ d v,iR l k=some d∧kW ws k=some v∧IsX G d v
  | [],_,h=>by rw [show _=[] from h]; exact .inl ⟨rfl,rfl⟩
  | p :: l, _, ⟨w, wr, e, ⟨h1, h2⟩, h3⟩ => by
    rw [e]
    by_cases hk:p.1=k
    · refine .inr ⟨p.2, w.2, ?_, hh_ (h1 ▸ hk), h2⟩
      unfold iR
      rw [fP,decide_eq_true hk]
      rfl
    · rw [hi_ (h1 ▸ hk)]
      have:iR (p :: l) k=iR l k:=by unfold iR; rw [fP,decide_eq_false hk]
      rw [this]
      exact pX h3
def vD:Dx→Option Key
  | .int i=>some (.inl i)
  | .str x=>some (.inr x)
  | _=>none
theorem vC {H:Hp} {d:Dx} {x:V} {k:Key} (h:IsX H d x) (e:vD d=some k):x=kV k:=by
  cases d <;> simp only [vD,Option.some.injEq] at e <;> first | (subst e; first | exact h.int_eq | exact h.str_eq) | cases e
def dgX:G2:=fun a b Q=>match a,vD b with
  | .dic l,some k=>(match iR l k with | some d=>Q (.tr d) | none=>False)
  | _,_=>False
def j4 (neg:Bool):G2:=fun a b Q=>match vD a,b with
  | some k,.dic l=>Q (.tr (.bl (if neg then !(iR l k).isSome else (iR l k).isSome)))
  | _,_=>False
theorem DGet.rd {H:Hp} {a:Addr} {kvs:List (Key×V)} {k:Key} (e:Rd H a (.dK kvs)):DGet H a (kV k) (kW kvs k):=.inl ⟨kvs,k,e,rfl,rfl⟩
theorem aEk {F:Fm} {P:List Rw} {H:Hp} (R:Rep F P H) {O:List Addr} {a:Addr} {u:HO} (h:Rd (hid O (F.vis H)) a u):Rd H a u:=by
  rcases h with h | ⟨o,h⟩
  · exact .inl (R.hv _ _ h)
  · exact .inr ⟨o,R.hv _ _ h⟩
theorem aJh:OpX (fun x y H Q => ∃ a v,x=.ref a∧DGet H a y (some v)∧Q v H) dgX:=by
  intro F P H a b x y Q Qx R ha hb g k
  unfold dgX at g
  split at g
  · rename_i l kk hk
    obtain ⟨p,ws,rfl,h1,h2⟩:=ha.dic_eq
    cases vC hb hk
    split at g
    · rename_i d hd
      rcases pX (k:=kk) h2 with ⟨z,_⟩ | ⟨d',v,z1,z2,z3⟩
      · rw [z] at hd; cases hd
      · rw [z1] at hd; cases hd
        exact ⟨p,v,rfl,by rw [← z2]; exact DGet.rd (aEk R h1),k _ _ H (R.add z3) g⟩
    · exact g.elim
  · exact g.elim
theorem aFf (neg:Bool):OpX (fun y x H Q => ∃ a o,x=.ref a∧DGet H a y o∧Q (.bl (if neg then !o.isSome else o.isSome)) H) (j4 neg):=by
  intro F P H a b x y Q Qx R ha hb g k
  unfold j4 at g
  split at g
  · rename_i kk l hk
    obtain ⟨p,ws,rfl,h1,h2⟩:=hb.dic_eq
    cases vC ha hk
    refine ⟨p,_,rfl,DGet.rd (k:=kk) (aEk R h1),k _ _ H (R.add ?_) g⟩
    rcases pX (k:=kk) h2 with ⟨z1,z2⟩ | ⟨d',v,z1,z2,z3⟩
    · rw [z1,z2]; simp only [IsX]; rfl
    · rw [z1,z2]; simp only [IsX]; rfl
  · exact g.elim
section
variable {X:Cx} {Ex:ExT} {a b o i:Expr} {pos:Pos} {ta tb:XT}
theorem nN (hu:X.A.units + 1 < cLine) (ha:XE X Ex o ta) (hb:XE X Ex i tb) (hs:aRj i):XE X Ex (.Subscript o i pos) (xOp dgX ta tb):=fun F=>(aJd hu (ha F) (hb F) hs).weak fun σ H Q h=>mM aJh σ H Q h
theorem aNb (hu:X.A.units + 1 < cLine) (ha:XE X Ex i ta) (hb:XE X Ex o tb) (hm:behindInMarks .In o=false):XE X Ex (.Compare i [.In] [o] pos) (xOp (j4 false) ta tb):=fun F=>(aOf (aOi hu (ha F) (hb F)) hm).weak fun σ H Q h=>mM (aFf false) σ H Q h
theorem aAv (hu:X.A.units + 1 < cLine) (ha:XE X Ex i ta) (hb:XE X Ex o tb) (hm:behindInMarks .NotIn o=false):XTe X Ex (.Compare i [.NotIn] [o] pos) (xB (xOp (j4 true) ta tb)):=fun F=>(aNy (aBl hu (ha F) (hb F)) hm).weak (nP (t:=o4 (tX F ta) (tX F tb)) fun σ H Q h=>mM (aFf true) σ H Q h)
def aSj:XT:=fun ρ Q=>Q (.od []) ρ
theorem tJ:XE X Ex (.Dict [] [] pos) aSj:=fun F=>(aEz (X:=X)).weak fun σ H Q=>by
  rintro ⟨ρ,fr,Qx,E,t,k⟩
  exact fun p hp=>k _ _ _ ρ (EOk.back E.len (E.rep.newD hp All2.nil)) t
end
abbrev GC:=List Dx→(Sv→Prop)→Prop
def kR (r:List V→Hp→VK→Prop) (g:GC):Prop := ∀ (F:Fm) (P:List Rw) (H:Hp) (ds:List Dx) (xs:List V) (Q:VK) (Qx:Sv→Prop),Rep F P H→All2 (IsX (hid (cF P) (F.vis H))) ds xs→g ds Qx →
  (∀ v s H',Rep F ((.v s,some v) :: P) H'→Qx s→Q v H')→r xs H Q
def fG (g:GC) (u:XA):XT:=fun ρ Q=>u ρ fun ss ρ'=>g (ss.map Sv.d) fun s=>Q s ρ'
theorem aMa {F:Fm} {r:List V→Hp→VK→Prop} {g:GC} {u:XA} (hx:kR r g):∀ σ H Q,tX F (fG g u) σ H Q→tCB r (tXa F u) σ H Q:=by
  rintro σ H Q ⟨ρ,fr,Qx,E,t,k⟩
  refine ⟨ρ,fr,_,E,t,fun vs ss H2 ρ2 hl E2 q2 => ?_⟩
  obtain ⟨R,hs⟩:=E2.many hl
  exact hx F _ H2 _ vs Q (fun s=>Qx s ρ2) R hs q2 fun v s H' R' q=>k v s H' ρ2 (EOk.back E2.len R') q
section
variable {X:Cx} {Ex:ExT} {e:Expr} {es:List Expr} {x:Str} {p pos:Pos} {r:List V→Hp→VK→Prop} {g:GC} {u:XA} {id T:String}
theorem mK (hc:CallR X (.builtin id) r) (hx:kR r g) (hg:Gl X x) (hm:X.mg x=none) (hv:bootBuiltins x=some (.builtin id)) (ha:XAs X Ex (e :: es) u) (hn:x ≠ "__name__" := by decide) (hdb:(x == ("__debug__" : Str))=false:=by decide)
    (he:starEach (e :: es) X.env=(false,eval e X.env) :: starEach es X.env:=by rfl) (hpl:(backTo pos (starEach es X.env)).any (·.1)=false:=by rfl):XE X Ex (.Call (.Name x p) (e :: es) [] pos) (fG g u):=fun F=>(hm_ hc hg hm hv (ha F) hn hdb he hpl).weak (aMa hx)
theorem aAx (hc:CallR X (.type T) r) (hx:kR r g) (hg:Gl X x) (hm:X.mg x=none) (hv:bootBuiltins x=some (.type T)) (ha:XAs X Ex (e :: es) u) (hn:x ≠ "__name__" := by decide) (hdb:(x == ("__debug__" : Str))=false:=by decide)
    (he:starEach (e :: es) X.env=(false,eval e X.env) :: starEach es X.env:=by rfl) (hpl:(backTo pos (starEach es X.env)).any (·.1)=false:=by rfl):XE X Ex (.Call (.Name x p) (e :: es) [] pos) (fG g u):=fun F=>(aBj hc hg hm hv (ha F) hn hdb he hpl).weak (aMa hx)
end
theorem i_ {α β:Type} {g:α→β→Prop} {a:α} {xs:List β} (h:All2 g [a] xs):∃ x,xs=[x]∧g a x:=by
  obtain ⟨x,xr,rfl,h1,h2⟩:=h
  cases (show xr=[] from h2)
  exact ⟨x,rfl,h1⟩
theorem k9 {α β:Type} {g:α→β→Prop} {a b:α} {xs:List β} (h:All2 g [a,b] xs):∃ x y,xs=[x,y]∧g a x∧g b y:=by
  obtain ⟨x,xr,rfl,h1,h2⟩:=h
  obtain ⟨y,rfl,h3⟩:=i_ h2
  exact ⟨x,y,rfl,h1,h3⟩
def mE:GC
  | [.lst l],Q=>Q (.tr (.int l.length))
  | [.tup l],Q=>Q (.tr (.int l.length))
  | [.str z],Q=>z.length≤1000000∧Q (.tr (.int z.length))
  | [.dic l],Q=>Q (.tr (.int l.length))
  | _,_=>False
abbrev aNs (K:dH):List V→Hp→VK→Prop:=fun xs H Q=>(∃ p ys,xs=[.ref p]∧(SqL K H p ys∨SqT K H p ys)∧Q (.int ys.length) H)∨(∃ z,xs=[.str z]∧z.length≤sizeLine∧Q (.int z.length) H)∨(∃ a kvs,xs=[V.ref a]∧Rd H a (.dK kvs)∧Q (.int kvs.length) H)
theorem wE {X:Cx} (K:dH) (h:X.K=K:=by rfl):CallR X (.builtin "len") (aNs K):=by
  subst h
  refine vU.or (lI.or ?_)
  intro pins s σ H xs us Q I r h
  obtain ⟨a,kvs,rfl,ha,q⟩:=h
  obtain ⟨u,rfl,ru⟩:=jZ r
  cases ru
  exact aVa I ha fun t s' I'=>⟨.int kvs.length,H,I',⟨t,rfl⟩,q⟩
theorem zJ {K:dH}:kR (aNs K) mE:=by
  intro F P H ds xs Q Qx R hs g k
  unfold mE at g
  split at g
  · obtain ⟨x, rfl, hx⟩ := i_ hs
    obtain ⟨a,vs,rfl,h1,h2⟩:=hx.lst_eq
    exact .inl ⟨a,vs,rfl,.inl (SqL.of (R.hv _ _ h1)),k _ _ H (R.add (by rw [h2.len]; exact IsX.of_int _)) g⟩
  · obtain ⟨x, rfl, hx⟩ := i_ hs
    obtain ⟨a,vs,rfl,h1,h2⟩:=hx.tup_eq
    exact .inl ⟨a,vs,rfl,.inr (SqT.of (R.hv _ _ h1)),k _ _ H (R.add (by rw [h2.len]; exact IsX.of_int _)) g⟩
  · obtain ⟨x, rfl, hx⟩ := i_ hs
    cases hx.str_eq
    exact .inr (.inl ⟨_,rfl,by have:=jD; omega,k _ _ H (R.add (IsX.of_int _)) g.2⟩)
  · obtain ⟨x, rfl, hx⟩ := i_ hs
    obtain ⟨a,vs,rfl,h1,h2⟩:=hx.dic_eq
    exact .inr (.inr ⟨a,vs,rfl,aEk R h1,k _ _ H (R.add (by rw [h2.len]; exact IsX.of_int _)) g⟩)
  · exact g.elim
def aQe:GC
  | [.int i],Q=>Q (.tr (.int i))
  | [.bl b],Q=>Q (.tr (.int (if b then 1 else 0)))
  | _,_=>False
theorem aQv:kR (fun xs H Q=>(∃ i,xs=[.int i]∧Q (.int i) H)∨∃ k,xs=[.bl k]∧Q (.int (if k then 1 else 0)) H) aQe:=by
  intro F P H ds xs Q Qx R hs g k
  unfold aQe at g
  split at g
  · obtain ⟨x, rfl, hx⟩ := i_ hs
    cases hx.int_eq
    exact .inl ⟨_,rfl,k _ _ H (R.add (IsX.of_int _)) g⟩
  · obtain ⟨x, rfl, hx⟩ := i_ hs
    cases hx.bl_eq
    exact .inr ⟨_,rfl,k _ _ H (R.add (IsX.of_int _)) g⟩
  · exact g.elim
inductive Ty where
  | bool | int | str | tuple | list | dict
def Ty.nm:Ty→String
  | .bool => "bool" | .int => "int" | .str => "str" | .tuple => "tuple" | .list => "list" | .dict => "dict"
def tyN:Dx→String
  | .non => "NoneType" | .bl _ => "bool" | .int _ => "int" | .str _ => "str" | .tup _ => "tuple" | .lst _ => "list" | .dic _ => "dict" | .scr _ _ => "list" | .ins _ _ => "object" | .exc _ => "object"
def isT:Ty→Dx→Bool
  | .bool,.bl _=>true
  | .int,.int _=>true
  | .int,.bl _=>true
  | .str,.str _=>true
  | .tuple,.tup _=>true
  | .list,.lst _=>true
  | .dict,.dic _=>true
  | .list,.scr _ _=>true
  | _,_=>false
def sA:Dx→Prop
  | .scr _ _=>False
  | .ins _ _=>False
  | .exc _=>False
  | _=>True
theorem vB {K:dH} {d:Dx} {n:Ty} (hd:sA d):PySem.W.kitOne K (.type (tyN d)) (.type n.nm)=some (isT n d):=by
  have h:∀ T∈["NoneType", "bool", "int", "str", "tuple", "list", "dict"],∀ n:Ty,PySem.W.kitOne K (.type T) (.type n.nm)=some (T == n.nm || (n.nm == "int" && T == "bool")):=by
    intro T hT n
    simp only [aF,aV,or_false] at hT
    rcases hT with rfl | rfl | rfl | rfl | rfl | rfl | rfl <;> cases n <;> first
      | exact aGg _
      | exact aPw (by decide +kernel) (by decide +kernel) (by decide +kernel)
  rw [h _ (by cases d <;> first | exact hd.elim | simp [tyN]) n]
  cases d <;> cases n <;> first | rfl | exact hd.elim
theorem aBy {X:Cx} {pins:gC} {σ:St} {H:Hp} {s:Shared} {A:Around} {E:gU} {Q:gU} {b:Bool} {c:Value} {d:Dx} {x:V} {u:Value} (I:Inv X pins σ H s) (rx:RelV x u) (hx:IsX H d x) (hd:sA d) (e:PySem.W.kitOne X.K (.type (tyN d)) c=some b) (h:∀ tk,Q (.bool b) { s with toks:=tk }) :
    wpAny (model X.prog X.w) A (call (.builtin "isinstance") [u,c]) Q E s:=by
  cases d with
  | non=>cases hx.non_eq; exact dz_ I rx .non e h
  | bl _=>cases hx.bl_eq; exact dz_ I rx (.bl _) e h
  | int _=>cases hx.int_eq; exact dz_ I rx (.int _) e h
  | str _=>cases hx.str_eq; exact dz_ I rx (.str _) e h
  | tup _=>obtain ⟨a,vs,rfl,h1,_⟩:=hx.tup_eq; exact dz_ I rx (.tup h1) e h
  | lst _=>obtain ⟨a,vs,rfl,h1,_⟩:=hx.lst_eq; exact dz_ I rx (.lst h1) e h
  | dic _ =>
    obtain ⟨a,vs,rfl,h1,_⟩:=hx.dic_eq
    rcases h1 with h1 | ⟨ob,h1⟩
    · exact dz_ I rx (.dK h1) e h
    · cases (show u = Value.ref a from rx)
      obtain ⟨_,_,_,_,_,p⟩:=(show ObjOk X.prog X.w H s.heap a (.frz ob (.dK vs)) from I.hok a _ h1)
      obtain ⟨o,es,ep,h1,h2,_⟩:=p
      exact PySem.W.kia_one PySem.W.kitx_dict I.kIn ⟨o,h1,h2.1⟩ e (fun z=>nomatch z) h
  | scr _ _=>exact hd.elim
  | ins _ _=>exact hd.elim
  | exc _=>exact hd.elim
theorem aHp {X:Cx} (n:Ty):CallR X (.builtin "isinstance") (fun xs H Q => ∃ x d,xs=[x,.ty n.nm]∧IsX H d x∧sA d∧Q (.bl (isT n d)) H):=by
  intro pins s σ H xs us Q I r h
  obtain ⟨x,d,rfl,hx,hd,q⟩:=h
  obtain ⟨u,w',rfl,r1,r2⟩:=wI r
  cases (show w'=Value.type n.nm from r2)
  exact aBy I r1 hx hd (vB hd) (fun tk=>⟨.bl _,H,I.tok _,rfl,q⟩)
def xIs (n:Ty) (t:XT):XT:=fun ρ Q=>t ρ fun s ρ'=>match s.d with
  | .scr _ _=>False
  | .ins _ _=>False
  | .exc _=>False
  | d=>Q (.tr (.bl (isT n d))) ρ'
theorem zC {X:Cx} {Ex:ExT} {e:Expr} {t:XT} {nm:Str} {p q pos:Pos} (n:Ty) (hm:X.mg "isinstance" = none) (h:XE X Ex e t) (hT:PE X (.Name nm q) (tC (.ty n.nm))) (hg:Gl X "isinstance" := by rfl)
    (he:starEach [e,.Name nm q] X.env=(false,eval e X.env) :: starEach [.Name nm q] X.env:=by rfl) (he2:starEach [.Name nm q] X.env=(false,eval (.Name nm q) X.env) :: starEach [] X.env:=by rfl) (hpl:(backTo pos (starEach [.Name nm q] X.env)).any (·.1)=false:=by rfl):XE X Ex (.Call (.Name "isinstance" p) [e,.Name nm q] [] pos) (xIs n t):=fun F =>
  (hm_ (aHp n) hg hm gp_ (jG (h F) (jG hT nF he2) he) (by decide) (by decide) he hpl).weak fun σ H Q=>by
    rintro ⟨ρ,fr,Qx,E,t,k⟩
    refine ⟨ρ,fr,_,E,t,fun v s H' ρ' E' q => ?_⟩
    obtain ⟨R,hx⟩:=E'.one
    generalize hd:s.d=d at q hx
    cases d with
    | scr _ _=>exact q.elim
    | ins _ _=>exact q.elim
    | exc _=>exact q.elim
    | _=>exact ⟨v,_,rfl,hx.to R.hv,trivial,k _ _ H' ρ' (EOk.back E'.len (R.add (IsX.of_bl _))) q⟩
def Cal (P:Program) (w:World) (K:dH) (mg:gO) (base:Heap) (j:Nat) (x:Str) (ps:List Str) (sp:Sp):Prop := ∃ f fd,FnOk P w K mg base CX0 j f fd ps sp∧Binds K fd ps []∧PySem.W.keepIn K (.ref f)=true∧mg x=some (.ref f)
theorem aFc {X:Cx} {j:Nat} {x:Str} {ps:List Str} {sp:Sp} {e:Expr} {es:List Expr} {t:TA} {p pos:Pos} (C:Cal X.prog X.w X.K X.mg X.base j x ps sp) (hr:Room j X.A) (ha:PA X (e :: es) t) (hg:Gl X x:=by rfl) (hdb:(x == ("__debug__" : Str))=false:=by decide)
    (he:starEach (e :: es) X.env=(false,eval e X.env) :: starEach es X.env:=by rfl) (hpl:(backTo pos (starEach es X.env)).any (·.1)=false:=by rfl):PE X (.Call (.Name x p) (e :: es) [] pos) (aLz sp [] E0 t):=by
  obtain ⟨f,fd,G,b,k,m⟩:=C
  exact ev_ G hr hg m k b .nil kZ ha hdb he hpl
def aAp (Hs H H':Hp):Sv→V→Prop
  | .tr d,v=>IsX (ext Hs H H') d v
  | .ol l,v => ∃ a vs,v=.ref a∧H a=none∧H' a=some (.lst vs)∧All2 (IsX (hid [a] (ext Hs H H'))) l vs
  | .od l,v => ∃ a ws,v=.ref a∧H a=none∧H' a=some (.dK ws)∧All2 (KvX (hid [a] (ext Hs H H'))) l ws
  | .ow o,v=>o.fp.Nodup∧(∀ a∈o.fp,H a=none)∧OwOk (hid o.fp (ext Hs H H')) H' o v
def spX (g:GC):Sp:=fun vs H Q _ => ∃ Hs ds Qx,Same Hs H∧All2 (IsX Hs) ds vs∧g ds Qx∧∀ s v H',Same H H'→aAp Hs H H' s v→Qx s→Q v H'
section
variable {F:Fm} {P:List Rw} {H H':Hp} {a:Addr} {s:Sv} {v:V}
theorem vO (R:Rep F P H) (e:Same H H'):Same (ext (hid (cF P) (F.vis H)) H H') (hid (cF P) (F.vis H')):=fun b o hb=>by
  cases q:H b with
  | none =>
    rw [qL q] at hb
    exact bS.mpr ⟨R.not_own q,(qL (R.fresh q)).trans hb⟩
  | some u =>
    rw [qP q] at hb
    exact pV (gk_ e) _ _ hb
theorem Rep.adopt (R:Rep F P H) (e:Same H H') (ha:H a=none) (hA:jC (.v s,some (.ref a))=[a]) (h:RowOk (a :: cF P) (F.vis H') H' (.v s,some (.ref a))):Rep F ((.v s,some (.ref a)) :: P) H':=by
  have hno:=R.not_own ha
  have hq:=R.fresh ha
  have R':=R.grow e
  refine ⟨by rw [mL hA]; exact dC.mpr ⟨hno,R.nd⟩,fun r hr => ?_,fun r hr b hb => ?_,R'.kp,R'.lv⟩
  · rw [mL hA]
    rcases aF.mp hr with rfl | hr
    · exact h
    · refine (R.ok r hr).mono (.of fun b o hb => ?_) fun b hb => ?_
      · have hb' := bS.mp hb
        have hba:b≠a:=fun z=>by have:=R.vis _ _ hb'.2; rw [z,ha] at this; cases this
        exact bS.mpr ⟨fun z=>(aF.mp z).elim hba hb'.1,gk_ e _ _ hb'.2⟩
      · obtain ⟨o, ho⟩ := R.own_in (dx_ hr hb)
        rw [ho,e _ _ ho]
  · rcases aF.mp hr with rfl | hr
    · cases eq1 hA hb; exact hq
    · exact R.fr r hr b hb
theorem Rep.adoptW {o:Ow} (R:Rep F P H) (e:Same H H') (hn:o.fp.Nodup) (ha:∀ a∈o.fp,H a=none) (h:OwOk (hid (o.fp ++ cF P) (F.vis H')) H' o v):Rep F ((.v (.ow o),some v) :: P) H':=by
  have R':=R.grow e
  have hO:cF ((.v (.ow o),some v) :: P)=o.fp ++ cF P:=ci_
  have hdis:∀ a∈o.fp,a∉cF P:=fun a h1=>R.not_own (ha a h1)
  refine ⟨?_,fun r hr => ?_,fun r hr b hb => ?_,R'.kp,R'.lv⟩
  · rw [hO]
    exact gG.mpr ⟨hn,R.nd,fun a h1 b h2 z=>hdis a h1 (z ▸ h2)⟩
  · rw [hO]
    rcases aF.mp hr with rfl | hr
    · exact ⟨v,rfl,h⟩
    · refine (R.ok r hr).mono (.of fun b u hb => ?_) fun b hb => ?_
      · have hb' := bS.mp hb
        refine bS.mpr ⟨fun z=>(bZ.mp z).elim (fun z => ?_) hb'.1,gk_ e _ _ hb'.2⟩
        have:=R.vis _ _ hb'.2; rw [ha b z] at this; cases this
      · obtain ⟨u, hu⟩ := R.own_in (dx_ hr hb)
        rw [hu,e _ _ hu]
  · rcases aF.mp hr with rfl | hr
    · exact R.fresh (ha b hb)
    · exact R.fr r hr b hb
theorem yF (R:Rep F P H) (e:Same H H') (ha:H a=none):Same (hid [a] (ext (hid (cF P) (F.vis H)) H H')) (hid (a :: cF P) (F.vis H')):=fun b o hb=>by
  have hb':=bS.mp hb
  have:=bS.mp (vO R e _ _ hb'.2)
  exact bS.mpr ⟨fun z=>(aF.mp z).elim (fun z=>hb'.1 (by rw [z]; exact aB)) this.1,this.2⟩
theorem Rep.res (R:Rep F P H) (e:Same H H') (h:aAp (hid (cF P) (F.vis H)) H H' s v):Rep F ((.v s,some v) :: P) H':=by
  match s,h with
  | .tr d,h=>exact (R.grow e).add (IsX.to h (vO R e))
  | .ol l, ⟨a, vs, h1, h2, h3, h4⟩ =>
    subst h1
    exact R.adopt e h2 rfl ⟨a,vs,rfl,h3,h4.imp fun _ _ z=>z.to (yF R e h2)⟩
  | .od l, ⟨a, vs, h1, h2, h3, h4⟩ =>
    subst h1
    exact R.adopt e h2 rfl ⟨a,vs,rfl,h3,h4.imp fun _ _ z=>z.to (yF R e h2)⟩
  | .ow o, ⟨h1, h2, h3⟩ =>
    refine R.adoptW e h1 h2 (OwOk.mono (.of fun b u hb => ?_) o v (fun _ _=>rfl) h3)
    have hb':=bS.mp hb
    have:=bS.mp (vO R e _ _ hb'.2)
    exact bS.mpr ⟨fun z=>(bZ.mp z).elim hb'.1 this.1,this.2⟩
end
theorem eU {X:Cx} {Ex:ExT} {j:Nat} {x:Str} {ps:List Str} {g:GC} {e:Expr} {es:List Expr} {u:XA} {p pos:Pos} (C:Cal X.prog X.w X.K X.mg X.base j x ps (spX g)) (hr:Room j X.A) (ha:XAs X Ex (e :: es) u) (hg:Gl X x:=by rfl) (hdb:(x == ("__debug__" : Str))=false:=by decide)
    (he:starEach (e :: es) X.env=(false,eval e X.env) :: starEach es X.env:=by rfl) (hpl:(backTo pos (starEach es X.env)).any (·.1)=false:=by rfl):XE X Ex (.Call (.Name x p) (e :: es) [] pos) (fG g u):=fun F=>(aFc C hr (ha F) hg hdb he hpl).weak fun σ H Q=>by
  rintro ⟨ρ,fr,Qx,E,t,k⟩
  refine ⟨ρ,fr,_,E,t,fun vs ss H2 ρ2 hl E2 q2 => ?_⟩
  obtain ⟨R,hs⟩:=E2.many hl
  rw [cR]
  exact ⟨_,_,_,R.hv,hs,q2,fun s v H' e hr q=>k v s H' ρ2 (EOk.back E2.len (R.res e hr)) q⟩
abbrev GB:=List Dx→List Dx→(Dx→List Dx→Prop)→Prop
def spB (g:GB):Sp:=fun vs H Q _ => ∃ p ws l vr Hs ds Qx,vs=.ref p :: vr∧H p=some (.lst ws)∧Same Hs H∧Hs p=none∧All2 (IsX Hs) l ws∧All2 (IsX Hs) ds vr∧g l ds Qx ∧
  ∀ d v l' ws' H',SameX p H H'→H' p=some (.lst ws')→All2 (IsX (hid [p] (ext Hs H H'))) l' ws'→IsX (ext Hs H H') d v→Qx d l'→Q v H'
def kU:Sl→Option (List Dx×(List Dx→Sl))
  | .bw l=>some (l,.bw)
  | .v (.ol l)=>some (l,fun l'=>.v (.ol l'))
  | _=>none
def iG (g:GB) (i:Nat) (u:XA):XT:=fun ρ Q=>((ρ[i]?).bind kU).isSome=true∧u ρ fun ss ρ'=>match (ρ'[i]?).bind kU with
  | some (l,f)=>g l (ss.map Sv.d) fun d l'=>Q (.tr d) (ρ'.set i (f l'))
  | none=>False
section
variable {F:Fm} {P:List Rw} {H H':Hp} {a p:Addr} {s:Sv} {v:V} {r r':Rw}
theorem Rep.called (R:Rep F (r :: P) H) (hA:jC r=[p]) (hA':jC r'=[p]) (hF:FrOk F r p→FrOk F r' p) (e:SameX p H H') (hp:∃ o,H' p=some o) (h:RowOk (p :: cF P) (F.vis H') H' r'):Rep F (r' :: P) H':=by
  have hn:=R.nd
  rw [mL hA] at hn
  have hna:=(dC.mp hn).1
  have R1:=R.ok
  rw [mL hA] at R1
  have hfr:=R.fr r aB p (aTm hA)
  have ev:Same (hid (p :: cF P) (F.vis H)) (hid (p :: cF P) (F.vis H')):=fun b o hb=>by
    have hb':=bS.mp hb
    have hbp:b≠p:=fun z=>hb'.1 (by rw [z]; exact aB)
    refine bS.mpr ⟨hb'.1,?_⟩
    cases q:F.H0 b with
    | none=>exact (qL q).trans (uY ((qL q).symm.trans hb'.2) fun o h=>e.get hbp h)
    | some u=>exact (qP q).trans ((qP q).symm.trans hb'.2)
  refine ⟨by rw [mL hA']; exact hn,fun x hx => ?_,fun x hx b hb => ?_,fun b u h1 h2 => ?_,fun b hb => ?_⟩
  · rw [mL hA']
    rcases aF.mp hx with rfl | hx
    · exact h
    · refine (R1 x (aC _ hx)).mono (.of ev) fun b hb => ?_
      have hbp:b≠p:=fun z=>hna (z ▸ dx_ hx hb)
      obtain ⟨o,ho⟩:=R.own_in (dx_ (aC _ hx) hb)
      rw [ho,e.get hbp ho]
  · rcases aF.mp hx with rfl | hx
    · cases eq1 hA' hb; exact hF hfr
    · exact R.fr x (aC _ hx) b hb
  · have hb := R.kp b u h1 h2
    by_cases z:b=p
    · subst z
      rcases hfr.or with hfr | hfr
      · exact absurd hfr h2
      · rw [hfr] at h1; cases h1
    · exact e.get z hb
  · by_cases z : b = p
    · subst z; exact hp
    · obtain ⟨o, ho⟩ := R.lv b hb
      exact ⟨o,e.get z ho⟩
theorem i9 (R:Rep F (r :: P) H) (hA:jC r=[p]) (e:SameX p H H'):Same (ext (hid (cF (r :: P)) (F.vis H)) H H') (hid (cF (r :: P)) (F.vis H')):=fun b o hb=>by
  have hpo:p∈cF (r :: P):=by rw [mL hA]; exact aB
  cases q:H b with
  | none =>
    rw [qL q] at hb
    exact bS.mpr ⟨R.not_own q,(qL (R.fresh q)).trans hb⟩
  | some u =>
    rw [qP q] at hb
    have hb':=bS.mp hb
    have hbp:b≠p:=fun z=>hb'.1 (by rw [z]; exact hpo)
    refine bS.mpr ⟨hb'.1,?_⟩
    cases q:F.H0 b with
    | none=>exact (qL q).trans (uY ((qL q).symm.trans hb'.2) fun o h=>e.get hbp h)
    | some u=>exact (qP q).trans ((qP q).symm.trans hb'.2)
end
theorem pN {sl:Sl} {x:Option V} {l:List Dx} {f:List Dx→Sl} {F:Fm} {P:List Rw} {H:Hp} (h:kU sl=some (l,f)) (R:Rep F ((sl,x) :: P) H):∃ p ws,x=some (.ref p)∧H p=some (.lst ws)∧jC (sl,some (.ref p))=[p]∧All2 (IsX (hid (p :: cF P) (F.vis H))) l ws ∧
    ∀ l',jC (f l',some (.ref p))=[p]∧(FrOk F (sl,some (.ref p)) p→FrOk F (f l',some (.ref p)) p)∧∀ {O:List Addr} {G H':Hp} {ws':List V},H' p=some (.lst ws')→All2 (IsX (hid O G)) l' ws'→RowOk O G H' (f l',some (.ref p)):=by
  match sl,h with
  | .bw l, h =>
    cases h
    obtain ⟨p,ws,h1,h2,h3⟩:=R.atB
    exact ⟨p,ws,h1,h2,rfl,h3,fun l'=>⟨rfl,id,fun a b=>⟨p,_,rfl,a,b⟩⟩⟩
  | .v (.ol l), h =>
    cases h
    obtain ⟨p,ws,h1,h2,h3⟩:=R.atL
    exact ⟨p,ws,h1,h2,rfl,h3,fun l'=>⟨rfl,id,fun a b=>⟨p,_,rfl,a,b⟩⟩⟩
theorem jY {X:Cx} {Ex:ExT} {j i:Nat} {x:Str} {ps:List Str} {g:GB} {e:Expr} {es:List Expr} {u:XA} {p pos:Pos} (C:Cal X.prog X.w X.K X.mg X.base j x ps (spB g)) (hr:Room j X.A) (hv:PE X e (kA i)) (ha:XAs X Ex es u) (hg:Gl X x:=by rfl) (hdb:(x == ("__debug__" : Str))=false:=by decide)
    (he:starEach (e :: es) X.env=(false,eval e X.env) :: starEach es X.env:=by rfl) (hpl:(backTo pos (starEach es X.env)).any (·.1)=false:=by rfl):XE X Ex (.Call (.Name x p) (e :: es) [] pos) (iG g i u):=fun F=>(aFc C hr (jG hv (ha F) he) hg hdb he hpl).weak fun σ H Q=>by
  rintro ⟨ρ,fr,Qx,E,⟨t0,t⟩,k⟩
  obtain ⟨⟨l0,f0⟩,h0⟩:=gJ.mp t0
  obtain ⟨sl0,h1,h2⟩:=gR.mp h0
  obtain ⟨v,hv,hi,R0⟩:=de_ E h1
  obtain ⟨p,_,rfl,_⟩:=pN h2 R0
  refine ⟨.ref p,hv,ρ,fr,_,E,t,fun vs ss H2 ρ2 hl E2 q2 => ?_⟩
  obtain ⟨R,hs⟩:=E2.many hl
  split at q2
  · rename_i l f hb
    obtain ⟨sl,h3,h4⟩:=gR.mp hb
    have E3:EOk F ρ2 σ fr H2:=⟨E2.len,R⟩
    obtain ⟨v',hv',hi',R2⟩:=de_ E3 h3
    rw [hv] at hv'
    cases hv'
    obtain ⟨p',ws,ep,h5,h6,h7,h8⟩:=pN h4 R2
    cases ep
    rw [cR]
    have hO:(cF (ρ2.zip σ ++ fr)).Perm (cF ((sl,some (V.ref p)) :: ((ρ2.zip σ).eraseIdx i ++ fr))):=((fk_ h3 hv).append_right fr).flatMap_right _
    have hOm:∀ a∈cF ((sl,some (V.ref p)) :: ((ρ2.zip σ).eraseIdx i ++ fr)),a∈cF (ρ2.zip σ ++ fr):=fun a ha=>hO.mem_iff.mpr ha
    refine ⟨p,ws,l,vs,hid (cF ((sl,some (V.ref p)) :: ((ρ2.zip σ).eraseIdx i ++ fr))) (F.vis H2),_,_,rfl,h5,R2.hv,?_,?_,hs.imp fun _ _ z=>z.to (oJ hOm),q2,fun d w l' ws' H' e hp hl' hd q => ?_⟩
    · unfold hid
      rw [if_pos (by rw [mL h6]; exact aB)]
    · rw [mL h6]
      exact h7
    · obtain ⟨k1, k2, k3⟩ := h8 l'
      have ev:=i9 R2 h6 e
      have R3:=R2.called h6 k1 k2 e ⟨_,hp⟩ (k3 hp (hl'.imp fun _ _ z=>z.to fun b o hb=>by
        have hb':=bS.mp hb
        have:=ev _ _ hb'.2
        rw [mL h6] at this
        exact this))
      refine k w (.tr d) H' _ (EOk.back (by rw [bF]; exact E2.len) ?_) q
      have R4:=R3.add (d:=d) (v:=w) (hd.to fun b o hb=>by
        have:=ev _ _ hb
        rw [mL h6] at this
        rw [mL k1]
        exact this)
      exact R4.perm (((dc_ E2.len hi' hv).append_right fr).symm.cons _)
  · exact q2.elim
end Lf
namespace L2
open PySem
theorem PI.weak {X:Cx} {tg e:Expr} {t u:TI} (h:PI X tg e t) (w:∀ σ H Q,u σ H Q→t σ H Q):PI X tg e u:=fun pins s σ H Q I q=>h pins s σ H Q I (w σ H Q q)
theorem PCs.weak {X:Cx} {e:List Expr} {t u:TT} (h:PCs X e t) (w:∀ σ H Q,u σ H Q→t σ H Q):PCs X e u:=fun pins s σ H Q I q=>h pins s σ H Q I (w σ H Q q)
end L2
namespace Lf
open PySem L2
abbrev XI:=En→(List Dx→En→Prop)→Prop
structure ItX (F:Fm) (J:It) (row:List Rw) (ds:List Dx):Prop where
  go:∀ P H i d,Rep F (row ++ P) H→ds[i]? = some d→J.go i H
  stop:∀ P H i,Rep F (row ++ P) H→ds.length≤i→J.stop i H
  yld:∀ P H i d x H',Rep F (row ++ P) H→ds[i]? = some d→J.yld i H x H'→Rep F ((.v (.tr d),some x) :: (row ++ P)) H'
def tXi (F:Fm) (t:XI):TI:=fun σ H R => ∃ ρ fr Qx,EOk F ρ σ fr H∧t ρ Qx∧∀ J H' ρ' row ds,EOk F ρ' σ (row ++ fr) H'→ItX F J row ds→Qx ds ρ'→R J H'
def XIt (X:Cx) (Ex:ExT) (tg iter:Expr) (t:XI):Prop := ∀ F,[OkF X Ex F]→PI X tg iter (tXi F t)
def xiL (t:XT):XI:=fun ρ Q=>t ρ fun s ρ'=>match s.d with
  | .lst l=>Q l ρ'
  | _=>False
def xiT (t:XT):XI:=fun ρ Q=>t ρ fun s ρ'=>match s.d with
  | .tup l=>Q l ρ'
  | _=>False
theorem aGk {F:Fm} {K:dH} {a:Addr} {l:List Dx}:ItX F (Itl K a) [(.v (.tr (.lst l)),some (.ref a))] l where
  go:=fun P H i d R hd=>by
    obtain ⟨v,e,h⟩:=R.atT; cases e
    obtain ⟨_,vs,e,h1,h2⟩:=h.lst_eq; cases e
    obtain ⟨x,h3,_⟩:=h2.at hd
    exact ⟨vs,x,SqL.of (R.hv _ _ h1),h3⟩
  stop:=fun P H i R hi=>by
    obtain ⟨v,e,h⟩:=R.atT; cases e
    obtain ⟨_,vs,e,h1,h2⟩:=h.lst_eq; cases e
    exact ⟨vs,SqL.of (R.hv _ _ h1),by rw [h2.len]; exact hi⟩
  yld:=fun P H i d x H' R hd q=>by
    obtain ⟨rfl,q⟩:=q
    obtain ⟨v,e,h⟩:=R.atT; cases e
    obtain ⟨_,vs,e,h1,h2⟩:=h.lst_eq; cases e
    obtain ⟨y,h3,h4⟩:=h2.at hd
    rw [q vs (SqL.of (R.hv _ _ h1))] at h3
    cases h3
    exact R.add h4
section
variable {X:Cx} {Ex:ExT} {tg l a b:Expr} {t:XT} {u:XA} {p pos:Pos}
theorem rA (h:XE X Ex l t):XIt X Ex tg l (xiL t):=fun F=>(aIy (h F)).weak fun σ H R=>by
  rintro ⟨ρ,fr,Qx,E,t,k⟩
  refine ⟨ρ,fr,_,E,t,fun v s H' ρ' E' q => ?_⟩
  split at q
  · rename_i m hm
    have R1:=E'.front.frz
    rw [hm] at R1
    obtain ⟨v',e,h⟩:=R1.atT; cases e
    obtain ⟨c,vs,rfl,h1,h2⟩:=h.lst_eq
    exact ⟨c,rfl,⟨vs,SqL.of (R1.hv _ _ h1)⟩,k _ H' ρ' [(.v (.tr (.lst m)),some (.ref c))] m (EOk.back E'.len R1) aGk q⟩
  · exact q.elim
def lW (lo:Int) (n:Nat):List Dx:=(List.range n).map fun k:Nat=>.int (lo + (k:Int))
theorem uA {lo:Int} {n i:Nat} {d:Dx} (h:(lW lo n)[i]? = some d):i < n∧d=.int (lo + i):=by
  unfold lW at h
  rw [cE] at h
  obtain ⟨k,h1,h2⟩:=eP.mp h
  obtain ⟨h3,h4⟩:=aK.mp h1
  rw [List.getElem_range] at h4
  rw [cB] at h3
  subst h4
  exact ⟨h3,h2.symm⟩
theorem aBx {F:Fm} {lo:Int} {n:Nat}:ItX F (Itr lo n) [] (lW lo n) where
  go:=fun P H i d R hd=>(uA hd).1
  stop:=fun P H i R hi=>by unfold lW at hi; rw [aE,cB] at hi; exact hi
  yld:=fun P H i d x H' R hd q=>by
    obtain ⟨rfl,rfl⟩:=q
    rw [(uA hd).2]
    exact R.add (IsX.of_int _)
def aAw (u:XA):XI:=fun ρ Q=>u ρ fun ss ρ'=>match ss.map Sv.d with
  | [.int j]=>(-(2 ^ 62)≤j∧j < 2 ^ 62)∧Q (lW 0 j.toNat) ρ'
  | _=>False
theorem cm_ (hm:X.mg "range" = none) (ha:XAs X Ex [a] u) (hg:Gl X "range" := by rfl) (hs:starEach [a] X.env=[(false,eval a X.env)]:=by rfl):XIt X Ex tg (.Call (.Name "range" p) [a] [] pos) (aAw u):=fun F=>(ig_ hg hm (ha F) hs).weak fun σ H R=>by
  rintro ⟨ρ,fr,Qx,E,t,k⟩
  refine ⟨ρ,fr,_,E,t,fun vs ss H2 ρ2 hl E2 q => ?_⟩
  obtain ⟨R,hs⟩:=E2.many hl
  split at q
  · rename_i j hj
    rw [hj] at hs
    obtain ⟨x,rfl,hx⟩:=i_ hs
    cases hx.int_eq
    exact ⟨j,rfl,q.1.1,q.1.2,k _ H2 ρ2 [] _ ⟨E2.len,R⟩ aBx q.2⟩
  · exact q.elim
def iC (l m:List Dx):List Dx:=List.zipWith (fun a b=>.tup [a,b]) l m
def xiZ (u:XA):XI:=fun ρ Q=>u ρ fun ss ρ'=>match ss.map Sv.d with
  | [.lst l,.lst m]=>Q (iC l m) ρ'
  | _=>False
def yJ (l:List Dx):List Dx:=iC (lW 0 l.length) l
def xiE (u:XA):XI:=fun ρ Q=>u ρ fun ss ρ'=>match ss.map Sv.d with
  | [.lst l]=>Q (yJ l) ρ'
  | _=>False
theorem gs_ {l m:List Dx} {i:Nat} {d:Dx} (h:(iC l m)[i]? = some d):∃ a b,l[i]? = some a∧m[i]? = some b∧d=.tup [a,b]:=by
  unfold iC at h
  rw [List.getElem?_zipWith] at h
  cases e1:l[i]? with
  | none=>rw [e1] at h; cases h
  | some a =>
    cases e2:m[i]? with
    | none=>rw [e1,e2] at h; cases h
    | some b=>rw [e1,e2] at h; exact ⟨a,b,rfl,rfl,(Option.some.inj h).symm⟩
theorem v7 {F:Fm} {K:dH} {a b:Addr} {l m:List Dx}:ItX F (Itz false false K a b) [(.v (.tr (.lst l)),some (.ref a)),(.v (.tr (.lst m)),some (.ref b))] (iC l m) where
  go:=fun P H i d R hd=>by
    obtain ⟨v,e,h⟩:=R.atT; cases e
    obtain ⟨_,vs,e,h1,h2⟩:=h.lst_eq; cases e
    obtain ⟨v,e,h'⟩:=R.tail.atT; cases e
    obtain ⟨_,ws,e,h3,h4⟩:=h'.lst_eq; cases e
    obtain ⟨c,c',e1,e2,_⟩:=gs_ hd
    obtain ⟨x,h5,_⟩:=h2.at e1
    obtain ⟨y,h6,_⟩:=h4.at e2
    exact ⟨vs,ws,x,y,SqL.of (R.hv _ _ h1),SqL.of (R.hv _ _ h3),h5,h6⟩
  stop:=fun P H i R hi=>by
    obtain ⟨v,e,h⟩:=R.atT; cases e
    obtain ⟨_,vs,e,h1,h2⟩:=h.lst_eq; cases e
    obtain ⟨v,e,h'⟩:=R.tail.atT; cases e
    obtain ⟨_,ws,e,h3,h4⟩:=h'.lst_eq; cases e
    refine ⟨vs,ws,SqL.of (R.hv _ _ h1),SqL.of (R.hv _ _ h3),?_⟩
    unfold iC at hi
    rw [List.length_zipWith] at hi
    rw [h2.len,h4.len]
    omega
  yld:=fun P H i d x H' R hd q=>by
    obtain ⟨p,x,y,rfl,hp,rfl,q⟩:=q
    obtain ⟨v,e,h⟩:=R.atT; cases e
    obtain ⟨_,vs,e,h1,h2⟩:=h.lst_eq; cases e
    obtain ⟨v,e,h'⟩:=R.tail.atT; cases e
    obtain ⟨_,ws,e,h3,h4⟩:=h'.lst_eq; cases e
    obtain ⟨c,c',e1,e2,rfl⟩:=gs_ hd
    obtain ⟨x',h5,h7⟩:=h2.at e1
    obtain ⟨y',h6,h8⟩:=h4.at e2
    obtain ⟨q1,q2⟩:=q vs ws (SqL.of (R.hv _ _ h1)) (SqL.of (R.hv _ _ h3))
    rw [q1] at h5; cases h5
    rw [q2] at h6; cases h6
    exact R.newT hp ⟨_,_,rfl,h7,_,_,rfl,h8,rfl⟩
theorem aGl {F:Fm} {K:dH} {a:Addr} {l:List Dx}:ItX F (Ite K a) [(.v (.tr (.lst l)),some (.ref a))] (yJ l) where
  go:=fun P H i d R hd=>by
    obtain ⟨v,e,h⟩:=R.atT; cases e
    obtain ⟨_,vs,e,h1,h2⟩:=h.lst_eq; cases e
    obtain ⟨c,c',e1,e2,_⟩:=gs_ hd
    obtain ⟨y,h6,_⟩:=h2.at e2
    exact ⟨vs,y,SqL.of (R.hv _ _ h1),h6⟩
  stop:=fun P H i R hi=>by
    obtain ⟨v,e,h⟩:=R.atT; cases e
    obtain ⟨_,vs,e,h1,h2⟩:=h.lst_eq; cases e
    refine ⟨vs,SqL.of (R.hv _ _ h1),?_⟩
    unfold yJ iC lW at hi
    rw [List.length_zipWith,aE,cB] at hi
    rw [h2.len]
    omega
  yld:=fun P H i d x H' R hd q=>by
    obtain ⟨p,x,rfl,hp,rfl,q⟩:=q
    obtain ⟨v,e,h⟩:=R.atT; cases e
    obtain ⟨_,vs,e,h1,h2⟩:=h.lst_eq; cases e
    obtain ⟨c,c',e1,e2,rfl⟩:=gs_ hd
    obtain ⟨y',h6,h8⟩:=h2.at e2
    rw [q vs (SqL.of (R.hv _ _ h1))] at h6; cases h6
    rw [(uA e1).2]
    exact R.newT hp ⟨_,_,rfl,by rw [show (0:Int) + (i:Int)=i from Int.zero_add _]; exact IsX.of_int _,_,_,rfl,h8,rfl⟩
theorem tG {es:List Expr} {kk:Nat} {tpos:Pos} (hm:X.mg "zip" = none) (ha:XAs X Ex [a,b] u) (hg:Gl X "zip" := by rfl) (hs:starEach [a,b] X.env=[(false,eval a X.env),(false,eval b X.env)]:=by rfl) (hs2:starEach [b] X.env=[(false,eval b X.env)]:=by rfl) :
    XIt X Ex (.Tuple es kk tpos) (.Call (.Name "zip" p) [a,b] [] pos) (xiZ u):=fun F=>(c8 (t1:=false) (t2:=false) hg hm (ha F) hs hs2).weak fun σ H R=>by
  rintro ⟨ρ,fr,Qx,E,t,k⟩
  refine ⟨ρ,fr,_,E,t,fun vs ss H2 ρ2 hl E2 q => ?_⟩
  obtain ⟨R,hs⟩:=E2.many hl
  split at q
  · rename_i l m hj
    rw [hj] at hs
    obtain ⟨x,y,rfl,hx,hy⟩:=k9 hs
    obtain ⟨c,cs,rfl,h1,_⟩:=hx.lst_eq
    obtain ⟨d,ds,rfl,h3,_⟩:=hy.lst_eq
    have R1:=(R.add hy).add (d:=.lst l) (v:=.ref c) hx
    exact ⟨c,d,rfl,⟨cs,SqL.of (R.hv _ _ h1)⟩,⟨ds,SqL.of (R.hv _ _ h3)⟩,k _ H2 ρ2 [(.v (.tr (.lst l)),some (.ref c)),(.v (.tr (.lst m)),some (.ref d))] _ ⟨E2.len,R1.perm ((mX.symm.cons _).trans mX.symm)⟩ v7 q⟩
  · exact q.elim
theorem tH {es:List Expr} {kk:Nat} {tpos:Pos} (hm:X.mg "enumerate" = none) (ha:XAs X Ex [a] u) (hg:Gl X "enumerate" := by rfl) (hs:starEach [a] X.env=[(false,eval a X.env)]:=by rfl) :
    XIt X Ex (.Tuple es kk tpos) (.Call (.Name "enumerate" p) [a] [] pos) (xiE u):=fun F=>(aIz hg hm (ha F) hs).weak fun σ H R=>by
  rintro ⟨ρ,fr,Qx,E,t,k⟩
  refine ⟨ρ,fr,_,E,t,fun vs ss H2 ρ2 hl E2 q => ?_⟩
  obtain ⟨R,hs⟩:=E2.many hl
  split at q
  · rename_i l hj
    rw [hj] at hs
    obtain ⟨x,rfl,hx⟩:=i_ hs
    obtain ⟨c,cs,rfl,h1,_⟩:=hx.lst_eq
    exact ⟨c,rfl,⟨cs,SqL.of (R.hv _ _ h1)⟩,k _ H2 ρ2 [(.v (.tr (.lst l)),some (.ref c))] _ (EOk.back E2.len (R.add hx)) aGl q⟩
  · exact q.elim
end
abbrev XG:=Dx→En→(En→Prop)→Prop
def GX (n:Nat) (g:TG) (gx:XG):Prop := ∀ (F:Fm) (ρ:En) (σ:St) (fr:List Rw) (H:Hp) (d:Dx) (x:V) (Q:St→Hp→Prop) (Qx:En→Prop),EOk F ρ σ ((.v (.tr d),some x) :: fr) H→gx d ρ Qx →
  (∀ σ' H' ρ',EOk F ρ' σ' fr H'→σ'.length=σ.length→(∀ i,n≤i→σ'[i]? = σ[i]?)→Qx ρ'→Q σ' H')→g x σ H Q
def gxN (i:Nat):XG:=fun d ρ Q=>Q (ρ.set i (.v (.tr d)))
theorem iv_ {F:Fm} {ρ:En} {σ:St} {fr:List Rw} {H:Hp} {s:Sv} {x:V} {i:Nat} (E:EOk F ρ σ ((.v s,some x) :: fr) H):EOk F (ρ.set i (.v s)) (σ.set i (some x)) fr H:=by
  by_cases hi:i < ρ.length
  · refine ⟨by rw [bF, bF]; exact E.len, ?_⟩
    have hz:=aEs (l:=ρ.zip σ) (i:=i) (aD (by rw [cQ]; have:=E.len; omega))
    have R:=E.front.perm ((hz.append_right fr).cons _)
    exact (R.perm (.swap _ _ _)).tail.perm ((nJ E.len hi).append_right fr).symm
  · rw [dL (by omega), dL (by have := E.len; omega)]
    exact E.drop
theorem kO {n i:Nat} (h:i < n):GX n (kG i) (gxN i):=fun F ρ σ fr H d x Q Qx E g k=>k _ H _ (iv_ E) (bF) (fun j hj=>dF (by omega)) g
@[reducible] def aKo:List Nat→TGs
  | []=>aGu
  | i :: is=>xV (kG i) (aKo is)
def gxs:List Nat→List Dx→En→(En→Prop)→Prop
  | [],[],ρ,Q=>Q ρ
  | i :: is,d :: ds,ρ,Q=>gxs is ds (ρ.set i (.v (.tr d))) Q
  | _,_,_,_=>False
def gxT (is:List Nat):XG:=fun d ρ Q=>match d with
  | .tup ds=>gxs is ds ρ Q
  | _=>False
def gxL (is:List Nat):XG:=fun d ρ Q=>match d with
  | .lst ds=>gxs is ds ρ Q
  | _=>False
theorem i7 {n:Nat} {F:Fm} {fr:List Rw} {H:Hp} {Q:St→Hp→Prop} {Qx:En→Prop}:∀ {is:List Nat} {ds:List Dx} {xs:List V} {ρ:En} {σ:St},(∀ i∈is,i < n)→EOk F ρ σ fr H→All2 (IsX (hid (cF (ρ.zip σ ++ fr)) (F.vis H))) ds xs→gxs is ds ρ Qx →
    (∀ σ' ρ',EOk F ρ' σ' fr H→σ'.length=σ.length→(∀ i,n≤i→σ'[i]? = σ[i]?)→Qx ρ'→Q σ' H)→aKo is xs σ H Q
  | [],[],xs,ρ,σ,_,E,ha,g,k=>⟨ha,k σ ρ E rfl (fun _ _=>rfl) g⟩
  | i :: is, d :: ds, xs, ρ, σ, hi, E, ⟨x, xr, e, h1, h2⟩, g, k => by
    have E1:EOk F (ρ.set i (.v (.tr d))) (σ.set i (some x)) fr H:=iv_ (EOk.back E.len (E.rep.add h1))
    refine ⟨x,xr,e,i7 (fun j hj=>hi j (aC _ hj)) E1 (h2.imp fun a b z=>z.to (oJ fun c hc => ?_)) g fun σ' ρ' E' hl hs q=>k σ' ρ' E' (hl.trans bF) (fun j hj=>(hs j hj).trans (dF (by have:=hi i aB; omega))) q⟩
    by_cases hlt:i < ρ.length
    · have hp := ((nJ (s := .v (.tr d)) (v := some x) E.len hlt).append_right fr).flatMap_right jC
      have hz:=((aEs (l:=ρ.zip σ) (i:=i) (aD (by rw [cQ]; have:=E.len; omega))).append_right fr).flatMap_right jC
      refine hz.mem_iff.mpr ?_
      have:=hp.mem_iff.mp hc
      rw [bK,List.flatMap_cons] at this
      rw [bK,List.flatMap_cons]
      rcases bZ.mp this with z | z
      · cases z
      · exact aJ _ z
    · rw [dL (by omega), dL (by have := E.len; omega)] at hc
      exact hc
  | [],_ :: _,_,_,_,_,_,_,g,_=>g.elim
  | _ :: _,[],_,_,_,_,_,_,g,_=>g.elim
theorem vK {Q:En→Prop}:∀ {is:List Nat} {ds:List Dx} {ρ:En},gxs is ds ρ Q→ds.length=is.length
  | [],[],_,_=>rfl
  | i :: is,d :: ds,ρ,g=>congrArg (· + 1) (vK (is:=is) (ds:=ds) (ρ:=ρ.set i (.v (.tr d))) g)
  | [],_ :: _,_,g=>g.elim
  | _ :: _,[],_,g=>g.elim
theorem ey_ {K:dH} {n m:Nat} {is:List Nat} (hm:is.length=m) (h:∀ i∈is,i < n):GX n (aGt K m (aKo is)) (gxT is):=fun F ρ σ fr H d x Q Qx E g k=>by
  unfold gxT at g
  split at g
  · obtain ⟨R, hx⟩ := E.one
    obtain ⟨a,vs,rfl,h1,h2⟩:=hx.tup_eq
    exact ⟨a,vs,rfl,SqT.of (R.hv _ _ h1),by rw [h2.len,vK g,hm],i7 h E.drop h2 g fun σ' ρ' E' hl hs q=>k σ' H ρ' E' hl hs q⟩
  · exact g.elim
theorem pW {K:dH} {n m:Nat} {is:List Nat} (hm:is.length=m) (h:∀ i∈is,i < n):GX n (aKz K m (aKo is)) (gxL is):=fun F ρ σ fr H d x Q Qx E g k=>by
  unfold gxL at g
  split at g
  · obtain ⟨R, hx⟩ := E.one
    obtain ⟨a,vs,rfl,h1,h2⟩:=hx.lst_eq
    exact ⟨a,vs,rfl,SqL.of (R.hv _ _ h1),by rw [h2.len,vK g,hm],i7 h E.drop h2 g fun σ' ρ' E' hl hs q=>k σ' H ρ' E' hl hs q⟩
  · exact g.elim
def qQ:XC:=fun ρ Q=>Q true ρ
def XCs (X:Cx) (Ex:ExT) (ifs:List Expr) (t:XC):Prop := ∀ F,[OkF X Ex F]→PCs X ifs (tXc F t)
theorem nG {X:Cx} {Ex:ExT}:XCs X Ex [] qQ:=fun F=>(t9 (X:=X)).weak fun σ H Q=>by
  rintro ⟨ρ,fr,Qx,E,t,k⟩
  exact k true H ρ E t
theorem tK {X:Cx} {Ex:ExT} {c:Expr} {t:XC} (h:XTe X Ex c t):XCs X Ex [c] t:=fun F=>aJf (h F)
def eW (n:Nat) (gx:XG) (tc:XC) (te:XT) (Q:List Dx→List Sl→Prop):List Dx→List Sl→List Dx→Prop
  | [],cs,acc=>Q acc cs
  | d :: ds,cs,acc=>gx d (List.replicate n .un ++ cs) fun ρ1=>tc ρ1 fun b ρ2=>if b=true then te ρ2 fun s ρ3=>eW n gx tc te Q ds (ρ3.drop n) (acc ++ [s.d]) else eW n gx tc te Q ds (ρ2.drop n) acc
def cut:List Nat→En→En
  | [],ρ=>ρ
  | j :: js,ρ=>cut js (ρ.set j .un)
def hY (outs:List Nat) (ρ:En):List Sl:=outs.map fun j=>(ρ[j]?).getD .un
def back:List Nat→List Sl→En→En
  | j :: js,c :: cs,ρ=>back js cs (ρ.set j c)
  | _,_,ρ=>ρ
def jA (n:Nat) (outs:List Nat) (ti:XI) (gx:XG) (tc:XC) (te:XT):XT:=fun ρ Q=>ti ρ fun ds ρ1=>ds.length≤1000000∧eW n gx tc te (fun acc cs=>Q (.ol acc) (back outs cs ρ1)) ds (hY outs ρ1) []
theorem sw {α:Type} {A B C:List α}:(A ++ (B ++ C)).Perm (B ++ (A ++ C)):=by
  rw [← bO,← bO]
  exact List.perm_append_comm.append_right C
section
variable {F:Fm} {H:Hp} {σ:St}
abbrev kK (σ:St) (outs:List Nat):St:=outs.map fun j=>(σ[j]?).join
theorem aHm {js:List Nat} {j:Nat} {s:Sl} {ρ:En} (h:j∉js):hY js (ρ.set j s)=hY js ρ:=by
  unfold hY
  refine List.map_congr_left fun k hk => ?_
  rw [dF (fun z=>h (by rw [z]; exact hk))]
theorem oF:∀ {js:List Nat} {ρ:En},(cut js ρ).length=ρ.length
  | [],_=>rfl
  | j :: js,ρ=>(oF (js:=js)).trans bF
theorem aAf:∀ {js:List Nat} {j:Nat} {s:Sl} {ρ:En},j∉js→cut js (ρ.set j s)=(cut js ρ).set j s
  | [],_,_,_,_=>rfl
  | k :: js, j, s, ρ, h => by
    show cut js ((ρ.set j s).set k .un)=(cut js (ρ.set k .un)).set j s
    rw [List.set_comm _ _ (fun z=>h (by rw [z]; exact aB)),aAf fun z=>h (aC _ z)]
theorem r_:∀ {outs:List Nat} {ρ:En} {T:List Rw},outs.Nodup→ρ.length=σ.length→Rep F (ρ.zip σ ++ T) H→Rep F ((hY outs ρ).zip (kK σ outs) ++ ((cut outs ρ).zip σ ++ T)) H
  | [],_,_,_,_,R=>R
  | j :: js, ρ, T, hn, hl, R => by
    have hn':=dC.mp hn
    have step:Rep F ((ρ.set j .un).zip σ ++ (((ρ[j]?).getD .un,(σ[j]?).join) :: T)) H:=by
      by_cases hj:j < ρ.length
      · have h1 : ρ[j]? = some ρ[j] := aD hj
        have h2:σ[j]? = some (σ[j]'(by omega)):=aD (by omega)
        have R1:=R.perm ((fk_ h1 h2).append_right T)
        have R2:=R1.addU (x:=σ[j]'(by omega))
        rw [h1,h2]
        refine R2.perm ?_
        refine (List.Perm.swap _ _ _).trans ?_
        exact (((dc_ hl hj h2).append_right T).symm.cons _).trans mX.symm
      · rw [dL (by omega), bQ (by omega), bQ (by omega)]
        exact (R.addU (x:=none)).perm mX.symm
    have:=r_ (outs:=js) hn'.2 (by rw [bF]; exact hl) step
    rw [aHm hn'.1] at this
    show Rep F ((((ρ[j]?).getD .un,(σ[j]?).join) :: (hY js ρ).zip (kK σ js)) ++ ((cut js (ρ.set j .un)).zip σ ++ T)) H
    refine this.perm ?_
    refine List.Perm.trans ?_ (List.Perm.refl _)
    rw [← bO]
    exact mX.trans (by rw [bO]; exact .refl _)
theorem aEr:∀ {outs:List Nat} {cs:List Sl} {ρ:En} {T:List Rw},outs.Nodup→ρ.length=σ.length→cs.length=outs.length→Rep F (cs.zip (kK σ outs) ++ ((cut outs ρ).zip σ ++ T)) H→Rep F ((back outs cs ρ).zip σ ++ T) H
  | [],[],_,_,_,_,_,R=>R
  | [],_ :: _,_,_,_,_,h,_=>by simp at h
  | _ :: _,[],_,_,_,_,h,_=>by simp at h
  | j :: js, c :: cs, ρ, T, hn, hl, hc, R => by
    have hn':=dC.mp hn
    refine aEr (outs:=js) (cs:=cs) (ρ:=ρ.set j c) hn'.2 (by rw [bF]; exact hl) (by simpa using hc) ?_
    have R1:Rep F ((c,(σ[j]?).join) :: (cs.zip (kK σ js) ++ ((cut js (ρ.set j .un)).zip σ ++ T))) H:=R
    rw [aAf hn'.1] at R1 ⊢
    have hcl:(cut js ρ).length=σ.length:=oF.trans hl
    by_cases hj:j < ρ.length
    · have hjc : j < (cut js ρ).length := by rw [oF]; exact hj
      have h2:σ[j]? = some (σ[j]'(by omega)):=aD (by omega)
      rw [h2] at R1
      have p1:=((dc_ (s:=.un) hcl hjc h2).append_right T)
      have p2:=((dc_ (s:=c) hcl hjc h2).append_right T)
      have R2:=R1.perm ((List.Perm.append_left _ p1).cons _)
      have R3:=R2.perm ((mX.cons _).trans (.swap _ _ _))
      exact R3.tail.perm (mX.symm.trans (List.Perm.append_left _ p2.symm))
    · have hz : (cut js ρ).length ≤ j := by rw [oF]; omega
      rw [dL hz] at R1 ⊢
      exact R1.tail
theorem Rep.drops:∀ {A P:List Rw},Rep F (A ++ P) H→Rep F P H
  | [],_,R=>R
  | _ :: _,_,R=>Rep.drops R.tail
theorem Rep.addUs {P:List Rw} (R:Rep F P H):∀ n,Rep F (List.replicate n (.un,none) ++ P) H
  | 0=>R
  | n + 1=>(Rep.addUs R n).addU
def nI (ds:List Dx) (xs:List V):List Rw:=(ds.zip xs).map fun p=>(.v (.tr p.1),some p.2)
theorem Rep.accs:∀ {ds:List Dx} {xs:List V} {P:List Rw},ds.length=xs.length→Rep F (nI ds xs ++ P) H→Rep F P H∧All2 (IsX (hid (cF P) (F.vis H))) ds xs
  | [],[],P,_,R=>⟨R,rfl⟩
  | [],_ :: _,_,h,_=>by simp at h
  | _ :: _,[],_,h,_=>by simp at h
  | d :: ds, x :: xs, P, h, R => by
    obtain ⟨v,e,hx⟩:=Rep.atT (show Rep F ((.v (.tr d),some x) :: (nI ds xs ++ P)) H from R)
    cases e
    obtain ⟨R1,h1⟩:=Rep.accs (ds:=ds) (xs:=xs) (by simpa using h) (Rep.tail (show Rep F ((.v (.tr d),some x) :: (nI ds xs ++ P)) H from R))
    refine ⟨R1,x,xs,rfl,hx.to (oJ fun c hc => ?_),h1⟩
    unfold cF
    rw [iF]
    exact aJ _ hc
end
section
variable {X:Cx} {Ex:ExT} {dsc scope:Scope} {tgs N':List Str} {outs:List Nat} {tg iter elt:Expr} {ifs:List Expr} {pos:Pos} {ti:XI} {g:TG} {gx:XG} {tc:XC} {te:XT}
theorem iy_ {F:Fm} {n:Nat} (hgx:GX n g gx) (hno:outs.Nodup) {tcT:TT} {teT:TE} (htc:∀ σ H Q,tXc F tc σ H Q→tcT σ H Q) (hte:∀ σ H Q,tX F te σ H Q→teT σ H Q) {σ:St} {H':Hp} {Q:VK} {Qx:Sv→En→Prop} {ρ':En} {fr row:List Rw} {ds:List Dx} {J:It}
    (k:∀ v s H' ρ',EOk F ρ' σ ((.v s,some v) :: fr) H'→Qx s ρ'→Q v H') (E':EOk F ρ' σ (row ++ fr) H') (hJ:ItX F J row ds) (q:ds.length≤1000000∧eW n gx tc te (fun acc cs=>Qx (.ol acc) (back outs cs ρ')) ds (hY outs ρ') []) :
    ∃ W:Nat→Nat→List V→Hp→Prop,(∃ m,W 0 m [] H')∧∀ i m acc H,W i m acc H →
    (J.stop i H∧acc.length≤sizeLine∧∀ l,H l=none→Q (.ref l) (upd H l (.lst acc))) ∨
    (J.go i H∧acc.length < sizeLine∧∃ N:List V→Hp→Prop,(∀ acc' H',N acc' H'→∃ m',m' < m∧W (i + 1) m' acc' H')∧∀ x H',J.yld i H x H'→g x (kF n outs σ) H' fun σ2 H2=>tcT σ2 H2 fun b H3 =>
      if b=true then teT σ2 H3 fun y H4=>N (acc ++ [y]) H4 else N acc H3):=by
  obtain ⟨hd,q⟩:=q
  have zl:=jD
  refine ⟨fun i m acc H=>m=ds.length - i∧i≤ds.length∧∃ cs accD,cs.length=outs.length∧accD.length=acc.length∧acc.length≤i∧Rep F (cs.zip (kK σ outs) ++ (nI accD acc ++ (row ++ ((cut outs ρ').zip σ ++ fr)))) H ∧
    eW n gx tc te (fun acc cs=>Qx (.ol acc) (back outs cs ρ')) (ds.drop i) cs accD,⟨ds.length,by simp,dB _,hY outs ρ',[],by simp [hY],rfl,bJ _,?_,by simpa using q⟩,?_⟩
  · have R := r_ (outs := outs) hno E'.len E'.rep
    refine R.perm (List.Perm.append_left _ ?_)
    exact sw
  rintro i m acc H3 ⟨rfl,hi,cs,accD,hcl,hal,hai,R,hq⟩
  have hrow:Rep F (row ++ (cs.zip (kK σ outs) ++ (nI accD acc ++ ((cut outs ρ').zip σ ++ fr)))) H3:=by
    exact R.perm ((List.Perm.append_left _ sw).trans sw)
  by_cases hlt:i < ds.length
  · right
    have hdi:ds[i]? = some ds[i]:=aD hlt
    rw [List.drop_eq_getElem_cons hlt] at hq
    refine ⟨hJ.go _ _ i _ hrow hdi,by omega,fun acc' H4 => ∃ m',m' < ds.length - i∧(m'=ds.length - (i + 1)∧i + 1≤ds.length∧∃ cs accD,cs.length=outs.length∧accD.length=acc'.length∧acc'.length≤i + 1∧Rep F (cs.zip (kK σ outs) ++ (nI accD acc' ++ (row ++ ((cut outs ρ').zip σ ++ fr)))) H4 ∧
      eW n gx tc te (fun acc cs=>Qx (.ol acc) (back outs cs ρ')) (ds.drop (i + 1)) cs accD),fun acc' H4 h=>h,fun x H4 hy => ?_⟩
    have R4:=hJ.yld _ _ i _ x H4 hrow hdi hy
    have hzip:∀ (cs:List Sl),cs.length=outs.length→(List.replicate n Sl.un ++ cs).zip (kF n outs σ)=List.replicate n (Sl.un,none) ++ cs.zip (kK σ outs):=fun cs hcs=>by
      unfold kF
      rw [List.zip_append (by rw [aG,aG]),List.zip_replicate]
      simp
    have Ei:EOk F (List.replicate n .un ++ cs) (kF n outs σ) ((.v (.tr ds[i]),some x) :: (nI accD acc ++ (row ++ ((cut outs ρ').zip σ ++ fr)))) H4:=by
      refine ⟨by rw [pA,aI,aG,hcl],?_⟩
      rw [hzip cs hcl,bO]
      refine Rep.addUs (R4.perm ?_) n
      exact ((sw.trans (List.Perm.append_left _ sw)).cons _).trans mX.symm
    have fin:∀ {ρ3:En} {σ2:St} {H5:Hp} {accD':List Dx} {acc':List V},σ2.length=(kF n outs σ).length→(∀ j,n≤j→σ2[j]? = (kF n outs σ)[j]?)→EOk F ρ3 σ2 (nI accD' acc' ++ (row ++ ((cut outs ρ').zip σ ++ fr))) H5→accD'.length=acc'.length→acc'.length≤i + 1 →
        eW n gx tc te (fun acc cs=>Qx (.ol acc) (back outs cs ρ')) (ds.drop (i + 1)) (ρ3.drop n) accD' →
        ∃ m', m' < ds.length - i ∧ (m' = ds.length - (i + 1) ∧ i + 1 ≤ ds.length ∧ ∃ cs accD, cs.length = outs.length ∧ accD.length = acc'.length ∧ acc'.length ≤ i + 1 ∧ Rep F (cs.zip (kK σ outs) ++ (nI accD acc' ++ (row ++ ((cut outs ρ').zip σ ++ fr)))) H5 ∧
          eW n gx tc te (fun acc cs=>Qx (.ol acc) (back outs cs ρ')) (ds.drop (i + 1)) cs accD):=fun {ρ3 σ2 H5 accD' acc'} hl2 hs2 E3 h1 h2 h3=>by
      have hl3:ρ3.length=n + outs.length:=by rw [E3.len,hl2,pA]
      refine ⟨ds.length - (i + 1),by omega,rfl,hlt,ρ3.drop n,accD',by rw [List.length_drop,hl3]; omega,h1,h2,?_,h3⟩
      have hv:σ2.drop n=kK σ outs:=by
        apply fO
        intro j
        rw [List.getElem?_drop,hs2 _ (Nat.le_add_right n j)]
        unfold kF
        rw [bD (by rw [aG]; omega),aG,fM]
      have hz:ρ3.zip σ2=(ρ3.take n).zip (σ2.take n) ++ (ρ3.drop n).zip (σ2.drop n):=by
        rw [← List.zip_append (by rw [cI,cI,E3.len]),List.take_append_drop,List.take_append_drop]
      have R5:=E3.rep
      rw [hz,hv,bO] at R5
      exact Rep.drops R5
    refine hgx F _ _ _ H4 _ x _ _ Ei hq fun σ2 H5 ρ1 E1 hl2 hs2 q1=>htc _ _ _ ⟨ρ1,_,_,E1,q1,fun b H6 ρ2 E2 q2 => ?_⟩
    cases b with
    | false=>exact fin hl2 hs2 E2 hal (by omega) q2
    | true =>
      refine hte _ _ _ ⟨ρ2,_,_,E2,q2,fun y s H7 ρ3 E3 q3 => ?_⟩
      refine fin (accD':=accD ++ [s.d]) (acc':=acc ++ [y]) hl2 hs2 ⟨E3.len,?_⟩ (by rw [aI,aI,hal]; rfl) (by rw [aI]; show acc.length + 1≤_; omega) q3
      have R7:=(EOk.front E3).frz
      have he:nI (accD ++ [s.d]) (acc ++ [y])=nI accD acc ++ [(.v (.tr s.d),some y)]:=by
        unfold nI
        rw [List.zip_append hal,bW]
        rfl
      rw [he,bO]
      exact R7.perm (mX.symm.trans (List.Perm.append_left _ mX.symm))
  · left
    have hie:i=ds.length:=by omega
    subst hie
    rw [List.drop_length] at hq
    refine ⟨hJ.stop _ _ _ hrow (bJ _),by omega,fun l hl => ?_⟩
    have R1:=R.perm (sw.trans (List.Perm.append_left _ sw))
    obtain ⟨R2,ha⟩:=R1.accs hal
    have R3:Rep F (row ++ ((.v (.ol accD),some (.ref l)) :: (cs.zip (kK σ outs) ++ ((cut outs ρ').zip σ ++ fr)))) (upd H3 l (.lst acc)):=(R2.newL hl ha).perm mX.symm
    have R4:Rep F (cs.zip (kK σ outs) ++ ((cut outs ρ').zip σ ++ ((.v (.ol accD),some (.ref l)) :: fr))) (upd H3 l (.lst acc)):=R3.drops.perm (mX.symm.trans (List.Perm.append_left _ mX.symm))
    have hbl:∀ {js:List Nat} {cs:List Sl} {ρ:En},(back js cs ρ).length=ρ.length:=by
      intro js
      induction js with
      | nil=>intro cs ρ; cases cs <;> rfl
      | cons j js ih => intro cs ρ; cases cs with
        | nil=>rfl
        | cons c cs=>exact (ih (cs:=cs) (ρ:=ρ.set j c)).trans bF
    exact k _ (.ol accD) _ (back outs cs ρ') ⟨hbl.trans E'.len,aEr hno E'.len hcl R4⟩ hq
theorem o_ {F:Fm} {n:Nat} (hgx:GX n g gx) (hno:outs.Nodup):∀ σ H Q,tX F (jA n outs ti gx tc te) σ H Q→rL n outs (tXi F ti) g (tXc F tc) (tX F te) σ H Q:=by
  rintro σ H Q ⟨ρ,fr,Qx,E,t,k⟩
  exact ⟨ρ,fr,_,E,t,fun J H' ρ' row ds E' hJ q=>iy_ hgx hno (fun _ _ _ z=>z) (fun _ _ _ z=>z) k E' hJ q⟩
end
end Lf
namespace L2
open PySem
theorem PS.weak {X:Cx} {e:Stmt} {t u:TS} (h:PS X e t) (w:∀ D σ H,u D σ H→t D σ H):PS X e u:=fun pins s σ H D I q=>h pins s σ H D I (w D σ H q)
theorem PSs.weak {X:Cx} {e:List Stmt} {t u:TS} (h:PSs X e t) (w:∀ D σ H,u D σ H→t D σ H):PSs X e u:=fun pins s σ H D I q=>h pins s σ H D I (w D σ H q)
end L2
namespace Lf
open PySem L2
theorem wD {X:Cx} {Ex:ExT} {dsc scope:Scope} {tgs N' N:List Str} {outs:List Nat} {tg iter elt:Expr} {ifs:List Expr} {pos:Pos} {ti:XI} {g:TG} {gx:XG} {tc:XC} {te:XT} (S:CompScope dsc scope N tgs outs N') (hi:XIt X Ex tg iter ti) (hg:∀ cl C s H ex,PG (eS X N' scope cl C s H ex) tg g) (hgx:GX tgs.length g gx) (hgt:Tgt tgs.length g)
    (hcs:∀ cl C s H ex,XCs (eS X N' scope cl C s H ex) cC ifs tc) (he:∀ cl C s H ex,XE (eS X N' scope cl C s H ex) cC elt te) (hno:outs.Nodup:=by decide) (hN0:X.N=N:=by rfl) (hsc:X.env.scope=dsc:=by rfl) (hc:X.calm=true:=by rfl) (hs:∀ x,foldedSetIterable iter X.env x=pure x:=by intro _; rfl) :
    XE X Ex (.ListComp elt [⟨tg,iter,ifs,0⟩] scope pos) (jA tgs.length outs ti gx tc te):=fun F =>
  (nX S (hi F) hg hgt (fun a b c d e=>hcs a b c d e F) (fun a b c d e=>he a b c d e F) hN0 hsc hc hs).weak (o_ hgx hno)
structure XD where
  nx:En→Prop
  rt:Sv→En→Prop
  bk:En→Prop
  ct:En→Prop
abbrev XS:=En→XD→Prop
structure DOk (F:Fm) (n:Nat) (fr:List Rw) (D:Ends) (d:XD):Prop where
  nx:∀ σ' H' ρ',σ'.length=n→EOk F ρ' σ' fr H'→d.nx ρ'→D.nx σ' H'
  rt:∀ v s σ' H' ρ',σ'.length=n→EOk F ρ' σ' ((.v s,some v) :: fr) H'→d.rt s ρ'→D.rt v H'
  bk:∀ σ' H' ρ',σ'.length=n→EOk F ρ' σ' fr H'→d.bk ρ'→D.bk σ' H'
  ct:∀ σ' H' ρ',σ'.length=n→EOk F ρ' σ' fr H'→d.ct ρ'→D.ct σ' H'
def tXS (F:Fm) (G:XS):TS:=fun D σ H => ∃ ρ fr d,EOk F ρ σ fr H∧G ρ d∧DOk F σ.length fr D d
def XSt (X:Cx) (Ex:ExT) (st:Stmt) (G:XS):Prop := ∀ F,[OkF X Ex F]→PS X st (tXS F G)
def XSs (X:Cx) (Ex:ExT) (st:List Stmt) (G:XS):Prop := ∀ F,[OkF X Ex F]→PSs X st (tXS F G)
def fY:XS:=fun ρ D=>D.nx ρ
def fJ (G K:XS):XS:=fun ρ D=>G ρ { D with nx:=fun ρ'=>K ρ' D }
def iX (i:Nat) (t:XT):XS:=fun ρ D=>t ρ fun s ρ'=>D.nx (ρ'.set i (.v s))
def aWz (t:XT) (gx:XG):XS:=fun ρ D=>t ρ fun s ρ'=>gx s.d ρ' D.nx
def aNe (t:XT):XS:=fun ρ D=>t ρ fun _ ρ'=>D.nx ρ'
def iQ (t:XT):XS:=fun ρ D=>t ρ fun s ρ'=>D.rt s ρ'
def xIf (c:XC) (G K:XS):XS:=fun ρ D=>c ρ fun b ρ'=>if b=true then G ρ' D else K ρ' D
def iY (gx:XG) (G:XS) (D:XD):List Dx→En→Prop
  | [],ρ=>D.nx ρ
  | d :: ds,ρ=>gx d ρ fun ρ1=>G ρ1 { D with nx:=iY gx G D ds,ct:=iY gx G D ds,bk:=D.nx }
def tL (ti:XI) (gx:XG) (G:XS):XS:=fun ρ D=>ti ρ fun ds ρ'=>iY gx G D ds ρ'
section
variable {X:Cx} {Ex:ExT} {st:Stmt} {rest:List Stmt} {G K:XS} {e c tg iter:Expr} {t:XT} {tc:XC} {pos:Pos} {i:Nat}
theorem jF:XSs X Ex [] fY:=fun F=>(nU (X:=X)).weak fun D σ H=>by
  rintro ⟨ρ,fr,d,E,q,k⟩
  exact k.nx σ H ρ rfl E q
theorem dR (h:XSt X Ex st G) (h':XSs X Ex rest K):XSs X Ex (st :: rest) (fJ G K):=fun F=>(rB (h F) (h' F)).weak fun D σ H=>by
  rintro ⟨ρ,fr,d,E,q,k⟩
  exact ⟨ρ,fr,_,E,q,⟨fun σ' H' ρ' hl E' q'=>⟨ρ',fr,d,E',q',by rw [hl]; exact k⟩,k.rt,k.bk,k.ct⟩⟩
theorem dY (h:XSt X Ex st G):XSs X Ex [st] G:=fun F=>eu_ (h F)
theorem gQ (h:∀ F,[OkF X Ex F]→PS X st (zX (tX F t) (kG i))):XSt X Ex st (iX i t):=fun F=>(h F).weak fun D σ H=>by
  rintro ⟨ρ,fr,d,E,q,k⟩
  exact ⟨ρ,fr,_,E,q,fun v s H' ρ' E' q'=>k.nx _ H' _ bF (iv_ E') q'⟩
theorem tF {n:Nat} {g:TG} {gx:XG} (hgx:GX n g gx) (h:∀ F,[OkF X Ex F]→PS X st (zX (tX F t) g)):XSt X Ex st (aWz t gx):=fun F=>(h F).weak fun D σ H=>by
  rintro ⟨ρ,fr,d,E,q,k⟩
  exact ⟨ρ,fr,_,E,q,fun v s H' ρ' E' q'=>hgx F ρ' σ fr H' s.d v _ _ (EOk.back E'.len E'.front.frz) q' fun σ' H2 ρ2 E2 hl _ q2=>k.nx σ' H2 ρ2 hl E2 q2⟩
theorem tE (he:XE X Ex e t) (hs:swapsWith e none pos.line X.env=pure false:=by rfl):XSt X Ex (.Expr e pos) (aNe t):=fun F=>(if_ (he F) hs).weak fun D σ H=>by
  rintro ⟨ρ,fr,d,E,q,k⟩
  exact ⟨ρ,fr,_,E,q,fun v s H' ρ' E' q'=>k.nx σ H' ρ' rfl E'.drop q'⟩
theorem gA (he:XE X Ex e t):XSt X Ex (.Return (some e) pos) (iQ t):=fun F=>(uH (he F)).weak fun D σ H=>by
  rintro ⟨ρ,fr,d,E,q,k⟩
  exact ⟨ρ,fr,_,E,q,fun v s H' ρ' E' q'=>k.rt v s σ H' ρ' rfl E' q'⟩
theorem iP {a b:List Stmt} (hc:XTe X Ex c tc) (ha:XSs X Ex a G) (hb:XSs X Ex b K):XSt X Ex (.If c a b pos) (xIf tc G K):=fun F=>(s_ (hc F) (ha F) (hb F)).weak fun D σ H=>by
  rintro ⟨ρ,fr,d,E,q,k⟩
  refine ⟨ρ,fr,_,E,q,fun b H' ρ' E' q' => ?_⟩
  cases b with
  | true=>exact ⟨ρ',fr,d,E',q',k⟩
  | false=>exact ⟨ρ',fr,d,E',q',k⟩
def xNo:XS:=fun _ _=>False
theorem m6:XSt X Ex st xNo:=fun F=>(aEv (X:=X)).weak fun D σ H=>by
  rintro ⟨ρ,fr,d,E,q,k⟩
  exact q
theorem aGw {F:Fm} {n:Nat} {g:TG} {gx:XG} (hgx:GX n g gx) {tb:TS} (htb:∀ D σ H,tXS F G D σ H→tb D σ H) {D:Ends} {d:XD} {σ:St} {H':Hp} {ρ':En} {fr row:List Rw} {ds:List Dx} {J:It} (k:DOk F σ.length fr D d) (E':EOk F ρ' σ (row ++ fr) H') (hJ:ItX F J row ds) (q':iY gx G d ds ρ') :
    ∃ W:Nat→Nat→St→Hp→Prop,(∃ m,W 0 m σ H')∧∀ i m σ H,W i m σ H →
    (J.stop i H∧D.nx σ H)∨(J.go i H∧∃ N:St→Hp→Prop,(∀ σ' H',N σ' H'→∃ m',m' < m∧W (i + 1) m' σ' H')∧∀ x H',J.yld i H x H'→g x σ H' fun σ2 H2=>tb { D with nx:=N,ct:=N,bk:=D.nx } σ2 H2):=by
  refine ⟨fun i m σ1 H1=>m=ds.length - i∧i≤ds.length∧σ1.length=σ.length∧∃ ρ1,EOk F ρ1 σ1 (row ++ fr) H1∧iY gx G d (ds.drop i) ρ1,⟨ds.length,by simp,dB _,rfl,ρ',E',by simpa using q'⟩,?_⟩
  rintro i m σ1 H1 ⟨rfl,hi,hl,ρ1,E1,q1⟩
  have hrow:Rep F (row ++ (ρ1.zip σ1 ++ fr)) H1:=E1.rep.perm sw
  by_cases hlt:i < ds.length
  · right
    have hdi:ds[i]? = some ds[i]:=aD hlt
    rw [List.drop_eq_getElem_cons hlt] at q1
    refine ⟨hJ.go _ _ i _ hrow hdi,fun σ2 H2 => ∃ m',m' < ds.length - i∧(m'=ds.length - (i + 1)∧i + 1≤ds.length∧σ2.length=σ.length∧∃ ρ1,EOk F ρ1 σ2 (row ++ fr) H2∧iY gx G d (ds.drop (i + 1)) ρ1),fun _ _ h=>h,fun x H2 hy => ?_⟩
    have R2:=hJ.yld _ _ i _ x H2 hrow hdi hy
    have E2:EOk F ρ1 σ1 ((.v (.tr ds[i]),some x) :: (row ++ fr)) H2:=⟨E1.len,R2.perm ((sw.cons _).trans mX.symm)⟩
    refine hgx F ρ1 σ1 _ H2 _ x _ _ E2 q1 fun σ2 H3 ρ2 E3 hl2 _ q2 => ?_
    have nxt:∀ σ' H' ρ',σ'.length=σ2.length→EOk F ρ' σ' (row ++ fr) H'→iY gx G d (ds.drop (i + 1)) ρ'→∃ m',m' < ds.length - i∧(m'=ds.length - (i + 1)∧i + 1≤ds.length∧σ'.length=σ.length∧∃ ρ1,EOk F ρ1 σ' (row ++ fr) H'∧iY gx G d (ds.drop (i + 1)) ρ1):=fun σ' H' ρ' h1 h2 h3 =>
      ⟨ds.length - (i + 1),by omega,rfl,hlt,by rw [h1,hl2,hl],ρ',h2,h3⟩
    have ends:∀ {σ':St} {H':Hp} {ρ':En} {fr2:List Rw},EOk F ρ' σ' (row ++ fr2) H'→EOk F ρ' σ' fr2 H':=fun h=>⟨h.len,Rep.drops (A:=row) (h.rep.perm sw)⟩
    refine htb _ _ _ ⟨ρ2,row ++ fr,_,E3,q2,⟨nxt,fun v s σ' H' ρ' h1 h2 h3=>k.rt v s σ' H' ρ' (by rw [h1,hl2,hl]) ?_ h3,fun σ' H' ρ' h1 h2 h3=>k.nx σ' H' ρ' (by rw [h1,hl2,hl]) (ends h2) h3,nxt⟩⟩
    exact ends ⟨h2.len,h2.rep.perm (List.Perm.append_left _ mX.symm)⟩
  · left
    have hie:i=ds.length:=by omega
    subst hie
    rw [List.drop_length] at q1
    exact ⟨hJ.stop _ _ _ hrow (bJ _),k.nx σ1 H1 ρ1 hl ⟨E1.len,Rep.drops (A:=row) hrow⟩ q1⟩
theorem aNn {F:Fm} {ti:XI} {n:Nat} {g:TG} {gx:XG} (hgx:GX n g gx):∀ D σ H,tXS F (tL ti gx G) D σ H→aSt (tXi F ti) g (tXS F G) D σ H:=by
  rintro D σ H ⟨ρ,fr,d,E,q,k⟩
  exact ⟨ρ,fr,_,E,q,fun J H' ρ' row ds E' hJ q'=>aGw hgx (fun _ _ _ z=>z) k E' hJ q'⟩
theorem zK {body:List Stmt} {ti:XI} {n:Nat} {g:TG} {gx:XG} (hp:PassesOwn (model X.prog X.w) X.A X.env X.xe) (hc:X.calm=true) (hi:XIt X Ex tg iter ti) (hg:PG X tg g) (hgx:GX n g gx) (hb:XSs X Ex body G) (hs:∀ x,foldedSetIterable iter X.env x=pure x:=by intro _; rfl):XSt X Ex (.For tg iter body [] pos) (tL ti gx G):=fun F =>
  (aEx hp hc (hi F) hg (hb F) hs).weak (aNn hgx)
theorem zI (h:∀ F,[OkF X Ex F]→PS X st (tXS F G)):XSt X Ex st G:=h
end
section
variable {F:Fm} {ρ:En} {σ:St} {fr:List Rw} {H:Hp} {i:Nat}
theorem gg_ {l:List Dx} {f:List Dx→Sl} (E:EOk F ρ σ fr H) (h:(ρ[i]?).bind kU=some (l,f)):∃ p ws,σ[i]? = some (some (.ref p))∧H p=some (.lst ws)∧All2 (IsX (hid (cF (ρ.zip σ ++ fr)) (F.vis H))) l ws ∧
    ∀ l' ws',All2 (IsX (hid (cF (ρ.zip σ ++ fr)) (F.vis H))) l' ws'→EOk F (ρ.set i (f l')) σ fr (upd H p (.lst ws')):=by
  obtain ⟨sl,h3,h4⟩:=gR.mp h
  obtain ⟨v,hv,hi,R⟩:=de_ E h3
  obtain ⟨p,ws,rfl,h5,h6,h7,h8⟩:=pN h4 R
  have hO:(cF (ρ.zip σ ++ fr)).Perm (cF ((sl,some (V.ref p)) :: ((ρ.zip σ).eraseIdx i ++ fr))):=((fk_ h3 hv).append_right fr).flatMap_right _
  rw [mL h6] at hO
  refine ⟨p,ws,hv,h5,h7.imp fun _ _ z=>z.to (oJ fun a ha=>hO.mem_iff.mp ha),fun l' ws' hl' => ?_⟩
  obtain ⟨k1,k2,k3⟩:=h8 l'
  exact oC E.len hi hv (R.put h6 k1 k2 (k3 cJ (hl'.imp fun _ _ z=>(z.to (oJ fun a ha=>hO.mem_iff.mpr ha)).to vH)))
theorem yP {l:List (Key×Dx)} (E:EOk F ρ σ fr H) (h:ρ[i]? = some (.v (.od l))):∃ p ws,σ[i]? = some (some (.ref p))∧H p=some (.dK ws)∧All2 (KvX (hid (cF (ρ.zip σ ++ fr)) (F.vis H))) l ws ∧
    ∀ l' ws',All2 (KvX (hid (cF (ρ.zip σ ++ fr)) (F.vis H))) l' ws'→EOk F (ρ.set i (.v (.od l'))) σ fr (upd H p (.dK ws')):=by
  obtain ⟨v,hv,hi,R⟩:=de_ E h
  obtain ⟨p,ws,rfl,h5,h7⟩:=R.atD
  have hO:(cF (ρ.zip σ ++ fr)).Perm (cF ((.v (.od l),some (V.ref p)) :: ((ρ.zip σ).eraseIdx i ++ fr))):=((fk_ h hv).append_right fr).flatMap_right _
  rw [mL (a:=p) rfl] at hO
  refine ⟨p,ws,hv,h5,h7.imp fun _ _ z=>z.to (oJ fun a ha=>hO.mem_iff.mp ha),fun l' ws' hl' => ?_⟩
  exact oC E.len hi hv (R.putD (hl'.imp fun _ _ z=>z.to (oJ fun a ha=>hO.mem_iff.mpr ha)))
theorem u8 {l:List Dx} {f:List Dx→Sl} (E:EOk F ρ σ fr H) (h:(ρ[i]?).bind kU=some (l,f)):∃ p ws,σ[i]? = some (some (.ref p))∧H p=some (.lst ws):=by
  obtain ⟨p,ws,h1,h2,_⟩:=gg_ E h
  exact ⟨p,ws,h1,h2⟩
end
def aXa (i:Nat) (t:XT):XS:=fun ρ D=>((ρ[i]?).bind kU).isSome=true∧t ρ fun s ρ'=>match (ρ'[i]?).bind kU with
  | some (l,f)=>l.length < 1000000∧D.nx (ρ'.set i (f (l ++ [s.d])))
  | none=>False
def aZk (i:Nat) (t:XT):XS:=fun ρ D=>((ρ[i]?).bind kU).isSome=true∧t ρ fun s ρ'=>match (ρ'[i]?).bind kU,s.d with
  | some (l,f),.lst m=>l.length + m.length≤1000000∧D.nx (ρ'.set i (f (l ++ m)))
  | _,_=>False
def wF (i:Nat) (ti te:XT):XS:=fun ρ D=>te ρ fun s ρ1=>((ρ1[i]?).bind kU).isSome=true∧ti ρ1 fun k ρ2=>match (ρ2[i]?).bind kU,k.d with
  | some (l,f),.int j=>(match ixN l.length j with | some n=>D.nx (ρ2.set i (f (l.set n s.d))) | none=>False)
  | _,_=>False
def aBh (l:List (Key×Dx)) (k:Key) (d:Dx):List (Key×Dx):=if (l.any fun kv=>decide (kv.1=k))=true then l.map (fun kv=>if kv.1=k then (kv.1,d) else kv) else l ++ [(k,d)]
def aLw (i:Nat) (tk tv:XT):XS:=fun ρ D=>tv ρ fun s ρ1=>(∃ l,ρ1[i]? = some (.v (.od l)))∧tk ρ1 fun k ρ2=>match ρ2[i]?,vD k.d with
  | some (.v (.od l)),some key=>l.length < 1000000∧D.nx (ρ2.set i (.v (.od (aBh l key s.d))))
  | _,_=>False
theorem aEq {G:Hp} {l:List (Key×Dx)} {ws:List (Key×V)} {k:Key} {d:Dx} {v:V} (h:All2 (KvX G) l ws) (hd:IsX G d v):All2 (KvX G) (aBh l k d) (lY ws k v):=by
  have any:∀ {l:List (Key×Dx)} {ws:List (Key×V)},All2 (KvX G) l ws→(l.any fun kv=>decide (kv.1=k))=(ws.any fun kv=>decide (kv.1=k)):=by
    intro l
    induction l with
    | nil=>intro ws h; rw [show ws=[] from h]; rfl
    | cons p l ih =>
      intro ws h
      obtain ⟨w,wr,rfl,⟨h1,_⟩,h3⟩:=h
      rw [fW,fW,ih h3,h1]
  have mp:∀ {l:List (Key×Dx)} {ws:List (Key×V)},All2 (KvX G) l ws→All2 (KvX G) (l.map fun kv=>if kv.1=k then (kv.1,d) else kv) (ws.map fun kv=>if kv.1=k then (kv.1,v) else kv):=by
    intro l
    induction l with
    | nil=>intro ws h; rw [show ws=[] from h]; rfl
    | cons p l ih =>
      intro ws h
      obtain ⟨w,wr,rfl,⟨h1,h2⟩,h3⟩:=h
      refine ⟨_,_,rfl,?_,ih h3⟩
      by_cases e:p.1=k
      · show KvX G (if p.1 = k then (p.1, d) else p) (if w.1 = k then (w.1, v) else w)
        rw [if_pos e,if_pos (h1 ▸ e)]; exact ⟨h1,hd⟩
      · show KvX G (if p.1 = k then (p.1, d) else p) (if w.1 = k then (w.1, v) else w)
        rw [if_neg e,if_neg (h1 ▸ e)]; exact ⟨h1,h2⟩
  unfold aBh lY
  rw [any h]
  split
  · exact mp h
  · exact h.snoc ⟨rfl,hd⟩
section
variable {X:Cx} {Ex:ExT} {st:Stmt} {i:Nat} {t ti te tk tv:XT} {F:Fm} {K:dH}
theorem aEb:∀ D σ H,tXS F (aXa i t) D σ H→aLy (tBM K "list" p_ (kA i) (kX (tX F t) zV)) D σ H:=by
  rintro D σ H ⟨ρ,fr,d,E,⟨q0,q⟩,k⟩
  obtain ⟨⟨l0,f0⟩,h0⟩:=gJ.mp q0
  obtain ⟨p,ws,hv,hp⟩:=u8 E h0
  refine ⟨.ref p,hv,.inl ⟨rfl,ws,SqL.of hp⟩,ρ,fr,_,E,q,fun y s H' ρ' E' q' => ?_⟩
  split at q'
  · rename_i l f hb
    obtain ⟨R,hx⟩:=E'.one
    obtain ⟨p',ws',hv',hp',hl,hput⟩:=gg_ E'.drop hb
    rw [hv] at hv'
    cases hv'
    exact ⟨p,ws',y,rfl,rfl,hp',by rw [hl.len]; have:=jD; omega,k.nx σ _ _ rfl (hput _ _ (hl.snoc hx)) q'.2⟩
  · exact q'.elim
theorem nQ:∀ D σ H,tXS F (wF i ti te) D σ H→zX (tX F te) (aUj (kA i) (tX F ti) aMf) D σ H:=by
  rintro D σ H ⟨ρ,fr,d,E,q,k⟩
  refine ⟨ρ,fr,_,E,q,fun y s H' ρ' E' q' => ?_⟩
  obtain ⟨q0,q'⟩:=q'
  obtain ⟨⟨l0,f0⟩,h0⟩:=gJ.mp q0
  obtain ⟨p,ws,hv,hp⟩:=u8 E' h0
  refine ⟨.ref p,hv,ρ',_,_,E',q',fun z s2 H2 ρ2 E2 q2 => ?_⟩
  split at q2
  · rename_i l f j hb hj
    obtain ⟨R,hx1,hx2⟩:=E2.two
    rw [hj] at hx2
    cases hx2.int_eq
    obtain ⟨p',ws',hv',hp',hl,hput⟩:=gg_ (E2.drop.drop) hb
    rw [hv] at hv'
    cases hv'
    split at q2
    · rename_i n hn
      exact ⟨p,ws',j,n,rfl,rfl,hp',by rw [hl.len]; exact hn,k.nx σ _ _ rfl (hput _ _ (hl.set hx1 n)) q2⟩
    · exact q2.elim
  · exact q2.elim
theorem tR:∀ D σ H,tXS F (aLw i tk tv) D σ H→aMc (kA i) (tX F tk) (tX F tv) D σ H:=by
  rintro D σ H ⟨ρ,fr,d,E,q,k⟩
  refine ⟨ρ,fr,_,E,q,fun y s H' ρ' E' q' => ?_⟩
  obtain ⟨⟨l0,h0⟩,q'⟩:=q'
  obtain ⟨p,ws,hv,hp,_⟩:=yP E' h0
  refine ⟨.ref p,hv,ρ',_,_,E',q',fun z s2 H2 ρ2 E2 q2 => ?_⟩
  split at q2
  · rename_i l key hb hk
    obtain ⟨R,hx1,hx2⟩:=E2.two
    obtain ⟨p',ws',hv',hp',hl,hput⟩:=yP (E2.drop.drop) hb
    rw [hv] at hv'
    cases hv'
    cases vC hx2 hk
    exact ⟨p,_,rfl,DPut.k hp' (by rw [hl.len]; have:=jD; omega),k.nx σ _ _ rfl (hput _ _ (aEq hl hx1)) q2.2⟩
  · exact q2.elim
end
def eI (N:List Str) (ds:List Dx):En:=ds.map (fun d=>.v (.tr d)) ++ List.replicate (N.length - ds.length) .un
abbrev aIs (Q:Sv→Prop):XD:=⟨fun _=>Q (.tr .non),fun s _=>Q s,fun _=>False,fun _=>False⟩
theorem hk_ {F:Fm} {H:Hp} (R0:Rep F [] H) {m:Nat}:∀ {ds:List Dx} {vs:List V},All2 (IsX (F.vis H)) ds vs→Rep F ((ds.map (fun d=>Sl.v (.tr d)) ++ List.replicate m Sl.un).zip (vs.map some ++ List.replicate m none)) H
  | [], _, h => by
    rw [show _=[] from h]
    simp only [bM,aY]
    rw [List.zip_replicate,Nat.min_self]
    have:=R0.addUs m
    simpa using this
  | d :: ds, _, ⟨v, vr, e, h1, h2⟩ => by
    subst e
    have R:=hk_ (m:=m) R0 h2
    simp only [aP,bK,cG]
    refine R.add (h1.to fun b o hb=>bS.mpr ⟨fun z => ?_,hb⟩)
    obtain ⟨r,hr,hb⟩:=List.mem_flatMap.mp z
    have:∀ {ds:List Dx} {vs:List (Option V)} {r:Rw},r∈((ds.map (fun d=>Sl.v (.tr d)) ++ List.replicate m Sl.un).zip vs)→jC r=[]:=by
      intro ds vs r hr
      obtain ⟨a,b⟩:=r
      have:=(List.of_mem_zip hr).1
      rcases bZ.mp this with h | h
      · obtain ⟨d,_,rfl⟩:=cN.mp h; rfl
      · rw [(iL.mp h).2]; rfl
    rw [this hr] at hb
    cases hb
theorem uD {H Hs:Hp} {sub:Same Hs H} {nb:∀ b∈([]:List Addr),Hs b=none} {ib:∀ b∈([]:List Addr),∃ o,H b=some o} {P:List Rw} {H':Hp} {s:Sv} {v:V} (R:Rep ⟨H,Hs,[],sub,nb,ib⟩ ((.v s,some v) :: P) H'):Same H H'∧aAp Hs H H' s v:=by
  refine ⟨fun b o h=>R.kp b o h (by simp),?_⟩
  match s with
  | .tr d =>
    obtain ⟨v',e,h⟩:=R.atT
    cases e
    exact h.to w_
  | .ol l =>
    obtain ⟨a,vs,e,h1,h2⟩:=R.atL
    cases e
    exact ⟨a,vs,rfl,R.fr _ aB a (aO.mpr rfl),h1,h2.imp fun _ _ z=>z.to (oJ fun c hc=>by rw [aO.mp hc]; exact aB)⟩
  | .od l =>
    obtain ⟨a,vs,e,h1,h2⟩:=R.atD
    cases e
    exact ⟨a,vs,rfl,R.fr _ aB a (aO.mpr rfl),h1,h2.imp fun _ _ z=>z.to (oJ fun c hc=>by rw [aO.mp hc]; exact aB)⟩
  | .ow o =>
    have hn:=R.nd
    rw [ci_] at hn
    obtain ⟨x,e,h⟩:=R.ok _ aB
    cases e
    refine ⟨(gG.mp hn).1,fun a ha=>R.fr _ aB a ha,OwOk.mono (.of (oJ fun c hc => ?_)) o v (fun _ _=>rfl) h⟩
    rw [ci_]
    exact bH _ hc
theorem jU {P:Program} {w:World} {K:dH} {mg:gO} {base:Heap} {x:Str} {st:Stmt} {f:Addr} {fd:FuncData} {N ps:List Str} {k:Nat} {g:GC} (Fn:Fun K x x st f fd) (S:FnScope N ps (aQ st)) (hlen:∀ ds Q,g ds Q→ds.length=ps.length) (hN:ps.length≤N.length)
    (hbody:∀ (cdv:Value) (A:Around) (outer:List Env) (s:Shared) (H:Hp) (E:XK),Room k (A.deeper (PyProof.Rows.envOfC x (aQ st) s.heap.objs.size f cdv)) →
      ∃ G,XSs (nB CX0 P w K mg base N x (aQ st) f cdv A outer s H E).nox cC (iJ st) G∧∀ ds Q,g ds Q→G (eI N ds) (aIs Q)):FnOk P w K mg base CX0 (k + 1) f fd ps (spX g):=by
  refine Fn.ok S (fun vs H Q E h => ?_) (fun cdv A outer s H vs Q E hr h => ?_)
  · obtain ⟨Hs, ds, Qx, h1, h2, h3, _⟩ := h
    rw [h2.len]
    exact hlen ds Qx h3
  obtain ⟨Hs,ds,Qx,h1,h2,h3,h4⟩:=h
  obtain ⟨G,hG,hq⟩:=hbody cdv A outer s H E hr
  have hl:=hlen ds Qx h3
  refine ⟨_,hG ⟨H,Hs,[],h1,by simp,by simp⟩,eI N ds,[],aIs Qx,⟨?_,?_⟩,hq ds Qx h3,⟨fun σ' H' ρ' _ E' q => ?_,fun v s σ' H' ρ' _ E' q => ?_,fun _ _ _ _ _ q=>q.elim,fun _ _ _ _ _ q=>q.elim⟩⟩
  · unfold eI L2.start
    simp only [aI,aE,aG]
    rw [h2.len]
  · rw [cR]
    have hv:(Fm.vis ⟨H,Hs,[],h1,by simp,by simp⟩ H)=ext Hs H H:=rfl
    have R0:Rep ⟨H,Hs,[],h1,by simp,by simp⟩ [] H:=⟨List.nodup_nil,fun r hr=>by simp at hr,fun r hr=>by simp at hr,fun b o h _=>h,fun b hb=>by simp at hb⟩
    unfold eI L2.start
    rw [h2.len]
    refine hk_ R0 (h2.imp fun _ _ z=>z.to fun b o hb => ?_)
    cases q:H b with
    | none=>rw [h1 _ _ hb] at q; cases q
    | some u=>exact (qP q).trans hb
  · have R := E'.rep.add (d := .non) (v := .non) IsX.of_non
    obtain ⟨e1,e2⟩:=uD R
    exact h4 _ _ _ e1 e2 q
  · obtain ⟨e1, e2⟩ := uD E'.front
    exact h4 _ _ _ e1 e2 q
end Lf
namespace L2
open PySem
def aLx (t:TE):TE:=fun σ H Q => ∃ a kvs,H a=some (.dK kvs)∧∀ o,t σ (upd H a (.frz o (.dK kvs))) fun v H'=>H' a=some (.frz o (.dK kvs))∧Q v (upd H' a (.dK kvs))
theorem aJc {X:Cx} {e:Expr} {t:TE} (h:PE X e t):PE X e (aLx t):=by
  intro pins s σ H Q I ⟨a,kvs,ha,q⟩
  exact aOe h pins s σ H Q I ⟨a,kvs,ha,fun o v z=>(by have:=I.base.frzs a o v z; rw [ha] at this; cases this),q⟩
end L2
namespace Lf
open PySem L2
section
variable {F:Fm} {P:List Rw} {H H':Hp} {a:Addr} {kvs:List (Key×V)} {o:Obj}
theorem nem {b a:Addr} {B:List Addr} (h:b∈B) (h':a∉B):b≠a:=fun z=>h' (by rw [← z]; exact h)
def Fm.fz (F:Fm) (a:Addr) (o:Obj) (kvs:List (Key×V)) (ha:a∉F.B):Fm where
  H0:=upd F.H0 a (.frz o (.dK kvs))
  Hs:=upd F.Hs a (.frz o (.dK kvs))
  B:=F.B
  sub:=fun b u h=>by
    by_cases e:b=a
    · subst e; rw [cJ] at h ⊢; exact h
    · rw [fX e] at h ⊢; exact F.sub _ _ h
  nb:=fun b hb=>by rw [fX (nem hb ha)]; exact F.nb b hb
  ib:=fun b hb=>by rw [fX (nem hb ha)]; exact F.ib b hb
theorem aSl (h:F.vis H a=some (.dK kvs)):a∉F.B:=fun hB=>by
  obtain ⟨u,hu⟩:=F.ib a hB
  have:=(qP hu).symm.trans h
  rw [F.nb a hB] at this
  cases this
theorem aDr {F:Fm} {ha:a∉F.B} {b:Addr} {H H':Hp} (hb:b≠a) (e:H' b=H b):(F.fz a o kvs ha).vis H' b=F.vis H b:=by
  have e1:(F.fz a o kvs ha).H0 b=F.H0 b:=fX hb
  have e2:(F.fz a o kvs ha).Hs b=F.Hs b:=fX hb
  show ext _ _ _ b=ext _ _ _ b
  unfold ext
  rw [e1,e2,e]
theorem Rep.fzD (R:Rep F P H) (hv:F.vis H a=some (.dK kvs)) (hno:a∉cF P) (ha:a∉F.B):Rep (F.fz a o kvs ha) P (upd H a (.frz o (.dK kvs))):=by
  refine ⟨R.nd,fun r hr=>(R.ok r hr).mono (fun b u hb => ?_) fun b hb=>fX fun z=>hno (z ▸ dx_ hr hb),fun r hr b hb => ?_,fun b u h1 h2 => ?_,fun b hb => ?_⟩
  · have hb' := bS.mp hb
    by_cases e:b=a
    · subst e
      rw [hv] at hb'
      cases hb'.2
      refine .inr ⟨o,kvs,.inl ⟨rfl,bS.mpr ⟨hb'.1,?_⟩⟩⟩
      exact (qP (show (F.fz b o kvs ha).H0 b=some (.frz o (.dK kvs)) from cJ)).trans cJ
    · exact .inl (bS.mpr ⟨hb'.1,by rw [aDr e (fX e)]; exact hb'.2⟩)
  · have hba : b ≠ a := fun z => hno (z ▸ dx_ hr hb)
    have:=R.fr r hr b hb
    unfold FrOk at this ⊢
    split at this <;> simp_all [Fm.fz,fX]
  · by_cases e : b = a
    · subst e
      have:some (HO.frz o (.dK kvs))=some u:=cJ.symm.trans h1
      rw [cJ]; exact this
    · rw [fX e]
      exact R.kp b u ((fX e).symm.trans h1) h2
  · obtain ⟨u, hu⟩ := R.lv b hb
    exact ⟨u,by rw [fX (nem hb ha)]; exact hu⟩
theorem Rep.thD {ha:a∉F.B} (R:Rep (F.fz a o kvs ha) P H) (hv:F.H0 a=none∨(F.H0 a=some (.dK kvs)∧F.Hs a=some (.dK kvs))):H a=some (.frz o (.dK kvs))∧Rep F P (upd H a (.dK kvs)):=by
  have hk:H a=some (.frz o (.dK kvs)):=R.kp a _ cJ ha
  have hno:a∉cF P:=fun z=>by
    obtain ⟨r,hr,e⟩:=List.mem_flatMap.mp z
    have:=R.fr r hr a e
    rcases this.or with this | this
    · exact ha this
    · have h2 : some (HO.frz o (.dK kvs)) = none := cJ.symm.trans this
      cases h2
  refine ⟨hk,R.nd,fun r hr=>(R.ok r hr).mono (fun b u hb => ?_) fun b hb=>fX fun z=>hno (z ▸ dx_ hr hb),fun r hr b hb => ?_,fun b u h1 h2 => ?_,fun b hb => ?_⟩
  · have hb' := bS.mp hb
    by_cases e:b=a
    · subst e
      have hu:(F.fz b o kvs ha).vis H b=some (.frz o (.dK kvs)):=(qP (show (F.fz b o kvs ha).H0 b=some (.frz o (.dK kvs)) from cJ)).trans cJ
      rw [hu] at hb'
      cases hb'.2
      refine .inr ⟨o,kvs,.inr ⟨rfl,bS.mpr ⟨hb'.1,?_⟩⟩⟩
      rcases hv with q | ⟨q1,q2⟩
      · exact (qL q).trans (by rw [cJ]; rfl)
      · exact (qP q1).trans q2
    · exact .inl (bS.mpr ⟨hb'.1,by rw [← aDr (F:=F) (o:=o) (kvs:=kvs) (ha:=ha) e (fX (o:=.dK kvs) e).symm]; exact hb'.2⟩)
  · have hba : b ≠ a := fun z => hno (z ▸ dx_ hr hb)
    have:=R.fr r hr b hb
    unfold FrOk at this ⊢
    split at this <;> simp_all [Fm.fz,fX]
  · by_cases e : b = a
    · subst e
      rcases hv with q | ⟨q1,q2⟩
      · rw [q] at h1; cases h1
      · rw [q1] at h1; rw [cJ]; exact h1
    · rw [fX e]
      exact R.kp b u ((fX e).trans h1) h2
  · obtain ⟨u, hu⟩ := R.lv b hb
    exact ⟨u,by rw [fX (nem hb ha)]; exact hu⟩
end
def xM:Key→Dx
  | .inl i=>.int i
  | .inr x=>.str x
theorem aKh {H:Hp} (k:Key):IsX H (xM k) (kV k):=by cases k <;> simp only [xM,kV,IsX]
def lD (l:List (Key×Dx)):List Dx:=l.map fun p=>xM p.1
theorem iq_ {l:List (Key×Dx)}:(lD l).length=l.length:=aE _
theorem xP {F:Fm} {a:Addr} {o:Obj} {kvs:List (Key×V)} {l:List (Key×Dx)} {G:Hp} (h:∀ P H,Rep F P H→H a=some (.frz o (.dK kvs))) (hl:All2 (KvX G) l kvs):ItX F (Itd a o kvs) [] (lD l) where
  go:=fun P H i d R hd=>⟨h _ _ R,by have:=(aK.mp hd).1; rw [iq_] at this; rw [hl.len]; exact this⟩
  stop:=fun P H i R hi=>⟨h _ _ R,by rw [iq_] at hi; rw [hl.len]; exact hi⟩
  yld:=fun P H i d x H' R hd q=>by
    obtain ⟨rfl,kv,q1,rfl⟩:=q
    obtain ⟨p,h1,h2⟩:=hl.get q1
    unfold lD at hd
    rw [cE,h1] at hd
    cases hd
    show Rep F ((Sl.v (Sv.tr (xM p.1)),some (kV kv.1)) :: ([] ++ P)) H'
    rw [h2.1]
    exact R.add (aKh _)
def tXe (t:XT):TE:=fun σ H Q => ∃ F,tX F t σ H Q
def aDy (t:XC):TT:=fun σ H Q => ∃ F,tXc F t σ H Q
theorem XE.ex {X:Cx} {e:Expr} {t:XT} (h:XE X cC e t):PE X e (tXe t):=fun pins s σ H D I ⟨F,q⟩=>h F pins s σ H D I q
theorem XCs.ex {X:Cx} {e:List Expr} {t:XC} (h:XCs X cC e t):PCs X e (aDy t):=fun pins s σ H D I ⟨F,q⟩=>h F pins s σ H D I q
def aZa (i:Nat) (gx:XG) (G:XS):XS:=fun ρ D=>match ρ[i]? with
  | some (.v s)=>(match s.d with | .dic l=>iY gx G D (lD l) (ρ.set i (.v (.tr s.d))) | _=>False)
  | _=>False
def zQ (i n:Nat) (outs:List Nat) (gx:XG) (tc:XC) (te:XT):XT:=fun ρ Q=>match ρ[i]? with
  | some (.v s)=>(match s.d with | .dic l=>l.length≤1000000∧eW n gx tc te (fun acc cs=>Q (.ol acc) (back outs cs (ρ.set i (.v (.tr s.d))))) (lD l) (hY outs (ρ.set i (.v (.tr s.d)))) [] | _=>False)
  | _=>False
theorem aBe {F:Fm} {ρ:En} {σ:St} {fr:List Rw} {H:Hp} {i:Nat} {s:Sv} {l:List (Key×Dx)} (E:EOk F ρ σ fr H) (h:ρ[i]? = some (.v s)) (hs:s.d=.dic l) :
    ∃ a ws,σ[i]? = some (some (.ref a))∧EOk F (ρ.set i (.v (.tr s.d))) σ fr H∧Rd (hid (cF ((ρ.set i (.v (.tr s.d))).zip σ ++ fr)) (F.vis H)) a (.dK ws)∧All2 (KvX (hid (cF ((ρ.set i (.v (.tr s.d))).zip σ ++ fr)) (F.vis H))) l ws:=by
  obtain ⟨v,hv,hi,R⟩:=de_ E h
  have R2:=R.frz
  have E2:=oC E.len hi hv R2
  obtain ⟨w,e,hx⟩:=R2.atT
  subst e
  rw [hs] at hx
  have hO:(cF ((ρ.set i (.v (.tr s.d))).zip σ ++ fr)).Perm (cF ((.v (.tr s.d),some w) :: ((ρ.zip σ).eraseIdx i ++ fr))):=((dc_ E.len hi hv).append_right fr).flatMap_right _
  rw [dh_ rfl] at hO
  have hx2:=hx.to (oJ fun a ha=>hO.mem_iff.mp ha)
  obtain ⟨a,ws,rfl,h1,h2⟩:=hx2.dic_eq
  exact ⟨a,ws,hv,E2,h1,h2⟩
theorem aNh {F:Fm} {P:List Rw} {H:Hp} {a:Addr} {kvs:List (Key×V)} (R:Rep F P H) (h:F.vis H a=some (.dK kvs)):F.H0 a=none∨(F.H0 a=some (.dK kvs)∧F.Hs a=some (.dK kvs)):=by
  cases q:F.H0 a with
  | none=>exact .inl rfl
  | some u =>
    have h1:F.Hs a=some (.dK kvs):=(qP q).symm.trans h
    have h2:=F.sub _ _ h1
    rw [q] at h2
    exact .inr ⟨h2,h1⟩
theorem aLb {F:Fm} {H:Hp} {a:Addr} {o:Obj} {kvs:List (Key×V)} (h:F.vis H a=some (.frz o (.dK kvs))):∀ P H,Rep F P H→H a=some (.frz o (.dK kvs)):=fun P H2 R=>by
  cases q:F.H0 a with
  | none =>
    have h1:=(qL q).symm.trans h
    rw [nY h1] at h1
    cases h1
  | some u =>
    have h1:F.Hs a=some (.frz o (.dK kvs)):=(qP q).symm.trans h
    exact R.kp a _ (F.sub _ _ h1) fun hB=>by rw [F.nb a hB] at h1; cases h1
section
variable {X:Cx} {Ex:ExT} {st:Stmt} {i n:Nat} {g:TG} {gx:XG} {G:XS} {outs:List Nat} {tc:XC} {te:XT}
theorem aLl (hgx:GX n g gx) (hno:outs.Nodup) {F:Fm}:∀ σ H Q,tX F (zQ i n outs gx tc te) σ H Q→rL n outs (aGo (kA i)) g (aDy tc) (tXe te) σ H Q∨aLx (rL n outs (aGo (kA i)) g (aDy tc) (tXe te)) σ H Q:=by
  rintro σ H Q ⟨ρ,fr,Qx,E,q,k⟩
  unfold zQ at q
  split at q
  · rename_i s hs
    split at q
    · rename_i l hl
      obtain ⟨a,ws,hv,E2,hr,hk⟩:=aBe E hs hl
      rw [hl] at E2 hr hk
      rw [← hl] at E2
      have q':(lD l).length≤1000000∧_:=⟨by rw [iq_]; exact q.1,q.2⟩
      rcases hr with hr | ⟨o,hr⟩
      · have hr' := bS.mp hr
        have hB:=aSl hr'.2
        have hor:=aNh E2.rep hr'.2
        refine .inr ⟨a,ws,E2.rep.vis _ _ hr'.2,fun o=>⟨.ref a,hv,a,o,ws,rfl,cJ,?_⟩⟩
        have E3:EOk (F.fz a o ws hB) (ρ.set i (.v (.tr s.d))) σ ([] ++ fr) (upd H a (.frz o (.dK ws))):=⟨E2.len,E2.rep.fzD hr'.2 (by rw [hl]; exact hr'.1) hB⟩
        refine iy_ (F:=F.fz a o ws hB) (Q:=fun v H'=>H' a=some (.frz o (.dK ws))∧Q v (upd H' a (.dK ws))) (tcT:=aDy tc) (teT:=tXe te) hgx hno (fun _ _ _ z=>⟨_,z⟩) (fun _ _ _ z=>⟨_,z⟩) (fun v s H' ρ' h2 h3 => ?_) E3 (xP (fun P H R=>R.kp a _ cJ hB) hk) q'
        obtain ⟨e1,e2⟩:=h2.rep.thD hor
        exact ⟨e1,k v s _ ρ' ⟨h2.len,e2⟩ h3⟩
      · have hr' := bS.mp hr
        refine .inl ⟨.ref a,hv,a,o,ws,rfl,E2.rep.vis _ _ hr'.2,?_⟩
        exact iy_ (F:=F) (Q:=Q) (tcT:=aDy tc) (teT:=tXe te) hgx hno (fun _ _ _ z=>⟨_,z⟩) (fun _ _ _ z=>⟨_,z⟩) k (row:=[]) E2 (xP (aLb hr'.2) hk) q'
    · exact q.elim
  · exact q.elim
theorem oP {dsc scope:Scope} {tgs N' N:List Str} {x:Str} {px pos:Pos} {tg elt:Expr} {ifs:List Expr} (S:CompScope dsc scope N tgs outs N') (hv:PE X (.Name x px) (kA i)) (hg:∀ cl C s H ex,PG (eS X N' scope cl C s H ex) tg g) (hgx:GX tgs.length g gx) (hgt:Tgt tgs.length g)
    (hcs:∀ cl C s H ex,XCs (eS X N' scope cl C s H ex) cC ifs tc) (he:∀ cl C s H ex,XE (eS X N' scope cl C s H ex) cC elt te) (hno:outs.Nodup:=by decide) (hN0:X.N=N:=by rfl) (hsc:X.env.scope=dsc:=by rfl) (hc:X.calm=true:=by rfl) (hs:∀ y,foldedSetIterable (.Name x px) X.env y=pure y:=by intro _; rfl) :
    XE X Ex (.ListComp elt [⟨tg,.Name x px,ifs,0⟩] scope pos) (zQ i tgs.length outs gx tc te):=fun F =>
  (PE.or (nX S (t4 hv) hg hgt (fun a b c d e=>(hcs a b c d e).ex) (fun a b c d e=>(he a b c d e).ex) hN0 hsc hc hs) (aJc (nX S (t4 hv) hg hgt (fun a b c d e=>(hcs a b c d e).ex) (fun a b c d e=>(he a b c d e).ex) hN0 hsc hc hs))).weak (aLl hgx hno)
end
theorem aCq {X:Cx} (n m:Ty):CallR X (.builtin "isinstance") (fun xs H Q => ∃ x d p,xs=[x,.ref p]∧IsX H d x∧sA d∧H p=some (.tup [.ty n.nm,.ty m.nm])∧Q (.bl (isT n d || isT m d)) H):=by
  intro pins s σ H xs us Q I r h
  obtain ⟨x,d,p,rfl,hx,hns,hp,q⟩:=h
  have e:PySem.W.kitAny X.K (.type (tyN d)) ([n.nm,m.nm].map Value.type)=some (isT n d || isT m d):=aGh (vB hns) (vB hns)
  have gen:∀ {t:Value},TyOf X.K H x t→t=.type (tyN d)→wpAny (model X.prog X.w) X.A (call (.builtin "isinstance") us) (EP X pins σ Q) X.xe s:=fun ty et =>
    vV pins s σ H _ us Q I r ⟨x,p,_,_,[n.nm,m.nm],rfl,ty,hp,by rw [et]; exact e,q⟩
  cases d with
  | non=>cases hx.non_eq; exact gen .non rfl
  | bl _=>cases hx.bl_eq; exact gen (.bl _) rfl
  | int _=>cases hx.int_eq; exact gen (.int _) rfl
  | str _=>cases hx.str_eq; exact gen (.str _) rfl
  | tup _=>obtain ⟨a,vs,rfl,h1,_⟩:=hx.tup_eq; exact gen (.tup h1) rfl
  | lst _=>obtain ⟨a,vs,rfl,h1,_⟩:=hx.lst_eq; exact gen (.lst h1) rfl
  | dic _ =>
    obtain ⟨a,vs,rfl,h1,_⟩:=hx.dic_eq
    rcases h1 with h1 | ⟨ob,h1⟩
    · exact gen (.dK h1) rfl
    · obtain ⟨u, w', rfl, r1, r2⟩ := wI r
      cases r2
      obtain ⟨_,its,rv,o,h2,h3,n',h4⟩:=(show ObjOk X.prog X.w H s.heap p (.tup ([n.nm,m.nm].map V.ty)) from I.hok p _ hp)
      have ei:=zT rv
      subst ei
      obtain ⟨cls,dd,data,sl⟩:=o
      dsimp only at h3 h4
      subst h3 h4
      have fin:∀ tk,EP X pins σ Q (.bool (isT n (.dic _) || isT m (.dic _))) { s with toks:=tk }:=fun tk=>⟨.bl _,H,I.tok _,rfl,q⟩
      cases (show u=Value.ref a from r1)
      obtain ⟨_,_,_,_,_,pp⟩:=(show ObjOk X.prog X.w H s.heap a (.frz ob (.dK vs)) from I.hok a _ h1)
      obtain ⟨o,es,ep,g1,g2,_⟩:=pp
      exact PySem.W.kia_tup PySem.W.kitx_dict I.kIn ⟨o,g1,g2.1⟩ h2 e (fun z=>nomatch z) fin
  | scr _ _=>exact hns.elim
  | ins _ _=>exact hns.elim
  | exc _=>exact hns.elim
def aWy (n m:Ty) (t:XT):XT:=fun ρ Q=>t ρ fun s ρ'=>match s.d with
  | .scr _ _=>False
  | .ins _ _=>False
  | .exc _=>False
  | d=>Q (.tr (.bl (isT n d || isT m d))) ρ'
theorem oO {X:Cx} {Ex:ExT} {e:Expr} {t:XT} {nm nm2:Str} {p q q2 q3 pos:Pos} {j:Nat} (n m:Ty) (hm:X.mg "isinstance" = none) (h:XE X Ex e t) (hT:PE X (.Tuple [.Name nm q,.Name nm2 q2] j q3) (aSo (kX (tC (.ty n.nm)) (kX (tC (.ty m.nm)) zV)))) (hg:Gl X "isinstance" := by rfl)
    (he:starEach [e,.Tuple [.Name nm q,.Name nm2 q2] j q3] X.env=(false,eval e X.env) :: starEach [.Tuple [.Name nm q,.Name nm2 q2] j q3] X.env:=by rfl) (he2:starEach [.Tuple [.Name nm q,.Name nm2 q2] j q3] X.env=(false,eval (.Tuple [.Name nm q,.Name nm2 q2] j q3) X.env) :: starEach [] X.env:=by rfl)
    (hpl:(backTo pos (starEach [.Tuple [.Name nm q,.Name nm2 q2] j q3] X.env)).any (·.1)=false:=by rfl):XE X Ex (.Call (.Name "isinstance" p) [e,.Tuple [.Name nm q,.Name nm2 q2] j q3] [] pos) (aWy n m t):=fun F =>
  (hm_ (aCq n m) hg hm gp_ (jG (h F) (jG hT nF he2) he) (by decide) (by decide) he hpl).weak fun σ H Q=>by
    rintro ⟨ρ,fr,Qx,E,t,k⟩
    refine ⟨ρ,fr,_,E,t,fun v s H' ρ' E' q=>⟨by have:=jD; show 2≤sizeLine; omega,fun p hp => ?_⟩⟩
    obtain ⟨R,hx⟩:=E'.one
    have e:Same H' (upd H' p (.tup [.ty n.nm,.ty m.nm])):=dn_ hp _
    have R2:=R.grow e
    generalize hd:s.d=d at q hx
    cases d with
    | scr _ _=>exact q.elim
    | ins _ _=>exact q.elim
    | exc _=>exact q.elim
    | _=>exact ⟨v,_,p,rfl,(hx.to R.hv).to e,trivial,cJ,k _ _ _ ρ' (EOk.back E'.len (R2.add (IsX.of_bl _))) q⟩
def lU (g g':G2) (ta tb tc:XT):XT:=fun ρ Q=>ta ρ fun a ρ1=>tb ρ1 fun b ρ2=>g a.d b.d fun s=>match s with
  | .tr (.bl k)=>if k=true then tc ρ2 fun c ρ3=>g' b.d c.d fun s'=>Q s' ρ3 else Q (.tr (.bl false)) ρ2
  | _=>False
theorem wM {F:Fm} {r r':R2} {g g':G2} {ta tb tc:XT} (hx:OpX r g) (hx':OpX r' g'):∀ σ H Q,tX F (lU g g' ta tb tc) σ H Q→zW r r' (tX F ta) (tX F tb) (tX F tc) σ H Q:=by
  rintro σ H Q ⟨ρ,fr,Qx,E,t,k⟩
  refine ⟨ρ,fr,_,E,t,fun v s H' ρ' E' t'=>⟨ρ',_,_,E',t',fun w s2 H2 ρ2 E2 t2 => ?_⟩⟩
  obtain ⟨R,h1,h2⟩:=E2.two
  have E2b:EOk F ρ2 σ ((.v s2,some w) :: fr) H2:=⟨E2.len,((E2.rep.perm (List.Perm.append_left _ (.swap _ _ _))).perm mX).tail.perm (.refl _)⟩
  have E2c:EOk F ρ2 σ ((.v (.tr s2.d),some w) :: fr) H2:=EOk.back E2.len (E2b.front.frz)
  obtain ⟨Rb,hb⟩:=E2c.one
  have h1b:IsX (hid (cF (ρ2.zip σ ++ (.v (.tr s2.d),some w) :: fr)) (F.vis H2)) s.d v:=h1.to (oJ fun c hc=>by
    have:(cF ((.v (.tr s2.d),some w) :: (ρ2.zip σ ++ fr))).Perm (cF (ρ2.zip σ ++ (.v (.tr s2.d),some w) :: fr)):=mX.symm.flatMap_right _
    have:=this.mem_iff.mpr hc
    rw [dh_ rfl] at this
    exact this)
  have h2b:IsX (hid (cF (ρ2.zip σ ++ (.v (.tr s2.d),some w) :: fr)) (F.vis H2)) s2.d w:=hb.to (oJ fun c hc=>by
    have:(cF ((.v (.tr s2.d),some w) :: (ρ2.zip σ ++ fr))).Perm (cF (ρ2.zip σ ++ (.v (.tr s2.d),some w) :: fr)):=mX.symm.flatMap_right _
    have:=this.mem_iff.mpr hc
    rw [dh_ rfl] at this
    exact this)
  refine hx F (ρ2.zip σ ++ (.v (.tr s2.d),some w) :: fr) H2 s.d s2.d v w _ _ E2c.rep h1b h2b t2 fun z s3 H3 R3 q => ?_
  split at q
  · rename_i kb
    obtain ⟨z',e,hz⟩:=R3.atT
    cases e
    cases hz.bl_eq
    refine ⟨kb,rfl,?_⟩
    have E3:EOk F ρ2 σ ((.v (.tr s2.d),some w) :: fr) H3:=⟨E2.len,R3.tail⟩
    cases kb with
    | true =>
      refine ⟨ρ2,_,_,E3,q,fun u s4 H4 ρ4 E4 q4 => ?_⟩
      obtain ⟨R5,h5,h6⟩:=E4.two
      exact hx' F _ H4 s2.d s4.d w u Q (fun z=>Qx z ρ4) R5 h5 h6 q4 fun v' s' H' R' q=>k v' s' H' ρ4 (EOk.back E4.len R') q
    | false=>exact k _ _ H3 ρ2 (EOk.back E2.len (E3.drop.rep.add (IsX.of_bl _))) q
  · exact q.elim
section
variable {X:Cx} {Ex:ExT} {a b c e:Expr} {pos:Pos} {r r':R2} {g g':G2} {ta tb tc te:XT} {op op':CmpOp}
theorem aDm (ho:OpR X (compareOp op) r) (hx:OpX r g) (ho':OpR X (compareOp op') r') (hx':OpX r' g') (ha:XE X Ex a ta) (hb:XE X Ex b tb) (hc:XE X Ex c tc) (hm:lastMarks [op,op'] [b,c]=false:=by with_unfolding_all rfl):XE X Ex (.Compare a [op,op'] [b,c] pos) (lU g g' ta tb tc):=fun F=>(aFa ho ho' (ha F) (hb F) (hc F) hm).weak (wM hx hx')
theorem aDj (ho:OpR X (compareOp op) r) (hx:OpX r g) (ho':OpR X (compareOp op') r') (hx':OpX r' g') (ha:XE X Ex a ta) (hb:XE X Ex b tb) (hc:XE X Ex c tc) (hm:lastMarks [op,op'] [b,c]=false:=by with_unfolding_all rfl):XTe X Ex (.Compare a [op,op'] [b,c] pos) (xB (lU g g' ta tb tc)):=fun F=>(aEt ho ho' (ha F) (hb F) (hc F) hm).weak (nP (wM hx hx'))
end
abbrev XO:=En→(Option Int→En→Prop)→Prop
def tXo (F:Fm) (t:XO):TO:=fun σ H Q => ∃ ρ fr Qx,EOk F ρ σ fr H∧t ρ Qx∧∀ b H' ρ',EOk F ρ' σ fr H'→Qx b ρ'→Q b H'
def XOp (X:Cx) (Ex:ExT) (e:Option Expr) (t:XO):Prop := ∀ F,[OkF X Ex F]→PO X e (tXo F t)
def xoN:XO:=fun ρ Q=>Q none ρ
def xoS (t:XT):XO:=fun ρ Q=>t ρ fun s ρ'=>match s.d with
  | .int i=>Q (some i) ρ'
  | _=>False
theorem m7 {X:Cx} {Ex:ExT}:XOp X Ex none xoN:=fun F _ pins s σ H Q I h=>by
  obtain ⟨ρ,fr,Qx,E,t,k⟩:=h
  exact nW pins s σ H Q I (k none H ρ E t)
theorem nK {X:Cx} {Ex:ExT} {e:Expr} {t:XT} (h:XE X Ex e t):XOp X Ex (some e) (xoS t):=fun F _ pins s σ H Q I hq=>by
  refine nV (h F) pins s σ H Q I ?_
  obtain ⟨ρ,fr,Qx,E,t,k⟩:=hq
  refine ⟨ρ,fr,_,E,t,fun v s H' ρ' E' q => ?_⟩
  split at q
  · rename_i i hi
    obtain ⟨R,hx⟩:=E'.one
    rw [hi] at hx
    cases hx.int_eq
    exact ⟨i,rfl,k (some i) H' ρ' E'.drop q⟩
  · exact q.elim
def nE {α:Type} (xs:List α) (lo hi:Option Int):List α:=(xs.drop (HT.sIx xs.length 0 lo)).take (HT.sIx xs.length xs.length hi - HT.sIx xs.length 0 lo)
def slX (a:Dx) (lo hi:Option Int) (Q:Sv→Prop):Prop:=match a with
  | .lst l=>Q (.ol (nE l lo hi))
  | .str z=>z.length≤1000000∧Q (.tr (.str (Txt.slice z lo hi)))
  | _=>False
def xSl (t:XT) (lo hi:XO):XT:=fun ρ Q=>t ρ fun a ρ1=>lo ρ1 fun l ρ2=>hi ρ2 fun h ρ3=>slX a.d l h fun s=>Q s ρ3
theorem oN {X:Cx} {Ex:ExT} {e:Expr} {lo hi:Option Expr} {p2 pos:Pos} {t:XT} {tl th:XO} (K:dH) (he:XE X Ex e t) (hl:XOp X Ex lo tl) (hh:XOp X Ex hi th) (h:X.K=K:=by rfl):XE X Ex (.Subscript e (.Slice lo hi none p2) pos) (xSl t tl th):=fun F =>
  (hl_ (SlR.or (aEd K h) tU) (he F) (hl F) (hh F)).weak fun σ H Q=>by
    rintro ⟨ρ,fr,Qx,E,t,k⟩
    refine ⟨ρ,fr,_,E,t,fun v s H' ρ' E' q=>⟨ρ',_,_,E',q,fun l H2 ρ2 E2 q2=>⟨ρ2,_,_,E2,q2,fun u H3 ρ3 E3 q3 => ?_⟩⟩⟩
    obtain ⟨R,hx⟩:=E3.one
    unfold slX at q3
    split at q3
    · rename_i m hm
      rw [hm] at hx
      obtain ⟨a,vs,rfl,h1,h2⟩:=hx.lst_eq
      refine .inl ⟨a,vs,rfl,SqL.of (R.hv _ _ h1),fun p hp=>k _ _ _ ρ3 (EOk.back E3.len (R.newL hp ?_)) q3⟩
      unfold aHi nE
      rw [h2.len]
      exact (h2.drop _).take _
    · rename_i z hz
      rw [hz] at hx
      cases hx.str_eq
      exact .inr ⟨z,rfl,by have:=jD; omega,k _ _ H3 ρ3 (EOk.back E3.len (R.add (IsX.of_str _))) q3.2⟩
    · exact q3.elim
def aSg (t:XT):XT:=fun ρ Q=>t ρ fun s ρ'=>match s.d with
  | .lst l=>Q (.ol l.reverse) ρ'
  | _=>False
theorem aIj {X:Cx} {Ex:ExT} {e:Expr} {t:XT} {k:Nat} {p1 p2 p3 pos:Pos} (he:XE X Ex e t):XE X Ex (.Subscript e (.Slice none none (some (.UnaryOp .USub (.Constant (.int 1) k p1) p2)) p3) pos) (aSg t):=fun F=>(aJa (he F)).weak fun σ H Q=>by
  rintro ⟨ρ,fr,Qx,E,t,k⟩
  refine ⟨ρ,fr,_,E,t,fun v s H' ρ' E' q => ?_⟩
  split at q
  · rename_i m hm
    obtain ⟨R,hx⟩:=E'.one
    rw [hm] at hx
    obtain ⟨a,vs,rfl,h1,h2⟩:=hx.lst_eq
    exact ⟨a,vs,rfl,SqL.of (R.hv _ _ h1),fun p hp=>k _ _ _ ρ' (EOk.back E'.len (R.newL hp h2.rev)) q⟩
  · exact q.elim
def aRg:GC
  | [.lst l],Q=>(∃ bs:List Bool,l=bs.map Dx.bl∧Q (.tr (.bl (bs.all id))))
  | _,_=>False
theorem aAm {G:Hp}:∀ {bs:List Bool} {vs:List V},All2 (IsX G) (bs.map Dx.bl) vs→vs=bs.map V.bl
  | [],_,h=>h
  | b :: bs,_,⟨v,vr,e,h1,h2⟩=>by rw [e,h1.bl_eq,aAm h2]; rfl
theorem pT {G:Hp}:∀ {bs:List Int} {vs:List V},All2 (IsX G) (bs.map Dx.int) vs→vs=bs.map V.int
  | [],_,h=>h
  | b :: bs,_,⟨v,vr,e,h1,h2⟩=>by rw [e,h1.int_eq,pT h2]; rfl
theorem vS {K:dH}:kR (aEo K) aRg:=by
  intro F P H ds xs Q Qx R hs g k
  unfold aRg at g
  split at g
  · obtain ⟨bs, rfl, g⟩ := g
    obtain ⟨x,rfl,hx⟩:=i_ hs
    obtain ⟨a,vs,rfl,h1,h2⟩:=hx.lst_eq
    have:=aAm h2
    subst this
    exact ⟨a,bs,rfl,SqL.of (R.hv _ _ h1),k _ _ H (R.add (IsX.of_bl _)) g⟩
  · exact g.elim
theorem gm_ {X:Cx} (K:dH) (hc:X.calm=true) (h:X.K=K:=by rfl):CallR X (.builtin "all") (aEo K):=by subst h; exact aCs hc
def aFy:GC
  | [.int i,.int j],Q=>Q (.tr (.int (if j > i then j else i)))
  | _,_=>False
def aFx:GC
  | [.int i,.int j],Q=>Q (.tr (.int (if j < i then j else i)))
  | _,_=>False
theorem aLj:kR (fun xs H Q => ∃ i j,xs=[.int i,.int j]∧Q (.int (if j > i then j else i)) H) aFy:=by
  intro F P H ds xs Q Qx R hs g k
  unfold aFy at g
  split at g
  · obtain ⟨x, y, rfl, hx, hy⟩ := k9 hs
    cases hx.int_eq; cases hy.int_eq
    exact ⟨_,_,rfl,k _ _ H (R.add (IsX.of_int _)) g⟩
  · exact g.elim
theorem aLi:kR (fun xs H Q => ∃ i j,xs=[.int i,.int j]∧Q (.int (if j < i then j else i)) H) aFx:=by
  intro F P H ds xs Q Qx R hs g k
  unfold aFx at g
  split at g
  · obtain ⟨x, y, rfl, hx, hy⟩ := k9 hs
    cases hx.int_eq; cases hy.int_eq
    exact ⟨_,_,rfl,k _ _ H (R.add (IsX.of_int _)) g⟩
  · exact g.elim
def u5:GC
  | [.lst l],Q=>(∃ ns:List Int,l=ns.map Dx.int∧ns≠[]∧∀ M,M∈ns→(∀ a∈ns,a≤M)→Q (.tr (.int M)))
  | _,_=>False
theorem vR {K:dH}:kR (aEm K) u5:=by
  intro F P H ds xs Q Qx R hs g k
  unfold u5 at g
  split at g
  · obtain ⟨bs, rfl, g1, g⟩ := g
    obtain ⟨x,rfl,hx⟩:=i_ hs
    obtain ⟨a,vs,rfl,h1,h2⟩:=hx.lst_eq
    have:=pT h2
    subst this
    exact ⟨a,bs,rfl,SqL.of (R.hv _ _ h1),g1,fun M h3 h4=>k _ _ H (R.add (IsX.of_int _)) (g M h3 h4)⟩
  · exact g.elim
theorem ja_ {X:Cx} (K:dH) (hc:X.calm=true) (h:X.K=K:=by rfl):CallR X (.builtin "max") (aEm K):=by subst h; exact aCm hc
theorem hz_ {F:Fm} {ti:XI} {n i:Nat} {g:TG} {gx:XG} {outs:List Nat} {tc:XC} {te:XT} (hgx:GX n g gx) (hno:outs.Nodup):∀ D σ H,tXS F (iX i (jA n outs ti gx tc te)) D σ H→zX (rL n outs (tXi F ti) g (tXc F tc) (tX F te)) (kG i) D σ H:=by
  rintro D σ H ⟨ρ,fr,d,E,q,k⟩
  exact o_ hgx hno σ H _ ⟨ρ,fr,_,E,q,fun v s H' ρ' E' q'=>k.nx _ H' _ bF (iv_ E') q'⟩
def fH (N:List Str) (l:List Dx) (ds:List Dx):En:=.bw l :: (ds.map (fun d=>.v (.tr d)) ++ List.replicate (N.length - (ds.length + 1)) .un)
def fI (Q:Dx→List Dx→Prop) (d:Dx) (ρ:En):Prop:=match (ρ[0]? : Option Sl) with
  | some (Sl.bw l)=>Q d l
  | _=>False
abbrev kL (Q:Dx→List Dx→Prop):XD:=⟨fun ρ=>fI Q .non ρ,fun s ρ=>fI Q s.d ρ,fun _=>False,fun _=>False⟩
theorem aGy {P:Program} {w:World} {K:dH} {mg:gO} {base:Heap} {x:Str} {st:Stmt} {f:Addr} {fd:FuncData} {N ps:List Str} {k:Nat} {g:GB} (Fn:Fun K x x st f fd) (S:FnScope N ps (aQ st)) (hlen:∀ l ds Q,g l ds Q→ds.length + 1=ps.length) (hN:ps.length≤N.length)
    (hbody:∀ (cdv:Value) (A:Around) (outer:List Env) (s:Shared) (H:Hp) (E:XK),Room k (A.deeper (PyProof.Rows.envOfC x (aQ st) s.heap.objs.size f cdv)) →
      ∃ G,XSs (nB CX0 P w K mg base N x (aQ st) f cdv A outer s H E).nox cC (iJ st) G∧∀ l ds Q,g l ds Q→G (fH N l ds) (kL Q)):FnOk P w K mg base CX0 (k + 1) f fd ps (spB g):=by
  refine Fn.ok S (fun vs H Q E h => ?_) (fun cdv A outer s H vs Q E hr h => ?_)
  · obtain ⟨p, ws, l, vr, Hs, ds, Qx, rfl, _, _, _, _, h2, h3, _⟩ := h
    rw [aL,h2.len]
    exact hlen l ds Qx h3
  obtain ⟨p,ws,l,vr,Hs,ds,Qx,rfl,hp,h1,hsp,hl,h2,h3,h4⟩:=h
  obtain ⟨G,hG,hq⟩:=hbody cdv A outer s H E hr
  have hlen':=hlen l ds Qx h3
  have nb:∀ b∈[p],Hs b=none:=fun b hb=>by rw [aO.mp hb]; exact hsp
  have ib:∀ b∈[p],∃ o,H b=some o:=fun b hb=>by rw [aO.mp hb]; exact ⟨_,hp⟩
  have fin:∀ {d:Dx} {v:V} {σ':St} {H':Hp} {ρ':En},EOk ⟨H,Hs,[p],h1,nb,ib⟩ ρ' σ' ((.v (.tr d),some v) :: []) H'→fI Qx d ρ'→Q v H':=fun {d v σ' H' ρ'} E' q=>by
    unfold fI at q
    split at q
    · rename_i l' h0
      obtain ⟨R,hx⟩:=E'.one
      obtain ⟨y,hy,hi,R2⟩:=de_ ⟨E'.len,R⟩ h0
      obtain ⟨a,ws',rfl,h5,h6⟩:=R2.atB
      have ha:a=p:=aO.mp (R2.fr _ aB a (aO.mpr rfl))
      subst ha
      refine h4 d v l' ws' H' (fun b o hb => ?_) h5 (h6.imp fun _ _ z=>z.to (oJ fun c hc=>by rw [aO.mp hc]; exact aB)) (hx.to w_) q
      have hb':b≠a:=fun z=>by rw [z] at hb; unfold xT at hb; rw [if_pos rfl] at hb; cases hb
      rw [fx_ hb'] at hb ⊢
      exact R.kp b o hb fun z=>hb' (aO.mp z)
    · exact q.elim
  refine ⟨_,hG ⟨H,Hs,[p],h1,nb,ib⟩,fH N l ds,[],kL Qx,⟨?_,?_⟩,hq l ds Qx h3,⟨fun σ' H' ρ' _ E' q=>fin (EOk.back E'.len (E'.rep.add (d:=.non) (v:=.non) IsX.of_non)) q,fun v s σ' H' ρ' _ E' q=>fin (EOk.back E'.len E'.front.frz) q,fun _ _ _ _ _ q=>q.elim,fun _ _ _ _ _ q=>q.elim⟩⟩
  · unfold fH L2.start
    simp only [aI,aE,aG,aL]
    rw [h2.len]
    omega
  · have R0 : Rep ⟨H, Hs, [p], h1, nb, ib⟩ [] H := ⟨List.nodup_nil, fun r hr => by simp at hr, fun r hr => by simp at hr, fun b o h _ => h, ib⟩
    have hvis:Same Hs (Fm.vis ⟨H,Hs,[p],h1,nb,ib⟩ H):=fun b o hb=>(qP (h1 _ _ hb)).trans hb
    have R1:=hk_ (m:=N.length - (ds.length + 1)) R0 (h2.imp fun _ _ z=>z.to hvis)
    have hown:cF ((ds.map (fun d=>Sl.v (.tr d)) ++ List.replicate (N.length - (ds.length + 1)) Sl.un).zip (vr.map some ++ List.replicate (N.length - (ds.length + 1)) none))=[]:=by
      unfold cF
      refine List.flatMap_eq_nil_iff.mpr fun r hr => ?_
      obtain ⟨a,b⟩:=r
      rcases bZ.mp (List.of_mem_zip hr).1 with h | h
      · obtain ⟨d,_,rfl⟩:=cN.mp h; rfl
      · rw [(iL.mp h).2]; rfl
    rw [cR]
    have e:(fH N l ds).zip (L2.start N (.ref p :: vr))=(.bw l,some (.ref p)) :: (ds.map (fun d=>Sl.v (.tr d)) ++ List.replicate (N.length - (ds.length + 1)) Sl.un).zip (vr.map some ++ List.replicate (N.length - (ds.length + 1)) none):=by
      unfold fH L2.start
      rw [aP,bK,cG,aL,h2.len]
    rw [e]
    refine ⟨by rw [mL (a:=p) rfl,hown]; simp,fun r hr => ?_,fun r hr a ha => ?_,R1.kp,R1.lv⟩
    · rw [mL (a := p) rfl, hown]
      rcases aF.mp hr with rfl | hr
      · refine ⟨p, ws, rfl, hp, hl.imp fun _ _ z => z.to fun b o hb => bS.mpr ⟨fun z => ?_, hvis _ _ hb⟩⟩
        rw [aO.mp z,hsp] at hb; cases hb
      · refine (R1.ok r hr).mono (.of fun b o hb => ?_) fun _ _ => rfl
        have hb':=bS.mp hb
        refine bS.mpr ⟨fun z => ?_,hb'.2⟩
        have h9:Hs p=some o:=(qP hp).symm.trans (aO.mp z ▸ hb'.2)
        rw [hsp] at h9; cases h9
    · rcases aF.mp hr with rfl | hr
      · exact ha
      · exact R1.fr r hr a ha
theorem Cal.mono {P:Program} {w:World} {K:dH} {mg:gO} {base:Heap} {i j:Nat} {x:Str} {ps:List Str} {sp:Sp} (C:Cal P w K mg base i x ps sp) (h:i≤j):Cal P w K mg base j x ps sp:=by
  obtain ⟨f,fd,G,b,k,m⟩:=C
  exact ⟨f,fd,G.mono h,b,k,m⟩
theorem IsX.cast {H:Hp} {d d':Dx} {v:V} (h:IsX H d v) (e:d=d'):IsX H d' v:=e ▸ h
theorem rP {F:Fm} {ρ:En} {σ:St} {fr:List Rw} {H:Hp} {i:Nat} {s:Sv} (E:EOk F ρ σ fr H) (h:ρ[i]? = some (.v s)) :
    ∃ v,σ[i]? = some (some v)∧EOk F (ρ.set i (.v (.tr s.d))) σ fr H∧IsX (hid (cF ((ρ.set i (.v (.tr s.d))).zip σ ++ fr)) (F.vis H)) s.d v:=by
  obtain ⟨v,hv,hi,R⟩:=de_ E h
  have R2:=R.frz
  have E2:=oC E.len hi hv R2
  obtain ⟨w,e,hx⟩:=R2.atT
  subst e
  have hO:(cF ((ρ.set i (.v (.tr s.d))).zip σ ++ fr)).Perm (cF ((.v (.tr s.d),some w) :: ((ρ.zip σ).eraseIdx i ++ fr))):=((dc_ E.len hi hv).append_right fr).flatMap_right _
  rw [dh_ rfl] at hO
  exact ⟨w,hv,E2,hx.to (oJ fun a ha=>hO.mem_iff.mp ha)⟩
def aSe (i j:Nat):XI:=fun ρ Q=>match ρ[i]? with
  | some (.v s) => (match (ρ.set i (.v (.tr s.d)))[j]? with
    | some (.v s') => (match s.d, s'.d with
      | .lst l,.lst m=>Q (iC l m) ((ρ.set i (.v (.tr s.d))).set j (.v (.tr s'.d)))
      | .tup l,.tup m=>Q (iC l m) ((ρ.set i (.v (.tr s.d))).set j (.v (.tr s'.d)))
      | _,_=>False)
    | _=>False)
  | _=>False
theorem aGi {F:Fm} {K:dH} {a b:Addr} {l m:List Dx}:ItX F (Itz true true K a b) [(.v (.tr (.tup l)),some (.ref a)),(.v (.tr (.tup m)),some (.ref b))] (iC l m) where
  go:=fun P H i d R hd=>by
    obtain ⟨v,e,h⟩:=R.atT; cases e
    obtain ⟨_,vs,e,h1,h2⟩:=h.tup_eq; cases e
    obtain ⟨v,e,h'⟩:=R.tail.atT; cases e
    obtain ⟨_,ws,e,h3,h4⟩:=h'.tup_eq; cases e
    obtain ⟨c,c',e1,e2,_⟩:=gs_ hd
    obtain ⟨x,h5,_⟩:=h2.at e1
    obtain ⟨y,h6,_⟩:=h4.at e2
    exact ⟨vs,ws,x,y,SqT.of (R.hv _ _ h1),SqT.of (R.hv _ _ h3),h5,h6⟩
  stop:=fun P H i R hi=>by
    obtain ⟨v,e,h⟩:=R.atT; cases e
    obtain ⟨_,vs,e,h1,h2⟩:=h.tup_eq; cases e
    obtain ⟨v,e,h'⟩:=R.tail.atT; cases e
    obtain ⟨_,ws,e,h3,h4⟩:=h'.tup_eq; cases e
    refine ⟨vs,ws,SqT.of (R.hv _ _ h1),SqT.of (R.hv _ _ h3),?_⟩
    unfold iC at hi
    rw [List.length_zipWith] at hi
    rw [h2.len,h4.len]
    omega
  yld:=fun P H i d x H' R hd q=>by
    obtain ⟨p,x,y,rfl,hp,rfl,q⟩:=q
    obtain ⟨v,e,h⟩:=R.atT; cases e
    obtain ⟨_,vs,e,h1,h2⟩:=h.tup_eq; cases e
    obtain ⟨v,e,h'⟩:=R.tail.atT; cases e
    obtain ⟨_,ws,e,h3,h4⟩:=h'.tup_eq; cases e
    obtain ⟨c,c',e1,e2,rfl⟩:=gs_ hd
    obtain ⟨x',h5,h7⟩:=h2.at e1
    obtain ⟨y',h6,h8⟩:=h4.at e2
    obtain ⟨q1,q2⟩:=q vs ws (SqT.of (R.hv _ _ h1)) (SqT.of (R.hv _ _ h3))
    rw [q1] at h5; cases h5
    rw [q2] at h6; cases h6
    exact R.newT hp ⟨_,_,rfl,h7,_,_,rfl,h8,rfl⟩
theorem aIh {X:Cx} {Ex:ExT} {a b:Expr} {i j:Nat} {p pos:Pos} {es:List Expr} {kk:Nat} {tpos:Pos} (hm:X.mg "zip" = none) (ha:PE X a (kA i)) (hb:PE X b (kA j)) (hg:Gl X "zip" := by rfl) (hs:starEach [a,b] X.env=[(false,eval a X.env),(false,eval b X.env)]:=by rfl) (hs2:starEach [b] X.env=[(false,eval b X.env)]:=by rfl)
    (hs3:starEach [a,b] X.env=(false,eval a X.env) :: starEach [b] X.env:=by rfl) (hs4:starEach [b] X.env=(false,eval b X.env) :: starEach [] X.env:=by rfl) :
    XIt X Ex (.Tuple es kk tpos) (.Call (.Name "zip" p) [a,b] [] pos) (aSe i j):=fun F _ pins s σ H R I h=>by
  have pa:PA X [a,b] (kX (kA i) (kX (kA j) zV)):=jG ha (jG hb nF hs4) hs3
  obtain ⟨ρ,fr,Qx,E,t,k⟩:=h
  unfold aSe at t
  split at t
  · rename_i s1 h1
    split at t
    · rename_i s2 h2
      obtain ⟨v,hv,E1,hx1⟩:=rP E h1
      obtain ⟨w,hw,E2,hx2⟩:=rP E1 h2
      have hx1':IsX (hid (cF (((ρ.set i (.v (.tr s1.d))).set j (.v (.tr s2.d))).zip σ ++ fr)) (F.vis H)) s1.d v:=hx1.to (oJ fun c hc=>by
        obtain ⟨w',hw',hj,R2⟩:=de_ E1 h2
        have hO:(cF (((ρ.set i (.v (.tr s1.d))).set j (.v (.tr s2.d))).zip σ ++ fr)).Perm (cF ((.v (.tr s2.d),w') :: (((ρ.set i (.v (.tr s1.d))).zip σ).eraseIdx j ++ fr))):=((dc_ E1.len hj hw').append_right fr).flatMap_right _
        have hO2:(cF ((ρ.set i (.v (.tr s1.d))).zip σ ++ fr)).Perm (cF ((.v s2,w') :: (((ρ.set i (.v (.tr s1.d))).zip σ).eraseIdx j ++ fr))):=((fk_ h2 hw').append_right fr).flatMap_right _
        have:=hO.mem_iff.mp hc
        rw [dh_ rfl] at this
        refine hO2.mem_iff.mpr ?_
        rw [ci_]
        exact aJ _ this)
      split at t
      · rename_i l m e1 e2
        replace hx1':=hx1'.cast e1
        replace hx2:=hx2.cast e2
        obtain ⟨c,cs,rfl,g1,_⟩:=hx1'.lst_eq
        obtain ⟨d,ds,rfl,g2,_⟩:=hx2.lst_eq
        have R1:=(E2.rep.add hx2).add (d:=.lst l) (v:=.ref c) hx1'
        refine c8 (t1:=false) (t2:=false) hg hm pa hs hs2 pins s σ H R I ⟨_,hv,_,hw,c,d,rfl,⟨cs,SqL.of (E2.rep.hv _ _ g1)⟩,⟨ds,SqL.of (E2.rep.hv _ _ g2)⟩,k _ H _ [(.v (.tr (.lst l)),some (.ref c)),(.v (.tr (.lst m)),some (.ref d))] _ ⟨E2.len,R1.perm ((mX.symm.cons _).trans mX.symm)⟩ v7 t⟩
      · rename_i l m e1 e2
        replace hx1':=hx1'.cast e1
        replace hx2:=hx2.cast e2
        obtain ⟨c,cs,rfl,g1,_⟩:=hx1'.tup_eq
        obtain ⟨d,ds,rfl,g2,_⟩:=hx2.tup_eq
        have R1:=(E2.rep.add hx2).add (d:=.tup l) (v:=.ref c) hx1'
        refine c8 (t1:=true) (t2:=true) hg hm pa hs hs2 pins s σ H R I ⟨_,hv,_,hw,c,d,rfl,⟨cs,SqT.of (E2.rep.hv _ _ g1)⟩,⟨ds,SqT.of (E2.rep.hv _ _ g2)⟩,k _ H _ [(.v (.tr (.tup l)),some (.ref c)),(.v (.tr (.tup m)),some (.ref d))] _ ⟨E2.len,R1.perm ((mX.symm.cons _).trans mX.symm)⟩ aGi t⟩
      · exact t.elim
    · exact t.elim
  · exact t.elim
section
variable {α:Type} {a b c d:α}
theorem lT:atI [a] 0=some a:=rfl
theorem lR:atI [a,b] 0=some a:=rfl
theorem lQ:atI [a,b] 1=some b:=rfl
theorem lP:atI [a,b,c] 0=some a:=rfl
theorem lO:atI [a,b,c] 1=some b:=rfl
theorem lN:atI [a,b,c] 2=some c:=rfl
theorem lM:atI [a,b,c,d] 0=some a:=rfl
theorem lL:atI [a,b,c,d] 1=some b:=rfl
theorem lK:atI [a,b,c,d] 2=some c:=rfl
theorem lJ:atI [a,b,c,d] 3=some d:=rfl
theorem lG:ixN 3 0=some 0:=rfl
theorem lF:ixN 3 1=some 1:=rfl
theorem lE:ixN 3 2=some 2:=rfl
end
theorem cu_ {l:List Dx}:kU (.bw l)=some (l,.bw):=rfl
theorem ct_ {l:List Dx}:kU (.v (.ol l))=some (l,fun l'=>.v (.ol l')):=rfl
theorem lC {α:Type} {a b c:α}:[a,b,c].length=3:=rfl
theorem aRf {α:Type} {l:List α} {i:Int} (h0:0≤i) (h1:i < l.length):∃ x,atI l i=some x∧l[i.toNat]? = some x:=by
  have hk:i.toNat < l.length:=by omega
  refine ⟨l[i.toNat],?_,aD hk⟩
  unfold atI
  have:ixN l.length i=some i.toNat:=by
    unfold ixN
    simp only [h0]
    split <;> simp_all <;> omega
  rw [this]
  exact aD hk
abbrev GP:=List Dx→Dx→(Dx→Prop)→Prop
def OpL (r:R2) (g:GP):Prop := ∀ (G:Hp) (H:Hp) (p:Addr) (ws:List V) (l:List Dx) (b:Dx) (y:V) (Q:VK) (Qx:Dx→Prop),Same G H→H p=some (.lst ws)→All2 (IsX G) l ws→IsX G b y→g l b Qx→(∀ v d,IsX G d v→Qx d→Q v H)→r (.ref p) y H Q
def aNd (g:GP) (i:Nat) (t:XT):XT:=fun ρ Q=>((ρ[i]?).bind kU).isSome=true∧t ρ fun k ρ'=>match (ρ'[i]?).bind kU with
  | some (l,_)=>g l k.d fun d=>Q (.tr d) ρ'
  | none=>False
section
variable {X:Cx} {Ex:ExT} {F:Fm} {i:Nat} {t:XT} {r:R2} {g:GP} {x:Str} {a b e:Expr} {p pos:Pos}
theorem aTc (hx:OpL r g):∀ σ H Q,tX F (aNd g i t) σ H Q→tOp r (kA i) (tX F t) σ H Q:=by
  rintro σ H Q ⟨ρ,fr,Qx,E,⟨h0,q⟩,k⟩
  obtain ⟨⟨l,f⟩,h1⟩:=gJ.mp h0
  obtain ⟨p,ws,hv,_⟩:=gg_ E h1
  refine ⟨.ref p,hv,ρ,fr,_,E,q,fun w s H' ρ' E' q' => ?_⟩
  split at q'
  · rename_i l' f' hb
    obtain ⟨R,hs⟩:=E'.one
    obtain ⟨p',ws',hv',hp,hl,_⟩:=gg_ E'.drop hb
    rw [hv] at hv'; cases hv'
    exact hx _ H' p ws' l' s.d w Q _ R.hv hp hl hs q' fun v d hd qd=>k v (.tr d) H' ρ' (EOk.back E'.len (R.add hd)) qd
  · exact q'.elim
def ixP:GP:=fun l k Q=>match k with
  | .int j=>(match atI l j with | some d=>Q d | none=>False)
  | _=>False
theorem aTj {K:dH}:OpL (aEn K) ixP:=by
  intro G H p ws l b y Q Qx hs hp hl hb g k
  unfold ixP at g
  split at g
  · cases hb.int_eq
    split at g
    · rename_i d hd
      obtain ⟨v,h1,h2⟩:=qO hl hd
      exact ⟨_,_,_,_,rfl,rfl,SqL.of hp,h1,k v d h2 g⟩
    · exact g.elim
  · exact g.elim
theorem gt_ (K:dH) (hv:PE X (.Name x p) (kA i)) (hb:XE X Ex b t) (hs:oK b) (h:X.K=K:=by rfl):XE X Ex (.Subscript (.Name x p) b pos) (aNd ixP i t):=fun F=>by
  subst h
  exact (yE dj_ hv (hb F) hs).weak (aTc aTj)
end
theorem XE.at {X:Cx} {Ex:ExT} {e:Expr} {t:XT} (F:Fm) [OkF X Ex F] (h:XE X Ex e t):PE X e (tX F t):=h F
theorem XIt.at {X:Cx} {Ex:ExT} {tg e:Expr} {t:XI} (F:Fm) [OkF X Ex F] (h:XIt X Ex tg e t):PI X tg e (tXi F t):=h F
theorem XCs.at {X:Cx} {Ex:ExT} {e:List Expr} {t:XC} (F:Fm) [OkF X Ex F] (h:XCs X Ex e t):PCs X e (tXc F t):=h F
section
variable {α:Type} {n:Nat} {gx:XG} {tc:XC} {te:XT} {Q:List Dx→List Sl→Prop}
abbrev rM (n:Nat) (gx:XG) (tc:XC) (te:XT) (P:List Dx→List Sl→Prop) (d:Dx) (cs:List Sl) (acc:List Dx):Prop:=gx d (List.replicate n .un ++ cs) fun ρ1=>tc ρ1 fun b ρ2=>if b=true then te ρ2 fun s ρ3=>P (acc ++ [s.d]) (ρ3.drop n) else P acc (ρ2.drop n)
theorem zB {cs:List Sl} (φ ψ:α→Dx):∀ {as:List α} {acc:List Dx},(∀ a∈as,∀ (acc:List Dx) (P:List Dx→List Sl→Prop),P (acc ++ [ψ a]) cs→rM n gx tc te P (φ a) cs acc) →
    Q (acc ++ as.map ψ) cs→eW n gx tc te Q (as.map φ) cs acc
  | [],acc,_,q=>by simpa [eW] using q
  | a :: as, acc, h, q => by
    show gx (φ a) _ _
    exact h a aB acc (fun acc cs=>eW n gx tc te Q (as.map φ) cs acc) (zB φ ψ (fun a' ha=>h a' (aC _ ha)) (by simpa [bO] using q))
theorem co_ (φ:α→Dx) (I:List α→List Dx→List Sl→Prop) (hd:∀ acc cs,I [] acc cs→Q acc cs) (hs:∀ a as acc cs (P:List Dx→List Sl→Prop),I (a :: as) acc cs→(∀ acc' cs',I as acc' cs'→P acc' cs')→rM n gx tc te P (φ a) cs acc) :
    ∀ {as:List α} {acc:List Dx} {cs:List Sl},I as acc cs→eW n gx tc te Q (as.map φ) cs acc
  | [],acc,cs,h=>hd acc cs h
  | a :: as, acc, cs, h => by
    show gx (φ a) _ _
    exact hs a as acc cs (fun acc cs=>eW n gx tc te Q (as.map φ) cs acc) h fun acc' cs' h'=>co_ φ I hd hs h'
theorem zA {gx:XG} {G:XS} {D:XD} (φ:α→Dx) (Pv:List α→En→Prop) (hd:∀ ρ,Pv [] ρ→D.nx ρ) (hs:∀ d ds ρ (K:En→Prop),Pv (d :: ds) ρ→(∀ ρ',Pv ds ρ'→K ρ')→gx (φ d) ρ fun ρ1=>G ρ1 { D with nx:=K,ct:=K,bk:=D.nx }) :
    ∀ {ds:List α} {ρ:En},Pv ds ρ→iY gx G D (ds.map φ) ρ
  | [],ρ,h=>hd ρ h
  | d :: ds,ρ,h=>hs d ds ρ (iY gx G D (ds.map φ)) h fun ρ' h'=>zA φ Pv hd hs h'
end
section
variable {X:Cx} {Ex:ExT} {F:Fm} {e:Expr} {kws:List Keyword} {x:Str} {p pos:Pos} {u:XA} {t:XT}
def aSi (dd:Int) (u:XA):XT:=fun ρ Q=>u ρ fun ss ρ'=>match ss.map Sv.d with
  | [.lst l] => ∃ ns:List Int,l=ns.map Dx.int∧(ns=[]→Q (.tr (.int dd)) ρ')∧∀ M,M∈ns→(∀ a∈ns,a≤M)→Q (.tr (.int M)) ρ'
  | _=>False
theorem tI {dd:Int} (hc:X.calm=true) (hg:Gl X "max") (hm:X.mg "max" = none) (ha:XAs X Ex [e] u) (hkw:PK X kws (kX (tC (.int dd)) zV)) (hks:(backToKw pos (keywordEach kws X.env)).filterMap (·.1)=(["default"]:List Str):=by rfl)
    (he:backTo pos (starEach [e] X.env)=(false,eval e X.env) :: backTo pos (starEach [] X.env):=by rfl) (hpl:(backTo pos (starEach [e] X.env)).any (·.1)=false:=by rfl)
    (hall:(backToKw pos (keywordEach kws X.env)).all (·.1.isSome)=true:=by rfl) (hkn:(backToKw pos (keywordEach kws X.env)).any (·.1.isNone)=false:=by rfl):XE X Ex (.Call (.Name "max" p) [e] kws pos) (aSi dd u):=fun F=>by
  refine (aBk (aCo hc) hg hm qK (ha F) hkw hks (by decide) (by decide) he hpl hall hkn).weak fun σ H Q => ?_
  rintro ⟨ρ,fr,Qx,E,t,k⟩
  refine ⟨ρ,fr,_,E,t,fun vs ss H2 ρ2 hl E2 q2 => ?_⟩
  obtain ⟨R,hs⟩:=E2.many hl
  generalize hds:ss.map Sv.d=ds at q2 hs
  split at q2
  · obtain ⟨v, rfl, hv⟩ := i_ hs
    obtain ⟨a,ws,rfl,h1,h2⟩:=hv.lst_eq
    obtain ⟨ns,rfl,q3,q4⟩:=q2
    have:=pT h2
    subst this
    exact ⟨a,ns,dd,rfl,rfl,SqL.of (R.hv _ _ h1),fun en=>k _ _ H2 ρ2 (EOk.back E2.len (R.add (IsX.of_int _))) (q3 en),fun M hM hle=>k _ _ H2 ρ2 (EOk.back E2.len (R.add (IsX.of_int _))) (q4 M hM hle)⟩
  · exact q2.elim
theorem hv_ {i:Int} (hg:Gl X x) (hm:∃ t,X.mg x=some (.int i t)) (hd:(x == ("__debug__" : Str))=false:=by decide):XE X Ex (.Name x pos) (xC (.int i)):=by
  obtain ⟨t,hm⟩:=hm
  exact aDn (aJb (v:=.int i) hg hm ⟨t,rfl⟩ hd) _ fun _=>IsX.of_int _
def aSk (t:XT):XT:=fun ρ Q=>t ρ fun s ρ'=>match s.d with
  | .int i=>Q (.tr (.int (Builtin.Int.intBits i))) ρ'
  | _=>False
theorem aRb {K:dH}:∀ σ H Q,tX F (aSk t) σ H Q→aSv K "int" aMg (tX F t) σ H Q:=by
  rintro σ H Q ⟨ρ,fr,Qx,E,q,k⟩
  refine ⟨ρ,fr,_,E,q,fun v s H' ρ' E' q' => ?_⟩
  obtain ⟨R,hs⟩:=E'.one
  split at q'
  · rename_i i hi
    rw [hi] at hs
    cases hs.int_eq
    exact ⟨rfl,i,rfl,rfl,k _ _ H' ρ' (EOk.back E'.len (R.add (IsX.of_int _))) q'⟩
  · exact q'.elim
end
def neL:G2:=fun a b Q=>match a,b with
  | .lst l,.lst m => ∃ ns:List Int,l=ns.map Dx.int∧m=ns.map Dx.int∧Q (.tr (.bl false))
  | _,_=>False
section
variable {X:Cx} {Ex:ExT} {F:Fm} {a b e:Expr} {x:Str} {p pos:Pos} {ta tb t:XT} {tl th:XO} {u:XA} {K:dH}
theorem aLq {α β:Type} {f:α→β} {l:List α} {i:Int}:atI (l.map f) i=(atI l i).map f:=by
  unfold atI
  rw [aE]
  cases ixN l.length i with
  | none=>rfl
  | some n=>exact cE
def ixZ (K:dH):G2
  | .scr K' ns,.int i,Q=>K'=K∧(match atI ns i with | some n=>Q (.tr (.int n)) | none=>False)
  | _,_,_=>False
theorem aOj:OpX (aEn K) (ixZ K):=by
  intro F P H a b x y Q Qx R ha hb g k
  unfold ixZ at g
  split at g
  · obtain ⟨rfl, g⟩ := g
    obtain ⟨p,rfl,h1⟩:=ha.scr_eq
    cases hb.int_eq
    split at g
    · rename_i n hn
      refine ⟨p,_,_,V.int n,rfl,rfl,SameF.sq (.of R.hv) h1,?_,k _ _ H (R.add (IsX.of_int _)) g⟩
      rw [aLq,hn]; rfl
    · exact g.elim
  · exact g.elim
theorem aNa (K:dH) (ha:XE X Ex a ta) (hb:XE X Ex b tb) (hs:oK b) (h:X.K=K:=by rfl):XE X Ex (.Subscript a b pos) (xOp (ixZ K) ta tb):=fun F=>(yE (xO K h) (ha F) (hb F) hs).weak (mM aOj)
def aPv (K:dH):GC
  | [.scr K' ns],Q=>K'=K∧Q (.tr (.int ns.length))
  | _,_=>False
theorem aAd:kR (aNs K) (aPv K):=by
  intro F P H ds xs Q Qx R hs g k
  unfold aPv at g
  split at g
  · obtain ⟨rfl, g⟩ := g
    obtain ⟨x,rfl,hx⟩:=i_ hs
    obtain ⟨a,rfl,h1⟩:=hx.scr_eq
    exact .inl ⟨a,_,rfl,.inl (SameF.sq (.of R.hv) h1),k _ _ H (R.add (by rw [aE]; exact IsX.of_int _)) g⟩
  · exact g.elim
end
def spLaw (K:dH):Sp:=fun vs H Q _ => ∃ (a:Addr) (ns:List Int),vs=[.ref a]∧SqL K H a (ns.map V.int)∧ns.length≤63∧∀ H',Q (.bl true) H'
def aUk (K:dH):GC:=fun ds Q => ∃ ns:List Int,ds=[.scr K ns]∧ns.length≤63∧Q (.tr (.bl true))
theorem aGc {P:Program} {w:World} {K:dH} {mg:gO} {base:Heap} {f:Addr} {fd:FuncData} {j:Nat} (h:FnOk P w K mg base CX0 j f fd ["script"] (spX (aUk K))):FnOk P w K mg base CX0 j f fd ["script"] (spLaw K):=h.imp fun vs H Q E=>by
  rintro ⟨a,ns,rfl,hS,hl,q⟩
  refine ⟨H,[.scr K ns],fun s=>s=.tr (.bl true),Same.refl _,⟨_,_,rfl,IsX.of_scr hS,rfl⟩,⟨ns,rfl,hl,rfl⟩,fun s v H' _ hr e => ?_⟩
  subst e
  have hr':IsX (ext H H H') (.bl true) v:=hr
  cases hr'.bl_eq
  exact q H'
end Lf
namespace L2
open PySem
section
variable {M:Model} {A:Around} {E:gU} {s:Shared}
def aAq (fs S:List Addr) (h h':Heap):Prop := ∀ b o,h.get? b=some o→b∉S→(b∉fs→h'.get? b=some o)∧∃ sl,h'.get? b=some { o with slots:=sl }
theorem fc_ {base:Heap} {env:Env} {outer:List Env} {L e:Addr} {oe:Obj} {vs:Array Value} {head:Value} {hadNext:Bool} {Q:Unit→Shared→Prop}
    (hfr:A.frames=some (env :: outer)) (hl:s.heap.FunFrames base (env :: outer)) (hf:env.frame=some L)
    (he:s.heap.get? e=some oe) (hd:oe.data=.fields vs) (hsz:1 < vs.size)
    (h:∀ h' T oT ts,aAq (frs (env :: outer)) [e] s.heap h'→s.heap.objs.size≤T→T≠e→h'.get? e=some (oe.mapFields (·.setIfInBounds 1 (.ref T)))→h'.get? T=some oT→oT.data=.fields ts→ts[3]? = some .none→Q () { s with heap:=h' }) :
    wpAny M A (do let a ← frameOf env; let pl ← entryPlaceOf L hadNext; let b ← EntryCells.newEntry head a .none (rawInt L) .none pl; setField (.ref e) 1 b) (fun _ s'=>wpAny M A (setFlight (.ref e) none) Q E s') E s:=by
  have hene:e∉(env :: outer).filterMap (·.frame):=fun hm=>by
    obtain ⟨_,o,ho,hnf⟩:=hl.mem hm
    rw [he] at ho; injection ho with ho; subst ho; exact hnf vs hd
  refine wpAny_bind (wpAny_frameOf_fun hfr hl hf fun h₁ hs₁ => ?_)
  refine wpAny_bind (wpAny_entryPlaceOf fun pl hpl => ?_)
  unfold EntryCells.newEntry newFields
  refine wpAny_bind (wpAny_newObj_type ?_ (hpl.sizeOk5 _ _ _ _ _))
  have he₁:h₁.get? e=some oe:=(hs₁.2.1 e hene).trans he
  have he₂:=aA (h:=h₁) { cls:=.type "traceback",dict:=none,data:=.fields ([head,.ref L,.none,rawInt L,.none] ++ (if pl.isEmpty then List.replicate 6 Value.none else pl)).toArray } he₁
  refine wpAny_setField he₂ hd hsz ?_
  have hTe:h₁.objs.size≠e:=fU (aR he₁)
  have hd₃:=Obj.data_mapFields hd (·.setIfInBounds 1 (Value.ref h₁.objs.size))
  have he₃:=eZ (Obj.mapFields (·.setIfInBounds 1 (Value.ref h₁.objs.size))) he₂ (Obj.isFreed_of_fields hd₃)
  have hT₃:=(bR (h₁.push { cls:=.type "traceback",dict:=none,data:=.fields ([head,.ref L,.none,rawInt L,.none] ++ (if pl.isEmpty then List.replicate 6 Value.none else pl)).toArray })
    (Obj.mapFields (·.setIfInBounds 1 (Value.ref h₁.objs.size))) (Ne.symm hTe)).trans (aU h₁ rfl)
  unfold setFlight
  refine wpAny_bind (wpAny_field he₃ hd₃ (x:=.ref h₁.objs.size) (by simp [hsz]) ?_)
  rw [if_pos (show (Value.ref h₁.objs.size != Value.none)=true from by simp)]
  refine wpAny_setField hT₃ rfl (by simp only [bA,aI,aL,bG] <;> omega) (h _ h₁.objs.size _ _ ?_ (Nat.le_of_eq hs₁.1.symm) hTe ?_ (eZ _ hT₃ (Obj.isFreed_of_fields (Obj.data_mapFields rfl _))) (Obj.data_mapFields rfl _) (by first | (simp; done) | (rcases hpl with rfl | ⟨_,_,_,_,_,_,_,rfl⟩ <;> simp)))
  · have keep : ∀ b o, b ≠ e → h₁.get? b = some o →
        (((h₁.push { cls:=.type "traceback",dict:=none,data:=.fields ([head,.ref L,.none,rawInt L,.none] ++ (if pl.isEmpty then List.replicate 6 Value.none else pl)).toArray }).update e (Obj.mapFields (·.setIfInBounds 1 (Value.ref h₁.objs.size)))).update h₁.objs.size
          (Obj.mapFields (·.setIfInBounds 3 ((none:Option Addr).elim Value.none fun f=>rawInt f)))).get? b=some o:=fun b o hbe hb=>by
      have hbT:h₁.objs.size≠b:=fU (aR hb)
      rw [bR _ _ hbT,bR _ _ (Ne.symm hbe)]
      exact aA _ hb
    intro b o hb hbe
    have hbe':b≠e:=fun z=>hbe (aO.mpr z)
    refine ⟨fun hbf=>keep b o hbe' ((hs₁.2.1 b hbf).trans hb),?_⟩
    obtain ⟨sl,hs⟩:=hs₁.2.2 b o hb
    exact ⟨sl,keep b _ hbe' hs⟩
  · rw [bR _ _ hTe]; exact he₃
end
end L2
namespace Lf
open PySem L2
section
variable {M:Model} {A:Around} {E:gU} {s:Shared}
theorem xD {base:Heap} {nw:Addr→Prop} {H:Hp} {env:Env} {outer:List Env} {L ea:Addr} {cls:Value} {Q:Unit→Shared→Prop}
    (hfr:A.frames=some (env :: outer)) (hl:s.heap.FunFrames base (env :: outer)) (hf:env.frame=some L) (hz:∀ T,s.heap.objs.size≤T→nw T) (hH:∀ a,s.heap.objs.size≤a→H a=none) (a:Air nw s.heap H ea cls)
    (h:∀ h' S,(∀ b∈S,nw b∧H b=none∧∃ o vs,s.heap.get? b=some o∧o.data=.fields vs)→aAq (frs (env :: outer)) S s.heap h'→Air nw h' H ea cls→Q () { s with heap:=h' }):wpAny M A (noteFrame (.ref ea) env) (fun _ s₂=>wpAny M A (setFlight (.ref ea) none) Q E s₂) E s:=by
  obtain ⟨a1,a2,oe,vs,he,hc,hd,hdn,hsz,a3⟩:=a
  have fin:∀ (h':Heap) (T:Addr) (oT:Obj) (ts:Array Value),s.heap.objs.size≤T→T≠ea→h'.get? ea=some (oe.mapFields (·.setIfInBounds 1 (.ref T)))→h'.get? T=some oT→oT.data=.fields ts→ts[3]? = some .none→Air nw h' H ea cls:=fun h' T oT ts g1 g2 g3 g4 g5 g6=>by
    refine ⟨a1,a2,_,_,g3,(Obj.cls_mapFields _ _).trans hc,Obj.data_mapFields hd _,by obtain ⟨c,dct,dt,sl⟩:=oe; cases dt <;> exact hdn,by simpa using hsz,.inr ⟨T,oT,ts,by simp [hsz],g2,hz T g1,hH T g1,g4,g5,g6⟩⟩
  unfold noteFrame
  simp only [hf]
  rcases a3 with a3 | ⟨T,oT,ts,a3,aT,aN,aH,hT,hdT,h3⟩
  · refine wpAny_bind (wpAny_field he hd a3 ?_)
    rw [if_neg (by decide)]
    exact fc_ hfr hl hf he hd hsz fun h' T oT ts g0 g1 g2 g3 g4 g5 g6=>h h' [ea] (fun b hb=>by rw [aO.mp hb]; exact ⟨a1,a2,_,_,he,hd⟩) g0 (fin h' T oT ts g1 g2 g3 g4 g5 g6)
  · refine wpAny_bind (wpAny_field he hd a3 ?_)
    rw [if_pos (show (Value.ref T != Value.none)=true from by simp)]
    refine wpAny_bind (wpAny_field hT hdT h3 ?_)
    rw [if_neg (show ¬ ((Value.none == rawInt L)=true) from by simp [rawInt])]
    refine wpAny_bind (wpAny_setField hT hdT (Array.getElem?_eq_some_iff.mp h3).1 ?_)
    have other:∀ b,b≠T→(s.heap.update T (Obj.mapFields (·.setIfInBounds 3 Value.none))).get? b=s.heap.get? b:=fun b hb=>bR _ _ (Ne.symm hb)
    have noRecord:∀ b o,s.heap.get? b=some o→(∀ vs,o.data ≠ .fields vs)→b≠T:=fun b o hb hnf q=>by
      rw [q,hT] at hb; injection hb with hb; subst hb; exact hnf ts hdT
    have hsz2:(s.heap.update T (Obj.mapFields (·.setIfInBounds 3 Value.none))).objs.size=s.heap.objs.size:=Heap.size_after_update ..
    refine fc_ (s:={ s with heap:=_ }) hfr (hl.of_keeps fun b o hb hnf=>⟨o,(other b (noRecord b o hb hnf)).trans hb,rfl⟩) hf ((other ea (Ne.symm aT)).trans he) hd hsz
      fun h' T' oT' ts' g0 g1 g2 g3 g4 g5 g6=>h h' [ea,T] (fun b hb => ?_) (fun b o hb hbS => ?_) (fin h' T' oT' ts' (by rw [← hsz2]; exact g1) g2 g3 g4 g5 g6)
    · rcases aF.mp hb with rfl | hb
      · exact ⟨a1,a2,_,_,he,hd⟩
      · rw [aO.mp hb]; exact ⟨aN,aH,_,_,hT,hdT⟩
    · have n1 : b ≠ ea := fun z => hbS (by rw [z]; exact aB)
      have n2:b≠T:=fun z=>hbS (by rw [z]; exact aC _ aB)
      exact g0 b o ((other b n2).trans hb) fun z=>n1 (aO.mp z)
end
theorem sH {P:Program} {w:World} {H:Hp} {h h':Heap} {fs S:List Addr} (x:HOk P w H h) (k:aAq fs S h h') (hf:∀ b∈fs,H b=none) (hS:∀ b∈S,H b=none):HOk P w H h':=fun a o e =>
  ObjOk.stay (x a o e) (fun b u hb hu=>by
    have hb':∃ o,H b=some o:=by
      rcases hb with rfl | hb
      · exact ⟨_,e⟩
      · exact ⟨_,hb⟩
    obtain ⟨ob,hob⟩:=hb'
    exact (k b u hu fun z=>by rw [hS b z] at hob; cases hob).1 fun z=>by rw [hf b z] at hob; cases hob) (fun _ z=>z) (fun _ _ z=>z)
section
variable {X:Cx} {pins:gC} {σ:St} {H H':Hp} {s s':Shared}
theorem Inv.thrown (I:Inv X pins σ H s) (os:s'.os=s.os) (bare:PyProof.Rows.AllBare s'.gens) (un:Un (frs X.stack) [] H H' s.heap s'.heap) (hok:HOk X.prog X.w H' s'.heap):Inv X pins σ H' s':=by
  obtain ⟨hh,g,d,t,os'⟩:=s'
  obtain rfl:os'=s.os:=os
  exact I.call (h':=hh) (g':=g) (d':=d) (t':=t) (ch:=[]) un hok bare (fun b z=>absurd z (by simp))
end
theorem Air.older {n0 n:Addr→Prop} {h':Heap} {H:Hp} {ea:Addr} {cls:Value} (a:Air n h' H ea cls) (k:∀ b,n b→n0 b):Air n0 h' H ea cls:=by
  obtain ⟨a1,a2,oe,vs,he,hc,hd,hdn,hsz,a3⟩:=a
  refine ⟨k _ a1,a2,oe,vs,he,hc,hd,hdn,hsz,?_⟩
  rcases a3 with a3 | ⟨T,oT,ts,a3,aT,aN,r⟩
  · exact .inl a3
  · exact .inr ⟨T,oT,ts,a3,aT,k _ aN,r⟩
section
variable {P:Program} {w:World} {K:dH} {mg:gO} {base:Heap} {N:List Str} {x:Str} {scope:Scope} {f:Addr} {cdv:Value} {A:Around} {outer:List Env} {s:Shared} {H:Hp} {E:XK} {Ex:ExT} {F:Fm}
theorem aJr (hE:∀ c H',Ex c→aVm F H'→E c none H'):OkF (nB (CXe P w) P w K mg base N x scope f cdv A outer s H E) Ex F:=⟨fun pins σ H1 s1 e s' I h=>by
  obtain ⟨ea,cls,H',rfl,os,bare,un,hok,air,hx,hk⟩:=h
  have I':=Inv.thrown I os bare un hok
  have older:∀ b,s1.heap.get? b=none→s.heap.get? b=none:=fun b hb=>by
    cases q:s.heap.get? b with
    | none=>rfl
    | some o =>
      obtain ⟨o',e'⟩:=I.base.there b o q (by intro z; cases z)
      rw [hb] at e'; cases e'
  refine wpAny_bind (xD (base:=base) (nw:=fun b=>s.heap.get? b=none) (H:=H') (L:=s.heap.objs.size) I'.ok.frames I'.stack rfl (fun T hT=>Heap.get?_none_of_le (bP I'.sz hT)) (fun a ha=>I'.hok.fresh ha) (air.older older) fun h' S hS kx air' => ?_)
  have nS:∀ b o,s.heap.get? b=some o→b∉S:=fun b o hb z=>by rw [(hS b z).1] at hb; cases hb
  have nL:∀ b o,s.heap.get? b=some o→b∈frs (PyProof.Rows.envOfC x scope s.heap.objs.size f cdv :: outer)→b∈frs outer:=fun b o hb z=>by
    rcases aF.mp (show b∈s.heap.objs.size :: frs outer from z) with z | z
    · exact absurd (aR hb) (by rw [z]; exact eO _)
    · exact z
  have B:=I'.base
  refine ⟨ea,cls,H',rfl,I'.os,I'.bare,⟨fun b o hb n hf he => ?_,fun b o hb n hf he => ?_,fun b o hb n he=>B.free b o hb n he,fun b o hb he => ?_,B.tups,B.frzs,B.tbls⟩,sH I'.hok kx I'.stkFree (fun b hb=>(hS b hb).2.1),air',hE cls H' hx hk⟩
  · exact (kx b o (B.keep b o hb n hf he) (nS b o hb)).1 fun z=>hf (nL b o hb z)
  · obtain ⟨sl, e1⟩ := B.slot b o hb n hf he
    obtain ⟨sl',e2⟩:=(kx b _ e1 (nS b o hb)).2
    exact ⟨sl',e2⟩
  · obtain ⟨o', e1⟩ := B.there b o hb he
    obtain ⟨sl',e2⟩:=(kx b _ e1 (nS b o hb)).2
    exact ⟨_,e2⟩⟩
end
abbrev aNk {H Hs:Hp} (h:Same Hs H):Fm:=⟨H,Hs,[],h,fun b hb=>by simp at hb,fun b hb=>by simp at hb⟩
abbrev GE:=List Dx→(Sv→Prop)→ExT→Prop
def spE (g:GE):Sp:=fun vs H Q E => ∃ Hs ds Qx Ex,Same Hs H∧All2 (IsX Hs) ds vs∧g ds Qx Ex∧(∀ s v H',Same H H'→aAp Hs H H' s v→Qx s→Q v H')∧∀ c H',Same H H'→Ex c→E c none H'
theorem aYp {P:Program} {w:World} {K:dH} {mg:gO} {base:Heap} {x:Str} {st:Stmt} {f:Addr} {fd:FuncData} {N ps:List Str} {k:Nat} {g:GE} (Fn:Fun K x x st f fd) (S:FnScope N ps (aQ st)) (hlen:∀ ds Q Ex,g ds Q Ex→ds.length=ps.length) (hN:ps.length≤N.length)
    (hbody:∀ (cdv:Value) (A:Around) (outer:List Env) (s:Shared) (H:Hp) (E:XK) (Ex:ExT),Room k (A.deeper (PyProof.Rows.envOfC x (aQ st) s.heap.objs.size f cdv)) →
      ∃ G,XSs (nB (CXe P w) P w K mg base N x (aQ st) f cdv A outer s H E) Ex (iJ st) G∧∀ ds Q,g ds Q Ex→G (eI N ds) (aIs Q)):FnOk P w K mg base (CXe P w) (k + 1) f fd ps (spE g):=by
  obtain ⟨oc,od,kV,doc,pm,an,cdv,ct,osl,rfl,lk,hcd⟩:=Fn.ex
  refine aMm lk hcd S (fun vs H Q E h => ?_) fun A outer s H vs Q E hr h => ?_
  · obtain ⟨Hs, ds, Qx, Ex, h1, h2, h3, _⟩ := h
    rw [h2.len]
    exact hlen ds Qx Ex h3
  obtain ⟨Hs,ds,Qx,Ex,h1,h2,h3,h4,h5⟩:=h
  obtain ⟨G,hG,hq⟩:=hbody cdv A outer s H E Ex hr
  have hl:=hlen ds Qx Ex h3
  haveI:OkF (nB (CXe P w) P w K mg base N x (aQ st) f cdv A outer s H E) Ex (aNk h1):=aJr fun c H' e k=>h5 c H' (fun b o hb=>k b o hb (by simp)) e
  refine ⟨_,hG (aNk h1),eI N ds,[],aIs Qx,⟨?_,?_⟩,hq ds Qx h3,⟨fun σ' H' ρ' _ E' q => ?_,fun v s σ' H' ρ' _ E' q => ?_,fun _ _ _ _ _ q=>q.elim,fun _ _ _ _ _ q=>q.elim⟩⟩
  · unfold eI L2.start
    simp only [aI,aE,aG]
    rw [h2.len]
  · rw [cR]
    have R0:Rep (aNk h1) [] H:=⟨List.nodup_nil,fun r hr=>by simp at hr,fun r hr=>by simp at hr,fun b o h _=>h,fun b hb=>by simp at hb⟩
    unfold eI L2.start
    rw [h2.len]
    refine hk_ R0 (h2.imp fun _ _ z=>z.to fun b o hb => ?_)
    cases q:H b with
    | none=>rw [h1 _ _ hb] at q; cases q
    | some u=>exact (qP q).trans hb
  · have R := E'.rep.add (d := .non) (v := .non) IsX.of_non
    obtain ⟨e1,e2⟩:=uD R
    exact h4 _ _ _ e1 e2 q
  · obtain ⟨e1, e2⟩ := uD E'.front
    exact h4 _ _ _ e1 e2 q
def aRl (P:Program) (w:World) (K:dH) (mg:gO) (base:Heap) (j:Nat) (x:Str) (ps:List Str) (sp:Sp):Prop := ∃ f fd,FnOk P w K mg base (CXe P w) j f fd ps sp∧Binds K fd ps []∧PySem.W.keepIn K (.ref f)=true∧mg x=some (.ref f)
theorem aBp {P:Program} {w:World} {H:Hp} {h:Heap} {a:Addr} {o:HO} (x:ObjOk P w H h a o):∃ ob,h.get? a=some ob:=by
  cases o with
  | lst xs=>obtain ⟨z,its,n,r,e⟩:=x; exact ⟨_,e⟩
  | tup xs=>obtain ⟨z,its,r,ob,e,c⟩:=x; exact ⟨_,e⟩
  | dK kvs=>obtain ⟨z,y,vs,r,ob,es,ep,e,c⟩:=x; exact ⟨_,e⟩
  | dT kvs=>obtain ⟨z,y,xs,r,ob,es,ep,e,c⟩:=x; exact ⟨_,e⟩
  | set S n=>obtain ⟨ob,es,ep,t,e,c⟩:=x; exact ⟨_,e⟩
  | ins C dx fs=>obtain ⟨d,z,ne,e,_⟩:=x; exact ⟨_,e⟩
  | own y=>exact x
  | xd fs=>obtain ⟨mA,⟨od,es,ep,e,c⟩,r⟩:=x; exact ⟨_,e⟩
  | rng lo hi=>obtain ⟨t,u,v,e⟩:=x; exact ⟨_,e⟩
  | frz ob u=>exact ⟨_,x.1⟩
  | tbl ps=>exact ⟨_,x⟩
  | met f y=>exact ⟨_,x⟩
  | ext φ=>exact x.2.1
theorem HOk.none {P:Program} {w:World} {H:Hp} {h:Heap} (x:HOk P w H h) {a:Addr} (n:h.get? a=.none):H a=.none:=by
  cases q:H a with
  | none=>rfl
  | some o =>
    obtain ⟨ob,e⟩:=aBp (x a o q)
    rw [n] at e; cases e
abbrev veM:List Value:=[.type "ValueError",.type "Exception",.type "BaseException",.type "object"]
abbrev aVk (X:Cx) (x:Str) (C:Addr):Prop:=PyProof.Rows.OwnCls x C veM "ValueError.__new__" X.mg X.base
def aNc (Ex:ExT) (c:Value):XS:=fun _ _=>Ex c
theorem aDk {X:Cx} {Ex:ExT} {x z:Str} {C:Addr} {np cpos pos p:Pos} {j:Nat} (O:aVk X x C) (hc:X.calm=true) (hg:Gl X x) (hd:(x == ("__debug__" : Str))=false:=by decide)
    (he:starEach [.Constant (.str z) j p] X.env=[(false,eval (.Constant (.str z) j p) X.env)]:=by rfl):XSt X Ex (.Raise (some (.Call (.Name x np) [.Constant (.str z) j p] [] cpos)) none pos) (aNc Ex (.ref C)):=fun F _ pins s σ H D I h=>by
  obtain ⟨ρ,fr,d,E,q,k⟩:=h
  have pa:PA X [.Constant (.str z) j p] (kX (tC (.str z)) zV):=jG he_ nF he
  obtain ⟨tl,N,nm,qn,bs,hdct,sn,sub,ab,col,dd,k0,k1,k2,k3,k5,mN,hC,hN,hni,T⟩:=O.obj
  refine wpAny_Raise_call_subT (C:=C) (nm:=nm) (q:=qn) (N:=N) (bs:=bs) (bm:=tl) (hdct:=hdct) (sn:=sn) (sub:=sub) (ab:=ab) (col:=col) (dd:=dd) (k0:=k0) (k1:=k1) (k2:=k2) (k3:=k3) (k5:=k5)
    PySem.F.excBase_ValueError (mN:=mN) (T.hasType PySem.F.excBase_ValueError.hasBase) (I.ok.hd hc) (by rw [he]; rfl) hni (in_ I hg O.bound ⟨rfl,?_⟩ hd)
  refine Calls.evalArgs_plain ?_
  refine wpAny_mono (pa cpos pins s σ H (fun vs H1=>vs=[.str z]∧H1=H) I ⟨rfl,rfl⟩) (fun us s₂ h₂ => ?_) fun _ _ y=>y
  obtain ⟨vs,H1,I2,rv,rfl,rfl⟩:=h₂
  refine ⟨rfl,by rw [← rv.length]; show 1≤sizeLine; exact bP (by decide) (Nat.le_of_lt jD),I2.bk _ _ hC,hN.keeps I2.bk,T.keeps I2.bk,fun h' e hm => ?_⟩
  obtain ⟨t,ht,tn,_⟩:=hm.there
  refine OkF.pass (Ex:=Ex) (F:=F) pins σ H1 s₂ _ _ I2 ⟨e,.ref C,H1,rfl,rfl,I2.bare,Un.kept hm.keeps,I2.hok.kept hm.keeps,⟨hm.new,HOk.none I2.hok hm.new,_,_,ht,rfl,rfl,rfl,by show 1 < 6; decide,.inl rfl⟩,q,fun b o h1 h2=>E.rep.kp b o h1 h2⟩
section
variable {X:Cx} {pins:gC} {σ:St} {H H':Hp} {s s':Shared} {h':Heap} {S:List Addr}
theorem Inv.noLoc (I:Inv X pins σ H s) {b:Addr} {o:Obj} {vs:Array Value} (h:s.heap.get? b=some o) (hd:o.data=.fields vs):b≠X.env.locals∧∀ x c,X.env.cells.lookup x=some c→c≠b:=by
  refine ⟨fun z => ?_,fun x c e z => ?_⟩
  · obtain ⟨m, ⟨oL, es, ep, hL, hLd, _⟩, _⟩ := I.loc
    rw [z,hL] at h; cases h; rw [hLd] at hd; cases hd
  · obtain ⟨v, o', ho, hv⟩ := I.cell x c e
    rw [z,h] at ho; cases ho; rw [hv] at hd; cases hd
theorem Inv.noted {t':Nat} (I:Inv X pins σ H s) (kx:aAq (frs X.stack) S s.heap h') (hS:∀ b∈S,(X.s₀.heap.get? b=none∧∀ p∈X.pn ++ pins,p.1≠b)∧H b=none∧∃ o vs,s.heap.get? b=some o∧o.data=.fields vs):Inv X pins σ H { s with heap:=h',toks:=t' }:=by
  have neL:∀ b o,X.s₀.heap.get? b=some o→b≠X.env.locals:=fun b o e=>cW (bL (aR e) I.ok.above)
  have nS:∀ b o,X.s₀.heap.get? b=some o→b∉S:=fun b o e z=>by rw [(hS b z).1.1] at e; cases e
  have nst:∀ b,b≠X.env.locals→b∉X.fs→b∉frs X.stack:=fun b h1 h2 z=>(aF.mp (I.stkSub b z)).elim h1 h2
  have lS:X.env.locals∉S:=fun z=>by obtain ⟨_,_,o,vs,h1,h2⟩:=hS _ z; exact (Inv.noLoc I h1 h2).1 rfl
  have cS:∀ x c,X.env.cells.lookup x=some c→c∉S:=fun x c e z=>by obtain ⟨_,_,o,vs,h1,h2⟩:=hS _ z; exact (Inv.noLoc I h1 h2).2 x c e rfl
  have cell:∀ x c,X.env.cells.lookup x=some c→∀ v,s.heap.IsCell c v→h'.IsCell c v:=fun x c e v ⟨o,ho,hd⟩=>by
    obtain ⟨sl,e2⟩:=(kx c o ho (cS x c e)).2
    exact ⟨_,e2,hd⟩
  have B:=I.base
  refine ⟨I.ok,I.os,I.bare,⟨fun b o e n hb hx => ?_,fun b o e n hb hx => ?_,B.free,fun b o e hx => ?_,B.tups,B.frzs,B.tbls⟩,?_,fun x c e => ?_,I.free,I.freeC,fun p hp => ?_,sH I.hok kx I.stkFree (fun b hb=>(hS b hb).2.1),I.len⟩
  · exact (kx b o (B.keep b o e n hb hx) (nS b o e)).1 (nst b (neL b o e) hb)
  · obtain ⟨sl, e1⟩ := B.slot b o e n hb hx
    obtain ⟨sl',e2⟩:=(kx b _ e1 (nS b o e)).2
    exact ⟨sl',e2⟩
  · obtain ⟨o', e1⟩ := B.there b o e hx
    obtain ⟨sl',e2⟩:=(kx b _ e1 (nS b o e)).2
    exact ⟨_,e2⟩
  · obtain ⟨m, ⟨oL, es, ep, hL, r⟩, hl⟩ := I.loc
    obtain ⟨sl,e2⟩:=(kx _ oL hL lS).2
    refine ⟨m,⟨_,es,ep,e2,r⟩,fun i x v e1 e2 e3 => ?_⟩
    obtain ⟨u,ru,lk⟩:=hl i x v e1 e2 e3
    refine ⟨u,ru,?_⟩
    rcases lk with lk | ⟨k,c,e,z⟩
    · exact .inl lk
    · exact .inr ⟨k,c,e,cell x c e _ z⟩
  · obtain ⟨v, z⟩ := I.cell x c e
    exact ⟨v,cell x c e v z⟩
  · obtain ⟨e, n, ne, nf, d⟩ := I.pin p hp
    exact ⟨(kx p.1 p.2 e fun z=>(hS p.1 z).1.2 p hp rfl).1 (nst p.1 ne nf),n,ne,nf,d⟩
theorem Inv.caught {ea:Addr} {cls:Value} {o:Obj} {vs:Array Value} (I:Inv X pins σ H s) (nw:X.s₀.heap.get? ea=none∧∀ p∈X.pn ++ pins,p.1≠ea) (hn:H ea=none) (he:s.heap.get? ea=some o) (hc:o.cls=cls) (hd:o.data=.fields vs) (hdn:o.dict=none) :
    Inv X pins σ (upd H ea (.ext (aCf ea cls))) s:=by
  obtain ⟨nl,nc⟩:=Inv.noLoc I he hd
  have B:=I.base
  have ne:∀ b u,H b=some u→b≠ea:=fun b u e z=>by rw [z,hn] at e; cases e
  refine ⟨I.ok,I.os,I.bare,⟨B.keep,B.slot,fun b o e n hx => ?_,B.there,fun b xs e => ?_,fun b o xs e => ?_,fun b ps e => ?_⟩,I.loc,I.cell,?_,fun x c e => ?_,fun p hp => ?_,fun a u e => ?_,I.len⟩
  · rw [fX fun z=>by rw [z,nw.1] at e; cases e]; exact B.free b o e n hx
  · have:=B.tups b xs e; rw [fX (ne b _ this)]; exact this
  · have:=B.frzs b o xs e; rw [fX (ne b _ this)]; exact this
  · obtain ⟨more,h1⟩:=B.tbls b ps e; exact ⟨more,by rw [fX (ne b _ h1)]; exact h1⟩
  · rw [fX (Ne.symm nl)]; exact I.free
  · rw [fX (nc x c e)]; exact I.freeC x c e
  · obtain ⟨e1, e2, e3⟩ := I.pin p hp
    exact ⟨e1,by rw [fX (nw.2 p hp)]; exact e2,e3⟩
  · by_cases z : a = ea
    · subst z
      rw [cJ] at e
      cases e
      exact ⟨⟨o,vs,he,hc,hd,hdn⟩,⟨o,he⟩,fun h1 h2 ⟨o',vs',a1,a2⟩ k=>⟨o',vs',k o' a1,a2⟩⟩
    · rw [fX z] at e
      exact ObjOk.stay (I.hok a u e) (fun b v _ hv=>hv) (fun b hb=>by rw [fX (ne b _ hb)]; exact hb) (fun b xs hb=>by rw [fX (ne b _ hb)]; exact hb)
theorem gf_ {M:Model} {A:Around} {E:gU} {i:Nat} {n:Str} {pos:Pos} {Q:Unit→Shared→Prop} (I:Inv X pins σ H s) (hN:X.N.Nodup) (hi:X.N[i]? = some n) (hk:X.env.kindOf n=some .local)
    (h:∀ s',Inv X pins (σ.set i none) H s'→Q () s'):wpAny M A (do bindName X.env n .none; unbindBehindTheSuite X.env n pos) Q E s:=by
  obtain ⟨m,hn,hl⟩:=id I.loc
  obtain ⟨oL,_,_,hoL,_⟩:=id hn
  have hcls:(X.env.scope.kind == .class || (X.env.scope.kind == .module && X.env.locals != X.env.globals))=false:=by rw [I.ok.kind]; rfl
  have hiσ:i < σ.length:=by rw [I.len]; exact (aK.mp hi).1
  refine wpAny_nameGoes_keeps hk hn hcls fun h' v hn' hs=>h _ ?_
  have nl:∀ b o,X.s₀.heap.get? b=some o→b≠X.env.locals:=fun b o e=>cW (bL (aR e) I.ok.above)
  refine ⟨I.ok,I.os,I.bare,⟨fun b o e n hb hx => ?_,fun b o e n hb hx => ?_,I.base.free,fun b o e hx => ?_,I.base.tups,I.base.frzs,I.base.tbls⟩,⟨_,hn',fun j y v' e1 e2 e3 => ?_⟩,fun y c e => ?_,I.free,I.freeC,fun p hp => ?_,fun b ob e => ?_,by simpa using I.len⟩
  · exact (hs.2 b (nl b o e)).trans (I.base.keep b o e n hb hx)
  · obtain ⟨sl, e1⟩ := I.base.slot b o e n hb hx
    exact ⟨sl,(hs.2 b (nl b o e)).trans e1⟩
  · obtain ⟨o', e1⟩ := I.base.there b o e hx
    exact ⟨o',(hs.2 b (nl b o e)).trans e1⟩
  · by_cases hj : j = i
    · subst hj
      rw [eQ hiσ] at e2
      cases e2
    · rw [dF (Ne.symm hj)] at e2
      obtain ⟨u',r',q⟩:=hl j y v' e1 e2 e3
      refine ⟨u',r',?_⟩
      rcases q with ⟨k,e⟩ | ⟨k,c,e,z⟩
      · refine .inl ⟨k, ?_⟩
        have:y≠n:=fun e=>hj (pH hN e1 (e ▸ hi))
        simp [this,e]
      · exact .inr ⟨k,c,e,z.sameBut hs (I.cne y c e)⟩
  · obtain ⟨v', z⟩ := I.cell y c e
    exact ⟨v',z.sameBut hs (I.cne y c e)⟩
  · obtain ⟨e, n, ne, nf, d⟩ := I.pin p hp
    exact ⟨(hs.2 p.1 ne).trans e,n,ne,nf,d⟩
  · refine (I.hok b ob e).stay (fun c w' hc q => (hs.2 c ?_).trans q) (fun _ q => q) fun _ _ q => q
    rintro rfl
    rcases hc with rfl | hc
    · rw [I.free] at e; cases e
    · rw [I.free] at hc; cases hc
end
abbrev NwT (X:Cx) (pins:gC):Addr→Prop:=fun b=>X.s₀.heap.get? b=none∧∀ p∈X.pn ++ pins,p.1≠b
abbrev aBd (X:Cx) (pins:gC) (σ:St) (Qe:Value→Hp→Prop):Cx:={ X with pn:=X.pn ++ pins,xe:=fun e s' => ∃ ea cls H',e=.ref ea∧Inv X pins σ H' s'∧Air (NwT X pins) s'.heap H' ea cls∧Qe cls H' }
section
variable {X:Cx} {pins:gC} {σ:St} {H:Hp} {s:Shared} {Qe:Value→Hp→Prop}
theorem Inv.inTry {σ0:St} (I:Inv X pins σ H s):Inv (aBd X pins σ0 Qe) [] σ H s :=
  ⟨⟨I.ok.mod,I.ok.kind,I.ok.glob,I.ok.blt,I.ok.above,I.ok.inj,I.ok.has,I.ok.cab,I.ok.hd,I.ok.frames,I.ok.stk,I.ok.exf,I.ok.bs,I.ok.bsz,I.ok.noex,I.ok.exfs,I.ok.funs,I.ok.frf⟩,I.os,I.bare,I.base,I.loc,I.cell,I.free,I.freeC,fun p hp=>I.pin p (by simpa using hp),I.hok,I.len⟩
theorem Inv.outTry {σ0:St} {pins':gC} (I:Inv (aBd X pins σ0 Qe) pins' σ H s):Inv X pins σ H s :=
  ⟨⟨I.ok.mod,I.ok.kind,I.ok.glob,I.ok.blt,I.ok.above,I.ok.inj,I.ok.has,I.ok.cab,I.ok.hd,I.ok.frames,I.ok.stk,I.ok.exf,I.ok.bs,I.ok.bsz,I.ok.noex,I.ok.exfs,I.ok.funs,I.ok.frf⟩,I.os,I.bare,I.base,I.loc,I.cell,I.free,I.freeC,fun p hp=>I.pin p (bH _ hp),I.hok,I.len⟩
end
abbrev XQ:=En→(En→Prop)→(Value→En→Prop)→Prop
def tXQ (F:Fm) (σ0:St) (Qe:Value→Hp→Prop) (q:XQ):TS:=fun D σ H=>σ=σ0∧∃ ρ fr Qx Qe',EOk F ρ σ fr H∧q ρ Qx Qe'∧(∀ σ' H' ρ',σ'.length=σ.length→EOk F ρ' σ' fr H'→Qx ρ'→D.nx σ' H')∧∀ c H' ρ',EOk F ρ' σ fr H'→Qe' c ρ'→Qe c H'
def XQs (X:Cx) (sts:List Stmt) (q:XQ):Prop := ∀ pins σ0 Qe F,PSs (aBd X pins σ0 Qe) sts (tXQ F σ0 Qe q)
section
variable {X:Cx} {pins:gC} {σ0:St} {Qe:Value→Hp→Prop} {F:Fm} {g:GE} {u:XA}
def aEa (F:Fm) (σ0:St) (Qe:Value→Hp→Prop) (g:GE) (u:XA):TE:=fun σ H Q=>σ=σ0∧∃ (ρ:En) (fr:List Rw) (Qx:Sv→En→Prop) (Qe':Value→En→Prop),EOk F ρ σ fr H∧(u ρ fun ss ρ'=>g (ss.map Sv.d) (fun s=>Qx s ρ') (fun c=>Qe' c ρ'))∧(∀ v s H' ρ',EOk F ρ' σ ((.v s,some v) :: fr) H'→Qx s ρ'→Q v H')∧∀ c H' ρ',EOk F ρ' σ fr H'→Qe' c ρ'→Qe c H'
theorem aFb {j:Nat} {x:Str} {ps:List Str} {e:Expr} {es:List Expr} {p pos:Pos} (C:aRl X.prog X.w X.K X.mg X.base j x ps (spE g)) (hr:Room j X.A) (ha:XAs (aBd X pins σ0 Qe) cC (e :: es) u) (hex:X.ex=[]:=by rfl) (hg:Gl X x:=by rfl) (hdb:(x == ("__debug__" : Str))=false:=by decide)
    (he:starEach (e :: es) X.env=(false,eval e X.env) :: starEach es X.env:=by rfl) (hpl:(backTo pos (starEach es X.env)).any (·.1)=false:=by rfl):PE (aBd X pins σ0 Qe) (.Call (.Name x p) (e :: es) [] pos) (aEa F σ0 Qe g u):=by
  obtain ⟨f,fd,G,hb,hk,hm⟩:=C
  intro pins' s σ H Q I h
  obtain ⟨rfl,ρ,fr,Qx,Qe',E,q,k1,k2⟩:=h
  refine wpAny_Call_Name_kw (in_ I hg hm ?_ hdb)
  refine PySem.W.callWith_K (h₀:=X.base) I.ok.mod.kin hk (fL (ha F pos pins' s σ H (fun vs H1=>spE g vs H1 Q (fun c _ H'=>Qe c H')) I ⟨ρ,fr,_,E,q,fun vs ss H2 ρ2 hl E2 q2 => ?_⟩) fun us s1 ⟨vs,H1,I1,r,q⟩=>⟨I1.kIn,?_⟩) he hpl
  · obtain ⟨R, hs⟩ := E2.many hl
    exact ⟨_,_,_,fun c=>Qe' c ρ2,R.hv,hs,q2,fun s v H' e hr q=>k1 v s H' ρ2 (EOk.back E2.len (R.res e hr)) q,fun c H' e q=>k2 c H' ρ2 ⟨E2.len,R.grow e⟩ q⟩
  · have hl := G.len _ _ _ _ q
    have hl2:us.length=ps.length:=by rw [← r.length]; exact hl
    refine wpAny_call (codeAny_mono (G.run X.A X.stack s1 H1 ⟨us,[]⟩ us vs Q _ hr I1.env0 (by have:=hb s1 us I1.kIn (by rw [cR]; exact hl2); rwa [cR] at this) r q) fun r s' hq => ?_)
    cases r with
    | error e =>
      obtain ⟨ea,cls,H',rfl,os,bare,un,hok,air,hx⟩:=hq
      refine ⟨ea,cls,H',rfl,Inv.outTry (Inv.thrown I1 os bare un hok),air.older fun b hb=>⟨?_,fun p hp z => ?_⟩,hx⟩
      · cases qq : X.s₀.heap.get? b with
        | none=>rfl
        | some o =>
          obtain ⟨o',e'⟩:=I1.base.there b o qq (by show b∉X.ex; rw [hex]; simp)
          rw [hb] at e'; cases e'
      · obtain ⟨e1, _⟩ := I1.pin p (bH _ hp)
        rw [z,hb] at e1; cases e1
    | ok fl =>
      cases fl with
      | ret v=>exact I1.after hq
      | next=>exact False.elim hq
      | brk=>exact False.elim hq
      | cont=>exact False.elim hq
end
def aSd (g:GE) (u:XA):XQ:=fun ρ N Qe=>u ρ fun ss ρ'=>g (ss.map Sv.d) (fun _=>N ρ') (fun c=>Qe c ρ')
section
variable {X:Cx} {st:Stmt} {i:Nat} {g:GE} {u:XA} {q r:XQ} {e c:Expr} {tc:XC} {pos:Pos}
theorem aMy (h:∀ pins σ0 Qe F,PE (aBd X pins σ0 Qe) e (aEa F σ0 Qe g u)) (hs:swapsWith e none pos.line X.env=pure false:=by rfl):XQs X [.Expr e pos] (aSd g u):=fun pins σ0 Qe F=>(eu_ (if_ (h pins σ0 Qe F) hs)).weak fun D σ H=>by
  rintro ⟨rfl,ρ,fr,Qx,Qe',E,q,k1,k2⟩
  exact ⟨rfl,ρ,fr,fun _ ρ'=>Qx ρ',Qe',E,q,fun v s H' ρ' E' q'=>k1 σ H' ρ' rfl E'.drop q',k2⟩
end
def zH (base:Heap) (C D:Addr):Prop := ∃ nm q N bs bm hdct sn sub ab col dd k0 k1 k2 k3 k5 newId,base.get? C=some (excClassObj nm q C N bs bm hdct sn sub ab col dd k0 k1 k2 k3 k5 newId)∧(Value.ref C :: bm).contains (.ref D)=true
section
variable {M:Model} {A:Around} {E:gU} {h:Heap} {g:Array GenState} {d:Drawn} {t:Nat} {os:OsState}
theorem pZ {C D e:Addr} {oe:Obj} {Q:Bool→Shared→Prop} {nm q:Str} {N:Addr} {bs bm:List Value} {hdct:Bool} {sn:List Str} {sub:List Value} {ab:Bool} {col:Option Bool} {dd:Option Addr} {k0 k1 k2 k3 k5:Option Value} {newId:String}
    {nm' q':Str} {N':Addr} {bs' bm':List Value} {hdct':Bool} {sn':List Str} {sub':List Value} {ab':Bool} {col':Option Bool} {dd':Option Addr} {k0' k1' k2' k3' k5':Option Value} {newId':String}
    (hC:h.get? C=some (excClassObj nm q C N bs bm hdct sn sub ab col dd k0 k1 k2 k3 k5 newId)) (hD:h.get? D=some (excClassObj nm' q' D N' bs' bm' hdct' sn' sub' ab' col' dd' k0' k1' k2' k3' k5' newId')) (he:h.get? e=some oe) (hcls:oe.cls=.ref C)
    (hbase:bm'.contains (.type "BaseException")=true) (hsub:(Value.ref C :: bm).contains (.ref D)=true) (hq:Q true ⟨h,g,d,t,os⟩):wpAny M A (excMatches (.ref e) (.ref D)) Q E ⟨h,g,d,t,os⟩:=by
  have hcB:(Value.ref D :: bm').contains (.type "BaseException")=true:=by rw [List.contains_cons,hbase,Bool.or_true]
  have f:=tc_notTuple
  unfold excMatches
  repeat (first | (with_reducible refine wpAny_loadPart_at he ?_; rw [hcls]) | with_reducible refine wpAny_loadPart_at hD ?_ | (with_reducible refine wpAny_isSubtype_exc hD ?_; rw [hcB]) | (with_reducible refine wpAny_isSubtype_exc hC ?_; rw [hsub]) | wp_step)
  exact hq
end
abbrev aHb (X:Cx) (ea:Addr):Cx:={ X with A:=X.A.mark (some (.ref ea)),calm:=false,xe:=fun _ _=>False }
section
variable {X:Cx} {pins:gC} {σ:St} {H:Hp} {s:Shared} {ea:Addr}
theorem Inv.inExc (I:Inv X pins σ H s):Inv (aHb X ea) pins σ H s :=
  ⟨⟨I.ok.mod,I.ok.kind,I.ok.glob,I.ok.blt,I.ok.above,I.ok.inj,I.ok.has,I.ok.cab,(fun z=>nomatch z),I.ok.frames,I.ok.stk,I.ok.exf,I.ok.bs,I.ok.bsz,I.ok.noex,I.ok.exfs,I.ok.funs,I.ok.frf⟩,I.os,I.bare,I.base,I.loc,I.cell,I.free,I.freeC,I.pin,I.hok,I.len⟩
theorem Inv.outExc (ok:X.Ok) (I:Inv (aHb X ea) pins σ H s):Inv X pins σ H s:=⟨ok,I.os,I.bare,I.base,I.loc,I.cell,I.free,I.freeC,I.pin,I.hok,I.len⟩
end
def aWx (M:Value→Prop) (jn:Nat) (q:XQ) (K:XS):XS:=fun ρ D=>q ρ D.nx fun c ρ'=>M c∧K (ρ'.set jn (.v (.tr (.exc c)))) ⟨fun ρ2=>D.nx (ρ2.set jn .un),fun s ρ2=>D.rt s (ρ2.set jn .un),fun ρ2=>D.bk (ρ2.set jn .un),fun ρ2=>D.ct (ρ2.set jn .un)⟩
theorem ho_ {F:Fm} {ρ:En} {σ:St} {fr:List Rw} {H:Hp} {i:Nat} (E:EOk F ρ σ fr H):EOk F (ρ.set i .un) (σ.set i none) fr H:=by
  by_cases hi:i < ρ.length
  · refine ⟨by rw [bF, bF]; exact E.len, ?_⟩
    have hz:=aEs (l:=ρ.zip σ) (i:=i) (aD (by rw [cQ]; have:=E.len; omega))
    have R:=E.rep.perm (hz.append_right fr)
    exact (R.tail.addU (x:=none)).perm ((nJ E.len hi).append_right fr).symm
  · rw [dL (by omega), dL (by have := E.len; omega)]
    exact E
theorem aMx {X:Cx} {Ex:ExT} {body suite:List Stmt} {b₀:Stmt} {cn n:Str} {jn:Nat} {Cc:Addr} {q:XQ} {K:XS} {cp hp pos:Pos} (hq:XQs X body q) (O:aVk X cn Cc) (hst:X.stack=X.env :: X.outer) (hfr:X.env.frame=some X.env.locals) (hgc:Gl X cn) (hN:X.N.Nodup) (hi:X.N[jn]? = some n) (hk:X.env.kindOf n=some .local)
    (hh:∀ ea,XSs (aHb X ea) cC (b₀ :: suite) K) (hdb:(cn == ("__debug__" : Str))=false:=by decide) (hf:X.fn n=true∨X.env.scope.names.lookup n=some .local:=by first | exact .inl rfl | exact .inr rfl) :
    XSt X Ex (.Try body [.ExceptHandler (some (.Name cn cp)) (some n) (b₀ :: suite) hp] [] [] pos) (aWx (fun c => ∃ C,c=.ref C∧zH X.base C Cc) jn q K):=fun F _ pins s σ H D I h=>by
  obtain ⟨ρ,fr,d,E,t,k⟩:=h
  let Qe:Value→Hp→Prop:=fun c H' => ∃ ρ',EOk F ρ' σ fr H'∧(∃ C,c=.ref C∧zH X.base C Cc)∧K (ρ'.set jn (.v (.tr (.exc c)))) ⟨fun ρ2=>d.nx (ρ2.set jn .un),fun s ρ2=>d.rt s (ρ2.set jn .un),fun ρ2=>d.bk (ρ2.set jn .un),fun ρ2=>d.ct (ρ2.set jn .un)⟩
  refine wpAny_Try_except (wpAny_mono (hq pins σ Qe F [] s σ H ⟨D.nx,fun _ _=>False,fun _ _=>False,fun _ _=>False⟩ (Inv.inTry I) ⟨rfl,ρ,fr,d.nx,_,E,t,fun σ' H' ρ' hl E' q'=>k.nx σ' H' ρ' hl E' q',fun c H' ρ' E' q'=>⟨ρ',E',q'⟩⟩) (fun f s₁ h₁ => ?_) fun e s₁ h₁ => ?_)
  · cases f with
    | next =>
      obtain ⟨σ',H',I',q'⟩:=h₁
      exact wpAny_execs_nil ⟨σ',H',Inv.outTry I',q'⟩
    | brk=>obtain ⟨_,_,_,q'⟩:=h₁; exact q'.elim
    | cont=>obtain ⟨_,_,_,q'⟩:=h₁; exact q'.elim
    | ret u=>obtain ⟨_,_,_,_,_,q'⟩:=h₁; exact q'.elim
  · obtain ⟨ea, cls, H', rfl, I1, air, ρ', E1, ⟨C, rfl, hUn⟩, hK⟩ := h₁
    have fr1:X.A.frames=some (X.env :: X.outer):=by rw [← hst]; exact I1.ok.frames
    refine xD (base:=X.base) (nw:=NwT X pins) (H:=H') (L:=X.env.locals) fr1 (by rw [← hst]; exact I1.stack) hfr (fun T hT=>⟨Heap.get?_none_of_le (bP I1.sz hT),fun p hp z => ?_⟩) (fun a ha=>I1.hok.fresh ha) air fun h2 S hS kx air2 => ?_
    · obtain ⟨e1, _⟩ := I1.pin p hp
      exact absurd (aR e1) (by rw [z]; exact Nat.not_lt.mpr hT)
    have I2:Inv X pins σ H' { s₁ with heap:=h2 }:=Inv.noted (t':=s₁.toks) I1 (by rw [hst]; exact kx) hS
    generalize hs2:({ s₁ with heap:=h2 }:Shared)=s₂ at I2 ⊢
    have air3:Air (NwT X pins) s₂.heap H' ea (.ref C):=by rw [← hs2]; exact air2
    clear air2 hs2 kx hS I1
    obtain ⟨nm,qn,N,bs,bm,hdct,sn,sub,ab,col,dd,k0,k1,k2,k3,k5,newId,hC,hsub⟩:=hUn
    obtain ⟨tl,N',nm',qn',bs',hdct',sn',sub',ab',col',dd',k0',k1',k2',k3',k5',mN',hD,hN',hni',T'⟩:=O.obj
    obtain ⟨nw,hnE,oe,vs,he,hc,hd,hdn,hsz,a3⟩:=air3
    refine wpAny_handleBy_cons (codeAny_handlers_test (in_ (X:=aHb X ea) (Inv.inExc I2) hgc O.bound ?_ hdb)) (by intro z; cases z)
    obtain ⟨hp2,g2,d2,t2,os2⟩:=s₂
    refine pZ (I2.bk _ _ hC) (I2.bk _ _ hD) he hc (T'.hasType PySem.F.excBase_ValueError.hasBase) hsub ?_
    rw [if_pos rfl]
    refine codeAny_handlers_suite_as ?_
    have fl:∀ {Q:Unit→Shared→Prop} {E':gU},(∀ h3,Inv X pins σ H' ⟨h3,g2,d2,t2,os2⟩→(∃ o vs,h3.get? ea=some o∧o.cls=.ref C∧o.data=.fields vs∧o.dict=none)→Q () ⟨h3,g2,d2,t2,os2⟩)→wpAny (model X.prog X.w) (X.A.mark (some (.ref ea))) (setFlight (.ref ea) none) Q E' ⟨hp2,g2,d2,t2,os2⟩:=fun {Q E'} hQ=>by
      rcases a3 with a3 | ⟨T,oT,ts,a3,aT,aN,aH,hT,hdT,h3⟩
      · unfold setFlight
        refine wpAny_bind (wpAny_field he hd a3 ?_)
        rw [if_neg (by decide)]
        exact wpAny_pure (hQ hp2 I2 ⟨oe,vs,he,hc,hd,hdn⟩)
      · refine wpAny_setFlight_none he hd a3 hT hdT (Array.getElem?_eq_some_iff.mp h3).1 (hQ _ ?_ ⟨oe, vs, ?_, hc, hd, hdn⟩)
        · refine Inv.noted (s := ⟨hp2, g2, d2, t2, os2⟩) (S := [T]) (t' := t2) I2 (fun b o hb hbS => ?_) (fun b hb => by rw [aO.mp hb]; exact ⟨aN, aH, oT, ts, hT, hdT⟩)
          have n2:b≠T:=fun z=>hbS (aO.mpr z)
          have e2:=(bR hp2 (Obj.mapFields (·.setIfInBounds 3 Value.none)) (Ne.symm n2)).trans hb
          exact ⟨fun _=>e2,o.slots,e2⟩
        · exact (bR _ _ aT).trans he
    refine fl fun h3 I3 ⟨o3,vs3,he3,hc3,hd3,hdn3⟩ => ?_
    have I4:=Inv.caught I3 nw hnE he3 hc3 hd3 hdn3
    refine hy_ (X:=aHb X ea) (v:=.ref ea) (Inv.inExc I4) hN hi (.inl hk) rfl (fun s5 I5 _ => ?_) hf
    have e4:Same H' (upd H' ea (.ext (aCf ea (.ref C)))):=dn_ hnE _
    have E4:=E1.grow e4
    have E5:EOk F (ρ'.set jn (.v (.tr (.exc (.ref C))))) (σ.set jn (some (.ref ea))) fr (upd H' ea (.ext (aCf ea (.ref C)))):=by
      refine iv_ (EOk.back E4.len (E4.rep.add (IsX.of_exc (bS.mpr ⟨E1.rep.not_own hnE,(qL (E1.rep.fresh hnE)).trans ?_⟩))))
      rw [cJ]; rfl
    have ends:DOk F (σ.set jn (some (.ref ea))).length fr ⟨fun σ' H2=>D.nx (σ'.set jn none) H2,fun v H2=>D.rt v H2,fun σ' H2=>D.bk (σ'.set jn none) H2,fun σ' H2=>D.ct (σ'.set jn none) H2⟩ ⟨fun ρ2=>d.nx (ρ2.set jn .un),fun s ρ2=>d.rt s (ρ2.set jn .un),fun ρ2=>d.bk (ρ2.set jn .un),fun ρ2=>d.ct (ρ2.set jn .un)⟩:=by
      have hl:(σ.set jn (some (.ref ea))).length=σ.length:=bF
      refine ⟨fun σ' H2 ρ2 h1 h2 h3=>k.nx _ H2 _ (by rw [bF,h1,hl]) (ho_ h2) h3,fun v s σ' H2 ρ2 h1 h2 h3=>k.rt v s (σ'.set jn none) H2 _ (by rw [bF,h1,hl]) (ho_ h2) h3,fun σ' H2 ρ2 h1 h2 h3=>k.bk _ H2 _ (by rw [bF,h1,hl]) (ho_ h2) h3,fun σ' H2 ρ2 h1 h2 h3=>k.ct _ H2 _ (by rw [bF,h1,hl]) (ho_ h2) h3⟩
    refine wpAny_mono (hh ea F pins s5 _ _ _ I5 ⟨_,fr,_,E5,hK,ends⟩) (fun f s6 h6 => ?_) fun _ _ z=>False.elim z
    cases f with
    | next =>
      obtain ⟨σ',H2,I6,q6⟩:=h6
      exact gf_ (Inv.outExc I4.ok I6) hN hi hk fun s7 I7=>⟨_,H2,I7,q6⟩
    | brk =>
      obtain ⟨σ',H2,I6,q6⟩:=h6
      exact gf_ (Inv.outExc I4.ok I6) hN hi hk fun s7 I7=>⟨_,H2,I7,q6⟩
    | cont =>
      obtain ⟨σ',H2,I6,q6⟩:=h6
      exact gf_ (Inv.outExc I4.ok I6) hN hi hk fun s7 I7=>⟨_,H2,I7,q6⟩
    | ret u =>
      obtain ⟨v,σ',H2,I6,rv,q6⟩:=h6
      exact gf_ (Inv.outExc I4.ok I6) hN hi hk fun s7 I7=>⟨v,_,H2,I7,rv,q6⟩
end Lf
namespace PySem.W
open PySem PySem.Spec PySem.Calls PyProof.Rows
section
variable {prog:Program} {w:World} {A:Around} {E:gU} {s:Shared} {K:Frag} {x C D:Addr} {ox:Obj} {od:Obj} {odo:Option Obj} {name:Str}
def excKit (K:Frag) (D:Addr):Bool:=(findIn K (.ref D) "__getattribute__" == some (some (.builtin "BaseException.__getattribute__"))) && (findIn K (.ref D) "__getattr__" == some none) && (mroIn K D (.type "BaseException") == some true) && (mroIn K D (.type "object") == some true) &&
  (findIn K (.ref D) "__class__" == some (some (.builtin "object.__class__"))) && (specialIn K (.builtin "object.__class__") "__get__" == some (some (.builtin "getset_descriptor.__get__"))) && (takesIn K (.builtin "object.__class__") == some true)
end
end PySem.W
namespace Lf
open PySem L2
open PySem.W (Frag nsIn)
def uX (K:Frag) (N:Addr) (n:Str):Bool:=match K.lookup N with
  | some ⟨_,_,.dict es _,_⟩=>es.toList.all (fun e=>match e.key with | .str _ _=>true | _=>false) && (es.toList.find? (·.key.isStr n)).isNone
  | _=>false
def gT (K:Frag):Nat→List Value→Bool
  | n + 1, .ref A :: r => (match K.lookup A with
    | some ⟨_,_,.cls cd,_⟩=>uX K cd.ns "__init__" && gT K n r
    | _=>false)
  | _,l=>l == veM
def mS (K:Frag) (C:Addr):Bool:=match K.lookup C with
  | some ⟨.type "type", _, .cls cd, sl⟩ => (match cd.mro with
    | .ref C' :: tl=>C' == C && cd.hasDel == false && sl.size == 6 && sl[4]? == some (some (.builtin "ValueError.__new__")) && uX K cd.ns "__init__" && gT K 4 tl
    | _=>false) && PySem.W.excKit K C
  | _=>false
def mU (K:Frag) (n:Str):Option Addr:=match nsIn K mainGlobals n with
  | some (some (.ref C))=>some C
  | _=>none
def zS (K:Frag) (C D:Addr):Bool:=match K.lookup C with
  | some ⟨_,_,.cls cd,_⟩=>cd.mro.contains (.ref D)
  | _=>false
def aPs (K:Frag) (ns:List Str):List (Bool×List (Option Bool×Bool)×Option Bool×Option Bool):=ns.map fun n=>match mU K n with
  | some C=>(mS K C,ns.map (fun m=>match mU K m with | some D=>(PySem.W.kitOne K (.ref C) (.ref D),zS K C D) | none=>(none,false)),PySem.W.kitOne K (.ref C) (.type "ValueError"),PySem.W.kitOne K (.type "NoneType") (.ref C))
  | none=>(false,[],none,none)
section
variable {K:Frag} {h:Heap}
theorem sB {N:Addr} {n:Str} (e:uX K N n=true) (X:K.In h):∃ m,h.Ns N m∧m n=none:=by
  unfold uX at e
  split at e
  · rename_i c d es ep sl q
    obtain ⟨e1,e2⟩:=gH.mp e
    refine ⟨nsFind es,⟨_,es,ep,X _ _ q,rfl,fun en hen => ?_,fun _=>rfl⟩,?_⟩
    · have := fD.mp e1 en (by simpa using hen)
      split at this
      · rename_i x t hk; exact ⟨x,t,hk⟩
      · cases this
    · unfold nsFind findBy
      rw [← Array.find?_toList]
      rw [Option.isNone_iff_eq_none] at e2
      rw [e2]
      rfl
  · cases e
theorem oV:∀ (k:Nat) (l:List Value),gT K k l=true→K.In h→OwnTail h veM l
  | 0, l, e, X => by
    have:l=veM:=by simpa [gT] using e
    rw [this]; exact .base
  | k + 1, [], e, X => by
    have:([]:List Value)=veM:=by simpa [gT] using e
    rw [this]; exact .base
  | k + 1, v :: r, e, X => by
    cases v with
    | ref A =>
      unfold gT at e
      split at e
      · rename_i c d cd sl q
        obtain ⟨e1,e2⟩:=gH.mp e
        obtain ⟨m,hm,hn⟩:=sB e1 X
        exact .own (X _ _ q) hm hn (oV k r e2 X)
      · cases e
    | none => have : Value.none :: r = veM := by simpa [gT] using e
              cases this
    | bool b => have : Value.bool b :: r = veM := by simpa [gT] using e
                cases this
    | int i t => have : Value.int i t :: r = veM := by simpa [gT] using e
                 cases this
    | str x t => have : Value.str x t :: r = veM := by simpa [gT] using e
                 cases this
    | bytes x t => have : Value.bytes x t :: r = veM := by simpa [gT] using e
                   cases this
    | float x t => have : Value.float x t :: r = veM := by simpa [gT] using e
                   cases this
    | builtin x => have : Value.builtin x :: r = veM := by simpa [gT] using e
                   cases this
    | type T => have : Value.type T :: r = veM := by simpa [gT] using e
                rw [this]; exact .base
    | _=>first | (simp [gT] at e; done) | (exfalso; revert e; simp [gT])
theorem sS {C:Addr} {x:Str} {mg:gO} (e:mS K C=true) (hm:mg x=some (.ref C)) (X:K.In h):PyProof.Rows.OwnCls x C veM "ValueError.__new__" mg h:=by
  unfold mS at e
  split at e
  · rename_i dd cd sl q
    obtain ⟨e1,_⟩:=gH.mp e
    split at e1
    · rename_i C' tl hmro
      simp only [fF,beq_iff_eq] at e1
      obtain ⟨⟨⟨⟨⟨rfl,h2⟩,h3⟩,h4⟩,h5⟩,h6⟩:=e1
      obtain ⟨m,hns,hni⟩:=sB h5 X
      have hsl:sl = #[sl.getD 0 none,sl.getD 1 none,sl.getD 2 none,sl.getD 3 none,some (.builtin "ValueError.__new__"),sl.getD 5 none]:=by
        apply Array.ext_getElem?
        intro i
        match i with
        | 0=>simp [h3]
        | 1=>simp [h3]
        | 2=>simp [h3]
        | 3=>simp [h3]
        | 4=>simp [h4]
        | 5=>simp [h3]
        | i + 6=>rw [Array.getElem?_eq_none (by rw [h3]; omega),Array.getElem?_eq_none (by simp)]
      refine ⟨hm,tl,cd.ns,cd.name,cd.qualname,cd.bases,cd.hasDict,cd.slotNames,cd.subclasses,cd.abstract,cd.collection,dd,sl.getD 0 none,sl.getD 1 none,sl.getD 2 none,sl.getD 3 none,sl.getD 5 none,m,?_,hns,hni,oV 4 tl h6 X⟩
      have:=X _ _ q
      rw [this]
      obtain ⟨nm,bs,mro,ns,qn,hd,sn,sub,ab,col,hdel⟩:=cd
      dsimp only at hmro h2 ⊢
      subst hmro h2
      unfold excClassObj
      rw [← hsl]
    · cases e1
  · cases e
theorem yU {C D:Addr} (e:mS K C=true) (hu:zS K C D=true) (X:K.In h):zH h C D:=by
  obtain ⟨_,tl,N,nm,q,bs,hdct,sn,sub,ab,col,dd,k0,k1,k2,k3,k5,mN,hC,_⟩:=sS (x := "x") (mg:=fun _=>some (.ref C)) e rfl X
  refine ⟨nm,q,N,bs,tl,hdct,sn,sub,ab,col,dd,k0,k1,k2,k3,k5,_,hC,?_⟩
  unfold zS at hu
  split at hu
  · rename_i c d cd sl ql
    have:=X _ _ ql
    rw [hC] at this
    cases this
    exact hu
  · cases hu
end
end Lf
namespace L2
open PySem PySem.Spec PySem.SeqAt PySem.AutoSeq1 PySem.MeetsSeq PyProof.Rows
def Itv (K:dH) (a:Addr) (n:Nat):It :=
  ⟨fun i H => ∃ xs x,SqL K H a xs∧xs.length=n∧xs.reverse[i]? = some x,fun i H x H'=>H'=H∧∀ xs,SqL K H a xs→xs.reverse[i]? = some x,fun i _=>n≤i⟩
theorem aDw {P:Program} {w:World} {K:dH} {tg:Expr} (a it:Addr) (n:Nat):Turn P w K tg (Itv K a n) [it] it (fun i h=>i≤n∧h.IsRevIter it a ((n:Int) - 1 - i)) where
  mem:=by simp
  obj:=fun i h st b hb=>by
    have e:b=it:=by simpa using hb
    subst e
    obtain ⟨_,o,e,c,d⟩:=st
    exact ⟨o,e,fun v z=>by rw [d] at z; cases z⟩
  keep:=fun i h h' st k=>⟨st.1,st.2.at fun o e=>k it (by simp) o e⟩
  item:=by
    intro X hP hw hK hc i pins s σ H E I hf st hg
    subst hP hw hK
    replace st:=st.2
    obtain ⟨xs,x,hq,hn,hx⟩:=hg
    subst hn
    obtain ⟨its,rv,p,hz⟩:=I.list hq
    obtain ⟨f0,f1,f2,f3,f4,f5⟩:=hf it (by simp)
    have hi:i < xs.length:=by
      have:=(aK.mp hx).1
      rwa [iE] at this
    have hx':xs[xs.length - 1 - i]? = some x:=by rw [List.getElem?_reverse hi] at hx; exact hx
    obtain ⟨u,hu,ru⟩:=rv.get hx'
    have e1:(xs.length:Int) - 1 - (i:Int)=((xs.length - 1 - i:Nat):Int):=by omega
    rw [e1] at st
    refine wpAny_pyNext_rev_item st p.isList (x:=u) (by simpa using hu) fun h' st' sb => ?_
    have e2:((xs.length - 1 - i:Nat):Int) - 1=(xs.length:Int) - 1 - ((i + 1:Nat):Int):=by omega
    rw [e2] at st'
    have I1:Inv X pins σ H { s with heap:=h' }:=I.turned (t':=s.toks) (fun b o hb e=>(sb.2 b hb).trans e) f0 f1 f3 f4 f5
    obtain ⟨o,e,c,d⟩:=id st'
    exact ⟨u,rfl,x6 (s:={ s with heap:=h' }) e c d (by decide) ⟨x,H,I1,ru,⟨rfl,fun ys hy=>by rw [I.list_inj hy hq]; exact hx⟩,⟨hi,st'⟩,fun b hb=>(hf b hb).1⟩⟩
  done:=by
    intro X hP hw hK hc i pins s σ H E I hf st hg
    subst hP hw hK
    have hx:i=n:=Nat.le_antisymm st.1 hg
    subst hx
    replace st:=st.2
    obtain ⟨f0,f1,f2,f3,f4,f5⟩:=hf it (by simp)
    have e1:(i:Int) - 1 - (i:Int) = -1:=by omega
    rw [e1] at st
    exact wpAny_pyNext_rev_end (I.ok.hd hc) st fun h' eb=>⟨rfl,I.turned (t':=s.toks) (fun b o hb e=>eb b o hb e) f0 f1 f3 f4 f5⟩
  self:=fun _ _ _ _ _ st h=>wpAny_pyIter_revIter st.2 h
theorem yZ:bootBuiltins "reversed" = some (.type "reversed"):=by decide +kernel
def aYg (K:dH) (ta:TA):TI:=fun σ H R=>ta σ H fun vs H1 => ∃ a xs,vs=[.ref a]∧SqL K H1 a xs∧R (Itv K a xs.length) H1
theorem aNz {X:Cx} {tg ea:Expr} {ta:TA} {p pos:Pos} (hg:Gl X "reversed") (hm:X.mg "reversed" = none) (ha:PA X [ea] ta) (hs:starEach [ea] X.env=[(false,eval ea X.env)]:=by rfl) :
    PI X tg (.Call (.Name "reversed" p) [ea] [] pos) (aYg X.K ta):=by
  intro pins s σ H R I h
  refine Call_ (gh_ I hg hm yZ (eG (fL (ha pos pins s σ H _ I h) fun us s1 ⟨vs,H1,I1,r1,q1⟩ => ?_) hs rfl))
  obtain ⟨a,xs,e,w1,q⟩:=q1
  subst e
  obtain ⟨u,rfl,ru⟩:=jZ r1
  cases ru
  obtain ⟨its1,r2,p1,z1⟩:=I1.list w1
  have hlen:=r2.length
  refine call_reversed_list p1.isList ?_
  have st:(s1.heap.push (revObj a ((its1.toArray.size:Int) - 1))).IsRevIter s1.heap.objs.size a ((xs.length:Int) - 1 - ((0:Nat):Int)):=by
    have e:((its1.toArray.size:Nat):Int) - 1=(xs.length:Int) - 1 - ((0:Nat):Int):=by simp [hlen]
    rw [e]
    exact ⟨_,aU _ rfl,rfl,rfl⟩
  refine wpAny_pyIter_revIter st ?_
  refine ⟨s1.heap.objs.size,[s1.heap.objs.size],_,_,H1,rfl,I1.kept (t':=s1.toks) fun b o e=>aA _ e,aDw a _ xs.length,⟨dB _,st⟩,fun b hb => ?_,q⟩
  have e:b=s1.heap.objs.size:=by simpa using hb
  subst e
  exact I1.fpOk (bJ _) (I1.hok.fresh (bJ _))
end L2
namespace L2
open PySem PySem.Spec PySem.SeqAt PyProof.Rows
section
variable {X:Cx}
def aNu (K:dH) (neg:Bool):R2:=fun x y H Q => ∃ (p b:Addr) (xs ys:List Int),x=.ref p∧y=.ref b∧SqL K H p (xs.map V.int)∧SqL K H b (ys.map V.int)∧Q (.bl (if neg then !decide (xs=ys) else decide (xs=ys))) H
theorem em_:∀ {xs:List Int} {us:List Value},Vals (xs.map V.int) us→us.length=xs.length∧∀ j (h:j < us.length),∃ t,us[j]=Value.int (xs.getD j 0) t
  | [],_,h=>by cases h; exact ⟨rfl,fun j h=>absurd h (Nat.not_lt_zero _)⟩
  | x :: xs, _, h => by
    cases h with
    | cons ra rb =>
      obtain ⟨e,k⟩:=em_ rb
      obtain ⟨t,rfl⟩:=ra
      refine ⟨by simp [e],fun j h => ?_⟩
      cases j with
      | zero=>exact ⟨t,rfl⟩
      | succ j =>
        obtain ⟨t',e'⟩:=k j (by simpa using h)
        exact ⟨t',by simpa using e'⟩
theorem qN:∀ {xs ys:List Int},xs.length=ys.length→(List.range xs.length).all (fun j=>xs.getD j 0 == ys.getD j 0)=decide (xs=ys):=by
  intro xs ys h
  by_cases e:xs=ys
  · subst e
    simp
  · rw [decide_eq_false e, List.all_eq_false]
    have:∃ j,j < xs.length∧xs.getD j 0≠ys.getD j 0:=by
      apply Classical.byContradiction
      intro hn
      apply e
      refine fO fun j => ?_
      by_cases hj:j < xs.length
      · have : xs.getD j 0 = ys.getD j 0 := Classical.byContradiction fun z => hn ⟨j, hj, z⟩
        rw [aM,aM,aD hj,aD (by omega)] at this
        rw [aD hj,aD (by omega)]
        exact congrArg some this
      · rw [bQ (by omega),bQ (by omega)]
    obtain ⟨j,hj,hne⟩:=this
    exact ⟨j,iA.mpr hj,by simpa using hne⟩
theorem yG {A:Around} {s:Shared} {xs ys:List Int} {us ws:List Value} (r1:Vals (xs.map V.int) us) (r2:Vals (ys.map V.int) ws):∀ (j:Nat) (h1:j < us.toArray.size) (h2:j < ws.toArray.size),SeqAt.EqAt A s us.toArray[j] ws.toArray[j] (xs.getD j 0 == ys.getD j 0):=by
  intro j h1 h2
  obtain ⟨t,e1⟩:=(em_ r1).2 j (by simpa using h1)
  obtain ⟨u,e2⟩:=(em_ r2).2 j (by simpa using h2)
  rw [List.getElem_toArray,List.getElem_toArray,e1,e2]
  exact SeqAt.EqAt.int_int _ _ _ _
theorem e_ (hu:X.A.units < cLine):OpR X (compareOp .Eq) (aNu X.K false):=by
  intro pins s σ H x y v u Q I rx ry h
  obtain ⟨p,b,xs,ys,rfl,rfl,h1,h2,q⟩:=h
  cases rx
  cases ry
  obtain ⟨its,r1,p1,_⟩:=I.list h1
  obtain ⟨its2,r2,p2,_⟩:=I.list h2
  have l1:=(em_ r1).1
  have l2:=(em_ r2).1
  by_cases hl:xs.length=ys.length
  · refine PySem.SeqAt.eq_listAt p1.isList p2.isList (by simp only [bA]; omega) hu (yG r1 r2) ?_
    refine kI I q ?_
    rw [bA,l1]
    exact (qN hl).symm
  · refine PySem.SeqAt.eq_list_lengthsAt p1.isList p2.isList (by simp only [bA]; simp; omega) hu (kI I q ?_)
    exact decide_eq_false fun e=>hl (by rw [e])
theorem aFj (hu:X.A.units < cLine):OpR X (compareOp .NotEq) (aNu X.K true):=by
  intro pins s σ H x y v u Q I rx ry h
  obtain ⟨p,b,xs,ys,rfl,rfl,h1,h2,q⟩:=h
  cases rx
  cases ry
  obtain ⟨its,r1,p1,_⟩:=I.list h1
  obtain ⟨its2,r2,p2,_⟩:=I.list h2
  have l1:=(em_ r1).1
  have l2:=(em_ r2).1
  by_cases hl:xs.length=ys.length
  · refine PySem.SeqAt.RcNeAt.lists p1.isList p2.isList (by simp only [bA]; omega) hu (yG r1 r2) _ _ _ _ ?_
    refine kI I q ?_
    rw [bA,l1,qN hl]
    rfl
  · refine PySem.SeqAt.RcNeAt.lists_lengths p1.isList p2.isList (by simp only [bA]; simp; omega) hu _ _ _ _ (kI I q ?_)
    rw [decide_eq_false fun e=>hl (by rw [e])]
    rfl
end
end L2
namespace Lf
open PySem L2
def eqI (neg:Bool):G2:=fun a b Q => ∃ xs ys:List Int,a=.lst (xs.map Dx.int)∧b=.lst (ys.map Dx.int)∧Q (.tr (.bl (if neg then !decide (xs=ys) else decide (xs=ys))))
theorem vG {G:Hp}:∀ {xs:List Int} {vs:List V},All2 (IsX G) (xs.map Dx.int) vs→vs=xs.map V.int
  | [],_,h=>h
  | x :: xs,_,⟨v,vr,e,h1,h2⟩=>by rw [e,vG h2,h1.int_eq]; rfl
theorem pB {K:dH} {neg:Bool}:OpX (aNu K neg) (eqI neg):=by
  intro F P H a b x y Q Qx R ha hb g k
  obtain ⟨xs,ys,rfl,rfl,g⟩:=g
  obtain ⟨p,vs,rfl,q1,q2⟩:=ha.lst_eq
  obtain ⟨p',vs',rfl,q3,q4⟩:=hb.lst_eq
  cases vG q2
  cases vG q4
  exact ⟨p,p',xs,ys,rfl,rfl,SqL.of (R.hv _ _ q1),SqL.of (R.hv _ _ q3),k _ _ H (R.add (IsX.of_bl _)) g⟩
def xiV (u:XA):XI:=fun ρ Q=>u ρ fun ss ρ'=>match ss.map Sv.d with
  | [.lst l]=>Q l.reverse ρ'
  | _=>False
theorem aKj {F:Fm} {K:dH} {a:Addr} {l:List Dx}:ItX F (Itv K a l.length) [(.v (.tr (.lst l)),some (.ref a))] l.reverse where
  go:=fun P H i d R hd=>by
    obtain ⟨v,e,h⟩:=R.atT; cases e
    obtain ⟨_,vs,e,h1,h2⟩:=h.lst_eq; cases e
    obtain ⟨x,h3,_⟩:=h2.rev.at hd
    exact ⟨vs,x,SqL.of (R.hv _ _ h1),h2.len,h3⟩
  stop:=fun P H i R hi=>by
    rw [iE] at hi
    exact hi
  yld:=fun P H i d x H' R hd q=>by
    obtain ⟨rfl,q⟩:=q
    obtain ⟨v,e,h⟩:=R.atT; cases e
    obtain ⟨_,vs,e,h1,h2⟩:=h.lst_eq; cases e
    obtain ⟨y,h3,h4⟩:=h2.rev.at hd
    rw [q vs (SqL.of (R.hv _ _ h1))] at h3
    cases h3
    exact R.add h4
section
variable {X:Cx} {Ex:ExT} {tg a b c:Expr} {p pos:Pos} {u:XA}
theorem aMz (hm:X.mg "reversed" = none) (ha:XAs X Ex [a] u) (hg:Gl X "reversed" := by rfl) (hs:starEach [a] X.env=[(false,eval a X.env)]:=by rfl):XIt X Ex tg (.Call (.Name "reversed" p) [a] [] pos) (xiV u):=fun F=>(aNz hg hm (ha F) hs).weak fun σ H R=>by
  rintro ⟨ρ,fr,Qx,E,t,k⟩
  refine ⟨ρ,fr,_,E,t,fun vs ss H2 ρ2 hl E2 q => ?_⟩
  obtain ⟨R,hs⟩:=E2.many hl
  split at q
  · rename_i l hj
    rw [hj] at hs
    obtain ⟨x,rfl,hx⟩:=i_ hs
    obtain ⟨c,cs,rfl,h1,h2⟩:=hx.lst_eq
    refine ⟨c,cs,rfl,SqL.of (R.hv _ _ h1),k _ H2 ρ2 [(.v (.tr (.lst l)),some (.ref c))] _ (EOk.back E2.len (R.add hx)) ?_ q⟩
    rw [h2.len]
    exact aKj
  · exact q.elim
end
open PySem.W (Frag nsIn)
abbrev OX:=Bool×List (Option Bool×Bool)×Option Bool×Option Bool
def aPu (K:Frag) (ns:List Str) (n:Str):OX:=match mU K n with
  | some C=>(mS K C,ns.map (fun m=>match mU K m with | some D=>(PySem.W.kitOne K (.ref C) (.ref D),zS K C D) | none=>(none,false)),PySem.W.kitOne K (.ref C) (.type "ValueError"),PySem.W.kitOne K (.type "NoneType") (.ref C))
  | none=>(false,[],none,none)
theorem aJu (K:Frag) (ns:List Str):aPs K ns=ns.map (aPu K ns):=rfl
structure ClsX (K:Frag) (mg:gO) (n:Str) (C:Addr):Prop where
  at':mU K n=some C
  m:mg n=some (.ref C)
  ok:mS K C=true
theorem aQy {K:Frag} {ns:List Str} {n:Str} {l:List (Option Bool×Bool)} {a b:Option Bool} {h:Heap} {mg:gO} (e:aPu K ns n=(true,l,a,b)) (X:K.In h) (G:h.Ns mainGlobals mg):∃ C,ClsX K mg n C∧l=ns.map (fun m=>match mU K m with | some D=>(PySem.W.kitOne K (.ref C) (.ref D),zS K C D) | none=>(none,false))∧PySem.W.kitOne K (.ref C) (.type "ValueError")=a∧PySem.W.kitOne K (.type "NoneType") (.ref C)=b:=by
  unfold aPu at e
  cases hc:mU K n with
  | none=>rw [hc] at e; simp at e
  | some C =>
    rw [hc] at e
    simp only [Prod.mk.injEq] at e
    obtain ⟨e1,e2,e3,e4⟩:=e
    refine ⟨C,⟨hc,?_,e1⟩,e2.symm,e3,e4⟩
    unfold mU at hc
    split at hc
    · rename_i C' hn
      cases hc
      exact PySem.W.mg_of X G hn
    · cases hc
theorem ClsX.own {K:Frag} {mg:gO} {n:Str} {C:Addr} {base:Heap} (x:ClsX K mg n C) (X:K.In base):PyProof.Rows.OwnCls n C veM "ValueError.__new__" mg base:=sS x.ok x.m X
theorem j9 {K:Frag} {C:Addr} (e:mS K C=true):zS K C C=true:=by
  unfold mS at e
  split at e
  · rename_i dd cd sl q
    obtain ⟨e1,_⟩:=gH.mp e
    split at e1
    · rename_i C' tl hmro
      simp only [fF,beq_iff_eq] at e1
      obtain ⟨⟨⟨⟨⟨rfl,_⟩,_⟩,_⟩,_⟩,_⟩:=e1
      unfold zS
      rw [q]
      simp only
      rw [hmro]
      simp
    · cases e1
  · cases e
theorem ClsX.und {K:Frag} {mg:gO} {n:Str} {C:Addr} {base:Heap} (x:ClsX K mg n C) (X:K.In base):zH base C C:=yU x.ok (j9 x.ok) X
def c6:List Dx→List V→List Rw
  | d :: ds,v :: vs=>(.v (.tr d),some v) :: c6 ds vs
  | _,_=>[]
theorem qA {F:Fm} {ρ:En} {σ:St} {fr:List Rw} {H:Hp}:∀ {ds:List Dx} {vs:List V},EOk F ρ σ fr H→All2 (IsX (hid (cF (ρ.zip σ ++ fr)) (F.vis H))) ds vs→EOk F ρ σ (c6 ds vs ++ fr) H
  | [],vs,E,h=>by rw [show vs=[] from h]; exact E
  | d :: ds, _, E, ⟨v, vr, e, h1, h2⟩ => by
    subst e
    have E1:=qA E h2
    have ho:cF (ρ.zip σ ++ (c6 ds vr ++ fr))=cF (ρ.zip σ ++ fr):=by
      have hz:∀ (ds:List Dx) (vs:List V),cF (c6 ds vs)=[]:=by
        intro ds
        induction ds with
        | nil=>intro vs; rfl
        | cons a r ih =>
          intro vs
          cases vs with
          | nil=>rfl
          | cons u us=>show cF ((.v (.tr a),some u) :: c6 r us)=[]; rw [dh_ rfl]; exact ih us
      rw [pC,pC,pC,hz,aY]
    exact EOk.back E1.len (E1.rep.add (by rw [ho]; exact h1))
abbrev XGs:=List Dx→En→(En→Prop)→Prop
def GXs (n:Nat) (u:TGs) (gs:XGs):Prop := ∀ (F:Fm) (ρ:En) (σ:St) (fr:List Rw) (H:Hp) (ds:List Dx) (xs:List V) (Q:St→Hp→Prop) (Qx:En→Prop),ds.length=xs.length→EOk F ρ σ (c6 ds xs ++ fr) H→gs ds ρ Qx →
  (∀ σ' H' ρ',EOk F ρ' σ' fr H'→σ'.length=σ.length→(∀ i,n≤i→σ'[i]? = σ[i]?)→Qx ρ'→Q σ' H')→u xs σ H Q
def aUd:XGs:=fun ds ρ Q=>match ds with
  | []=>Q ρ
  | _=>False
def aQi (gx:XG) (gs:XGs):XGs:=fun ds ρ Q=>match ds with
  | d :: r=>gx d ρ fun ρ'=>gs r ρ' Q
  | []=>False
theorem xU {n:Nat}:GXs n aGu aUd:=fun F ρ σ fr H ds xs Q Qx hl E g k=>by
  cases ds with
  | nil =>
    cases xs with
    | nil=>exact ⟨rfl,k σ H ρ E rfl (fun _ _=>rfl) g⟩
    | cons _ _=>simp at hl
  | cons _ _=>exact g.elim
theorem fh_ {n:Nat} {t:TG} {u:TGs} {gx:XG} {gs:XGs} (h1:GX n t gx) (h2:GXs n u gs):GXs n (xV t u) (aQi gx gs):=fun F ρ σ fr H ds xs Q Qx hl E g k=>by
  cases ds with
  | nil=>exact g.elim
  | cons d r =>
    cases xs with
    | nil=>simp at hl
    | cons x xr =>
      refine ⟨x,xr,rfl,h1 F ρ σ (c6 r xr ++ fr) H d x _ _ E g fun σ' H' ρ' E' e1 e2 q => ?_⟩
      exact h2 F ρ' σ' fr H' r xr Q Qx (by simpa using hl) E' q fun σ2 H2 ρ2 E2 e3 e4 q2=>k σ2 H2 ρ2 E2 (e3.trans e1) (fun i hi=>(e4 i hi).trans (e2 i hi)) q2
def aMl (m:Nat) (gs:XGs):XG:=fun d ρ Q=>match d with
  | .tup ds=>ds.length=m∧gs ds ρ Q
  | _=>False
theorem x4 {K:dH} {n m:Nat} {u:TGs} {gs:XGs} (h:GXs n u gs):GX n (aGt K m u) (aMl m gs):=fun F ρ σ fr H d x Q Qx E g k=>by
  unfold aMl at g
  split at g
  · obtain ⟨R, hx⟩ := E.one
    obtain ⟨a,vs,rfl,h1,h2⟩:=hx.tup_eq
    obtain ⟨g0,g⟩:=g
    refine ⟨a,vs,rfl,SqT.of (R.hv _ _ h1),by rw [h2.len,g0],h F ρ σ fr H _ vs Q Qx h2.len.symm (qA E.drop h2) g k⟩
  · exact g.elim
end Lf
namespace L2
open PySem PySem.Spec PyProof.Rows
abbrev eB (h:Heap) (T:Addr) (a b c:Value):Prop:=h.get? T=some { cls:=.type "tuple",data:=.seq #[a,b,c] }
structure Z3 (z TI TO i1 i2 i3 l1 l2 l3:Addr):Prop where
  TIz:TI≠z
  TOz:TO≠z
  i1z:i1≠z
  i2z:i2≠z
  i3z:i3≠z
  TITO:TI≠TO
  TIi1:TI≠i1
  TIi2:TI≠i2
  TIi3:TI≠i3
  TOi1:TO≠i1
  TOi2:TO≠i2
  TOi3:TO≠i3
  i12:i1≠i2
  i13:i1≠i3
  i23:i2≠i3
  l1z:l1≠z
  l2z:l2≠z
  l2TO:l2≠TO
  l2i1:l2≠i1
  l3z:l3≠z
  l3TO:l3≠TO
  l3i1:l3≠i1
  l3i2:l3≠i2
section
variable {prog:Program} {w:World} {A:Around} {E:gU} {s:Shared}
theorem bk_ {T:Addr} {a b c x:Value} {k:Nat} {Q:Unit→Shared→Prop} (hT:eB s.heap T a b c)
    (h:∀ h',h'.get? T=some { cls:=.type "tuple",data:=.seq ((#[a,b,c]:Array Value).setIfInBounds k x) }→Heap.SameBut T s.heap h'→Q () { s with heap:=h' }) :
    wpAny (model prog w) A (updateSeq T (·.setIfInBounds k x)) Q E s:=by
  refine wpAny_updateSeq hT rfl (h _ ?_ (Heap.SameBut.update ..))
  rw [eZ _ hT rfl]
  simp [Obj.mapSeq]
theorem aAu {z TI TO i1 i2 i3 l1 l2 l3:Addr} {k:Nat} {xs ys zs:Array Value} {x y v a b c:Value} {Q:gU} (D:Z3 z TI TO i1 i2 i3 l1 l2 l3)
    (hz:IsZip s.heap z TI TO .none) (hTI:eB s.heap TI (.ref i1) (.ref i2) (.ref i3)) (hTO:eB s.heap TO a b c)
    (h1:s.heap.IsListIter i1 l1 k) (h2:s.heap.IsListIter i2 l2 k) (h3:s.heap.IsListIter i3 l3 k) (hl1:s.heap.IsList l1 xs) (hl2:s.heap.IsList l2 ys) (hl3:s.heap.IsList l3 zs) (hx:xs[k]? = some x) (hy:ys[k]? = some y) (hv:zs[k]? = some v)
    (hQ:∀ h',IsZip h' z TI TO (rawInt s.heap.objs.size)→eB h' TO x y v→h'.IsListIter i1 l1 (k + 1)→h'.IsListIter i2 l2 (k + 1)→h'.IsListIter i3 l3 (k + 1)→eB h' s.heap.objs.size x y v→h'.objs.size=s.heap.objs.size + 1 →
      (∀ c o,c≠z→c≠TO→c≠i1→c≠i2→c≠i3→s.heap.get? c=some o→h'.get? c=some o)→Q (.ref s.heap.objs.size) { s with heap:=h' }) :
    wpAny (model prog w) A (Builtin.«zip.__next__» ⟨[.ref z],[]⟩) (fun fin s' => ∃ v,fin=.done (.ret v)∧Q v s') E s:=by
  show wpAny _ _ (field (.ref z) 2 >>= _) _ _ _; refine wpAny_bind (wpAny_field hz rfl (x:=.bool false) rfl ?_)
  show wpAny _ _ (field (.ref z) 3 >>= _) _ _ _; refine wpAny_bind (wpAny_field hz rfl (x:=.ref TI) rfl ?_); refine wpAny_bind (wpAny_seqItems hTI rfl ?_)
  show wpAny _ _ (Builtin.SmallTypes.ownedTupleIsFree (.ref z) >>= _) _ _ _; refine wpAny_bind ?_; unfold Builtin.SmallTypes.ownedTupleIsFree
  refine wpAny_bind (wpAny_field hz rfl (x:=.none) rfl (wpAny_pure ?_)); simp only [if_true]; refine wpAny_bind (wpAny_rule ?_)
  refine wpAny_bind (wpAny_field hz rfl (x:=.ref TO) rfl ?_); refine wpAny_bind (wpAny_setField_rec hz (by simp) fun q1 hz₁ s1 => ?_); replace hz₁:IsZip q1 z TI TO .ellipsis:=hz₁
  refine wpAny_bind ?_; simp only [List.zipIdx_cons,List.zipIdx_nil,iK,List.forIn_nil]
  refine wpAny_bind (wpAny_bind (wpAny_onRaise ?_)); show wpAny _ _ (Builtin.SmallTypes.nextOf (.ref i1) >>= _) _ _ _
  refine wpAny_bind (wpAny_nextOf_list_item (h1.at fun o e=>s1.extBut _ _ D.i1z e) (hl1.at fun o e=>s1.extBut _ _ D.l1z e) hx fun q2 a2 s2=>wpAny_pure ?_)
  have b2:eB q2 TO a b c:=s2.extBut _ _ D.TOi1 (s1.extBut _ _ D.TOz hTO)
  refine wpAny_bind (wpAny_seqItems b2 rfl ?_); refine wpAny_bind (bk_ b2 fun q3 b3 s3 => ?_); replace b3:eB q3 TO x b c:=b3
  refine wpAny_bind (wpAny_letGo (wpAny_pure ?_)); refine wpAny_bind (wpAny_bind (wpAny_onRaise ?_)); show wpAny _ _ (Builtin.SmallTypes.nextOf (.ref i2) >>= _) _ _ _
  refine wpAny_bind (wpAny_nextOf_list_item (h2.at fun o e=>s3.extBut _ _ D.TOi2.symm (s2.extBut _ _ D.i12.symm (s1.extBut _ _ D.i2z e))) (hl2.at fun o e=>s3.extBut _ _ D.l2TO (s2.extBut _ _ D.l2i1 (s1.extBut _ _ D.l2z e))) hy fun q4 a4 s4=>wpAny_pure ?_)
  have b4:eB q4 TO x b c:=s4.extBut _ _ D.TOi2 b3
  refine wpAny_bind (wpAny_seqItems b4 rfl ?_); refine wpAny_bind (bk_ b4 fun q5 b5 s5 => ?_); replace b5:eB q5 TO x y c:=b5
  refine wpAny_bind (wpAny_letGo (wpAny_pure ?_)); refine wpAny_bind (wpAny_bind (wpAny_onRaise ?_)); show wpAny _ _ (Builtin.SmallTypes.nextOf (.ref i3) >>= _) _ _ _
  refine wpAny_bind (wpAny_nextOf_list_item (h3.at fun o e=>s5.extBut _ _ D.TOi3.symm (s4.extBut _ _ D.i23.symm (s3.extBut _ _ D.TOi3.symm (s2.extBut _ _ D.i13.symm (s1.extBut _ _ D.i3z e))))) (hl3.at fun o e=>s5.extBut _ _ D.l3TO (s4.extBut _ _ D.l3i2 (s3.extBut _ _ D.l3TO (s2.extBut _ _ D.l3i1 (s1.extBut _ _ D.l3z e))))) hv fun q6 a6 s6=>wpAny_pure ?_)
  have b6:eB q6 TO x y c:=s6.extBut _ _ D.TOi3 b5
  refine wpAny_bind (wpAny_seqItems b6 rfl ?_); refine wpAny_bind (bk_ b6 fun q7 b7 s7 => ?_); replace b7:eB q7 TO x y v:=b7
  refine wpAny_bind (wpAny_letGo (wpAny_pure (wpAny_pure ?_))); refine wpAny_bind (wpAny_seqItems b7 rfl ?_); refine wpAny_bind (wpAny_newTuple ?_)
  have hsz:q7.objs.size=s.heap.objs.size:=by rw [s7.1,s6.1,s5.1,s4.1,s3.1,s2.1,s1.1]
  have z7:IsZip q7 z TI TO .ellipsis:=s7.extBut _ _ D.TOz.symm (s6.extBut _ _ D.i3z.symm (s5.extBut _ _ D.TOz.symm (s4.extBut _ _ D.i2z.symm (s3.extBut _ _ D.TOz.symm (s2.extBut _ _ D.i1z.symm hz₁)))))
  have k7:∀ c o,c≠z→c≠TO→c≠i1→c≠i2→c≠i3→s.heap.get? c=some o→q7.get? c=some o:=fun c o c1 c2 c3 c4 c5 e=>s7.extBut _ _ c2 (s6.extBut _ _ c5 (s5.extBut _ _ c2 (s4.extBut _ _ c4 (s3.extBut _ _ c2 (s2.extBut _ _ c3 (s1.extBut _ _ c1 e))))))
  have d1:q7.IsListIter i1 l1 (k + 1):=a2.at fun o e=>s7.extBut _ _ D.TOi1.symm (s6.extBut _ _ D.i13 (s5.extBut _ _ D.TOi1.symm (s4.extBut _ _ D.i12 (s3.extBut _ _ D.TOi1.symm e))))
  have d2:q7.IsListIter i2 l2 (k + 1):=a4.at fun o e=>s7.extBut _ _ D.TOi2.symm (s6.extBut _ _ D.i23 (s5.extBut _ _ D.TOi2.symm e))
  have d3:q7.IsListIter i3 l3 (k + 1):=a6.at fun o e=>s7.extBut _ _ D.TOi3.symm e
  have zlt:z < q7.objs.size:=aR z7
  show wpAny _ _ (Builtin.SmallTypes.ownedTupleHandOut (.ref z) (.ref q7.objs.size) >>= _) _ _ _; refine wpAny_bind ?_; unfold Builtin.SmallTypes.ownedTupleHandOut
  have z8:IsZip (q7.push { cls:=.type "tuple",data:=.seq #[x,y,v] }) z TI TO .ellipsis:=aA _ z7
  refine wpAny_bind (wpAny_setField_rec z8 (by simp) fun q9 z9 s9 => ?_); replace z9:IsZip q9 z TI TO (rawInt q7.objs.size):=z9
  refine wpAny_setField_rec z9 (by simp) fun qa za sa => ?_; replace za:IsZip qa z TI TO (rawInt q7.objs.size):=za
  have up:∀ c o,c≠z→q7.get? c=some o→qa.get? c=some o:=fun c o c1 e=>sa.extBut _ _ c1 (s9.extBut _ _ c1 (aA _ e))
  have t8:eB qa q7.objs.size x y v:=sa.extBut _ _ (fU zlt) (s9.extBut _ _ (fU zlt) (aU _ rfl))
  have n8:qa.objs.size=q7.objs.size + 1:=by rw [sa.1,s9.1,dP]
  rw [hsz] at za t8 n8; refine wpAny_pure ⟨_,rfl,?_⟩; show Q (.ref q7.objs.size) _; rw [hsz]
  exact hQ qa za (up _ _ D.TOz b7) (d1.at fun o e=>up _ o D.i1z e) (d2.at fun o e=>up _ o D.i2z e) (d3.at fun o e=>up _ o D.i3z e) t8 n8 fun c o c1 c2 c3 c4 c5 e=>up c o c1 (k7 c o c1 c2 c3 c4 c5 e)
theorem aDg {z TI TO i1 i2 i3 l1 l2 l3:Addr} {k:Nat} {xs ys zs:Array Value} {a b c:Value} {Q:Fin→Shared→Prop} (hh:A.handled=none) (D:Z3 z TI TO i1 i2 i3 l1 l2 l3)
    (hz:IsZip s.heap z TI TO .none) (hTI:eB s.heap TI (.ref i1) (.ref i2) (.ref i3)) (hTO:eB s.heap TO a b c)
    (h1:s.heap.IsListIter i1 l1 k) (h2:s.heap.IsListIter i2 l2 k) (h3:s.heap.IsListIter i3 l3 k) (hl1:s.heap.IsList l1 xs) (hl2:s.heap.IsList l2 ys) (hl3:s.heap.IsList l3 zs) (hend:xs[k]? = none∨ys[k]? = none∨zs[k]? = none)
    (hE:∀ h' e,(∀ c o,c≠z→c≠TO→c≠i1→c≠i2→c≠i3→s.heap.get? c=some o→h'.get? c=some o)→(∃ o,h'.get? e=some o∧o.cls=.type "StopIteration")→E (.ref e) { s with heap:=h' }) :
    wpAny (model prog w) A (Builtin.«zip.__next__» ⟨[.ref z],[]⟩) Q E s:=by
  show wpAny _ _ (field (.ref z) 2 >>= _) _ _ _; refine wpAny_bind (wpAny_field hz rfl (x:=.bool false) rfl ?_)
  show wpAny _ _ (field (.ref z) 3 >>= _) _ _ _; refine wpAny_bind (wpAny_field hz rfl (x:=.ref TI) rfl ?_); refine wpAny_bind (wpAny_seqItems hTI rfl ?_)
  show wpAny _ _ (Builtin.SmallTypes.ownedTupleIsFree (.ref z) >>= _) _ _ _; refine wpAny_bind ?_; unfold Builtin.SmallTypes.ownedTupleIsFree
  refine wpAny_bind (wpAny_field hz rfl (x:=.none) rfl (wpAny_pure ?_)); simp only [if_true]; refine wpAny_bind (wpAny_rule ?_)
  refine wpAny_bind (wpAny_field hz rfl (x:=.ref TO) rfl ?_); refine wpAny_bind (wpAny_setField_rec hz (by simp) fun q1 hz₁ s1 => ?_); replace hz₁:IsZip q1 z TI TO .ellipsis:=hz₁
  refine wpAny_bind ?_; simp only [List.zipIdx_cons,List.zipIdx_nil,iK,List.forIn_nil]
  refine wpAny_bind (wpAny_bind (wpAny_onRaise ?_)); show wpAny _ _ (Builtin.SmallTypes.nextOf (.ref i1) >>= _) _ _ _
  cases hx:xs[k]? with
  | none =>
    refine wpAny_bind (wpAny_nextOf_list_end hh (h1.at fun o e=>s1.extBut _ _ D.i1z e) (hl1.at fun o e=>s1.extBut _ _ D.l1z e) hx fun q2 e s2 he => ?_)
    obtain ⟨oe,hoe,hce⟩:=he
    have z2:IsZip q2 z TI TO .ellipsis:=s2 _ _ D.i1z.symm hz₁
    have ez:e≠z:=fun x=>by subst x; rw [z2] at hoe; cases hoe; simp at hce
    exact wpAny_setField_rec z2 (by simp) fun q3 _ s3=>hE q3 e (fun c o c1 _ c3 _ _ x=>s3.extBut _ _ c1 (s2 _ _ c3 (s1.extBut _ _ c1 x))) ⟨oe,s3.extBut _ _ ez hoe,hce⟩
  | some x =>
    refine wpAny_bind (wpAny_nextOf_list_item (h1.at fun o e=>s1.extBut _ _ D.i1z e) (hl1.at fun o e=>s1.extBut _ _ D.l1z e) hx fun q2 a2 s2=>wpAny_pure ?_)
    have b2:eB q2 TO a b c:=s2.extBut _ _ D.TOi1 (s1.extBut _ _ D.TOz hTO)
    refine wpAny_bind (wpAny_seqItems b2 rfl ?_); refine wpAny_bind (bk_ b2 fun q3 b3 s3 => ?_); replace b3:eB q3 TO x b c:=b3
    refine wpAny_bind (wpAny_letGo (wpAny_pure ?_)); refine wpAny_bind (wpAny_bind (wpAny_onRaise ?_)); show wpAny _ _ (Builtin.SmallTypes.nextOf (.ref i2) >>= _) _ _ _
    have hz3:IsZip q3 z TI TO .ellipsis:=s3.extBut _ _ D.TOz.symm (s2.extBut _ _ D.i1z.symm hz₁)
    have g2:=h2.at (h':=q3) fun o e=>s3.extBut _ _ D.TOi2.symm (s2.extBut _ _ D.i12.symm (s1.extBut _ _ D.i2z e))
    have gl2:=hl2.at (h':=q3) fun o e=>s3.extBut _ _ D.l2TO (s2.extBut _ _ D.l2i1 (s1.extBut _ _ D.l2z e))
    have k3:∀ c o,c≠z→c≠TO→c≠i1→s.heap.get? c=some o→q3.get? c=some o:=fun c o c1 c2 c3 e=>s3.extBut _ _ c2 (s2.extBut _ _ c3 (s1.extBut _ _ c1 e))
    cases hy:ys[k]? with
    | none =>
      refine wpAny_bind (wpAny_nextOf_list_end hh g2 gl2 hy fun q4 e s4 he => ?_)
      obtain ⟨oe,hoe,hce⟩:=he
      have z4:IsZip q4 z TI TO .ellipsis:=s4 _ _ D.i2z.symm hz3
      have ez:e≠z:=fun x=>by subst x; rw [z4] at hoe; cases hoe; simp at hce
      exact wpAny_setField_rec z4 (by simp) fun q5 _ s5=>hE q5 e (fun c o c1 c2 c3 c4 _ x=>s5.extBut _ _ c1 (s4 _ _ c4 (k3 c o c1 c2 c3 x))) ⟨oe,s5.extBut _ _ ez hoe,hce⟩
    | some y =>
      have hv:zs[k]? = none:=by rcases hend with h | h | h; rw [hx] at h; cases h; rw [hy] at h; cases h; exact h
      refine wpAny_bind (wpAny_nextOf_list_item g2 gl2 hy fun q4 a4 s4=>wpAny_pure ?_)
      have b4:eB q4 TO x b c:=s4.extBut _ _ D.TOi2 b3
      refine wpAny_bind (wpAny_seqItems b4 rfl ?_); refine wpAny_bind (bk_ b4 fun q5 b5 s5 => ?_)
      refine wpAny_bind (wpAny_letGo (wpAny_pure ?_)); refine wpAny_bind (wpAny_bind (wpAny_onRaise ?_)); show wpAny _ _ (Builtin.SmallTypes.nextOf (.ref i3) >>= _) _ _ _
      have g3:=h3.at (h':=q5) fun o e=>s5.extBut _ _ D.TOi3.symm (s4.extBut _ _ D.i23.symm (k3 _ o D.i3z D.TOi3.symm D.i13.symm e))
      have gl3:=hl3.at (h':=q5) fun o e=>s5.extBut _ _ D.l3TO (s4.extBut _ _ D.l3i2 (k3 _ o D.l3z D.l3TO D.l3i1 e))
      refine wpAny_bind (wpAny_nextOf_list_end hh g3 gl3 hv fun q6 e s6 he => ?_)
      obtain ⟨oe,hoe,hce⟩:=he
      have z6:IsZip q6 z TI TO .ellipsis:=s6 _ _ D.i3z.symm (s5.extBut _ _ D.TOz.symm (s4.extBut _ _ D.i2z.symm hz3))
      have ez:e≠z:=fun x=>by subst x; rw [z6] at hoe; cases hoe; simp at hce
      exact wpAny_setField_rec z6 (by simp) fun q7 _ s7=>hE q7 e (fun c o c1 c2 c3 c4 c5 x=>s7.extBut _ _ c1 (s6 _ _ c5 (s5.extBut _ _ c2 (s4.extBut _ _ c4 (k3 c o c1 c2 c3 x))))) ⟨oe,s7.extBut _ _ ez hoe,hce⟩
theorem wS {z TI TO i1 i2 i3 l1 l2 l3:Addr} {k:Nat} {xs ys zs:Array Value} {x y v a b c:Value} {Q:Option Value→Shared→Prop} (D:Z3 z TI TO i1 i2 i3 l1 l2 l3)
    (hz:IsZip s.heap z TI TO .none) (hTI:eB s.heap TI (.ref i1) (.ref i2) (.ref i3)) (hTO:eB s.heap TO a b c)
    (h1:s.heap.IsListIter i1 l1 k) (h2:s.heap.IsListIter i2 l2 k) (h3:s.heap.IsListIter i3 l3 k) (hl1:s.heap.IsList l1 xs) (hl2:s.heap.IsList l2 ys) (hl3:s.heap.IsList l3 zs) (hx:xs[k]? = some x) (hy:ys[k]? = some y) (hv:zs[k]? = some v)
    (hQ:∀ h',IsZip h' z TI TO (rawInt s.heap.objs.size)→eB h' TO x y v→h'.IsListIter i1 l1 (k + 1)→h'.IsListIter i2 l2 (k + 1)→h'.IsListIter i3 l3 (k + 1)→eB h' s.heap.objs.size x y v→h'.objs.size=s.heap.objs.size + 1 →
      (∀ c o,c≠z→c≠TO→c≠i1→c≠i2→c≠i3→s.heap.get? c=some o→h'.get? c=some o)→Q (some (.ref s.heap.objs.size)) { s with heap:=h' }) :
    wpAny (model prog w) A (pyNext (.ref z)) Q E s:=by
  have hT:s.TypeIs (.ref z) "zip" := ⟨_,hz,rfl⟩
  unfold pyNext
  exact wpAny_bind (wpAny_attempt (wpAny_callSpecial?_slot (name:=Str.ofString "__next__") hT F.slot_zip_next (wpAny_call_entry F.slot_zip_next hT F.entry_zip_next (aAu D hz hTI hTO h1 h2 h3 hl1 hl2 hl3 hx hy hv fun h' a1 a2 a3 a4 a5 a6 a7 a8=>wpAny_pure (hQ h' a1 a2 a3 a4 a5 a6 a7 a8)) (F.args_zip_next_1 _))))
theorem uG {z TI TO i1 i2 i3 l1 l2 l3:Addr} {k:Nat} {xs ys zs:Array Value} {a b c:Value} {Q:Option Value→Shared→Prop} (hh:A.handled=none) (D:Z3 z TI TO i1 i2 i3 l1 l2 l3)
    (hz:IsZip s.heap z TI TO .none) (hTI:eB s.heap TI (.ref i1) (.ref i2) (.ref i3)) (hTO:eB s.heap TO a b c)
    (h1:s.heap.IsListIter i1 l1 k) (h2:s.heap.IsListIter i2 l2 k) (h3:s.heap.IsListIter i3 l3 k) (hl1:s.heap.IsList l1 xs) (hl2:s.heap.IsList l2 ys) (hl3:s.heap.IsList l3 zs) (hend:xs[k]? = none∨ys[k]? = none∨zs[k]? = none)
    (hQ:∀ h',(∀ c o,c≠z→c≠TO→c≠i1→c≠i2→c≠i3→s.heap.get? c=some o→h'.get? c=some o)→Q none { s with heap:=h' }):wpAny (model prog w) A (pyNext (.ref z)) Q E s:=by
  have hT:s.TypeIs (.ref z) "zip" := ⟨_,hz,rfl⟩
  unfold pyNext
  refine wpAny_bind (wpAny_attempt (wpAny_callSpecial?_slot (name:=Str.ofString "__next__") hT F.slot_zip_next (wpAny_call_entry F.slot_zip_next hT F.entry_zip_next (aDg hh D hz hTI hTO h1 h2 h3 hl1 hl2 hl3 hend fun h' e hk he => ?_) (F.args_zip_next_1 _))))
  obtain ⟨o,ho,hc⟩:=he
  exact wpAny_bind (wpAny_isInstance (T := "StopIteration") (b:=true) ⟨o,ho,hc⟩ isSubtype_stop (wpAny_pure (hQ _ hk)))
end
theorem oU (a b c:Value):checkTypeCall "zip" ⟨[a,b,c],[]⟩=pure ():=by kernel_rfl
theorem qU (a b c:Value):checkBuiltinCall "zip.__new__" ⟨[.type "zip",a,b,c],[]⟩=pure ():=by kernel_rfl
theorem gr_ (a b c d:Value):argsOk "object.__init__" ⟨[a,b,c,d],[]⟩:=by
  unfold argsOk; rw [signature?_of (id := "object.__init__") (n:=['_','_','t','i','n','i','_','_']) (o:=['t','c','e','j','b','o']) (by kernel_rfl) F.owner_object]; kernel_rfl
abbrev zt1 (h:Heap) (l:Addr):Heap:=h.push { cls:=.type "list_iterator",data:=.fields #[.ref l,.int 0 0] }
abbrev zt3 (h:Heap) (l1 l2 l3:Addr):Heap:=zt1 (zt1 (zt1 h l1) l2) l3
abbrev zt4 (h:Heap) (l1 l2 l3:Addr):Heap:=(zt3 h l1 l2 l3).push { cls:=.type "tuple",data:=.seq #[.ref h.objs.size,.ref (zt1 h l1).objs.size,.ref (zt1 (zt1 h l1) l2).objs.size] }
abbrev zt5 (h:Heap) (l1 l2 l3:Addr):Heap:=(zt4 h l1 l2 l3).push { cls:=.type "tuple",data:=.seq #[.none,.none,.none] }
abbrev zt6 (h:Heap) (l1 l2 l3:Addr):Heap:=(zt5 h l1 l2 l3).push { cls:=.type "zip",data:=.fields #[.none,.bool false,.bool false,.ref (zt3 h l1 l2 l3).objs.size,.ref (zt4 h l1 l2 l3).objs.size] }
theorem aDf (l1 l2 l3:Addr) (xs ys zs:Array Value) :
    Meets (Builtin.«zip.__new__» ⟨[.type "zip",.ref l1,.ref l2,.ref l3],[]⟩) (fun _ R s=>s.heap.IsList l1 xs∧s.heap.IsList l2 ys∧s.heap.IsList l3 zs∧R (.ok (.ret (.ref (zt5 s.heap l1 l2 l3).objs.size))) { s with heap:=zt6 s.heap l1 l2 l3 }) :=
  .of_wp fun prog w A R s h=>by
    obtain ⟨hp,g,d,tk,os⟩:=s
    obtain ⟨hl1,hl2,hl3,h⟩:=h
    have hsub:=sub_zip
    have hL1:Heap.IsList (Shared.heap ⟨hp,g,d,tk,os⟩) l1 xs:=hl1
    have hL2:Heap.IsList (Shared.heap ⟨zt1 hp l1,g,d,tk,os⟩) l2 ys:=hl2.at fun o e=>aA _ e
    have hL3:Heap.IsList (Shared.heap ⟨zt1 (zt1 hp l1) l2,g,d,tk,os⟩) l3 zs:=hl3.at fun o e=>aA _ (aA _ e)
    wp_walk using wpAny_pyIter_list hL1,wpAny_pyIter_list hL2,wpAny_pyIter_list hL3
    exact ⟨_,rfl,h⟩
theorem aCk {prog:Program} {w:World} {A:Around} {E:gU} {s:Shared} {l1 l2 l3:Addr} {xs ys zs:Array Value} {Q:gU} (hl1:s.heap.IsList l1 xs) (hl2:s.heap.IsList l2 ys) (hl3:s.heap.IsList l3 zs)
    (h:∀ h',IsZip h' (s.heap.objs.size + 5) (s.heap.objs.size + 3) (s.heap.objs.size + 4) .none→eB h' (s.heap.objs.size + 3) (.ref s.heap.objs.size) (.ref (s.heap.objs.size + 1)) (.ref (s.heap.objs.size + 2)) →
      eB h' (s.heap.objs.size + 4) .none .none .none→h'.IsListIter s.heap.objs.size l1 0→h'.IsListIter (s.heap.objs.size + 1) l2 0→h'.IsListIter (s.heap.objs.size + 2) l3 0→(∀ c o,s.heap.get? c=some o→h'.get? c=some o)→Q (.ref (s.heap.objs.size + 5)) { s with heap:=h' }) :
    wpAny (model prog w) A (call (.type "zip") [.ref l1,.ref l2,.ref l3]) Q E s:=by
  refine callType_new F.called_zip (by decide) (oU _ _ _) (qU _ _ _) (fun obj=>gr_ obj _ _ _) F.entry_zip_new (aDf l1 l2 l3 xs ys zs) ⟨hl1,hl2,hl3,?_⟩
  have z1:(zt1 s.heap l1).objs.size=s.heap.objs.size + 1:=dP ..
  have z2:(zt1 (zt1 s.heap l1) l2).objs.size=s.heap.objs.size + 2:=by rw [dP,z1]
  have z3:(zt3 s.heap l1 l2 l3).objs.size=s.heap.objs.size + 3:=by rw [dP,z2]
  have z4:(zt4 s.heap l1 l2 l3).objs.size=s.heap.objs.size + 4:=by rw [dP,z3]
  have z5:(zt5 s.heap l1 l2 l3).objs.size=s.heap.objs.size + 5:=by rw [dP,z4]
  have g6:(zt6 s.heap l1 l2 l3).get? (zt5 s.heap l1 l2 l3).objs.size=some _:=aU _ rfl
  have g5:(zt6 s.heap l1 l2 l3).get? (zt4 s.heap l1 l2 l3).objs.size=some _:=aA _ (aU _ rfl)
  have g4:(zt6 s.heap l1 l2 l3).get? (zt3 s.heap l1 l2 l3).objs.size=some _:=aA _ (aA _ (aU _ rfl))
  have g3:(zt6 s.heap l1 l2 l3).get? (zt1 (zt1 s.heap l1) l2).objs.size=some _:=aA _ (aA _ (aA _ (aU _ rfl)))
  have g2:(zt6 s.heap l1 l2 l3).get? (zt1 s.heap l1).objs.size=some _:=aA _ (aA _ (aA _ (aA _ (aU _ rfl))))
  have g1:(zt6 s.heap l1 l2 l3).get? s.heap.objs.size=some _:=aA _ (aA _ (aA _ (aA _ (aA _ (aU _ rfl)))))
  show _∧_
  rw [z5,z3,z4] at g6; rw [z4] at g5; rw [z3,z1,z2] at g4; rw [z2] at g3; rw [z1] at g2; rw [z5]
  exact ⟨⟨_,g6,rfl⟩,h _ g6 g4 g5 ⟨_,g1,rfl,rfl⟩ ⟨_,g2,rfl,rfl⟩ ⟨_,g3,rfl,rfl⟩ fun c o x=>aA _ (aA _ (aA _ (aA _ (aA _ (aA _ x)))))⟩
theorem aMw {n l1 l2 l3:Nat} (h1:l1 < n) (h2:l2 < n) (h3:l3 < n):Z3 (n + 5) (n + 3) (n + 4) n (n + 1) (n + 2) l1 l2 l3:=by
  constructor <;> exact fun (e : @Eq Nat _ _)=>by omega
def aRk (K:dH) (a b c:Addr):It :=
  ⟨fun i H => ∃ xs ys zs x y v,SqL K H a xs∧SqL K H b ys∧SqL K H c zs∧xs[i]? = some x∧ys[i]? = some y∧zs[i]? = some v,
   fun i H v H' => ∃ p x y u,v=.ref p∧H p=none∧H'=upd H p (.tup [x,y,u])∧∀ xs ys zs,SqL K H a xs→SqL K H b ys→SqL K H c zs→xs[i]? = some x∧ys[i]? = some y∧zs[i]? = some u,
   fun i H => ∃ xs ys zs,SqL K H a xs∧SqL K H b ys∧SqL K H c zs∧(xs.length≤i∨ys.length≤i∨zs.length≤i)⟩
theorem aAz {P:Program} {w:World} {K:dH} {es:List Expr} {kk:Nat} {tpos:Pos} {a b c z TI TO i1 i2 i3:Addr} (D:Z3 z TI TO i1 i2 i3 a b c) :
    Turn P w K (.Tuple es kk tpos) (aRk K a b c) [z,TI,TO,i1,i2,i3] z (fun i h=>IsZip h z TI TO .none∧eB h TI (.ref i1) (.ref i2) (.ref i3)∧(∃ u v x,eB h TO u v x)∧h.IsListIter i1 a i∧h.IsListIter i2 b i∧h.IsListIter i3 c i) where
  mem:=by simp
  obj:=fun i h st d hb=>by
    obtain ⟨hz,hTI,⟨u,v,x,hTO⟩,h1,h2,h3⟩:=st
    simp only [aF,aV,or_false] at hb
    have it:∀ {j l},h.IsListIter j l i→∃ o,h.get? j=some o∧∀ v,o.data ≠ .cell v:=fun ⟨o,e,_,dd⟩=>⟨o,e,fun v z=>by rw [dd] at z; cases z⟩
    rcases hb with rfl | rfl | rfl | rfl | rfl | rfl
    · exact ⟨_,hz,fun v e=>nomatch e⟩
    · exact ⟨_,hTI,fun v e=>nomatch e⟩
    · exact ⟨_,hTO,fun v e=>nomatch e⟩
    · exact it h1
    · exact it h2
    · exact it h3
  keep:=fun i h h' st k=>by
    obtain ⟨hz,hTI,⟨u,v,x,hTO⟩,h1,h2,h3⟩:=st
    exact ⟨k z (by simp) _ hz,k TI (by simp) _ hTI,⟨u,v,x,k TO (by simp) _ hTO⟩,h1.at fun o e=>k i1 (by simp) o e,h2.at fun o e=>k i2 (by simp) o e,h3.at fun o e=>k i3 (by simp) o e⟩
  item:=by
    intro X hP hw hK hc i pins s σ H E I hf st hg
    subst hP hw hK
    obtain ⟨xs,ys,zs,x,y,q,q1,q2,q3,e1,e2,e3⟩:=hg
    obtain ⟨its1,r1,p1,z1⟩:=I.list q1
    obtain ⟨its2,r2,p2,z2⟩:=I.list q2
    obtain ⟨its3,r3,p3,z3⟩:=I.list q3
    obtain ⟨u1,eu1,ru1⟩:=r1.get e1
    obtain ⟨u2,eu2,ru2⟩:=r2.get e2
    obtain ⟨u3,eu3,ru3⟩:=r3.get e3
    obtain ⟨hz,hTI,⟨u,v,v',hTO⟩,h1,h2,h3⟩:=st
    have hf5:∀ c∈[z,TO,i1,i2,i3],kJ X pins H c:=fun c hc=>hf c (by simp only [aF,aV,or_false] at hc ⊢; rcases hc with rfl | rfl | rfl | rfl | rfl <;> simp)
    have lt:∀ {c o},s.heap.get? c=some o→s.heap.objs.size≠c:=fun e=>fU (aR e)
    refine wS D hz hTI hTO h1 h2 h3 p1.isList p2.isList p3.isList (x:=u1) (y:=u2) (v:=u3) (by simpa using eu1) (by simpa using eu2) (by simpa using eu3) fun h' a1 a2 a3 a4 a5 a6 a7 hk => ?_
    refine ⟨_,rfl,wpAny_letOwnedTupleGo_zip a1 fun h'' b1 b2 => ?_⟩
    have b2':Heap.SameBut z h' h'':=b2
    have kk:∀ c o,c∉[z,TO,i1,i2,i3]→s.heap.get? c=some o→h''.get? c=some o:=fun c o hc e=>by
      simp only [aF,aV,or_false,not_or] at hc
      exact b2'.extBut _ _ hc.1 (hk c o hc.1 hc.2.1 hc.2.2.1 hc.2.2.2.1 hc.2.2.2.2 e)
    have tT:h''.get? s.heap.objs.size=some { cls:=.type "tuple",data:=.seq #[u1,u2,u3] }:=b2'.extBut _ _ (lt hz) a6
    have nT:H s.heap.objs.size=none:=I.hok.fresh (bJ _)
    have I':Inv X pins σ (upd H s.heap.objs.size (.tup [x,y,q])) { s with heap:=h'' }:=I.turnedT (t':=s.toks) (its:=[u1,u2,u3]) hf5 kk (bJ _) (.cons ru1 (.cons ru2 (.cons ru3 .nil))) (by show 3≤sizeLine; decide) ⟨_,tT,rfl,_,rfl⟩
    refine ⟨.ref s.heap.objs.size,upd H s.heap.objs.size (.tup [x,y,q]),I',rfl,
      ⟨_,x,y,q,rfl,nT,rfl,fun xs' ys' zs' w1 w2 w3=>⟨by rw [I.list_inj w1 q1]; exact e1,by rw [I.list_inj w2 q2]; exact e2,by rw [I.list_inj w3 q3]; exact e3⟩⟩,⟨b1,b2'.extBut _ _ D.TIz (hk _ _ D.TIz D.TITO D.TIi1 D.TIi2 D.TIi3 hTI),⟨_,_,_,b2'.extBut _ _ D.TOz a2⟩,a3.at fun o e=>b2'.extBut _ _ D.i1z e,a4.at fun o e=>b2'.extBut _ _ D.i2z e,a5.at fun o e=>b2'.extBut _ _ D.i3z e⟩,fun c hc => ?_⟩
    obtain ⟨o,eo⟩ : ∃ o,s.heap.get? c=some o:=by
      simp only [aF,aV,or_false] at hc
      rcases hc with rfl | rfl | rfl | rfl | rfl | rfl
      · exact ⟨_,hz⟩
      · exact ⟨_,hTI⟩
      · exact ⟨_,hTO⟩
      · obtain ⟨o,e,_⟩:=h1; exact ⟨o,e⟩
      · obtain ⟨o,e,_⟩:=h2; exact ⟨o,e⟩
      · obtain ⟨o,e,_⟩:=h3; exact ⟨o,e⟩
    rw [fX (Ne.symm (lt eo))]
    exact (hf c hc).1
  done:=by
    intro X hP hw hK hc i pins s σ H E I hf st hg
    subst hP hw hK
    obtain ⟨xs,ys,zs,q1,q2,q3,e⟩:=hg
    obtain ⟨its1,r1,p1,z1⟩:=I.list q1
    obtain ⟨its2,r2,p2,z2⟩:=I.list q2
    obtain ⟨its3,r3,p3,z3⟩:=I.list q3
    obtain ⟨hz,hTI,⟨u,v,v',hTO⟩,h1,h2,h3⟩:=st
    have hf5:∀ c∈[z,TO,i1,i2,i3],kJ X pins H c:=fun c hc=>hf c (by simp only [aF,aV,or_false] at hc ⊢; rcases hc with rfl | rfl | rfl | rfl | rfl <;> simp)
    have l1:=r1.length
    have l2:=r2.length
    have l3:=r3.length
    refine uG (I.ok.hd hc) D hz hTI hTO h1 h2 h3 p1.isList p2.isList p3.isList ?_ fun h' hk=>⟨rfl,I.turnedL (t':=s.toks) hf5 fun c o hc e => ?_⟩
    · rcases e with e | e | e
      · exact .inl (by simp; omega)
      · exact .inr (.inl (by simp; omega))
      · exact .inr (.inr (by simp; omega))
    · simp only [aF, aV, or_false, not_or] at hc
      exact hk c o hc.1 hc.2.1 hc.2.2.1 hc.2.2.2.1 hc.2.2.2.2 e
  self:=fun _ _ _ _ _ st h=>wpAny_pyIter_zip st.1 h
def aTx (K:dH) (ta:TA):TI:=fun σ H R=>ta σ H fun vs H1 => ∃ a b c,vs=[.ref a,.ref b,.ref c]∧(∃ xs,SqL K H1 a xs)∧(∃ ys,SqL K H1 b ys)∧(∃ zs,SqL K H1 c zs)∧R (aRk K a b c) H1
theorem aIx {X:Cx} {ea eb ec:Expr} {ta:TA} {p pos:Pos} {es:List Expr} {kk:Nat} {tpos:Pos} (hg:Gl X "zip") (hm:X.mg "zip" = none) (ha:PA X [ea,eb,ec] ta) (hs:starEach [ea,eb,ec] X.env=[(false,eval ea X.env),(false,eval eb X.env),(false,eval ec X.env)]:=by rfl) (hs2:starEach [eb,ec] X.env=[(false,eval eb X.env),(false,eval ec X.env)]:=by rfl) :
    PI X (.Tuple es kk tpos) (.Call (.Name "zip" p) [ea,eb,ec] [] pos) (aTx X.K ta):=by
  intro pins s σ H R I h
  refine Call_ (gh_ I hg hm aHr (eG (fL (ha pos pins s σ H _ I h) fun us s1 ⟨vs,H1,I1,r1,q1⟩ => ?_) (by rw [hs,hs2]) (by rw [hs2]; rfl)))
  obtain ⟨a,b,c,e,⟨xs,w1⟩,⟨ys,w2⟩,⟨zs,w3⟩,q⟩:=q1
  subst e
  cases r1 with
  | cons ra rr =>
    cases rr with
    | cons rb rr =>
      cases rr with
      | cons rc rr =>
        cases rr
        cases ra
        cases rb
        cases rc
        obtain ⟨its1,r1,p1,z1⟩:=I1.list w1
        obtain ⟨its2,r2,p2,z2⟩:=I1.list w2
        obtain ⟨its3,r3,p3,z3⟩:=I1.list w3
        have lt1:a < s1.heap.objs.size:=by obtain ⟨_,e,_⟩:=p1.isList; exact aR e
        have lt2:b < s1.heap.objs.size:=by obtain ⟨_,e,_⟩:=p2.isList; exact aR e
        have lt3:c < s1.heap.objs.size:=by obtain ⟨_,e,_⟩:=p3.isList; exact aR e
        refine aCk p1.isList p2.isList p3.isList fun h' hz hTI hTO hi1 hi2 hi3 hk=>wpAny_pyIter_zip hz ?_
        have D:Z3 (s1.heap.objs.size + 5) (s1.heap.objs.size + 3) (s1.heap.objs.size + 4) s1.heap.objs.size (s1.heap.objs.size + 1) (s1.heap.objs.size + 2) a b c:=aMw lt1 lt2 lt3
        refine ⟨_,_,_,_,H1,rfl,I1.kept (t':=s1.toks) hk,aAz D,⟨hz,hTI,⟨_,_,_,hTO⟩,hi1,hi2,hi3⟩,fun c hc => ?_,q⟩
        have hle:s1.heap.objs.size≤c:=by
          simp only [aF,aV,or_false] at hc
          rcases hc with rfl | rfl | rfl | rfl | rfl | rfl <;> omega
        exact I1.fpOk hle (I1.hok.fresh hle)
end L2
namespace Lf
open PySem L2
def iM:List Dx→List Dx→List Dx→List Dx
  | a :: l,b :: m,c :: q=>.tup [a,b,c] :: iM l m q
  | _,_,_=>[]
theorem oM:∀ {l m q:List Dx} {i:Nat} {d:Dx},(iM l m q)[i]? = some d→∃ a b c,l[i]? = some a∧m[i]? = some b∧q[i]? = some c∧d=.tup [a,b,c]
  | a :: l,b :: m,c :: q,0,d,h=>by simp [iM] at h; exact ⟨a,b,c,rfl,rfl,rfl,h.symm⟩
  | a :: l, b :: m, c :: q, i + 1, d, h => by
    obtain ⟨x,y,z,e1,e2,e3,e4⟩:=oM (l:=l) (m:=m) (q:=q) (i:=i) (d:=d) (by simpa [iM] using h)
    exact ⟨x,y,z,by simpa using e1,by simpa using e2,by simpa using e3,e4⟩
  | [],_,_,_,_,h=>by simp [iM] at h
  | _ :: _,[],_,_,_,h=>by simp [iM] at h
  | _ :: _,_ :: _,[],_,_,h=>by simp [iM] at h
theorem rE:∀ (l m q:List Dx),(iM l m q).length=min l.length (min m.length q.length)
  | a :: l,b :: m,c :: q=>by simp only [iM,aL]; rw [rE l m q,Nat.add_min_add_right,Nat.add_min_add_right]
  | [],_,_=>by simp [iM]
  | _ :: _,[],_=>by simp [iM]
  | _ :: _,_ :: _,[]=>by simp [iM]
def aSf (u:XA):XI:=fun ρ Q=>u ρ fun ss ρ'=>match ss.map Sv.d with
  | [.lst l,.lst m,.lst q]=>Q (iM l m q) ρ'
  | _=>False
theorem aGj {F:Fm} {K:dH} {a b c:Addr} {l m q:List Dx}:ItX F (aRk K a b c) [(.v (.tr (.lst l)),some (.ref a)),(.v (.tr (.lst m)),some (.ref b)),(.v (.tr (.lst q)),some (.ref c))] (iM l m q) where
  go:=fun P H i d R hd=>by
    obtain ⟨v,e,h⟩:=R.atT; cases e
    obtain ⟨_,vs,e,h1,h2⟩:=h.lst_eq; cases e
    obtain ⟨v,e,h'⟩:=R.tail.atT; cases e
    obtain ⟨_,ws,e,h3,h4⟩:=h'.lst_eq; cases e
    obtain ⟨v,e,h''⟩:=R.tail.tail.atT; cases e
    obtain ⟨_,us,e,h9,h10⟩:=h''.lst_eq; cases e
    obtain ⟨x,y,z,e1,e2,e3,_⟩:=oM hd
    obtain ⟨x',h5,_⟩:=h2.at e1
    obtain ⟨y',h6,_⟩:=h4.at e2
    obtain ⟨z',h7,_⟩:=h10.at e3
    exact ⟨vs,ws,us,x',y',z',SqL.of (R.hv _ _ h1),SqL.of (R.hv _ _ h3),SqL.of (R.hv _ _ h9),h5,h6,h7⟩
  stop:=fun P H i R hi=>by
    obtain ⟨v,e,h⟩:=R.atT; cases e
    obtain ⟨_,vs,e,h1,h2⟩:=h.lst_eq; cases e
    obtain ⟨v,e,h'⟩:=R.tail.atT; cases e
    obtain ⟨_,ws,e,h3,h4⟩:=h'.lst_eq; cases e
    obtain ⟨v,e,h''⟩:=R.tail.tail.atT; cases e
    obtain ⟨_,us,e,h9,h10⟩:=h''.lst_eq; cases e
    refine ⟨vs,ws,us,SqL.of (R.hv _ _ h1),SqL.of (R.hv _ _ h3),SqL.of (R.hv _ _ h9),?_⟩
    rw [rE] at hi
    rw [h2.len,h4.len,h10.len]
    omega
  yld:=fun P H i d x H' R hd q=>by
    obtain ⟨p,x,y,u,rfl,hp,rfl,q⟩:=q
    obtain ⟨v,e,h⟩:=R.atT; cases e
    obtain ⟨_,vs,e,h1,h2⟩:=h.lst_eq; cases e
    obtain ⟨v,e,h'⟩:=R.tail.atT; cases e
    obtain ⟨_,ws,e,h3,h4⟩:=h'.lst_eq; cases e
    obtain ⟨v,e,h''⟩:=R.tail.tail.atT; cases e
    obtain ⟨_,us,e,h9,h10⟩:=h''.lst_eq; cases e
    obtain ⟨x0,y0,z0,e1,e2,e3,rfl⟩:=oM hd
    obtain ⟨x',h5,h7⟩:=h2.at e1
    obtain ⟨y',h6,h8⟩:=h4.at e2
    obtain ⟨z',h11,h12⟩:=h10.at e3
    obtain ⟨q1,q2,q3⟩:=q vs ws us (SqL.of (R.hv _ _ h1)) (SqL.of (R.hv _ _ h3)) (SqL.of (R.hv _ _ h9))
    rw [q1] at h5; cases h5
    rw [q2] at h6; cases h6
    rw [q3] at h11; cases h11
    exact R.newT hp ⟨_,_,rfl,h7,_,_,rfl,h8,_,_,rfl,h12,rfl⟩
theorem aIi {X:Cx} {Ex:ExT} {a b c:Expr} {u:XA} {p pos:Pos} {es:List Expr} {kk:Nat} {tpos:Pos} (hm:X.mg "zip" = none) (ha:XAs X Ex [a,b,c] u) (hg:Gl X "zip" := by rfl) (hs:starEach [a,b,c] X.env=[(false,eval a X.env),(false,eval b X.env),(false,eval c X.env)]:=by rfl) (hs2:starEach [b,c] X.env=[(false,eval b X.env),(false,eval c X.env)]:=by rfl) :
    XIt X Ex (.Tuple es kk tpos) (.Call (.Name "zip" p) [a,b,c] [] pos) (aSf u):=fun F=>(aIx hg hm (ha F) hs hs2).weak fun σ H R=>by
  rintro ⟨ρ,fr,Qx,E,t,k⟩
  refine ⟨ρ,fr,_,E,t,fun vs ss H2 ρ2 hl E2 q => ?_⟩
  obtain ⟨R,hs⟩:=E2.many hl
  split at q
  · rename_i l m n hj
    rw [hj] at hs
    obtain ⟨x,vr,rfl,hx,y,vr2,rfl,hy,z,vr3,rfl,hz,hn⟩:=hs
    cases (show vr3=[] from hn)
    obtain ⟨c1,cs1,rfl,g1,_⟩:=id hx.lst_eq
    obtain ⟨c2,cs2,rfl,g2,_⟩:=id hy.lst_eq
    obtain ⟨c3,cs3,rfl,g3,_⟩:=id hz.lst_eq
    have E3:EOk _ ρ2 σ fr H2:=⟨E2.len,R⟩
    exact ⟨c1,c2,c3,rfl,⟨cs1,SqL.of (R.hv _ _ g1)⟩,⟨cs2,SqL.of (R.hv _ _ g2)⟩,⟨cs3,SqL.of (R.hv _ _ g3)⟩,k _ H2 ρ2 [(.v (.tr (.lst l)),some (.ref c1)),(.v (.tr (.lst m)),some (.ref c2)),(.v (.tr (.lst n)),some (.ref c3))] _ (qA (ds:=[.lst l,.lst m,.lst n]) (vs:=[.ref c1,.ref c2,.ref c3]) E3 ⟨_,_,rfl,hx,_,_,rfl,hy,_,_,rfl,hz,rfl⟩) aGj q⟩
  · exact q.elim
def top (i:Nat):Stmt:=PySem.Challenge.pw_laidfields_k23_whole_bytes_of_parts.main.body.getD i (.Pass ⟨0,0,0,0⟩)
abbrev ej_:Stmt:=top 5
abbrev ee_:Stmt:=top 6
abbrev fd_:Stmt:=top 7
abbrev ei_:Stmt:=top 8
abbrev bo_:Stmt:=top 9
abbrev gb_:Stmt:=top 10
abbrev do_:Stmt:=top 11
abbrev ca_:Stmt:=top 12
abbrev cq_:Stmt:=top 13
abbrev cb_:Stmt:=top 14
abbrev er_:Stmt:=top 15
abbrev aw_:Stmt:=top 17
abbrev fn_:Stmt:=top 21
abbrev cn_:Stmt:=top 22
abbrev bn_:Stmt:=top 23
abbrev cj_:Stmt:=top 24
abbrev fo_:Stmt:=top 25
abbrev ef_:Stmt:=top 26
abbrev dd_:Stmt:=top 27
abbrev p9:Stmt:=top 28
abbrev gu_:Stmt:=top 29
abbrev et_:Stmt:=top 30
abbrev id_:Stmt:=top 31
abbrev eh_:Stmt:=top 32
abbrev ep_:Stmt:=top 33
abbrev eo_:Stmt:=top 34
abbrev es_:Stmt:=top 35
abbrev gv_:Stmt:=top 37
abbrev dq_:Stmt:=top 38
abbrev cr_:Stmt:=top 39
abbrev cd_:Stmt:=top 40
abbrev dw_:Stmt:=top 41
abbrev dr_:Stmt:=top 42
abbrev cy_:Stmt:=top 44
abbrev gc_:Stmt:=top 45
abbrev du_:Stmt:=top 46
abbrev fe_:Stmt:=top 47
abbrev dv_:Stmt:=top 48
abbrev cf_:Stmt:=top 49
abbrev cs_:Stmt:=top 50
abbrev eq_:Stmt:=top 51
abbrev cg_:Stmt:=top 52
abbrev hg_:Stmt:=top 53
theorem ia_:FnScope ["thing"] ["thing"] (aQ ej_):=⟨rfl,rfl,rfl,by decide +kernel,rfl,by decide +kernel,by decide +kernel⟩
theorem qS:FnScope ["number", "m"] ["number", "m"] (aQ ee_):=⟨rfl,rfl,rfl,by decide +kernel,rfl,by decide +kernel,by decide +kernel⟩
theorem b8:FnScope ["kind"] ["kind"] (aQ fd_):=⟨rfl,rfl,rfl,by decide +kernel,rfl,by decide +kernel,by decide +kernel⟩
theorem wO:FnScope ["kinds"] ["kinds"] (aQ ei_):=⟨rfl,rfl,rfl,by decide +kernel,rfl,by decide +kernel,by decide +kernel⟩
theorem ft_:FnScope ["rooms"] ["rooms"] (aQ bo_):=⟨rfl,rfl,rfl,by decide +kernel,rfl,by decide +kernel,by decide +kernel⟩
theorem a_:FnScope ["room"] ["room"] (aQ gb_):=⟨rfl,rfl,rfl,by decide +kernel,rfl,by decide +kernel,by decide +kernel⟩
theorem kB:FnScope ["kind", "n", "room"] ["kind", "n"] (aQ do_):=⟨rfl,rfl,rfl,by decide +kernel,rfl,by decide +kernel,by decide +kernel⟩
theorem gE:FnScope ["kinds", "rooms", "multiple", "ends"] ["kinds"] (aQ ca_):=⟨rfl,rfl,rfl,by decide +kernel,rfl,by decide +kernel,by decide +kernel⟩
theorem fC:FnScope ["rooms", "places", "end", "room", "place"] ["rooms"] (aQ cq_):=⟨rfl,rfl,rfl,by decide +kernel,rfl,by decide +kernel,by decide +kernel⟩
theorem gF:FnScope ["kinds", "rooms", "multiple", "greatest"] ["kinds"] (aQ cb_):=⟨rfl,rfl,rfl,by decide +kernel,rfl,by decide +kernel,by decide +kernel⟩
theorem tV:FnScope ["multiple"] ["multiple"] (aQ er_):=⟨rfl,rfl,rfl,by decide +kernel,rfl,by decide +kernel,by decide +kernel⟩
theorem iN:FnScope ["fields", "places"] ["fields"] (aQ aw_):=⟨rfl,rfl,rfl,by decide +kernel,rfl,by decide +kernel,by decide +kernel⟩
theorem wQ:FnScope ["kind", "thing"] ["kind", "thing"] (aQ fn_):=⟨rfl,rfl,rfl,by decide +kernel,rfl,by decide +kernel,by decide +kernel⟩
theorem ib_:FnScope ["kind", "n", "thing"] ["kind", "n", "thing"] (aQ cn_):=⟨rfl,rfl,rfl,by decide +kernel,rfl,by decide +kernel,by decide +kernel⟩
theorem fz_:FnScope ["fields", "thing"] ["fields", "thing"] (aQ bn_):=⟨rfl,rfl,rfl,by decide +kernel,rfl,by decide +kernel,by decide +kernel⟩
theorem ga_:FnScope ["kinds", "thing"] ["kinds", "thing"] (aQ cj_):=⟨rfl,rfl,rfl,by decide +kernel,rfl,by decide +kernel,by decide +kernel⟩
theorem ic_:FnScope ["kind", "thing"] ["kind", "thing"] (aQ fo_):=⟨rfl,rfl,rfl,by decide +kernel,rfl,by decide +kernel,by decide +kernel⟩
theorem fQ:FnScope ["kind", "value", "laid", "step", "k", "each", "field", "placed"] ["kind", "value"] (aQ ef_):=⟨rfl,rfl,rfl,by decide +kernel,rfl,by decide +kernel,by decide +kernel⟩
theorem gB:FnScope ["w", "value", "some", "rest", "k"] ["w", "value"] (aQ dd_):=⟨rfl,rfl,rfl,by decide +kernel,rfl,by decide +kernel,by decide +kernel⟩
theorem b9:FnScope ["laid", "place", "some", "k", "byte"] ["laid", "place", "some"] (aQ p9):=⟨rfl,rfl,rfl,by decide +kernel,rfl,by decide +kernel,by decide +kernel⟩
theorem mO:FnScope ["kind", "thing", "value"] ["kind", "thing"] (aQ gu_):=⟨rfl,rfl,rfl,by decide +kernel,rfl,by decide +kernel,by decide +kernel⟩
theorem tW:FnScope ["thing", "how_many"] ["thing", "how_many"] (aQ et_):=⟨rfl,rfl,rfl,by decide +kernel,rfl,by decide +kernel,by decide +kernel⟩
theorem b_:FnScope ["thing"] ["thing"] (aQ id_):=⟨rfl,rfl,rfl,by decide +kernel,rfl,by decide +kernel,by decide +kernel⟩
theorem mP:FnScope ["kind", "some", "place", "step"] ["kind", "some", "place"] (aQ eh_):=⟨rfl,rfl,rfl,by decide +kernel,rfl,by decide +kernel,by decide +kernel⟩
theorem iI:FnScope ["w", "some", "place", "value", "byte"] ["w", "some", "place"] (aQ ep_):=⟨rfl,rfl,rfl,by decide +kernel,rfl,by decide +kernel,by decide +kernel⟩
theorem iH:FnScope ["fields", "some", "place", "value", "field", "placed"] ["fields", "some", "place"] (aQ eo_):=⟨rfl,rfl,rfl,by decide +kernel,rfl,by decide +kernel,by decide +kernel⟩
theorem kY:FnScope ["kind", "some", "place", "mark"] ["kind", "some", "place"] (aQ es_):=⟨rfl,rfl,rfl,by decide +kernel,rfl,by decide +kernel,by decide +kernel⟩
theorem kD:FnScope ["script", "k", "cell"] ["script", "k"] (aQ gv_):=⟨rfl,rfl,rfl,by decide +kernel,rfl,by decide +kernel,by decide +kernel⟩
theorem dU:FnScope ["pool", "many", "found", "step", "mark"] ["pool", "many"] (aQ dq_):=⟨rfl,rfl,rfl,by decide +kernel,rfl,by decide +kernel,by decide +kernel⟩
theorem kC:FnScope ["number", "m", "left"] ["number", "m"] (aQ cr_):=⟨rfl,rfl,rfl,by decide +kernel,rfl,by decide +kernel,by decide +kernel⟩
theorem dW:FnScope ["kind", "room", "most", "parts", "end", "multiple", "begin"] ["kind"] (aQ cd_):=⟨rfl,rfl,rfl,by decide +kernel,rfl,by decide +kernel,by decide +kernel⟩
theorem dI:FnScope ["pool", "many", "letters", "stem", "found", "k", "name", "way", "at", "turn"] ["pool", "many"] (aQ dw_):=⟨rfl,rfl,rfl,by decide +kernel,rfl,by decide +kernel,by decide +kernel⟩
theorem eX:FnScope ["pool", "deep", "most", "way", "kind", "found", "many"] ["pool", "deep", "most"] (aQ dr_):=⟨rfl,rfl,rfl,by decide +kernel,rfl,by decide +kernel,by decide +kernel⟩
theorem wP:FnScope ["one", "other"] ["one", "other"] (aQ cy_):=⟨rfl,rfl,rfl,by decide +kernel,rfl,by decide +kernel,by decide +kernel⟩
theorem jJ:FnScope ["width", "found", "k"] ["width"] (aQ gc_):=⟨rfl,rfl,rfl,by decide +kernel,rfl,by decide +kernel,by decide +kernel⟩
theorem gM:FnScope ["pool", "kind", "top", "found", "name", "inner", "k"] ["pool", "kind"] (aQ du_):=⟨rfl,rfl,rfl,by decide +kernel,rfl,by decide +kernel,by decide +kernel⟩
theorem qT:FnScope ["row", "room"] ["row", "room"] (aQ fe_):=⟨rfl,rfl,rfl,by decide +kernel,rfl,by decide +kernel,by decide +kernel⟩
theorem dZ:FnScope ["kind", "values", "room", "multiple", "whole", "due", "value"] ["kind", "values"] (aQ dv_):=⟨rfl,rfl,rfl,by decide +kernel,rfl,by decide +kernel,by decide +kernel⟩
theorem cV:FnScope ["kinds", "values", "fields", "value", "due", "name", "place", "kind", "one"] ["kinds", "values"] (aQ cf_):=⟨rfl,rfl,rfl,by decide +kernel,rfl,by decide +kernel,by decide +kernel⟩
theorem dS:FnScope ["kinds", "k", "value", "whole", "room", "multiple", "due"] ["kinds", "k", "value"] (aQ cs_):=⟨rfl,rfl,rfl,by decide +kernel,rfl,by decide +kernel,by decide +kernel⟩
theorem hX:FnScope ["kind", "thing", "caught", "e"] ["kind", "thing"] (aQ eq_):=⟨rfl,rfl,rfl,by decide +kernel,rfl,by decide +kernel,by decide +kernel⟩
theorem dO:FnScope ["pool", "width", "row", "number", "byte", "m"] ["pool"] (aQ cg_):=⟨rfl,rfl,rfl,by decide +kernel,rfl,by decide +kernel,by decide +kernel⟩
theorem jK:FnScope ["script", "k", "pool", "most", "kinds", "values", "some", "at"] ["script"] (aQ hg_):=⟨rfl,rfl,rfl,by decide +kernel,rfl,by decide +kernel,by decide +kernel⟩
theorem aHs {n:Nat} (h:n≤12):bnd n < 2 ^ 150:=Int.lt_of_le_of_lt (gq_ h) (by decide)
section
variable {P:Program} {w:World} {K:dH} {mg:gO} {base:Heap} {f g fRU fGM fPB fRS fRO fRR fRC fRH fSO fCA:Addr} {fd gd dRU dGM dPB dRS dRO dRR dRC dRH dSO dCA:FuncData} {n j:Nat}
theorem aFr:∀ {ks:List Kd} {i:Nat} {k:Kd},okK ks→ks[i]? = some k→k.Ok∧k.deep≤eY ks
  | [],_,_,_,e=>by simp at e
  | k' :: r,0,k,h,e=>by simp at e; subst e; exact ⟨h.1,dQ _ _⟩
  | k' :: r,i + 1,k,h,e=>by obtain ⟨a,b⟩:=aFr (i:=i) h.2 (by simpa using e); exact ⟨a,bP b (dJ _ _)⟩
theorem uB:∀ {ks:List Kd} {i:Nat} {k:Kd},ks[i]? = some k→(rmK ks)[i]? = some k.rm
  | [],_,_,e=>by simp at e
  | k' :: r,0,k,e=>by simp at e; subst e; rfl
  | k' :: r,i + 1,k,e=>by show (rmK r)[i]? = _; exact uB (by simpa using e)
theorem aAn {ks:List Kd} (h:okK ks) (hd:eY ks≤n) (hn:n≤12):∀ r∈rmK ks,Bd (2 ^ 150) r:=fun r hr=>(bdK ks h r hr).mono (Int.le_of_lt (aHs (bP hd hn)))
theorem aLp {k:Kd} (h:k.Ok) (hd:k.deep≤n) (hn:n≤12):Bd (2 ^ 150) k.rm:=(Kd.bd k h).mono (Int.le_of_lt (aHs (bP hd hn)))
theorem uT:∀ {fs:List (Str×Kd)},okF fs→okK (fs.map (·.2))
  | [],_=>trivial
  | f :: r,h=>⟨h.1,uT h.2⟩
theorem ix_:∀ (fs:List (Str×Kd)),eY (fs.map (·.2))=eV fs
  | []=>rfl
  | f :: r=>by show max f.2.deep (eY (r.map (·.2)))=_; rw [ix_ r]; rfl
theorem uC:∀ (fs:List (Str×Kd)),rmK (fs.map (·.2))=rmF fs
  | []=>rfl
  | f :: r=>by show f.2.rm :: rmK (r.map (·.2))=_; rw [uC r]; rfl
end
def PoolAt (p:Addr) (md B:Int) (H:Hp):Prop := ∃ c st:Int,H p=some (.lst [.int c,.int md,.int st])∧0≤st∧st≤B
theorem PoolAt.mono {p:Addr} {md B C:Int} {H:Hp} (h:PoolAt p md B H) (hb:B≤C):PoolAt p md C H:=by
  obtain ⟨c,st,a,b,d⟩:=h
  exact ⟨c,st,a,b,by omega⟩
theorem PoolAt.same {p:Addr} {md B:Int} {H H':Hp} (h:PoolAt p md B H) (e:Same H H'):PoolAt p md B H':=by
  obtain ⟨c,st,a,b,d⟩:=h
  exact ⟨c,st,e _ _ a,b,d⟩
theorem PoolAt.ne {p l:Addr} {md B:Int} {H:Hp} (h:PoolAt p md B H) (hl:H l=none):l≠p:=by
  obtain ⟨c,st,a,b,d⟩:=h
  intro e
  rw [e,a] at hl
  cases hl
def aEc:Sp:=fun vs H Q _ => ∃ (p:Addr) (md B many:Int),vs=[.ref p,.int many]∧PoolAt p md B H∧B < 2 ^ 60∧0 < many∧many < 2 ^ 250 ∧
  ∀ (r:Int) (H':Hp),0≤r→r < many→SameX p H H'→PoolAt p md (B + 1) H'→Q (.int r) H'
section
variable {P:Program} {w:World} {K:dH} {mg:gO} {base:Heap} {f g:Addr} {fd gd:FuncData}
theorem aJs (F:Fun K "_law_take" "_law_take" dq_ f fd):FnOk P w K mg base CX0 1 f fd ["pool", "many"] aEc:=by
  refine F.ok dU (fun vs H Q E h => ?_) (fun cdv A outer s H vs Q E hr h => ?_)
  · obtain ⟨p, md, B, many, rfl, _⟩ := h
    rfl
  obtain ⟨p,md,B,many,rfl,⟨c,st,hp,h0,h1⟩,hB,h2,h3,q⟩:=h
  refine ⟨_,rB (s_ (gx_ t_ (yE dj_ (pv 0) jE (fun _ _=>rfl)) jE (cH _))
      (rB (fS (i:=2) dU.nd rfl (Or.inl rfl) (mR mB (yE dj_ (pv 0) jE (fun _ _=>rfl)) (pv 1)))
      (rB (gd_ (mR pE (yE dj_ (pv 0) jE (fun _ _=>rfl)) (pv 1)) (lZ (pv 0) jE fm_))
      (eu_ (uH (pv 2))))) nU)
    (rB (gd_ (mR jO (yE dj_ (pv 0) jE (fun _ _=>rfl)) jE) (lZ (pv 0) jE fm_))
    (rB (fS (i:=3) dU.nd rfl (Or.inl rfl) (yE dj_ (pv 0) jE (fun _ _=>rfl)))
    (rB (fS (i:=4) dU.nd rfl (Or.inl rfl) (mR jL (mR jO (mR mB (yE dj_ (pv 0) jE (fun _ _=>rfl)) jE) jE) (mR jO (mR jL jE (pv 3)) jE)))
    (rB (fS (i:=4) dU.nd rfl (Or.inl rfl) (mR jO (pv 4) (mR jL (mR jL jE (pv 3)) (pv 3))))
    (rB (fS (i:=4) dU.nd rfl (Or.inl rfl) (mR mB (mR jL (pv 4) (pv 4)) jE))
    (eu_ (uH (mR mB (mR pE (mR mB (mR jL (pv 4) (mR jO (pv 4) jE)) jE) jE) (pv 1))))))))),?_⟩
  refine ⟨_,rfl,p,_,_,_,rfl,rfl,SqL.of hp,rfl,rfl,_,rfl,?_⟩
  refine mY (fun e => ?_) (fun e => ?_)
  · refine ⟨_, rfl, p, _, _, _, rfl, rfl, SqL.of hp, rfl, _, rfl, _, _, rfl, rfl, h2, ?_⟩
    refine ⟨_,rfl,p,_,_,_,rfl,rfl,SqL.of hp,rfl,_,rfl,_,_,rfl,rfl,⟨h2,h3⟩,_,rfl,p,_,_,_,rfl,rfl,hp,rfl,?_⟩
    refine ⟨_,rfl,?_⟩
    exact q (c % many) _ (dX _ (by omega)) (dG _ h2) (SameX.upd _ _ _) ⟨c / many,st,cJ,h0,by omega⟩
  · refine ⟨_, rfl, p, _, _, _, rfl, rfl, SqL.of hp, rfl, _, _, rfl, rfl, _, rfl, p, _, _, _, rfl, rfl, hp, rfl, ?_⟩
    have a0:(0:Int)≤c % 9999999619:=dX _ (by decide)
    have a1:c % 9999999619 < 9999999619:=dG _ (by decide)
    have hp1:(upd H p (HO.lst [V.int c,V.int md,V.int (st + 1)])) p=some (.lst [V.int c,V.int md,V.int (st + 1)]):=cJ
    refine ⟨_,rfl,p,_,_,_,rfl,rfl,SqL.of hp1,rfl,?_⟩
    refine ⟨_,rfl,p,_,_,_,rfl,rfl,SqL.of hp1,rfl,_,_,rfl,rfl,(by show (0:Int) < 9999999619; decide),_,_,rfl,rfl,_,rfl,_,_,rfl,rfl,⟨by decide,by omega⟩,_,_,rfl,rfl,_,_,rfl,rfl,⟨by omega,by omega⟩,?_⟩
    have m1:0≤(c % 9999999619 + 983) * (23 * (st + 1) + 53):=iW (by omega) (by omega)
    have m2:(c % 9999999619 + 983) * (23 * (st + 1) + 53)≤10000000602 * (23 * (st + 1) + 53):=bX (by omega) (by omega)
    have m3:0≤3491 * (st + 1) * (st + 1):=iW (by omega) (by omega)
    have m4:3491 * (st + 1) * (st + 1)≤3491 * (st + 1) * 2 ^ 61:=gW (by omega) (by omega)
    refine ⟨_,rfl,_,rfl,_,_,rfl,rfl,⟨by decide,by omega⟩,_,rfl,_,_,rfl,rfl,⟨by omega,by omega⟩,_,_,rfl,rfl,?_⟩
    generalize (c % 9999999619 + 983) * (23 * (st + 1) + 53)=A1 at m1 m2 ⊢
    generalize 3491 * (st + 1) * (st + 1)=A2 at m3 m4 ⊢
    refine ⟨_,rfl,_,rfl,_,_,rfl,rfl,⟨by omega,by omega⟩,_,_,rfl,rfl,(by show (0:Int) < 99999999659; decide),?_⟩
    have b0:(0:Int)≤(A1 + A2) * (A1 + A2) % 99999999659:=dX _ (by decide)
    have b1:(A1 + A2) * (A1 + A2) % 99999999659 < 99999999659:=dG _ (by decide)
    generalize (A1 + A2) * (A1 + A2) % 99999999659=B2 at b0 b1 ⊢
    refine ⟨_,rfl,_,rfl,_,_,rfl,rfl,_,_,rfl,rfl,⟨by omega,by omega⟩,_,_,rfl,rfl,(by show (0:Int) < 99999999929; decide),_,_,rfl,rfl,⟨by decide,by decide⟩,_,rfl,_,_,rfl,rfl,h2,?_⟩
    exact q _ _ (dX _ (by omega)) (dG _ h2) (SameX.upd _ _ _) ⟨c,st + 1,cJ,by omega,by omega⟩
end
def eJ (x:Str):List Nat:=x.cps.toList
theorem bt_ (x:Str):x.length=(eJ x).length:=by simp [eJ,Str.length]
theorem gl_ (x y:Str):eJ (x ++ y)=eJ x ++ eJ y:=by
  show (x.cps ++ y.cps).toList=_
  rw [Array.toList_append]
  rfl
theorem iz_ (c:Nat):eJ ⟨#[c]⟩=[c]:=rfl
theorem yT {x:Str} {k:Int} (h0:0≤k) (h1:k≤(eJ x).length):eJ (Txt.slice x none (some k))=(eJ x).take k.toNat:=by
  have e:=beq_iff_eq.mp (PyProof.Rows.slice_closes_toL (x:=x) h0 (by rw [bt_]; exact h1))
  rw [e]
  show (((x.cps.toList.drop 0).take (k - 0).toNat).toArray).toList=_
  simp [eJ]
theorem j8 {x:Str} {k:Int} (h0:0≤k) (h1:k≤(eJ x).length):eJ (Txt.slice x (some k) none)=(eJ x).drop k.toNat:=by
  rw [PyProof.Rows.slice_from_eq (x:=x) (b:=x.length) h0 (by rw [bt_]; exact h1) rfl]
  show (((x.cps.toList.drop k.toNat).take ((x.length:Int) - k).toNat).toArray).toList=_
  rw [List.toList_toArray,gZ]
  · rfl
  · rw [List.length_drop, bt_]
    show x.cps.toList.length - k.toNat≤(((eJ x).length:Int) - k).toNat
    show (eJ x).length - k.toNat≤(((eJ x).length:Int) - k).toNat
    omega
theorem sI (g:Array Nat) (hg:g = #[]):∀ (r:List Str) (acc:Array Nat),(r.foldl (fun acc p=>acc ++ g ++ p.cps) acc).toList=acc.toList ++ (r.map eJ).flatten
  | [],acc=>by simp
  | y :: r, acc => by
    rw [List.foldl_cons,sI g hg r]
    subst hg
    simp [eJ]
theorem j7 (ys:List Str):eJ (Txt.join (Str.ofString "") ys)=(ys.map eJ).flatten:=by
  show ((ys.drop 1).foldl (fun acc p=>acc ++ (Str.ofString "").cps ++ p.cps) (ys.headD Str.empty).cps).toList=_
  rw [sI _ (by decide)]
  cases ys with
  | nil=>rfl
  | cons y r=>rfl
def Low (l:List Nat):Prop := ∀ c∈l,97≤c∧c≤122
def Nm (x:Str):Prop:=1≤(eJ x).length∧(eJ x).length≤8∧Low (eJ x)
abbrev lets:Str := "abcdefghijklmnopqrstuvwxyz"
theorem i4:eJ lets=(List.range 26).map (97 + ·):=by decide +kernel
theorem nZ {r:Int} (h0:0≤r) (h1:r < 26):atI lets.cps.toList r=some (97 + r.toNat):=by
  have e:((r.toNat:Nat):Int)=r:=by omega
  have q:atI (eJ lets) ((r.toNat:Nat):Int)=some (97 + r.toNat):=fj_ (by
    rw [i4,cE,List.getElem?_range (by omega)]
    rfl)
  rw [e] at q
  exact q
def qH (t:Nat):Str:=Txt.mul ⟨#[97 + t]⟩ 8
theorem hc_ (t:Nat):eJ (qH t)=List.replicate 8 (97 + t):=PyProof.Rows.mul_one_list (97 + t) 8
theorem aHo {s t:Nat} (h:qH s=qH t):s=t:=by
  have e:=congrArg eJ h
  rw [hc_,hc_] at e
  have e1:(97 + s) :: List.replicate 7 (97 + s)=(97 + t) :: List.replicate 7 (97 + t):=e
  have:=(List.cons.inj e1).1
  omega
theorem aLn {t:Nat} (h:t < 26):Nm (qH t):=by
  unfold Nm
  rw [hc_]
  refine ⟨by simp,by simp,fun c hc => ?_⟩
  have:=(iL.mp hc).2
  omega
theorem aEy {α:Type} [BEq α] [LawfulBEq α]:∀ (l xs:List α),l.Nodup→(∀ a∈l,a∈xs)→l.length≤xs.length
  | [],_,_,_=>dB _
  | a :: r, xs, hn, hs => by
    have ha:=hs a aB
    obtain ⟨h1,h2⟩:=dC.mp hn
    have ih:=aEy r (xs.erase a) h2 fun b hb=>(List.mem_erase_of_ne (fun e=>h1 (by rw [← e]; exact hb))).mpr (hs b (aC _ hb))
    rw [List.length_erase_of_mem ha] at ih
    have:=List.length_pos_of_mem ha
    rw [aL]
    omega
theorem aHn {xs:List Str} {t:Nat} (h:∀ j < t,qH j∈xs):t≤xs.length:=by
  have q:=aEy ((List.range t).map qH) xs ?_ ?_
  · rw [aE, cB] at q
    exact q
  · refine List.nodup_iff_pairwise_ne.mpr (List.pairwise_map.mpr ?_)
    exact List.Pairwise.imp (fun hab e=>hab (aHo e)) (List.nodup_iff_pairwise_ne.mp List.nodup_range)
  · intro a ha
    obtain ⟨j,hj,rfl⟩:=cN.mp ha
    exact h j (iA.mp hj)
theorem xS {x:Str}:∀ {xs:List Str},inV (.str x) (xs.map V.str)=true↔x∈xs:=by
  intro xs
  unfold inV
  rw [List.any_map,List.any_eq_true]
  constructor
  · rintro ⟨y, hy, e⟩
    have e':(y == x)=true:=e
    have:y=x:=by simpa using e'
    rw [← this]
    exact hy
  · intro h
    exact ⟨x,h,(beq_self_eq_true x:(x == x)=true)⟩
theorem aCe {xs:List Str}:(xs.map V.str).all lH=true:=by
  rw [List.all_map,fD]
  intro y _
  rfl
theorem Nm.sz {x:Str} (h:Nm x):x.length≤1000:=by
  have:=h.2.1
  rw [bt_]
  omega
theorem ij_ (c:Nat):(⟨#[c]⟩ : Str).length=1:=rfl
theorem aJx {st:Str} {r s:Int} (h7:(eJ st).length=7) (hl:Low (eJ st)) (h0:0≤r) (h1:r < 8) (h2:0≤s) (h3:s < 26) :
    Nm (Txt.slice st none (some r) ++ ⟨#[97 + s.toNat]⟩)∧(Txt.slice st none (some r)).length≤7:=by
  have e:=yT (x:=st) h0 (by omega)
  constructor
  · unfold Nm
    rw [gl_,e,iz_]
    refine ⟨by simp,by simp; omega,fun c hc => ?_⟩
    rcases bZ.mp hc with hc | hc
    · exact hl c (List.mem_of_mem_take hc)
    · have := aO.mp hc
      omega
  · rw [bt_, e, cI]
    omega
theorem aJw {ys:List Str} (hl:∀ y∈ys,∃ j:Nat,j < 26∧y=⟨#[97 + j]⟩) (h1:1≤ys.length) (h8:ys.length≤8):Nm (Txt.join (Str.ofString "") ys):=by
  unfold Nm
  rw [j7]
  have key:∀ zs:List Str,(∀ y∈zs,∃ j:Nat,j < 26∧y=⟨#[97 + j]⟩)→((zs.map eJ).flatten).length=zs.length∧Low (zs.map eJ).flatten:=by
    intro zs
    induction zs with
    | nil=>intro _; exact ⟨rfl,fun c hc=>by simp at hc⟩
    | cons z r ih =>
      intro h
      obtain ⟨a,b⟩:=ih fun y hy=>h y (aC _ hy)
      obtain ⟨j,hj,rfl⟩:=h z aB
      rw [aP,dE,iz_]
      refine ⟨by rw [aI,a]; simp; omega,fun c hc => ?_⟩
      rcases bZ.mp hc with hc | hc
      · have := aO.mp hc
        omega
      · exact b c hc
  obtain ⟨a,b⟩:=key ys hl
  exact ⟨by omega,by omega,b⟩
theorem aJv {x:Str} {r s:Int} (hx:Nm x) (h0:0≤r) (h1:r < x.length) (h2:0≤s) (h3:s < 26) :
    Nm (Txt.slice x none (some r) ++ ⟨#[97 + s.toNat]⟩ ++ Txt.slice x (some (r + 1)) none)∧(Txt.slice x none (some r)).length≤8∧(Txt.slice x (some (r + 1)) none).length≤8:=by
  obtain ⟨a,b,c⟩:=hx
  rw [bt_] at h1
  have e:=yT (x:=x) h0 (by omega)
  have e2:=j8 (x:=x) (k:=r + 1) (by omega) (by omega)
  refine ⟨?_,?_,?_⟩
  · unfold Nm
    rw [gl_,gl_,e,e2,iz_]
    refine ⟨by simp; omega,by simp; omega,fun z hz => ?_⟩
    rcases bZ.mp hz with hz | hz
    · rcases bZ.mp hz with hz | hz
      · exact c z (List.mem_of_mem_take hz)
      · have := aO.mp hz
        omega
    · exact c z (List.mem_of_mem_drop hz)
  · rw [bt_, e, cI]
    omega
  · rw [bt_, e2, List.length_drop]
    omega
def aVi (st:Str):Prop:=(eJ st).length=7∧Low (eJ st)
theorem aIq {v:V} (h:v∈[V.str "abcdefg",V.str "placeof",V.str "zyxwvut",V.str "kjqrshn"]):∃ st:Str,v=.str st∧aVi st:=by
  have L:∀ st:Str,((eJ st).length == 7 && (eJ st).all fun c=>decide (97≤c) && decide (c≤122))=true→aVi st:=by
    intro st h
    rw [fF,fD] at h
    refine ⟨by simpa using h.1,fun c hc => ?_⟩
    have:=h.2 c hc
    simpa using this
  simp only [aF,aV,or_false] at h
  rcases h with rfl | rfl | rfl | rfl
  · exact ⟨_,rfl,L _ (by decide +kernel)⟩
  · exact ⟨_,rfl,L _ (by decide +kernel)⟩
  · exact ⟨_,rfl,L _ (by decide +kernel)⟩
  · exact ⟨_,rfl,L _ (by decide +kernel)⟩
def LnH (H0:Hp) (p l:Addr) (md:Int) (xs:List Str) (B:Int) (H:Hp):Prop:=H l=some (.lst (xs.map V.str))∧SameX p H0 H∧PoolAt p md B H
theorem LnH.take {H0:Hp} {p l:Addr} {md:Int} {xs:List Str} {B C:Int} {H H':Hp} (h:LnH H0 p l md xs B H) (n:l≠p) (e:SameX p H H') (q:PoolAt p md C H'):LnH H0 p l md xs C H' :=
  ⟨e.get n h.1,h.2.1.trans e,q⟩
theorem LnH.same {H0:Hp} {p l:Addr} {md:Int} {xs:List Str} {B:Int} {H H':Hp} (h:LnH H0 p l md xs B H) (e:Same H H'):LnH H0 p l md xs B H' :=
  ⟨e _ _ h.1,h.2.1.trans (SameX.of e),h.2.2.same e⟩
theorem LnH.mono {H0:Hp} {p l:Addr} {md:Int} {xs:List Str} {B C:Int} {H:Hp} (h:LnH H0 p l md xs B H) (hb:B≤C):LnH H0 p l md xs C H:=⟨h.1,h.2.1,h.2.2.mono hb⟩
theorem LnH.add {H0:Hp} {p l:Addr} {md:Int} {xs:List Str} {B:Int} {H:Hp} {x:Str} (h:LnH H0 p l md xs B H) (n:l≠p) (hl:H0 l=none):LnH H0 p l md (xs ++ [x]) B (upd H l (.lst (xs.map V.str ++ [.str x]))):=by
  obtain ⟨a,b,c,st,d,d1,d2⟩:=h
  refine ⟨?_,fun q o hq => ?_,c,st,?_,d1,d2⟩
  · rw [cJ, bW]
    rfl
  · obtain ⟨nq, eq⟩ := is_ hq
    have:q≠l:=fun e=>by rw [e,hl] at eq; cases eq
    rw [fx_ nq,fX this]
    exact b.get nq eq
  · rw [fX (Ne.symm n)]
    exact d
abbrev lnS (p l:Addr) (many:Int) (stem:Str) (o5 o6 o7 o8 o9:Option V):St:=[some (.ref p),some (.int many),some (.str lets),some (.str stem),some (.ref l),o5,o6,o7,o8,o9]
theorem aKd (x y:Str):(x ++ y).length=x.length + y.length:=by rw [bt_,gl_,aI,bt_ x,bt_ y]
theorem wZ:∀ {ys:List Str},(∀ y∈ys,∃ j:Nat,j < 26∧y=⟨#[97 + j]⟩)→(ys.map (·.length)).sum=ys.length
  | [],_=>rfl
  | y :: r, h => by
    obtain ⟨j,_,rfl⟩:=h y aB
    rw [aP,List.sum_cons,wZ fun y hy=>h y (aC _ hy),aL,ij_]
    omega
theorem aGe {xs:List Str} (h:xs≠[]):∃ y∈xs,atI (xs.map V.str) (-1)=some (.str y):=by
  refine ⟨xs.getLast h,List.getLast_mem h,?_⟩
  have e:xs.map V.str=(xs.dropLast).map V.str ++ [V.str (xs.getLast h)]:=by
    conv=>lhs; rw [← List.dropLast_concat_getLast h]
    rw [bW]
    rfl
  rw [e]
  exact aHw _ _
def aSx:Sp:=fun vs H Q _ => ∃ (p:Addr) (md B many:Int),vs=[.ref p,.int many]∧PoolAt p md B H∧0≤many∧many≤12∧B + 1000 < 2 ^ 60 ∧
  ∀ (l:Addr) (xs:List Str) (H':Hp),l≠p→H l=none→H' l=some (.lst (xs.map V.str))→xs.length=many.toNat→xs.Nodup→(∀ x∈xs,Nm x)→SameX p H H'→PoolAt p md (B + 200) H'→Q (.ref l) H'
section
variable {P:Program} {w:World} {K:dH} {mg:gO} {base:Heap} {f fT:Addr} {fd dT:FuncData} {n j:Nat}
theorem aTk (F:Fun K "_law_names" "_law_names" dw_ f fd) (GT:FnOk P w K mg base CX0 1 fT dT ["pool", "many"] aEc) (bT:Binds K dT ["pool", "many"] []) (kT:PySem.W.keepIn K (.ref fT)=true) (mT:mg "_law_take" = some (.ref fT))
    (m_range:mg "range" = none) (m_len:mg "len" = none):FnOk P w K mg base CX0 2 f fd ["pool", "many"] aSx:=by
  refine F.ok dI (fun vs H Q E h => ?_) (fun cdv A outer s H vs Q E hr h => ?_)
  · obtain ⟨p, md, B, many, rfl, _⟩ := h
    rfl
  obtain ⟨p,md,B,many,rfl,hp,hm0,hm1,hB,q⟩:=h
  have hu:=hr.units0
  refine ⟨_,(rB (fS (i:=2) dI.nd rfl (Or.inr rfl) he_)
    (rB (fS (i:=3) dI.nd rfl (Or.inl rfl) (yE dj_ (uM (jG he_ (jG he_ (jG he_ (jG he_ nF))))) (ev_ GT hr rfl mT kT bT .nil kZ (jG (pv 0) (jG jE nF))) (fun _ _=>rfl)))
    (rB (fS (i:=4) dI.nd rfl (Or.inl rfl) (uM nF))
    (rB (aEx PassesOwn.never rfl (ig_ rfl m_range (jG (pv 1) nF)) (gN (i:=5) dI.nd rfl (Or.inl rfl)) (rB (fS (i:=6) dI.nd rfl (Or.inl rfl) (mR jN (hl_ tU (pv 3) nW (nV (ev_ GT hr rfl mT kT bT .nil kZ (jG (pv 0) (jG jE nF))))) (yE pR (pv 2) (ev_ GT hr rfl mT kT bT .nil kZ (jG (pv 0) (jG jE nF))) (fun _ _=>rfl))))
    (rB (fS (i:=7) dI.nd rfl (Or.inl rfl) (ev_ GT hr rfl mT kT bT .nil kZ (jG (pv 0) (jG jE nF))))
    (rB (aEw (s_ (gx_ t_ (pv 7) jE (cH _)) (eu_ (fS (i:=6) dI.nd rfl (Or.inl rfl) (t7 PySem.F.plainAttrs_str PySem.F.slot_str_join PySem.F.type_str_join aKa he_ (jG (nX (dsc:=aQ dw_) (N:=["pool", "many", "letters", "stem", "found", "k", "name", "way", "at", "turn"]) (tgs:=["turn"]) (outs:=[0,2]) (N':=["turn", "pool", "letters"]) ⟨rfl,by decide +kernel,by decide +kernel,by decide +kernel,rfl,by decide +kernel,by decide +kernel,by decide +kernel⟩ (ig_ rfl m_range (jG (mR jO jE (ev_ GT hr rfl mT kT bT .nil kZ (jG (pv 0) (jG jE nF)))) nF)) (fun _ _ _ _ _=>(gN (i:=0) (show (["turn", "pool", "letters"]:List Str).Nodup by decide +kernel) rfl (Or.inl rfl) (.inr rfl))) (rC (by decide)) (fun _ _ _ _ _=>t9) (fun _ _ _ _ _=>(yE pR (pv 2) (ev_ GT hr rfl mT kT bT .nil kZ (jG (pv 1) (jG jE nF))) (fun _ _=>rfl)))) nF)))) nU))
    (rB (aEw (s_ (PW.pt (aEp (gx_ t_ (pv 7) jE (cH _)) (q_ (gx_ (wY hu) (pv 4) (uM nF) (cH _))))) (rB (fS (i:=8) dI.nd rfl (Or.inl rfl) (ev_ GT hr rfl mT kT bT .nil kZ (jG (pv 0) (jG (hm_ lI rfl m_len PySem.boot_len (jG (yE dj_ (pv 4) (t6 tO jE) (fun _ _=>rfl)) nF)) nF))))
    (eu_ (fS (i:=6) dI.nd rfl (Or.inl rfl) (mR jN (mR jN (hl_ tU (yE dj_ (pv 4) (t6 tO jE) (fun _ _=>rfl)) nW (nV (pv 8))) (yE pR (pv 2) (ev_ GT hr rfl mT kT bT .nil kZ (jG (pv 0) (jG jE nF))) (fun _ _=>rfl))) (hl_ tU (yE dj_ (pv 4) (t6 tO jE) (fun _ _=>rfl)) (nV (mR jO (pv 8) jE)) nW))))) nU))
    (rB (fS (i:=9) dI.nd rfl (Or.inl rfl) jE)
    (rB (aEu PassesOwn.never (gx_ aBn (pv 6) (pv 4) (by with_unfolding_all rfl)) (rB (fS (i:=6) dI.nd rfl (Or.inl rfl) (mR pD (yE pR (pv 2) (pv 9) (fun _ _=>rfl)) jE))
    (eu_ (fS (i:=9) dI.nd rfl (Or.inl rfl) (mR jO (pv 9) jE)))))
    (eu_ (if_ (t7 PySem.F.plainAttrs_list PySem.F.slot_list_append PySem.F.type_list_append ik_ (pv 4) (jG (pv 6) nF)))))))))))
    (eu_ (uH (pv 4))))))),?_⟩
  have ll:lets.length≤sizeLine:=by show 26≤sizeLine; exact jQ 26 (by decide)
  refine ⟨jQ 4 (by decide),fun s0 hs0=>⟨_,rfl,p,md,B,4,rfl,hp.same (dn_ hs0 _),by omega,by decide,by decide,fun r H1 r0 r1 e1 hP1 => ?_⟩⟩
  have e1':SameX p H H1:=(SameX.of (dn_ hs0 _)).trans e1
  obtain ⟨v,hv,hvm⟩:=aHx (xs:=[V.str "abcdefg",V.str "placeof",V.str "zyxwvut",V.str "kjqrshn"]) r0 r1
  obtain ⟨st,rfl,hst7,hstL⟩:=aIq hvm
  have hs0p:s0≠p:=hp.ne hs0
  refine ⟨s0,_,_,_,rfl,rfl,SqL.of (e1.get hs0p cJ),hv,?_⟩
  refine ⟨jQ 0 (by decide),fun l hl => ?_⟩
  have hlp:l≠p:=hP1.ne hl
  have hl0:H l=none:=by
    cases z:H l with
    | none=>rfl
    | some o=>rw [e1'.get hlp z] at hl; cases hl
  have L0:LnH H p l md [] (B + 1) (upd H1 l (.lst [])):=⟨cJ,e1'.trans (SameX.of (dn_ hl _)),hP1.same (dn_ hl _)⟩
  refine ⟨_,rfl,many,rfl,by omega,by omega,?_⟩
  refine aCd (n:=many.toNat) (fun i σ' H' => ∃ (xs:List Str) (o5 o6 o7 o8 o9:Option V),σ'=lnS p l many st o5 o6 o7 o8 o9∧xs.length=i∧xs.Nodup∧(∀ x∈xs,Nm x)∧LnH H p l md xs (B + 1 + 14 * (i:Int)) H') ?_ ?_ ?_
  · exact ⟨[],_,_,_,_,_,rfl,rfl,List.nodup_nil,(fun x hx=>nomatch hx),L0.mono (by omega)⟩
  · rintro i σ' H2 hi ⟨xs, o5, o6, o7, o8, o9, rfl, hxl, hnd, hnm, L2⟩
    have sl7:st.length≤sizeLine:=by rw [bt_,hst7]; exact jQ 7 (by decide)
    refine ⟨_,rfl,_,rfl,p,md,_,8,rfl,L2.2.2,by omega,by decide,by decide,fun r2 H3 r20 r21 e3 hP3=>⟨_,rfl,_,rfl,sl7,?_⟩⟩
    have L3:=L2.take hlp e3 hP3
    refine ⟨_,rfl,_,rfl,p,md,_,26,rfl,hP3,by omega,by decide,by decide,fun r3 H4 r30 r31 e4 hP4=>⟨_,_,_,rfl,rfl,ll,nZ r30 r31,?_⟩⟩
    have L4:=L3.take hlp e4 hP4
    obtain ⟨nm0,sz0⟩:=aJx hst7 hstL r20 r21 r30 r31
    refine ⟨_,_,rfl,rfl,jQ _ (by rw [ij_]; omega),?_⟩
    refine ⟨_,rfl,p,md,_,3,rfl,hP4,by omega,by decide,by decide,fun way H5 r40 r41 e5 hP5 => ?_⟩
    have L5:=L4.take hlp e5 hP5
    generalize hB5:B + 1 + 14 * (i:Int) + 1 + 1 + 1=B5 at L5 hP5
    clear L4 L3 hP4 hP3 e3 e4 e5
    generalize Txt.slice st none (some r2) ++ (⟨#[97 + r3.toNat]⟩ : Str)=nmA at nm0 ⊢
    refine ⟨fun σ' H' => ∃ (nm:Str),σ'=lnS p l many st (some (.int (0 + (i:Int)))) (some (.str nm)) (some (.int way)) o8 o9∧Nm nm∧LnH H p l md xs (B5 + 9) H',?_,?_⟩
    · refine ⟨_, rfl, rfl, _, rfl, mY (fun c => ?_) (fun c => ⟨nmA, rfl, nm0, L5.mono (by omega)⟩)⟩
      refine ⟨rfl,_,rfl,p,md,B5,8,rfl,hP5,by omega,by decide,by decide,fun r6 H6 r60 r61 e6 hP6=>⟨_,_,rfl,rfl,_,rfl,by omega,by omega,?_⟩⟩
      have L6:=L5.take hlp e6 hP6
      refine j6 (n:=(1 + r6).toNat) (fun i acc H' => ∃ ys:List Str,acc=ys.map V.str∧ys.length=i∧(∀ y∈ys,∃ j:Nat,j < 26∧y=⟨#[97 + j]⟩)∧LnH H p l md xs (B5 + 1 + (i:Int)) H') (by omega) ⟨[],rfl,rfl,(fun y hy=>nomatch hy),L6.mono (by omega)⟩ (fun i acc H' hi ⟨ys,ea,el,_⟩=>by rw [ea,aE]; omega) (fun i acc H' hi ⟨ys,ea,el,ey,eL⟩ => ?_) (fun acc H' ⟨ys,ea,el,ey,eL⟩ l2 hn => ?_)
      · refine aJz ?_
        refine ⟨_,rfl,_,rfl,p,md,_,26,rfl,eL.2.2,by omega,by decide,by decide,fun r7 H7 r70 r71 e7 hP7=>⟨_,_,_,rfl,rfl,ll,nZ r70 r71,ys ++ [⟨#[97 + r7.toNat]⟩],?_,?_,?_,?_⟩⟩
        · rw [ea, bW]
          rfl
        · rw [aI, el]
          rfl
        · intro y hy
          rcases bZ.mp hy with hy | hy
          · exact ey y hy
          · exact ⟨r7.toNat,by omega,aO.mp hy⟩
        · exact (eL.take hlp e7 hP7).mono (by push_cast; omega)
      · subst ea
        have es:=wZ ey
        refine ⟨_,l2,ys,rfl,rfl,SqL.of cJ,?_,?_⟩
        · rw [es]
          show ys.length + ys.length * 0≤16777216
          omega
        · exact ⟨_,rfl,aJw ey (by omega) (by omega),(eL.same (dn_ hn _)).mono (by omega)⟩
    rintro σ6 H6 ⟨nmB,rfl,nmBok,L6⟩
    refine ⟨fun σ' H' => ∃ (nm:Str) (o:Option V),σ'=lnS p l many st (some (.int (0 + (i:Int)))) (some (.str nm)) (some (.int way)) o o9∧Nm nm∧LnH H p l md xs (B5 + 11) H',?_,?_⟩
    · refine ⟨_, rfl, rfl, _, rfl, mY (fun c => ?_) (fun c => aXz ⟨nmB, _, rfl, nmBok, L6.mono (by omega)⟩)⟩
      refine ⟨_,rfl,jQ 0 (by decide),fun l2 hn2 => ?_⟩
      have L7:=L6.same (dn_ hn2 (.lst []))
      refine ⟨l,l2,_,rfl,rfl,SqL.of L7.1,SqL.of cJ,_,rfl,mY (fun c2 => ?_) (fun c2=>⟨nmB,_,rfl,nmBok,L7.mono (by omega)⟩)⟩
      have hne:xs≠[]:=fun z=>by subst z; cases c2
      obtain ⟨y,hy,hat⟩:=aGe hne
      have hny:=hnm y hy
      have hzy:y.length≤sizeLine:=jQ _ hny.sz
      have hy1:1≤y.length:=by rw [bt_]; exact hny.1
      have hy2:y.length≤8:=by rw [bt_]; exact hny.2.1
      refine ⟨_,rfl,_,rfl,_,rfl,l,_,_,_,rfl,rfl,SqL.of L7.1,hat,y,rfl,hzy,p,md,_,_,rfl,L7.2.2,by omega,by omega,by omega,fun r8 H8 r80 r81 e8 hP8 => ?_⟩
      have L8:=L7.take hlp e8 hP8
      refine ⟨_,rfl,_,rfl,l,_,_,_,rfl,rfl,SqL.of L8.1,hat,_,rfl,_,rfl,y,rfl,hzy,?_⟩
      refine ⟨_,rfl,_,rfl,p,md,_,26,rfl,hP8,by omega,by decide,by decide,fun r9 H9 r90 r91 e9 hP9 => ?_⟩
      have L9:=L8.take hlp e9 hP9
      obtain ⟨t1,t2,t3⟩:=aJv hny r80 r81 r90 r91
      refine ⟨_,_,_,rfl,rfl,ll,nZ r90 r91,_,_,rfl,rfl,jQ _ (by rw [ij_]; omega),?_⟩
      refine ⟨_,rfl,_,rfl,l,_,_,_,rfl,rfl,SqL.of L9.1,hat,_,rfl,_,_,rfl,rfl,_,rfl,y,rfl,hzy,_,_,rfl,rfl,?_,?_⟩
      · refine jQ _ ?_
        rw [aKd,ij_]
        omega
      · exact ⟨_,_,rfl,t1,L9.mono (by omega)⟩
    rintro σ7 H7 ⟨nmC,o8',rfl,nmCok,L7⟩
    have hi12:xs.length≤12:=by omega
    refine ⟨fun m σ' H' => ∃ (t:Nat) (nm:Str),m=30 - t∧t≤20∧σ'=lnS p l many st (some (.int (0 + (i:Int)))) (some (.str nm)) (some (.int way)) o8' (some (.int (t:Int)))∧Nm nm∧(∀ j,j + 1 < t→qH j∈xs)∧(0 < t→nm=qH (t - 1))∧H'=H7,⟨30,0,nmC,rfl,by omega,rfl,nmCok,(fun j hj=>by omega),(fun h0=>by omega),rfl⟩,?_⟩
    rintro m σ8 H8 ⟨t,nm,rfl,ht,rfl,hnmt,hc,hn,rfl⟩
    refine ⟨_,rfl,_,rfl,l,_,rfl,.inl (SqL.of L7.1),rfl,aCe,_,rfl,mY (fun c => ?_) (fun c => ?_)⟩
    · have hin : nm ∈ xs := xS.mp c
      have hc':∀ j,j < t→qH j∈xs:=fun j hj=>by
        by_cases z:j + 1 < t
        · exact hc j z
        · have : j = t - 1 := by omega
          rw [this,← hn (by omega)]
          exact hin
      have ht':=aHn hc'
      refine ⟨fun σ' H'=>σ'=lnS p l many st (some (.int (0 + (i:Int)))) (some (.str (qH t))) (some (.int way)) o8' (some (.int ((t:Int) + 1)))∧H'=H8,?_,?_⟩
      · rintro σ' H' ⟨rfl, rfl⟩
        exact ⟨30 - (t + 1),by omega,t + 1,qH t,rfl,by omega,rfl,aLn (by omega),(fun j hj=>hc' j (by omega)),(fun _=>rfl),rfl⟩
      · refine ⟨_, rfl, _, rfl, _, _, _, rfl, rfl, ll, nZ (r := (t : Int)) (by omega) (by omega), _, _, rfl, rfl, by rw [ij_]; decide, by decide, by decide, ?_⟩
        refine ⟨_,rfl,_,_,rfl,rfl,?_,rfl⟩
        show lnS _ _ _ _ _ (some (.str (Txt.mul ⟨#[97 + (t:Int).toNat]⟩ 8))) _ _ _=_
        rw [dA]
        rfl
    · have hout : nm ∉ xs := fun z => c (xS.mpr z)
      refine ⟨_,rfl,.inl ⟨rfl,_,SqL.of L7.1⟩,_,rfl,l,_,_,rfl,rfl,L7.1,by rw [aE]; exact rO (by omega),?_⟩
      refine ⟨xs ++ [nm],_,_,_,_,_,rfl,by rw [aI,hxl]; rfl,?_,fun x hx => ?_,(L7.add hlp hl0).mono (by push_cast; omega)⟩
      · exact gG.mpr ⟨hnd,by simp,fun a ha b hb=>by rw [aO.mp hb]; intro e; exact hout (by rw [← e]; exact ha)⟩
      · rcases bZ.mp hx with hx | hx
        · exact hnm x hx
        · rw [aO.mp hx]
          exact hnmt
  · rintro σ' H2 ⟨xs, o5, o6, o7, o8, o9, rfl, hxl, hnd, hnm, L2⟩
    refine ⟨_,rfl,q l xs H2 hlp hl0 L2.1 hxl hnd hnm L2.2.1 (L2.2.2.mono (by omega))⟩
end
mutual
def Kd.Full:Kd→Prop
  | .num _ _=>True
  | .row k _=>k.Full
  | .rcd fs=>fs≠[]∧x_ fs
  | .cho ks=>ks≠[]∧x9 ks
def x_:List (Str×Kd)→Prop
  | []=>True
  | f :: r=>f.2.Full∧x_ r
def x9:List Kd→Prop
  | []=>True
  | k :: r=>k.Full∧x9 r
end
theorem xX:∀ {fs:List (Str×Kd)} {i:Nat} {f:Str×Kd},x_ fs→fs[i]? = some f→f.2.Full
  | [],_,_,_,e=>by simp at e
  | k' :: r,0,k,h,e=>by simp at e; subst e; exact h.1
  | k' :: r,i + 1,k,h,e=>xX (i:=i) h.2 (by simpa using e)
theorem xW:∀ {ks:List Kd} {i:Nat} {k:Kd},x9 ks→ks[i]? = some k→k.Full
  | [],_,_,_,e=>by simp at e
  | k' :: r,0,k,h,e=>by simp at e; subst e; exact h.1
  | k' :: r,i + 1,k,h,e=>xW (i:=i) h.2 (by simpa using e)
theorem aFs:∀ {fs:List (Str×Kd)} {i:Nat} {f:Str×Kd},okF fs→fs[i]? = some f→f.2.Ok∧f.2.deep≤eV fs
  | [],_,_,_,e=>by simp at e
  | k' :: r,0,k,h,e=>by simp at e; subst e; exact ⟨h.1,dQ _ _⟩
  | k' :: r,i + 1,k,h,e=>by obtain ⟨a,b⟩:=aFs (i:=i) h.2 (by simpa using e); exact ⟨a,bP b (dJ _ _)⟩
theorem lX:∀ {fs:List (Str×Kd)} {i:Nat} {f:Str×Kd},fs[i]? = some f→(rmF fs)[i]? = some f.2.rm
  | [],_,_,e=>by simp at e
  | k' :: r,0,k,e=>by simp at e; subst e; rfl
  | k' :: r,i + 1,k,e=>by show (rmF r)[i]? = _; exact lX (by simpa using e)
theorem aHu {fs:List (Str×Kd)} {n:Nat} (h:okF fs) (hd:eV fs≤n) (hn:n≤12):∀ r∈rmF fs,Bd (2 ^ 150) r:=fun r hr=>(bdF fs h r hr).mono (Int.le_of_lt (aHs (bP hd hn)))
mutual
def Kd.Fit:Kd→Prop
  | .num w m=>1≤w∧w≤8∧(m=1∨m=2∨m=4∨m=8)
  | .row k n=>k.Fit∧1≤n∧n≤20
  | .rcd fs=>mH fs∧1≤fs.length∧fs.length≤8∧(fs.map (·.1)).Nodup
  | .cho ks=>mZ ks∧1≤ks.length∧ks.length≤6
def mH:List (Str×Kd)→Prop
  | []=>True
  | f :: r=>(Nm f.1∧f.2.Fit)∧mH r
def mZ:List Kd→Prop
  | []=>True
  | k :: r=>k.Fit∧mZ r
end
mutual
theorem Kd.Fit.ok:∀ (k:Kd),k.Fit→k.Ok
  | .num w m, h => by
    obtain ⟨a,b,c⟩:=h
    exact ⟨a,b,by omega,by omega⟩
  | .row k n,h=>⟨Kd.Fit.ok k h.1,by have:=h.2.1; omega,by have:=h.2.2; omega⟩
  | .rcd fs,h=>⟨hb_ fs h.1,by have:=h.2.2.1; omega⟩
  | .cho ks,h=>⟨vM ks h.1,by have:=h.2.2; omega⟩
theorem hb_:∀ (fs:List (Str×Kd)),mH fs→okF fs
  | [],_=>trivial
  | f :: r,h=>⟨Kd.Fit.ok f.2 h.1.2,hb_ r h.2⟩
theorem vM:∀ (ks:List Kd),mZ ks→okK ks
  | [],_=>trivial
  | k :: r,h=>⟨Kd.Fit.ok k h.1,vM r h.2⟩
end
mutual
theorem Kd.Fit.full:∀ (k:Kd),k.Fit→k.Full
  | .num w m,h=>trivial
  | .row k n,h=>Kd.Fit.full k h.1
  | .rcd fs,h=>⟨(by intro z; rw [z] at h; exact absurd h.2.1 (by decide)),sO fs h.1⟩
  | .cho ks,h=>⟨(by intro z; rw [z] at h; exact absurd h.2.1 (by decide)),sM ks h.1⟩
theorem sO:∀ (fs:List (Str×Kd)),mH fs→x_ fs
  | [],_=>trivial
  | f :: r,h=>⟨Kd.Fit.full f.2 h.1.2,sO r h.2⟩
theorem sM:∀ (ks:List Kd),mZ ks→x9 ks
  | [],_=>trivial
  | k :: r,h=>⟨Kd.Fit.full k h.1,sM r h.2⟩
end
theorem sN:∀ {fs:List (Str×Kd)} {f:Str×Kd},mH fs→Nm f.1→f.2.Fit→mH (fs ++ [f])
  | [],_,_,a,b=>⟨⟨a,b⟩,trivial⟩
  | g :: r,f,h,a,b=>⟨h.1,sN h.2 a b⟩
theorem sL:∀ {ks:List Kd} {k:Kd},mZ ks→k.Fit→mZ (ks ++ [k])
  | [],_,_,b=>⟨b,trivial⟩
  | g :: r,f,h,b=>⟨h.1,sL h.2 b⟩
theorem qD:∀ {fs:List (Str×Kd)} {f:Str×Kd} {n:Nat},eV fs≤n→f.2.deep≤n→eV (fs ++ [f])≤n
  | [],f,n,_,b=>by show max f.2.deep 0≤n; omega
  | g :: r, f, n, h, b => by
    have h':max g.2.deep (eV r)≤n:=h
    have:=qD (fs:=r) (f:=f) (n:=n) (by omega) b
    show max g.2.deep (eV (r ++ [f]))≤n
    omega
theorem qC:∀ {ks:List Kd} {k:Kd} {n:Nat},eY ks≤n→k.deep≤n→eY (ks ++ [k])≤n
  | [],f,n,_,b=>by show max f.deep 0≤n; omega
  | g :: r, f, n, h, b => by
    have h':max g.deep (eY r)≤n:=h
    have:=qC (ks:=r) (k:=f) (n:=n) (by omega) b
    show max g.deep (eY (r ++ [f]))≤n
    omega
def tk:Nat→Int
  | 0=>0
  | n + 1=>3000 + 12 * tk n
theorem rK:∀ n,0≤tk n
  | 0=>iO _
  | n + 1=>by have:=rK n; show 0≤3000 + 12 * tk n; omega
mutual
def Kd.x:Kd→Dx
  | .num w m=>.tup [.str "number",.int w,.int m]
  | .row k n=>.tup [.str "row",k.x,.int n]
  | .rcd fs=>.tup [.str "record",.lst (xF fs)]
  | .cho ks=>.tup [.str "choice",.lst (xK ks)]
def xF:List (Str×Kd)→List Dx
  | []=>[]
  | f :: r=>.tup [.str f.1,f.2.x] :: xF r
def xK:List Kd→List Dx
  | []=>[]
  | k :: r=>k.x :: xK r
end
theorem y_:∀ fs:List (Str×Kd),xF fs=fs.map fun f=>.tup [.str f.1,f.2.x]
  | []=>rfl
  | f :: r=>by rw [xF,y_ r]; rfl
theorem yQ:∀ ks:List Kd,xK ks=ks.map Kd.x
  | []=>rfl
  | f :: r=>by rw [xK,yQ r]; rfl
mutual
def Dx.deep:Dx→Nat
  | .tup l=>sR l + 1
  | .lst l=>sR l + 1
  | .dic l=>vQ l + 1
  | _=>1
def sR:List Dx→Nat
  | []=>0
  | d :: r=>max d.deep (sR r)
def vQ:List (Key×Dx)→Nat
  | []=>0
  | k :: r=>max k.2.deep (vQ r)
end
mutual
def Dx.Sz:Dx→Prop
  | .tup l=>l.length≤100000∧szX l
  | .lst l=>l.length≤100000∧szX l
  | .dic l=>l.length≤100000∧(l.map (·.1)).Nodup∧aIo l
  | .scr _ _=>False
  | .ins _ _=>False
  | .exc _=>False
  | _=>True
def szX:List Dx→Prop
  | []=>True
  | d :: r=>d.Sz∧szX r
def aIo:List (Key×Dx)→Prop
  | []=>True
  | k :: r=>k.2.Sz∧aIo r
end
theorem iw_:∀ {l:List Dx} {d:Dx},d∈l→d.deep≤sR l
  | e :: r, d, h => by
    show _≤max _ _
    rcases aF.mp h with rfl | h
    · exact dQ _ _
    · exact bP (iw_ h) (dJ _ _)
theorem qB:∀ {l:List (Key×Dx)} {p:Key×Dx},p∈l→p.2.deep≤vQ l
  | e :: r, d, h => by
    show _≤max _ _
    rcases aF.mp h with rfl | h
    · exact dQ _ _
    · exact bP (qB h) (dJ _ _)
theorem nR:∀ {l:List Dx} {d:Dx},szX l→d∈l→d.Sz
  | e :: r, d, hs, h => by
    rcases aF.mp h with rfl | h
    · exact hs.1
    · exact nR hs.2 h
theorem oW:∀ {l:List (Key×Dx)} {p:Key×Dx},aIo l→p∈l→p.2.Sz
  | e :: r, d, hs, h => by
    rcases aF.mp h with rfl | h
    · exact hs.1
    · exact oW hs.2 h
def Dx.own:Dx→Sv
  | .lst l=>.ol l
  | .dic l=>.od l
  | d=>.tr d
theorem wW (d:Dx):d.own.d=d:=by cases d <;> rfl
theorem oX {l:List (Key×Dx)} {k:Key} {d:Dx} (h:k∉l.map (·.1)):aBh l k d=l ++ [(k,d)]:=by
  unfold aBh
  have:(l.any fun kv=>decide (kv.1=k))=false:=by
    rw [List.any_eq_false]
    intro kv hkv z
    exact h (by rw [← of_decide_eq_true z]; exact dM (f:=fun x:Key×Dx=>x.1) hkv)
  rw [this,if_neg aW]
theorem iu_:∀ {l:List (Key×Dx)} {p:Key×Dx},(l.map (·.1)).Nodup→p∈l→iR l p.1=some p.2
  | q :: l, p, hn, h => by
    unfold iR
    rw [fP]
    have hn':=dC.mp hn
    rcases aF.mp h with rfl | h
    · rw [decide_eq_true rfl]; rfl
    · have hne : ¬ q.1 = p.1 := fun z => hn'.1 (by show q.1 ∈ _; rw [z]; exact dM (f := fun x : Key × Dx => x.1) h)
      rw [decide_eq_false hne]
      exact iu_ hn'.2 h
theorem xL (k:Key):vD (xM k)=some k:=by cases k <;> rfl
def PoolX (B:Int) (l:List Dx):Prop := ∃ c md st:Int,l=[.int c,.int md,.int st]∧0≤st∧st≤B
theorem PoolX.mono {B C:Int} {l:List Dx} (h:PoolX B l) (hb:B≤C):PoolX C l:=by
  obtain ⟨c,md,st,e,h0,h1⟩:=h
  exact ⟨c,md,st,e,h0,by omega⟩
def gTK:GB:=fun l ds Q => ∃ B many:Int,ds=[.int many]∧PoolX B l∧B < 2 ^ 60∧0 < many∧many < 2 ^ 250∧∀ (r:Int) (l':List Dx),0≤r→r < many→PoolX (B + 1) l'→Q (.int r) l'
def gLR:GC:=fun ds Q => ∃ n m:Int,ds=[.int n,.int m]∧0≤n∧0 < m∧Q (.tr (.int (up n m)))
section
variable {P:Program} {w:World} {K:dH} {mg:gO} {base:Heap} {f:Addr} {fd:FuncData} {n j:Nat}
theorem pF (F:Fun K "_law_take" "_law_take" dq_ f fd):FnOk P w K mg base CX0 1 f fd ["pool", "many"] (spB gTK):=by
  refine aGy F dU (fun l ds Q h=>by obtain ⟨B,m,rfl,_⟩:=h; rfl) (by decide) fun cdv A outer s H E hr => ?_
  have hu0:=bN (oD hr)
  refine ⟨_,(dR (iP (jS (mJ K hu0) mI (gt_ K (pv 0) cO (fun _ _=>rfl)) cO (cH _)) (dR (gQ fun F=>fS (i:=2) dU.nd rfl (Or.inl rfl) (XE.at (Ex:=cC) F (hu_ (gt_ K (pv 0) cO (fun _ _=>rfl)) (aZ (pv 1)))))
    (dR (zI fun F=>PS.weak (gd_ (XE.at (Ex:=cC) F (nM (gt_ K (pv 0) cO (fun _ _=>rfl)) (aZ (pv 1)))) (lZ (pv 0) (XE.at (Ex:=cC) F cO) fm_)) nQ)
    (dY (gA (di_ (pv 2)))))) jF)
    (dR (zI fun F=>PS.weak (gd_ (XE.at (Ex:=cC) F (jX (gt_ K (pv 0) cO (fun _ _=>rfl)) cO)) (lZ (pv 0) (XE.at (Ex:=cC) F cO) fm_)) nQ)
    (dR (gQ fun F=>fS (i:=3) dU.nd rfl (Or.inl rfl) (XE.at (Ex:=cC) F (gt_ K (pv 0) cO (fun _ _=>rfl))))
    (dR (gQ fun F=>fS (i:=4) dU.nd rfl (Or.inl rfl) (XE.at (Ex:=cC) F (cw_ (jX (hu_ (gt_ K (pv 0) cO (fun _ _=>rfl)) cO) cO) (jX (cw_ cO (aZ (pv 3))) cO))))
    (dR (gQ fun F=>fS (i:=4) dU.nd rfl (Or.inl rfl) (XE.at (Ex:=cC) F (jX (aZ (pv 4)) (cw_ (cw_ cO (aZ (pv 3))) (aZ (pv 3))))))
    (dR (gQ fun F=>fS (i:=4) dU.nd rfl (Or.inl rfl) (XE.at (Ex:=cC) F (hu_ (cw_ (aZ (pv 4)) (aZ (pv 4))) cO)))
    (dY (gA (hu_ (nM (hu_ (cw_ (aZ (pv 4)) (jX (aZ (pv 4)) cO)) cO) cO) (aZ (pv 1))))))))))),fun l ds Q h => ?_⟩
  obtain ⟨B,many,rfl,⟨c,md,st,rfl,h0,h1⟩,hB,h2,h3,q⟩:=h
  simp only [fJ,fY,xIf,xB,xOp,eE,oQ,xC,iX,iQ,wF,aNd,ixP,nH,aFw,gIC,eqX,eqS,kL,fI,eI,fH,cu_,ct_,lC,lT,lR,lQ,lP,lO,lN,lM,lL,lK,lJ,lG,lF,lE,bB,bE,cA,bV,Sv.d,aP,bM,cZ,cL,bK,aY,aL,bG,aX,bU,Nat.reduceAdd,Nat.reduceSub,Nat.reduceLeDiff,true_and,decide_eq_true_eq,cut,hY,back,cY,if_true,↓reduceIte,cM,dD]
  by_cases e:md=1
  · rw [if_pos e]
    exact ⟨h2,⟨h2,h3⟩,q _ _ (dX _ (by omega)) (dG _ h2) ⟨_,_,_,rfl,h0,by omega⟩⟩
  · rw [if_neg e]
    have a0:(0:Int)≤c % 9999999619:=dX _ (by decide)
    have a1:c % 9999999619 < 9999999619:=dG _ (by decide)
    refine ⟨by decide,⟨by decide,by omega⟩,⟨by omega,by omega⟩,⟨by decide,by omega⟩,⟨by omega,by omega⟩,?_⟩
    have m1:0≤(c % 9999999619 + 983) * (23 * (st + 1) + 53):=iW (by omega) (by omega)
    have m2:(c % 9999999619 + 983) * (23 * (st + 1) + 53)≤10000000602 * (23 * (st + 1) + 53):=bX (by omega) (by omega)
    have m3:0≤3491 * (st + 1) * (st + 1):=iW (by omega) (by omega)
    have m4:3491 * (st + 1) * (st + 1)≤3491 * (st + 1) * 2 ^ 61:=gW (by omega) (by omega)
    generalize (c % 9999999619 + 983) * (23 * (st + 1) + 53)=A1 at m1 m2 ⊢
    generalize 3491 * (st + 1) * (st + 1)=A2 at m3 m4 ⊢
    refine ⟨⟨by omega,by omega⟩,by decide,?_⟩
    have b0:(0:Int)≤(A1 + A2) * (A1 + A2) % 99999999659:=dX _ (by decide)
    have b1:(A1 + A2) * (A1 + A2) % 99999999659 < 99999999659:=dG _ (by decide)
    generalize (A1 + A2) * (A1 + A2) % 99999999659=B2 at b0 b1 ⊢
    exact ⟨⟨by omega,by omega⟩,by decide,⟨by decide,by decide⟩,h2,q _ _ (dX _ (by omega)) (dG _ h2) ⟨_,_,_,rfl,by omega,by omega⟩⟩
theorem aPf (F:Fun K "_law_rounded" "_law_rounded" cr_ f fd):FnOk P w K mg base CX0 1 f fd ["number", "m"] (spX gLR):=by
  refine jU F kC (fun ds Q h=>by obtain ⟨B,m,rfl,_⟩:=h; rfl) (by decide) fun cdv A outer s H E hr => ?_
  have hu0:=bN (oD hr)
  refine ⟨_,(dR (gQ fun F=>fS (i:=2) kC.nd rfl (Or.inl rfl) (XE.at (Ex:=cC) F (hu_ (aZ (pv 0)) (aZ (pv 1)))))
    (dR (iP (jS (mJ K hu0) mI (aZ (pv 2)) cO (cH _)) (dY (gA (di_ (pv 0)))) jF)
    (dY (gA (hd_ (jX (aZ (pv 0)) (aZ (pv 1))) (aZ (pv 2))))))),fun ds Q h => ?_⟩
  obtain ⟨n,m,rfl,h0,h1,q⟩:=h
  simp only [fJ,fY,xIf,xB,xOp,eE,oQ,xC,iX,iQ,nH,gI,gIC,eqX,eqS,kL,fI,eI,fH,cu_,ct_,lC,lT,lR,lQ,lP,lO,lN,lM,lL,lK,lJ,lG,lF,lE,bB,bE,cA,bV,Sv.d,aP,bM,cZ,cL,bK,aY,aL,bG,aX,bU,Nat.reduceAdd,Nat.reduceSub,Nat.reduceLeDiff,true_and,decide_eq_true_eq,cut,hY,back,cY,if_true,↓reduceIte,cM,dD]
  refine ⟨h1,?_⟩
  rw [← aNi h1] at q
  unfold upL at q
  by_cases e:n % m=0
  · rw [if_pos e] at q ⊢
    exact q
  · rw [if_neg e] at q ⊢
    exact q
end
def prD (r:Int×Int):Dx:=.lst [.int r.1,.int r.2]
def gLM (n:Nat):GC:=fun ds Q => ∃ kd:Kd,ds=[kd.x]∧kd.Ok∧kd.Full∧kd.deep≤n∧n≤12∧Q (.ol [.int kd.rm.1,.int kd.rm.2])
theorem aKb {rs:List (Int×Int)} {sel:Int×Int→Int} {d:Int} {Q:Sv→Prop} (hne:rs≠[]) (hdd:∀ r∈rs,d≤sel r) (q:Q (.tr (.int (maxL d (rs.map sel))))):u5 [.lst (rs.map fun r=>.int (sel r))] Q:=by
  refine ⟨rs.map sel,by rw [cX]; rfl,fun z=>hne (List.map_eq_nil_iff.mp z),fun M hM hle => ?_⟩
  obtain ⟨r,hr',rfl⟩:=cN.mp hM
  rw [uZ (d:=d) hM (hdd r hr') hle] at *
  exact q
theorem aEi:∀ fs:List (Str×Kd),(fs.map fun f=>prD f.2.rm)=(rmF fs).map prD
  | []=>rfl
  | f :: r=>by rw [aP,aEi r]; rfl
theorem aEh:∀ ks:List Kd,(ks.map fun k=>prD k.rm)=(rmK ks).map prD
  | []=>rfl
  | f :: r=>by rw [aP,aEh r]; rfl
theorem hj_ {rs:List (Int×Int)} {sel:Int×Int→Int} {d:Int} {i:Nat} {ρ:En} {Q:Sv→En→Prop} (hl:rs.length≤10) (hne:rs≠[]) (hdd:∀ r∈rs,d≤sel r) (hj:∀ r,([Dx.int r.1,Dx.int r.2]:List Dx)[i]? = some (.int (sel r)))
    {s:Sv} (h3:ρ[3]? = some (.v s)) (hs:s.d=.lst (rs.map prD)) (q:Q (.tr (.int (maxL d (rs.map sel)))) (ρ.set 3 (.v (.tr (.lst (rs.map prD)))))):fG u5 (cU (jA 2 [] (xiL (eE 3)) (gxL [0,1]) qQ (eE i)) fA) ρ Q:=by
  simp only [fG,cU,fA,jA,xiL,eE,h3,hs]
  show _∧_
  refine ⟨by rw [aE]; omega,?_⟩
  refine zB prD (fun r=>.int (sel r)) (fun r hr acc P p => ?_) ?_
  · have hi := hj r
    show (match (([.v (.tr (.int r.1)),.v (.tr (.int r.2))]:En)[i]?) with | some (.v s)=>_ | _=>_)
    match i,hi with
    | 0,hi=>simp only [bB,Option.some.injEq] at hi; rw [← hi] at p; exact p
    | 1,hi=>simp only [bB,bE,Option.some.injEq] at hi; rw [← hi] at p; exact p
    | i + 2,hi=>simp at hi
  · exact aKb hne hdd q
theorem sK {P:Program} {w:World} {K:dH} {mg:gO} {base:Heap} {j:Nat} {f:Addr} {fd:FuncData} {ps:List Str} {g:GC} (no:∀ ds Q,¬ g ds Q):FnOk P w K mg base CX0 j f fd ps (spX g) :=
  ⟨fun vs H Q E h=>by obtain ⟨_,ds,Qx,_,_,h,_⟩:=h; exact absurd h (no _ _),fun A outer s H args us vs Q E _ _ _ _ h=>by obtain ⟨_,ds,Qx,_,_,h,_⟩:=h; exact absurd h (no _ _)⟩
theorem aIk {g:GC} {d:Dx} {t:XT} {ρ:En} {Q:Sv→En→Prop} (h:t ρ fun s ρ'=>g [d,s.d] fun r=>Q r ρ'):fG g (cU (xC d) (cU t fA)) ρ Q:=h
theorem iB {α:Type} {a b:α}:[a,b].length≤1000000:=by show 2≤1000000; decide
section
variable {P:Program} {w:World} {K:dH} {mg:gO} {base:Heap} {f:Addr} {fd:FuncData} {n j:Nat}
theorem aPg (F:Fun K "_law_room" "_law_room" cd_ f fd) (CLM:Cal P w K mg base j "_law_room" ["kind"] (spX (gLM n))) (CLR:Cal P w K mg base 1 "_law_rounded" ["number", "m"] (spX gLR)) (m_max:mg "max" = none) (hj:1≤j) :
    FnOk P w K mg base CX0 (j + 1) f fd ["kind"] (spX (gLM (n + 1))):=by
  refine jU F dW (fun ds Q h=>by obtain ⟨d,rfl,_⟩:=h; rfl) (by decide) fun cdv A outer s H E hr => ?_
  have hu0:=bN (oD hr)
  refine ⟨_,(dR (iP (jS (mJ K hu0) mI (eK K (aZ (pv 0)) cO (fun _ _=>rfl)) kM (cH _)) (dY (gA (qG (bC (eK K (aZ (pv 0)) cO (fun _ _=>rfl)) (bC (eK K (aZ (pv 0)) cO (fun _ _=>rfl)) cD))))) jF)
    (dR (iP (jS (mJ K hu0) mI (eK K (aZ (pv 0)) cO (fun _ _=>rfl)) kM (cH _)) (dR (tF (pW (n:=99) (is:=[1,2]) rfl (by decide)) fun F=>gd_ (XE.at (Ex:=cC) F (eU CLM (hr.mono (by omega)) (bC (eK K (aZ (pv 0)) cO (fun _ _=>rfl)) cD))) (c9 rfl (jT (gN (i:=1) dW.nd rfl (Or.inl rfl)) (jT (gN (i:=2) dW.nd rfl (Or.inl rfl)) vW))))
    (dY (gA (qG (bC (cw_ (eK K (aZ (pv 0)) cO (fun _ _=>rfl)) (eU CLR (hr.mono (by omega)) (bC (aZ (pv 1)) (bC (aZ (pv 2)) cD)))) (bC (aZ (pv 2)) cD)))))) jF)
    (dR (iP (jS (mJ K hu0) mI (eK K (aZ (pv 0)) cO (fun _ _=>rfl)) kM (cH _)) (dR (zI fun F=>PS.weak (fv_ (i:=3) dW.nd rfl rfl (dsc:=aQ cd_) (N:=["kind", "room", "most", "parts", "end", "multiple", "begin"]) (tgs:=["name", "inner"]) (outs:=[]) (N':=["name", "inner"]) (by refine ⟨rfl,?_,?_,?_,rfl,?_,?_,?_⟩ <;> decide +kernel) (XIt.at (Ex:=cC) F (rA (eK K (aZ (pv 0)) cO (fun _ _=>rfl)))) (fun _ _ _ _ _=>(ih_ K (n:=2) rfl rfl (jT (gN (i:=0) (show (["name", "inner"]:List Str).Nodup by decide +kernel) rfl (Or.inl rfl) (.inr rfl)) (jT (gN (i:=1) (show (["name", "inner"]:List Str).Nodup by decide +kernel) rfl (Or.inl rfl) (.inr rfl)) vW)))) (hx_ (zL (by decide) (zL (by decide) ed_ zM) (cp_ zM))) (fun a b c d e=>XCs.at (Ex:=cC) F nG) (fun a b c d e=>XE.at (Ex:=cC) F (eU CLM (hr.mono (by omega)) (bC (aZ (pv 1)) cD)))) (hz_ (ey_ (n:=2) (is:=[0,1]) rfl (by decide)) (by decide)))
    (dR (gQ fun F=>fS (i:=4) dW.nd rfl (Or.inl rfl) (XE.at (Ex:=cC) F cO))
    (dY (zK PassesOwn.never rfl (rA (aZ (pv 3))) (c9 rfl (jT (gN (i:=1) dW.nd rfl (Or.inl rfl)) (jT (gN (i:=5) dW.nd rfl (Or.inl rfl)) vW))) (pW (n:=99) (is:=[1,5]) rfl (by decide)) (dY (gQ fun F=>fS (i:=4) dW.nd rfl (Or.inl rfl) (XE.at (Ex:=cC) F (jX (eU CLR (hr.mono (by omega)) (bC (aZ (pv 4)) (bC (aZ (pv 5)) cD))) (aZ (pv 1)))))))))) (dR (zI fun F=>PS.weak (fv_ (i:=3) dW.nd rfl rfl (dsc:=aQ cd_) (N:=["kind", "room", "most", "parts", "end", "multiple", "begin"]) (tgs:=["inner"]) (outs:=[]) (N':=["inner"]) (by refine ⟨rfl,?_,?_,?_,rfl,?_,?_,?_⟩ <;> decide +kernel) (XIt.at (Ex:=cC) F (rA (eK K (aZ (pv 0)) cO (fun _ _=>rfl)))) (fun _ _ _ _ _=>(gN (i:=0) (show (["inner"]:List Str).Nodup by decide +kernel) rfl (Or.inl rfl) (.inr rfl))) (rC (by decide)) (fun a b c d e=>XCs.at (Ex:=cC) F nG) (fun a b c d e=>XE.at (Ex:=cC) F (eU CLM (hr.mono (by omega)) (bC (aZ (pv 0)) cD)))) (hz_ (kO (n:=1) (i:=0) (by decide)) (by decide)))
    (dR (gQ fun F=>fS (i:=6) dW.nd rfl (Or.inl rfl) (XE.at (Ex:=cC) F (eU CLR (hr.mono (by omega)) (bC cO (bC (mK (ja_ K (by rfl)) vR (by rfl) m_max qK (bC (wD (dsc:=aQ cd_) (N:=["kind", "room", "most", "parts", "end", "multiple", "begin"]) (tgs:=["room", "multiple"]) (outs:=[]) (N':=["room", "multiple"]) (by refine ⟨rfl,?_,?_,?_,rfl,?_,?_,?_⟩ <;> decide +kernel) (rA (aZ (pv 3))) (fun _ _ _ _ _=>(uL K (n:=2) rfl rfl (jT (gN (i:=0) (show (["room", "multiple"]:List Str).Nodup by decide +kernel) rfl (Or.inl rfl) (.inr rfl)) (jT (gN (i:=1) (show (["room", "multiple"]:List Str).Nodup by decide +kernel) rfl (Or.inl rfl) (.inr rfl)) vW)))) (pW (n:=2) (is:=[0,1]) rfl (by decide)) (tQ (zL (by decide) (zL (by decide) ed_ zM) (cp_ zM))) (fun _ _ _ _ _=>nG) (fun _ _ _ _ _=>(aZ (pv 1)))) cD)) cD)))))
    (dY (gQ fun F=>fS (i:=4) dW.nd rfl (Or.inl rfl) (XE.at (Ex:=cC) F (jX (aZ (pv 6)) (mK (ja_ K (by rfl)) vR (by rfl) m_max qK (bC (wD (dsc:=aQ cd_) (N:=["kind", "room", "most", "parts", "end", "multiple", "begin"]) (tgs:=["room", "multiple"]) (outs:=[]) (N':=["room", "multiple"]) (by refine ⟨rfl,?_,?_,?_,rfl,?_,?_,?_⟩ <;> decide +kernel) (rA (aZ (pv 3))) (fun _ _ _ _ _=>(uL K (n:=2) rfl rfl (jT (gN (i:=0) (show (["room", "multiple"]:List Str).Nodup by decide +kernel) rfl (Or.inl rfl) (.inr rfl)) (jT (gN (i:=1) (show (["room", "multiple"]:List Str).Nodup by decide +kernel) rfl (Or.inl rfl) (.inr rfl)) vW)))) (pW (n:=2) (is:=[0,1]) rfl (by decide)) (tQ (zL (by decide) (zL (by decide) ed_ zM) (cp_ zM))) (fun _ _ _ _ _=>nG) (fun _ _ _ _ _=>(aZ (pv 0)))) cD)))))))))
    (dR (gQ fun F=>fS (i:=2) dW.nd rfl (Or.inl rfl) (XE.at (Ex:=cC) F (mK (ja_ K (by rfl)) vR (by rfl) m_max qK (bC (wD (dsc:=aQ cd_) (N:=["kind", "room", "most", "parts", "end", "multiple", "begin"]) (tgs:=["room", "multiple"]) (outs:=[]) (N':=["room", "multiple"]) (by refine ⟨rfl,?_,?_,?_,rfl,?_,?_,?_⟩ <;> decide +kernel) (rA (aZ (pv 3))) (fun _ _ _ _ _=>(uL K (n:=2) rfl rfl (jT (gN (i:=0) (show (["room", "multiple"]:List Str).Nodup by decide +kernel) rfl (Or.inl rfl) (.inr rfl)) (jT (gN (i:=1) (show (["room", "multiple"]:List Str).Nodup by decide +kernel) rfl (Or.inl rfl) (.inr rfl)) vW)))) (pW (n:=2) (is:=[0,1]) rfl (by decide)) (tQ (zL (by decide) (zL (by decide) ed_ zM) (cp_ zM))) (fun _ _ _ _ _=>nG) (fun _ _ _ _ _=>(aZ (pv 1)))) cD))))
    (dY (gA (qG (bC (eU CLR (hr.mono (by omega)) (bC (aZ (pv 4)) (bC (aZ (pv 2)) cD))) (bC (aZ (pv 2)) cD))))))))),fun ds Q h => ?_⟩
  obtain ⟨kd,rfl,hk,hf,hdp,hn,q⟩:=h
  cases kd with
  | num wd m=>exact ⟨iB,q⟩
  | row k m =>
    have hdp':k.deep + 1≤n + 1:=hdp
    obtain ⟨b0,b1,b2,b3⟩:=aLp (n:=n) hk.1 (by omega) (by omega)
    obtain ⟨u1,u2⟩:=jW (n:=k.rm.1) (m:=k.rm.2) (by omega)
    have hm:=hk.2
    refine ⟨k,rfl,hk.1,hf,by omega,by omega,?_⟩
    exact ⟨_,_,rfl,b0,by omega,⟨by omega,by omega⟩,iB,q⟩
  | rcd fs =>
    have hdp':eV fs + 1≤n + 1:=hdp
    have hlf:=hk.2
    have hb:=aHu (n:=n) hk.1 (by omega) (by omega)
    have hlr:(rmF fs).length=fs.length:=xJ fs
    have hne:rmF fs≠[]:=fun z=>hf.1 (fK (by rw [← hlr,z]; rfl))
    obtain ⟨x0,x1⟩:=lB hb
    obtain ⟨c0,c1⟩:=ck_ (e:=0) (by omega) hb
    refine ⟨show (xF fs).length≤1000000 by rw [y_,aE]; omega,show eW _ _ _ _ _ (xF fs) _ _ from ?_⟩
    rw [y_]
    refine zB _ (fun f=>prD f.2.rm) (fun f hf' acc P p => ?_) ?_
    · obtain ⟨i, hi⟩ := List.mem_iff_getElem?.mp hf'
      obtain ⟨ok,dk⟩:=aFs hk.1 hi
      exact ⟨f.2,rfl,ok,xX hf.2 hi,by omega,by omega,p⟩
    · rw [aY, aEi]
      refine zA prD (fun rest ρ => ∃ done y1 y2 y5,rmF fs=done ++ rest∧ρ=[.v (.tr (Kd.rcd fs).x),y1,y2,.v (.tr (.lst ((rmF fs).map prD))),.v (.tr (.int (cK 0 done))),y5,.un]) (fun ρ h => ?_) (fun r rest ρ Kn h hk' => ?_) ⟨[],.un,.un,.un,rfl,rfl⟩
      · obtain ⟨done, y1, y2, y5, e1, rfl⟩ := h
        rw [cR] at e1
        rw [← e1]
        simp only [fJ,fY,iX,xOp,eE,back,hY,eI,fH,bM,aP,bK,aY,aL,bG,aX,bU,Nat.reduceAdd,Nat.reduceSub,bB,bE,cA,bV,Sv.d]
        refine hj_ (i:=1) (sel:=fun r=>r.2) (d:=1) (by omega) hne (fun r hr=>(hb r hr).2.2.1) (fun _=>rfl) (by rfl) (by rfl) ?_
        exact ⟨_,_,rfl,c0,by omega,iB,q⟩
      · obtain ⟨done, y1, y2, y5, e1, rfl⟩ := h
        have hr':r∈rmF fs:=by rw [e1]; exact aJ _ aB
        obtain ⟨b0,b1,b2,b3⟩:=hb r hr'
        obtain ⟨d0,d1⟩:=ck_ (e:=0) (rs:=done) (by omega) (fun z hz=>hb z (by rw [e1]; exact bH _ hz))
        refine ⟨_,_,rfl,d0,by omega,hk' _ ⟨done ++ [r],.v (.tr (.int r.1)),y2,.v (.tr (.int r.2)),by rw [e1,bO]; rfl,by rw [fg_]; rfl⟩⟩
  | cho ks =>
    have hdp':eY ks + 1≤n + 1:=hdp
    have hlf:=hk.2
    have hb:=aAn (n:=n) hk.1 (by omega) (by omega)
    have hlr:(rmK ks).length=ks.length:=aKe ks
    have hne:rmK ks≠[]:=fun z=>hf.1 (fK (by rw [← hlr,z]; rfl))
    obtain ⟨x0,x1⟩:=lB hb
    obtain ⟨u1,u2⟩:=jW (n:=1) (m:=maxL 1 ((rmK ks).map (·.2))) (by omega)
    have y0:0≤maxL 0 ((rmK ks).map (·.1)):=hf_ _
    refine ⟨show (xK ks).length≤1000000 by rw [yQ,aE]; omega,show eW _ _ _ _ _ (xK ks) _ _ from ?_⟩
    rw [yQ]
    refine zB _ (fun k=>prD k.rm) (fun k hf' acc P p => ?_) ?_
    · obtain ⟨i, hi⟩ := List.mem_iff_getElem?.mp hf'
      obtain ⟨ok,dk⟩:=aFr hk.1 hi
      exact ⟨k,rfl,ok,xW hf.2 hi,by omega,by omega,p⟩
    · rw [aY, aEh]
      simp only [fJ,fY,iX,xOp,eE,back,hY,eI,fH,bM,aP,bK,aY,aL,bG,aX,bU,Nat.reduceAdd,Nat.reduceSub,bB,bE,cA,bV,Sv.d]
      refine aIk ?_
      refine hj_ (i:=1) (sel:=fun r=>r.2) (d:=1) (by omega) hne (fun r hr=>(hb r hr).2.2.1) (fun _=>rfl) (by rfl) (by rfl) ?_
      refine ⟨_,_,rfl,by decide,by omega,?_⟩
      simp only [fJ,fY,iX,xOp,eE,back,hY,eI,fH,bM,aP,bK,aY,aL,bG,aX,bU,Nat.reduceAdd,Nat.reduceSub,bB,bE,cA,bV,Sv.d]
      refine hj_ (i:=0) (sel:=fun r=>r.1) (d:=0) (by omega) hne (fun r hr=>(hb r hr).1) (fun _=>rfl) (by rfl) (by rfl) ?_
      simp only [fJ,fY,iX,xOp,eE,back,hY,eI,fH,bM,aP,bK,aY,aL,bG,aX,bU,Nat.reduceAdd,Nat.reduceSub,bB,bE,cA,bV,Sv.d]
      refine hj_ (i:=1) (sel:=fun r=>r.2) (d:=1) (by omega) hne (fun r hr=>(hb r hr).2.2.1) (fun _=>rfl) (by rfl) (by rfl) ?_
      exact ⟨_,_,rfl,by omega,by omega,iB,q⟩
theorem aGa:FnOk P w K mg base CX0 j f fd ["kind"] (spX (gLM 0)):=sK fun ds Q h=>by
  obtain ⟨kd,_,_,_,hd,_⟩:=h
  have:=Kd.deep_pos kd
  omega
end
def prT (r:Int×Int):Dx:=.tup [.int r.1,.int r.2]
def gRU:GC:=fun ds Q => ∃ n m:Int,ds=[.int n,.int m]∧0≤n∧n < 2 ^ 200∧0 < m∧m < 2 ^ 200∧Q (.tr (.int (up n m)))
def gSO:GC:=fun ds Q => ∃ r:Int×Int,ds=[prT r]∧0≤r.1∧r.1 < 2 ^ 200∧0 < r.2∧r.2 < 2 ^ 200∧Q (.tr (.int (up r.1 r.2)))
def gCA:GC:=fun ds Q => ∃ m:Int,ds=[.int m]∧0 < m∧m < 2 ^ 200∧Q (.tr (.int (up 1 m)))
def gGM:GC:=fun ds Q => ∃ rs:List (Int×Int),ds=[.lst (rs.map prT)]∧rs.length≤10∧(∀ r∈rs,1≤r.2)∧Q (.tr (.int (maxL 1 (rs.map (·.2)))))
def gPB:GC:=fun ds Q => ∃ rs:List (Int×Int),ds=[.lst (rs.map prT)]∧rs.length≤10∧(∀ r∈rs,Bd (2 ^ 150) r)∧Q (.ol ((eF 0 rs).map Dx.int))
def gRO (n:Nat):GC:=fun ds Q => ∃ kd:Kd,ds=[kd.x]∧kd.Ok∧kd.deep≤n∧n≤12∧Q (.tr (prT kd.rm))
def gRS (n:Nat):GC:=fun ds Q => ∃ ks:List Kd,ds=[.lst (xK ks)]∧okK ks∧eY ks≤n∧ks.length≤10∧n≤12∧Q (.ol ((rmK ks).map prT))
def gRR (n:Nat):GC:=fun ds Q => ∃ (kd:Kd) (m:Int),ds=[kd.x,.int m]∧kd.Ok∧kd.deep≤n∧n≤12∧0≤m∧m≤100∧Q (.tr (prT (m * up kd.rm.1 kd.rm.2,kd.rm.2)))
def gRL (f:List (Int×Int)→Int×Int) (n:Nat):GC:=fun ds Q => ∃ ks:List Kd,ds=[.lst (xK ks)]∧okK ks∧eY ks≤n∧ks.length≤10∧n≤12∧Q (.tr (prT (f (rmK ks))))
def gPO (n:Nat):GC:=fun ds Q => ∃ fs:List (Str×Kd),ds=[.lst (xF fs)]∧okF fs∧eV fs≤n∧fs.length≤10∧n≤12∧Q (.ol ((fs.zip (eF 0 (rmF fs))).map fun x=>.tup [.str x.1.1,.int x.2]))
theorem aMd:∀ ks:List Kd,(ks.map fun k=>prT k.rm)=(rmK ks).map prT
  | []=>rfl
  | f :: r=>by rw [aP,aMd r]; rfl
theorem eb_ {α β:Type} (f:α→Dx) (g:β→Dx):∀ (l:List α) (m:List β),iC (l.map f) (m.map g)=(l.zip m).map fun p=>.tup [f p.1,g p.2]
  | [],_=>rfl
  | _ :: _,[]=>rfl
  | a :: l,b :: m=>by show _ :: iC (l.map f) (m.map g)=_; rw [eb_ f g l m]; rfl
section
variable {P:Program} {w:World} {K:dH} {mg:gO} {base:Heap} {f:Addr} {fd:FuncData} {n j:Nat}
theorem pG (F:Fun K "rounded_up" "rounded_up" ee_ f fd):FnOk P w K mg base CX0 1 f fd ["number", "m"] (spX gRU):=by
  refine jU F qS (fun ds Q h=>by obtain ⟨_,_,rfl,_⟩:=h; rfl) (by decide) fun cdv A outer s H E hr => ?_
  refine ⟨_,(dY (gA (cw_ (nM (hd_ (jX (aZ (pv 0)) (aZ (pv 1))) cO) (aZ (pv 1))) (aZ (pv 1))))),fun ds Q h => ?_⟩
  obtain ⟨n,m,rfl,h0,h1,h2,h3,q⟩:=h
  have d0:0≤(n + m - 1) / m:=Int.ediv_nonneg (by omega) (by omega)
  have d1:(n + m - 1) / m≤n + m - 1:=Int.ediv_le_self m (by omega)
  refine ⟨⟨h2,by omega⟩,⟨?_,by omega⟩,q⟩
  generalize (n + m - 1) / m=z at d0 d1
  omega
theorem f_ (F:Fun K "step_of" "step_of" gb_ f fd) (CRU:Cal P w K mg base 1 "rounded_up" ["number", "m"] (spX gRU)):FnOk P w K mg base CX0 2 f fd ["room"] (spX gSO):=by
  refine jU F a_ (fun ds Q h=>by obtain ⟨_,rfl,_⟩:=h; rfl) (by decide) fun cdv A outer s H E hr => ?_
  refine ⟨_,(dY (gA (eU CRU (hr.mono (by omega)) (bC (eK K (aZ (pv 0)) cO (fun _ _=>rfl)) (bC (eK K (aZ (pv 0)) cO (fun _ _=>rfl)) cD))))),fun ds Q h => ?_⟩
  obtain ⟨r,rfl,h0,h1,h2,h3,q⟩:=h
  exact ⟨_,_,rfl,h0,h1,h2,h3,q⟩
theorem g7 (F:Fun K "chosen_at" "chosen_at" er_ f fd) (CRU:Cal P w K mg base 1 "rounded_up" ["number", "m"] (spX gRU)):FnOk P w K mg base CX0 2 f fd ["multiple"] (spX gCA):=by
  refine jU F tV (fun ds Q h=>by obtain ⟨_,rfl,_⟩:=h; rfl) (by decide) fun cdv A outer s H E hr => ?_
  refine ⟨_,(dY (gA (eU CRU (hr.mono (by omega)) (bC cO (bC (aZ (pv 0)) cD))))),fun ds Q h => ?_⟩
  obtain ⟨m,rfl,h2,h3,q⟩:=h
  exact ⟨_,_,rfl,by decide,by decide,h2,h3,q⟩
theorem aPn (F:Fun K "greatest_multiple" "greatest_multiple" bo_ f fd) (m_max:mg "max" = none):FnOk P w K mg base CX0 1 f fd ["rooms"] (spX gGM):=by
  refine jU F ft_ (fun ds Q h=>by obtain ⟨_,rfl,_⟩:=h; rfl) (by decide) fun cdv A outer s H E hr => ?_
  refine ⟨_,(dY (gA (tI (by rfl) (by rfl) m_max (bC (wD (dsc:=aQ bo_) (N:=["rooms"]) (tgs:=["room"]) (outs:=[]) (N':=["room"]) (by refine ⟨rfl,?_,?_,?_,rfl,?_,?_,?_⟩ <;> decide +kernel) (rA (aZ (pv 0))) (fun _ _ _ _ _=>(gN (i:=0) (show (["room"]:List Str).Nodup by decide +kernel) rfl (Or.inl rfl) (.inr rfl))) (kO (n:=1) (i:=0) (by decide)) (rC (by decide)) (fun _ _ _ _ _=>nG) (fun _ _ _ _ _=>(eK K (aZ (pv 0)) cO (fun _ _=>rfl)))) cD) (uK jE c7)))),fun ds Q h => ?_⟩
  obtain ⟨rs,rfl,hl,h1,q⟩:=h
  refine ⟨show (rs.map prT).length≤_ by rw [aE]; omega,show eW _ _ _ _ _ (rs.map prT) _ _ from ?_⟩
  refine zB prT (fun r=>.int r.2) (fun r hr acc P p=>p) ?_
  refine ⟨rs.map (·.2),by rw [cX]; rfl,fun en => ?_,fun M hM hle => ?_⟩
  · rw [en] at q; exact q
  · obtain ⟨r, hr', rfl⟩ := cN.mp hM
    rw [← uZ (d:=1) hM (h1 r hr') hle] at q
    exact q
theorem aFq (F:Fun K "places_behind" "places_behind" cq_ f fd) (CRU:Cal P w K mg base 1 "rounded_up" ["number", "m"] (spX gRU)):FnOk P w K mg base CX0 2 f fd ["rooms"] (spX gPB):=by
  refine jU F fC (fun ds Q h=>by obtain ⟨_,rfl,_⟩:=h; rfl) (by decide) fun cdv A outer s H E hr => ?_
  refine ⟨_,(dR (gQ fun F=>fS (i:=1) fC.nd rfl (Or.inl rfl) (XE.at (Ex:=cC) F (qG cD)))
    (dR (gQ fun F=>fS (i:=2) fC.nd rfl (Or.inl rfl) (XE.at (Ex:=cC) F cO))
    (dR (zK PassesOwn.never rfl (rA (aZ (pv 0))) (gN (i:=3) fC.nd rfl (Or.inl rfl)) (kO (n:=99) (i:=3) (by decide)) (dR (gQ fun F=>fS (i:=4) fC.nd rfl (Or.inl rfl) (XE.at (Ex:=cC) F (eU CRU (hr.mono (by omega)) (bC (aZ (pv 2)) (bC (eK K (aZ (pv 3)) cO (fun _ _=>rfl)) cD)))))
    (dR (zI fun F=>PS.weak (if_ (t7 PySem.F.plainAttrs_list PySem.F.slot_list_append PySem.F.type_list_append ik_ (pv 1) (jG (XE.at (Ex:=cC) F (aZ (pv 4))) nF))) aEb)
    (dY (gQ fun F=>fS (i:=2) fC.nd rfl (Or.inl rfl) (XE.at (Ex:=cC) F (jX (aZ (pv 4)) (eK K (aZ (pv 3)) cO (fun _ _=>rfl)))))))))
    (dY (gA (di_ (pv 1))))))),fun ds Q h => ?_⟩
  obtain ⟨rs,rfl,hl,h1,q⟩:=h
  refine ⟨dB _,?_⟩
  refine zA prT (fun rest ρ => ∃ done y3 y4,rs=done ++ rest∧ρ=[.v (.tr (.lst (rs.map prT))),.v (.ol ((eF 0 done).map Dx.int)),.v (.tr (.int (cK 0 done))),y3,y4]) (fun ρ h => ?_) (fun r rest ρ Kn h hk => ?_) ⟨[],.un,.un,rfl,rfl⟩
  · obtain ⟨done, y3, y4, e1, rfl⟩ := h
    rw [cR] at e1
    subst e1
    exact q
  · obtain ⟨done, y3, y4, e1, rfl⟩ := h
    obtain ⟨b0,b1,b2,b3⟩:=h1 r (by rw [e1]; exact aJ _ aB)
    have hlen:done.length + (rest.length + 1)=rs.length:=by rw [e1,aI,aL]
    obtain ⟨c0,c1⟩:=ck_ (e:=0) (rs:=done) (by omega) (fun z hz=>h1 z (by rw [e1]; exact bH _ hz))
    have c2:(done.length:Int) * (2 ^ 150 + 8)≤10 * (2 ^ 150 + 8):=bX (by omega) (by decide)
    refine ⟨_,_,rfl,c0,by omega,by omega,by omega,rfl,by rw [aE,cz_]; omega,hk _ ⟨done ++ [r],.v (.tr (prT r)),.v (.tr (.int (up (cK 0 done) r.2))),by rw [e1,bO]; rfl,?_⟩⟩
    rw [fg_,rR,bW]
    rfl
theorem aFp (F:Fun K "rooms_of" "rooms_of" ei_ f fd) (CRO:Cal P w K mg base j "room_of" ["kind"] (spX (gRO n))):FnOk P w K mg base CX0 (j + 1) f fd ["kinds"] (spX (gRS n)):=by
  refine jU F wO (fun ds Q h=>by obtain ⟨_,rfl,_⟩:=h; rfl) (by decide) fun cdv A outer s H E hr => ?_
  refine ⟨_,(dY (gA (wD (dsc:=aQ ei_) (N:=["kinds"]) (tgs:=["kind"]) (outs:=[]) (N':=["kind"]) (by refine ⟨rfl,?_,?_,?_,rfl,?_,?_,?_⟩ <;> decide +kernel) (rA (aZ (pv 0))) (fun _ _ _ _ _=>(gN (i:=0) (show (["kind"]:List Str).Nodup by decide +kernel) rfl (Or.inl rfl) (.inr rfl))) (kO (n:=1) (i:=0) (by decide)) (rC (by decide)) (fun _ _ _ _ _=>nG) (fun _ _ _ _ _=>(eU CRO (hr.mono (by omega)) (bC (aZ (pv 0)) cD)))))),fun ds Q h => ?_⟩
  obtain ⟨ks,rfl,hk,hd,hl,hn,q⟩:=h
  refine ⟨show (xK ks).length≤_ by rw [yQ,aE]; omega,show eW _ _ _ _ _ (xK ks) _ _ from ?_⟩
  rw [yQ]
  refine zB Kd.x (fun k=>prT k.rm) (fun k hm acc P p => ?_) ?_
  · obtain ⟨i, hi⟩ := List.mem_iff_getElem?.mp hm
    obtain ⟨ok,dk⟩:=aFr hk hi
    exact ⟨k,rfl,ok,by omega,hn,p⟩
  · rw [aY, aMd]
    exact q
theorem aOu (F:Fun K "room_of_row" "room_of_row" do_ f fd) (CRO:Cal P w K mg base j "room_of" ["kind"] (spX (gRO n))) (CSO:Cal P w K mg base 2 "step_of" ["room"] (spX gSO)) (hj:2≤j):FnOk P w K mg base CX0 (j + 1) f fd ["kind", "n"] (spX (gRR n)):=by
  refine jU F kB (fun ds Q h=>by obtain ⟨_,_,rfl,_⟩:=h; rfl) (by decide) fun cdv A outer s H E hr => ?_
  refine ⟨_,(dR (gQ fun F=>fS (i:=2) kB.nd rfl (Or.inl rfl) (XE.at (Ex:=cC) F (eU CRO (hr.mono (by omega)) (bC (aZ (pv 0)) cD))))
    (dY (gA (mV (bC (cw_ (aZ (pv 1)) (eU CSO (hr.mono (by omega)) (bC (aZ (pv 2)) cD))) (bC (eK K (aZ (pv 2)) cO (fun _ _=>rfl)) cD)))))),fun ds Q h => ?_⟩
  obtain ⟨kd,m,rfl,hk,hd,hn,m0,m1,q⟩:=h
  obtain ⟨b0,b1,b2,b3⟩:=aLp (n:=n) hk hd hn
  obtain ⟨u1,u2⟩:=jW (n:=kd.rm.1) (m:=kd.rm.2) (by omega)
  exact ⟨kd,rfl,hk,hd,hn,kd.rm,rfl,b0,by omega,by omega,by omega,⟨by omega,by omega⟩,iB,q⟩
theorem aOz (F:Fun K "room_of_record" "room_of_record" ca_ f fd) (CRS:Cal P w K mg base j "rooms_of" ["kinds"] (spX (gRS n))) (CGM:Cal P w K mg base 1 "greatest_multiple" ["rooms"] (spX gGM)) (CPB:Cal P w K mg base 2 "places_behind" ["rooms"] (spX gPB)) (CRU:Cal P w K mg base 1 "rounded_up" ["number", "m"] (spX gRU)) (m_max:mg "max" = none) (m_zip:mg "zip" = none) (hj:2≤j) :
    FnOk P w K mg base CX0 (j + 1) f fd ["kinds"] (spX (gRL kE n)):=by
  refine jU F gE (fun ds Q h=>by obtain ⟨_,rfl,_⟩:=h; rfl) (by decide) fun cdv A outer s H E hr => ?_
  refine ⟨_,(dR (gQ fun F=>fS (i:=1) gE.nd rfl (Or.inl rfl) (XE.at (Ex:=cC) F (eU CRS (hr.mono (by omega)) (bC (aZ (pv 0)) cD))))
    (dR (gQ fun F=>fS (i:=2) gE.nd rfl (Or.inl rfl) (XE.at (Ex:=cC) F (eU CGM (hr.mono (by omega)) (bC (aZ (pv 1)) cD))))
    (dR (zI fun F=>PS.weak (fv_ (i:=3) gE.nd rfl rfl (dsc:=aQ ca_) (N:=["kinds", "rooms", "multiple", "ends"]) (tgs:=["place", "room"]) (outs:=[]) (N':=["place", "room"]) (by refine ⟨rfl,?_,?_,?_,rfl,?_,?_,?_⟩ <;> decide +kernel) (XIt.at (Ex:=cC) F (tG m_zip (bC (eU CPB (hr.mono (by omega)) (bC (aZ (pv 1)) cD)) (bC (aZ (pv 1)) cD)))) (fun _ _ _ _ _=>(ih_ K (n:=2) rfl rfl (jT (gN (i:=0) (show (["place", "room"]:List Str).Nodup by decide +kernel) rfl (Or.inl rfl) (.inr rfl)) (jT (gN (i:=1) (show (["place", "room"]:List Str).Nodup by decide +kernel) rfl (Or.inl rfl) (.inr rfl)) vW)))) (hx_ (zL (by decide) (zL (by decide) ed_ zM) (cp_ zM))) (fun a b c d e=>XCs.at (Ex:=cC) F nG) (fun a b c d e=>XE.at (Ex:=cC) F (jX (aZ (pv 0)) (eK K (aZ (pv 1)) cO (fun _ _=>rfl))))) (hz_ (ey_ (n:=2) (is:=[0,1]) rfl (by decide)) (by decide)))
    (dY (gA (mV (bC (eU CRU (hr.mono (by omega)) (bC (tI (by rfl) (by rfl) m_max (bC (aZ (pv 3)) cD) (uK jE c7)) (bC (aZ (pv 2)) cD))) (bC (aZ (pv 2)) cD)))))))),fun ds Q h => ?_⟩
  obtain ⟨ks,rfl,hk,hd,hl,hn,q⟩:=h
  have hb:=aAn hk hd hn
  refine ⟨ks,rfl,hk,hd,hl,hn,?_⟩
  generalize hrs:rmK ks=rs at hb q
  have hlr:rs.length≤10:=by rw [← hrs,aKe]; exact hl
  obtain ⟨c0,c1⟩:=ck_ (e:=0) (by omega) hb
  have c2:(rs.length:Int) * (2 ^ 150 + 8)≤10 * (2 ^ 150 + 8):=bX (by omega) (by decide)
  obtain ⟨x0,x1⟩:=lB hb
  refine ⟨rs,rfl,hlr,fun r hr=>(hb r hr).2.2.1,?_⟩
  refine ⟨rs,rfl,hlr,hb,?_⟩
  have hzl:(iC ((eF 0 rs).map Dx.int) (rs.map prT)).length≤1000000:=by rw [eb_,aE,cQ]; omega
  refine ⟨hzl,show eW _ _ _ _ _ (iC ((eF 0 rs).map Dx.int) (rs.map prT)) _ _ from ?_⟩
  rw [eb_]
  refine zB _ (fun p:Int×(Int×Int)=>Dx.int (p.1 + p.2.1)) (fun p hp acc P pp=>pp) ?_
  rw [aY]
  have ez:(((eF 0 rs).zip rs).map fun p=>Dx.int (p.1 + p.2.1))=(ends 0 rs).map Dx.int:=by rw [yK,cX]; rfl
  rw [ez]
  refine ⟨ends 0 rs,rfl,fun en => ?_,fun M hM hle => ?_⟩
  · have : rs = [] := by
      cases rs with
      | nil=>rfl
      | cons r t=>cases en
    subst this
    exact ⟨_,_,rfl,by decide,by decide,by decide,by decide,iB,q⟩
  · have hne : rs ≠ [] := fun z => by rw [z] at hM; cases hM
    obtain ⟨t1,t2⟩:=yL (e:=0) (fun r hr=>⟨(hb r hr).1,by have:=(hb r hr).2.2.1; omega⟩) hne
    have:M=cK 0 rs:=Int.le_antisymm (t2 M hM) (hle _ t1)
    subst this
    exact ⟨_,_,rfl,c0,by omega,by omega,by omega,iB,q⟩
theorem aOw (F:Fun K "room_of_choice" "room_of_choice" cb_ f fd) (CRS:Cal P w K mg base j "rooms_of" ["kinds"] (spX (gRS n))) (CGM:Cal P w K mg base 1 "greatest_multiple" ["rooms"] (spX gGM)) (CCA:Cal P w K mg base 2 "chosen_at" ["multiple"] (spX gCA)) (CRU:Cal P w K mg base 1 "rounded_up" ["number", "m"] (spX gRU)) (m_max:mg "max" = none) (hj:2≤j) :
    FnOk P w K mg base CX0 (j + 1) f fd ["kinds"] (spX (gRL hZ n)):=by
  refine jU F gF (fun ds Q h=>by obtain ⟨_,rfl,_⟩:=h; rfl) (by decide) fun cdv A outer s H E hr => ?_
  refine ⟨_,(dR (gQ fun F=>fS (i:=1) gF.nd rfl (Or.inl rfl) (XE.at (Ex:=cC) F (eU CRS (hr.mono (by omega)) (bC (aZ (pv 0)) cD))))
    (dR (gQ fun F=>fS (i:=2) gF.nd rfl (Or.inl rfl) (XE.at (Ex:=cC) F (eU CGM (hr.mono (by omega)) (bC (aZ (pv 1)) cD))))
    (dR (gQ fun F=>fS (i:=3) gF.nd rfl (Or.inl rfl) (XE.at (Ex:=cC) F (tI (by rfl) (by rfl) m_max (bC (wD (dsc:=aQ cb_) (N:=["kinds", "rooms", "multiple", "greatest"]) (tgs:=["room"]) (outs:=[]) (N':=["room"]) (by refine ⟨rfl,?_,?_,?_,rfl,?_,?_,?_⟩ <;> decide +kernel) (rA (aZ (pv 1))) (fun _ _ _ _ _=>(gN (i:=0) (show (["room"]:List Str).Nodup by decide +kernel) rfl (Or.inl rfl) (.inr rfl))) (kO (n:=1) (i:=0) (by decide)) (rC (by decide)) (fun _ _ _ _ _=>nG) (fun _ _ _ _ _=>(eK K (aZ (pv 0)) cO (fun _ _=>rfl)))) cD) (uK jE c7))))
    (dY (gA (mV (bC (eU CRU (hr.mono (by omega)) (bC (jX (eU CCA (hr.mono (by omega)) (bC (aZ (pv 2)) cD)) (aZ (pv 3))) (bC (aZ (pv 2)) cD))) (bC (aZ (pv 2)) cD)))))))),fun ds Q h => ?_⟩
  obtain ⟨ks,rfl,hk,hd,hl,hn,q⟩:=h
  have hb:=aAn hk hd hn
  refine ⟨ks,rfl,hk,hd,hl,hn,?_⟩
  generalize hrs:rmK ks=rs at hb q
  have hlr:rs.length≤10:=by rw [← hrs,aKe]; exact hl
  obtain ⟨x0,x1⟩:=lB hb
  obtain ⟨u1,u2⟩:=jW (n:=1) (m:=maxL 1 (rs.map (·.2))) (by omega)
  have y0:0≤maxL 0 (rs.map (·.1)):=hf_ _
  have y1:maxL 0 (rs.map (·.1))≤2 ^ 150:=gz_ (by decide) fun z hz=>by obtain ⟨r,hr,rfl⟩:=cN.mp hz; exact (hb r hr).2.1
  refine ⟨rs,rfl,hlr,fun r hr=>(hb r hr).2.2.1,?_⟩
  refine ⟨show (rs.map prT).length≤_ by rw [aE]; omega,show eW _ _ _ _ _ (rs.map prT) _ _ from ?_⟩
  refine zB prT (fun r=>.int r.1) (fun r hr acc P p=>p) ?_
  refine ⟨rs.map (·.1),by rw [cX]; rfl,fun en => ?_,fun M hM hle => ?_⟩
  · have : rs = [] := List.map_eq_nil_iff.mp en
    subst this
    exact ⟨_,rfl,by decide,by decide,_,_,rfl,by decide,by decide,by decide,by decide,iB,q⟩
  · obtain ⟨r, hr', rfl⟩ := cN.mp hM
    have e:r.1=maxL 0 (rs.map (·.1)):=(uZ (d:=0) hM (hb r hr').1 hle)
    rw [e]
    exact ⟨_,rfl,by omega,by omega,_,_,rfl,by omega,by omega,by omega,by omega,iB,q⟩
theorem aOv (F:Fun K "room_of" "room_of" fd_ f fd) (CRR:Cal P w K mg base j "room_of_row" ["kind", "n"] (spX (gRR n))) (CRC:Cal P w K mg base j "room_of_record" ["kinds"] (spX (gRL kE n))) (CRH:Cal P w K mg base j "room_of_choice" ["kinds"] (spX (gRL hZ n))) :
    FnOk P w K mg base CX0 (j + 1) f fd ["kind"] (spX (gRO (n + 1))):=by
  refine jU F b8 (fun ds Q h=>by obtain ⟨_,rfl,_⟩:=h; rfl) (by decide) fun cdv A outer s H E hr => ?_
  have hu0:=bN (oD hr)
  refine ⟨_,(dR (iP (jS (mJ K hu0) mI (eK K (aZ (pv 0)) cO (fun _ _=>rfl)) kM (cH _)) (dY (gA (mV (bC (eK K (aZ (pv 0)) cO (fun _ _=>rfl)) (bC (eK K (aZ (pv 0)) cO (fun _ _=>rfl)) cD))))) jF)
    (dR (iP (jS (mJ K hu0) mI (eK K (aZ (pv 0)) cO (fun _ _=>rfl)) kM (cH _)) (dY (gA (eU CRR (hr.mono (by omega)) (bC (eK K (aZ (pv 0)) cO (fun _ _=>rfl)) (bC (eK K (aZ (pv 0)) cO (fun _ _=>rfl)) cD))))) jF)
    (dR (iP (jS (mJ K hu0) mI (eK K (aZ (pv 0)) cO (fun _ _=>rfl)) kM (cH _)) (dY (gA (eU CRC (hr.mono (by omega)) (bC (wD (dsc:=aQ fd_) (N:=["kind"]) (tgs:=["field"]) (outs:=[]) (N':=["field"]) (by refine ⟨rfl,?_,?_,?_,rfl,?_,?_,?_⟩ <;> decide +kernel) (rA (eK K (aZ (pv 0)) cO (fun _ _=>rfl))) (fun _ _ _ _ _=>(gN (i:=0) (show (["field"]:List Str).Nodup by decide +kernel) rfl (Or.inl rfl) (.inr rfl))) (kO (n:=1) (i:=0) (by decide)) (rC (by decide)) (fun _ _ _ _ _=>nG) (fun _ _ _ _ _=>(eK K (aZ (pv 0)) cO (fun _ _=>rfl)))) cD)))) jF)
    (dY (gA (eU CRH (hr.mono (by omega)) (bC (eK K (aZ (pv 0)) cO (fun _ _=>rfl)) cD))))))),fun ds Q h => ?_⟩
  obtain ⟨kd,rfl,hk,hd,hn,q⟩:=h
  cases kd with
  | num wd m=>exact ⟨iB,q⟩
  | row k m =>
    have hd':k.deep + 1≤n + 1:=hd
    exact ⟨k,m,rfl,hk.1,by omega,by omega,hk.2.1,hk.2.2,q⟩
  | rcd fs =>
    have hd':eV fs + 1≤n + 1:=hd
    have hl:=hk.2
    refine ⟨show (xF fs).length≤_ by rw [y_,aE]; omega,show eW _ _ _ _ _ (xF fs) _ _ from ?_⟩
    rw [y_]
    refine zB _ (fun f:Str×Kd=>f.2.x) (fun f hm acc P p=>p) ?_
    refine ⟨fs.map (·.2),by rw [aY,yQ,cX]; rfl,uT hk.1,by rw [ix_]; omega,by rw [aE]; exact hl,by omega,?_⟩
    rw [uC]
    exact q
  | cho ks =>
    have hd':eY ks + 1≤n + 1:=hd
    exact ⟨ks,rfl,hk.1,by omega,hk.2,by omega,q⟩
theorem aPa (F:Fun K "places_in_order" "places_in_order" aw_ f fd) (CPB:Cal P w K mg base 2 "places_behind" ["rooms"] (spX gPB)) (CRS:Cal P w K mg base j "rooms_of" ["kinds"] (spX (gRS n))) (m_zip:mg "zip" = none) (hj:2≤j) :
    FnOk P w K mg base CX0 (j + 1) f fd ["fields"] (spX (gPO n)):=by
  refine jU F iN (fun ds Q h=>by obtain ⟨_,rfl,_⟩:=h; rfl) (by decide) fun cdv A outer s H E hr => ?_
  refine ⟨_,(dR (gQ fun F=>fS (i:=1) iN.nd rfl (Or.inl rfl) (XE.at (Ex:=cC) F (eU CPB (hr.mono (by omega)) (bC (eU CRS (hr.mono (by omega)) (bC (wD (dsc:=aQ aw_) (N:=["fields", "places"]) (tgs:=["field"]) (outs:=[]) (N':=["field"]) (by refine ⟨rfl,?_,?_,?_,rfl,?_,?_,?_⟩ <;> decide +kernel) (rA (aZ (pv 0))) (fun _ _ _ _ _=>(gN (i:=0) (show (["field"]:List Str).Nodup by decide +kernel) rfl (Or.inl rfl) (.inr rfl))) (kO (n:=1) (i:=0) (by decide)) (rC (by decide)) (fun _ _ _ _ _=>nG) (fun _ _ _ _ _=>(eK K (aZ (pv 0)) cO (fun _ _=>rfl)))) cD)) cD))))
    (dY (gA (wD (dsc:=aQ aw_) (N:=["fields", "places"]) (tgs:=["field", "place"]) (outs:=[]) (N':=["field", "place"]) (by refine ⟨rfl,?_,?_,?_,rfl,?_,?_,?_⟩ <;> decide +kernel) (tG m_zip (bC (aZ (pv 0)) (bC (aZ (pv 1)) cD))) (fun _ _ _ _ _=>(ih_ K (n:=2) rfl rfl (jT (gN (i:=0) (show (["field", "place"]:List Str).Nodup by decide +kernel) rfl (Or.inl rfl) (.inr rfl)) (jT (gN (i:=1) (show (["field", "place"]:List Str).Nodup by decide +kernel) rfl (Or.inl rfl) (.inr rfl)) vW)))) (ey_ (n:=2) (is:=[0,1]) rfl (by decide)) (hx_ (zL (by decide) (zL (by decide) ed_ zM) (cp_ zM))) (fun _ _ _ _ _=>nG) (fun _ _ _ _ _=>(mV (bC (eK K (aZ (pv 0)) cO (fun _ _=>rfl)) (bC (aZ (pv 1)) cD)))))))),fun ds Q h => ?_⟩
  obtain ⟨fs,rfl,hk,hd,hl,hn,q⟩:=h
  have hb:=aHu hk hd hn
  have hlr:(rmF fs).length=fs.length:=xJ fs
  refine ⟨show (xF fs).length≤_ by rw [y_,aE]; omega,show eW _ _ _ _ _ (xF fs) _ _ from ?_⟩
  rw [y_]
  refine zB _ (fun f:Str×Kd=>f.2.x) (fun f hm acc P p=>p) ?_
  refine ⟨fs.map (·.2),by rw [aY,yQ,cX]; rfl,uT hk,by rw [ix_]; omega,by rw [aE]; exact hl,hn,?_⟩
  rw [uC]
  refine ⟨rmF fs,rfl,by omega,hb,?_⟩
  have hzl:(iC (fs.map fun f=>.tup [.str f.1,f.2.x]) ((eF 0 (rmF fs)).map Dx.int)).length≤1000000:=by rw [eb_,aE,cQ]; omega
  refine ⟨hzl,show eW _ _ _ _ _ (iC (fs.map fun f=>.tup [.str f.1,f.2.x]) ((eF 0 (rmF fs)).map Dx.int)) _ _ from ?_⟩
  rw [eb_]
  exact zB _ (fun p:(Str×Kd)×Int=>Dx.tup [.str p.1.1,.int p.2]) (fun p hp acc P pp=>⟨iB,pp⟩) q
theorem aEf:FnOk P w K mg base CX0 j f fd ["kind"] (spX (gRO 0)):=sK fun ds Q h=>by
  obtain ⟨kd,_,_,hd,_⟩:=h
  have:=Kd.deep_pos kd
  omega
end
def gLN:GB:=fun l ds Q => ∃ B many:Int,ds=[.int many]∧PoolX B l∧0≤many∧many≤12∧B + 1000 < 2 ^ 60∧∀ (xs:List Str) (l':List Dx),xs.length=many.toNat→xs.Nodup→(∀ x∈xs,Nm x)→PoolX (B + 200) l'→Q (.lst (xs.map Dx.str)) l'
theorem zD {G:Hp}:∀ xs:List Str,All2 (IsX G) (xs.map Dx.str) (xs.map V.str)
  | []=>rfl
  | x :: xs=>⟨_,_,rfl,IsX.of_str x,zD xs⟩
theorem zE {G:Hp}:∀ xs:List Int,All2 (IsX G) (xs.map Dx.int) (xs.map V.int)
  | []=>rfl
  | x :: xs=>⟨_,_,rfl,IsX.of_int x,zE xs⟩
theorem aIw {G H:Hp} {p:Addr} {ws:List V} {l:List Dx} {B:Int} (hp:H p=some (.lst ws)) (hl:All2 (IsX G) l ws) (h:PoolX B l):∃ md,PoolAt p md B H:=by
  obtain ⟨c,md,st,rfl,h0,h1⟩:=h
  obtain ⟨_,_,rfl,e1,_,_,rfl,e2,_,_,rfl,e3,rfl⟩:=hl
  cases e1.int_eq; cases e2.int_eq; cases e3.int_eq
  exact ⟨md,c,st,hp,h0,h1⟩
theorem aIv {G H:Hp} {p:Addr} {md B:Int} (h:PoolAt p md B H):∃ l ws,H p=some (.lst ws)∧All2 (IsX G) l ws∧PoolX B l:=by
  obtain ⟨c,st,hp,h0,h1⟩:=h
  exact ⟨_,_,hp,zE [c,md,st],c,md,st,rfl,h0,h1⟩
theorem aJy {P:Program} {w:World} {K:dH} {mg:gO} {base:Heap} {f:Addr} {fd:FuncData} {j:Nat} (h:FnOk P w K mg base CX0 j f fd ["pool", "many"] aSx):FnOk P w K mg base CX0 j f fd ["pool", "many"] (spB gLN):=h.imp fun vs H Q E=>by
  rintro ⟨p,ws,l,vr,Hs,ds,Qx,rfl,hp,h1,hsp,hl,h2,⟨B,many,rfl,hP,m0,m1,hB,q⟩,k⟩
  obtain ⟨v,rfl,hv⟩:=i_ h2
  cases hv.int_eq
  obtain ⟨md,hA⟩:=aIw hp hl hP
  refine ⟨p,md,B,many,rfl,hA,m0,m1,hB,fun a xs H' na ha ha' hxl hnd hnm e hP' => ?_⟩
  obtain ⟨l',ws',hp',hl',hP''⟩:=aIv (G:=hid [p] (ext Hs H H')) hP'
  exact k (.lst (xs.map Dx.str)) (.ref a) l' ws' H' e hp' hl' (IsX.of_lst (vs:=xs.map V.str) (by rw [qL ha,ha']; rfl) (zD xs)) (q xs l' hxl hnd hnm hP'')
theorem dm_ {G K:XS} {ρ:En} {D:XD} (M:En→Prop) (h1:∀ ρ',M ρ'→K ρ' D) (h2:∀ D':XD,(∀ ρ',M ρ'→D'.nx ρ')→G ρ D'):fJ G K ρ D:=h2 { D with nx:=fun ρ'=>K ρ' D } h1
theorem mG {i:Nat} {t:XT} {K:XS} {ρ:En} {D:XD} (h:t ρ fun s ρ'=>K (ρ'.set i (.v s)) D):fJ (iX i t) K ρ D:=h
theorem el_ {i:Nat} {s:Sv} {ρ:En} {Q:Sv→En→Prop} (hi:ρ[i]? = some (.v s)) (h:Q (.tr s.d) (ρ.set i (.v (.tr s.d)))):eE i ρ Q:=by
  unfold eE
  rw [hi]
  exact h
theorem aIm (fs:List (Str×Kd)) (f:Str×Kd):xF (fs ++ [f])=xF fs ++ [.tup [.str f.1,f.2.x]]:=by rw [y_,y_,bW]; rfl
theorem aIl (ks:List Kd) (k:Kd):xK (ks ++ [k])=xK ks ++ [k.x]:=by rw [yQ,yQ,bW]; rfl
theorem tP {v:Dx} {a b B:Int} (h:v∈[Dx.int a,Dx.int b]) (a0:0≤a) (a1:a < B) (b0:0≤b) (b1:b < B):∃ z,v=.int z∧0≤z∧z < B:=by
  simp only [aF,aV,or_false] at h
  rcases h with rfl | rfl
  · exact ⟨_,rfl,a0,a1⟩
  · exact ⟨_,rfl,b0,b1⟩
theorem aGv {v:Dx} (h:v∈[Dx.int 1,Dx.int 2,Dx.int 4,Dx.int 8]):∃ z,v=.int z∧(z=1∨z=2∨z=4∨z=8):=by
  simp only [aF,aV,or_false] at h
  rcases h with rfl | rfl | rfl | rfl
  · exact ⟨_,rfl,by omega⟩
  · exact ⟨_,rfl,by omega⟩
  · exact ⟨_,rfl,by omega⟩
  · exact ⟨_,rfl,by omega⟩
theorem mF {l:List Dx} {r:Int} {Q:Sv→Prop} (h0:0≤r) (h1:r < l.length) (q:∀ d∈l,Q (.tr d)):ixX (.lst l) (.int r) Q:=by
  obtain ⟨v,hv,hm⟩:=aHx h0 h1
  show (match atI l r with | some d=>Q (.tr d) | none=>False)
  rw [hv]
  exact q v hm
theorem aBt {n:Nat} (h:n≤1000000):n≤1000000:=h
def gLK (n:Nat):GB:=fun l ds Q => ∃ B d mo:Int,ds=[.int d,.int mo]∧PoolX B l∧8≤mo∧1≤d∧d≤n∧n≤5∧B + tk n < 2 ^ 60 ∧
  ∀ (kd:Kd) (l':List Dx),kd.Fit→(kd.deep:Int)≤d→kd.rm.1≤mo→PoolX (B + tk n) l'→Q kd.x l'
section
variable {P:Program} {w:World} {K:dH} {mg:gO} {base:Heap} {f:Addr} {fd:FuncData} {n j jM:Nat}
theorem aPh (F:Fun K "_law_kind" "_law_kind" dr_ f fd) (CTK:Cal P w K mg base 1 "_law_take" ["pool", "many"] (spB gTK)) (CLN:Cal P w K mg base 2 "_law_names" ["pool", "many"] (spB gLN)) (CLM:Cal P w K mg base jM "_law_room" ["kind"] (spX (gLM 5))) (hjM:jM≤j) (hj2:2≤j)
    (CLK:Cal P w K mg base j "_law_kind" ["pool", "deep", "most"] (spB (gLK n))) (m_range:mg "range" = none) (m_int:mg "int" = none):FnOk P w K mg base CX0 (j + 1) f fd ["pool", "deep", "most"] (spB (gLK (n + 1))):=by
  refine aGy F eX (fun l ds Q h=>by obtain ⟨B,d,mo,rfl,_⟩:=h; rfl) (by decide) fun cdv A outer s H E hr => ?_
  have hu0:=bN (oD hr)
  refine ⟨_,(dR (gQ fun F=>fS (i:=3) eX.nd rfl (Or.inl rfl) (XE.at (Ex:=cC) F (jY (i:=0) CTK (hr.mono (by omega)) (pv 0) (bC cO cD))))
    (dR (gQ fun F=>fS (i:=4) eX.nd rfl (Or.inl rfl) (XE.at (Ex:=cC) F (mV (bC kM (bC (jX cO (jY (i:=0) CTK (hr.mono (by omega)) (pv 0) (bC cO cD))) (bC (eK K (qG (bC cO (bC cO (bC cO (bC cO cD))))) (jY (i:=0) CTK (hr.mono (by omega)) (pv 0) (bC cO cD)) (fun _ _=>rfl)) cD))))))
    (dR (iP (XW.pt (ht_ (jS (mJ K hu0) mI (aZ (pv 1)) cO (cH _)) (fa_ (jS rV rT (aZ (pv 3)) cO (cH _))))) (dY (gA (di_ (pv 4)))) jF)
    (dR (gQ fun F=>fS (i:=5) eX.nd rfl (Or.inl rfl) (XE.at (Ex:=cC) F (aZ (pv 4))))
    (dR (iP (jS rV rT (aZ (pv 3)) cO (cH _)) (dR (gQ fun F=>fS (i:=6) eX.nd rfl (Or.inl rfl) (XE.at (Ex:=cC) F (jX cO (eK K (qG (bC (jY (i:=0) CTK (hr.mono (by omega)) (pv 0) (bC cO cD)) (bC (jY (i:=0) CTK (hr.mono (by omega)) (pv 0) (bC cO cD)) cD))) (jY (i:=0) CTK (hr.mono (by omega)) (pv 0) (bC cO cD)) (fun _ _=>rfl)))))
    (dY (gQ fun F=>fS (i:=5) eX.nd rfl (Or.inl rfl) (XE.at (Ex:=cC) F (mV (bC kM (bC (jY (i:=0) CLK (hr.mono (by omega)) (pv 0) (bC (hd_ (aZ (pv 1)) cO) (bC (aZ (pv 2)) cD))) (bC (aZ (pv 6)) cD)))))))) (dY (iP (jS rV rT (aZ (pv 3)) cO (cH _)) (dR (gQ fun F=>fS (i:=6) eX.nd rfl (Or.inl rfl) (XE.at (Ex:=cC) F (jX cO (eK K (qG (bC (jY (i:=0) CTK (hr.mono (by omega)) (pv 0) (bC cO cD)) (bC (jY (i:=0) CTK (hr.mono (by omega)) (pv 0) (bC cO cD)) cD))) (aAx aCr aQv (by rfl) m_int k8 (bC (ew_ (mJ K hu0) mI (jY (i:=0) CTK (hr.mono (by omega)) (pv 0) (bC cO cD)) cO (cH _)) cD)) (fun _ _=>rfl)))))
    (dY (gQ fun F=>fS (i:=5) eX.nd rfl (Or.inl rfl) (XE.at (Ex:=cC) F (mV (bC kM (bC (wD (dsc:=aQ dr_) (N:=["pool", "deep", "most", "way", "kind", "found", "many"]) (tgs:=["name"]) (outs:=[0,1,2]) (N':=["name", "pool", "deep", "most"]) (by refine ⟨rfl,?_,?_,?_,rfl,?_,?_,?_⟩ <;> decide +kernel) (rA (jY (i:=0) CLN (hr.mono (by omega)) (pv 0) (bC (aZ (pv 6)) cD))) (fun _ _ _ _ _=>(gN (i:=0) (show (["name", "pool", "deep", "most"]:List Str).Nodup by decide +kernel) rfl (Or.inl rfl) (.inr rfl))) (kO (n:=1) (i:=0) (by decide)) (rC (by decide)) (fun _ _ _ _ _=>nG) (fun _ _ _ _ _=>(mV (bC (aZ (pv 0)) (bC (jY (i:=1) CLK (hr.mono (by omega)) (pv 1) (bC (hd_ (aZ (pv 2)) cO) (bC (aZ (pv 3)) cD))) cD))))) cD))))))) (dR (gQ fun F=>fS (i:=6) eX.nd rfl (Or.inl rfl) (XE.at (Ex:=cC) F (jX cO (eK K (qG (bC (jY (i:=0) CTK (hr.mono (by omega)) (pv 0) (bC cO cD)) (bC (jY (i:=0) CTK (hr.mono (by omega)) (pv 0) (bC cO cD)) cD))) (jY (i:=0) CTK (hr.mono (by omega)) (pv 0) (bC cO cD)) (fun _ _=>rfl)))))
    (dY (gQ fun F=>fS (i:=5) eX.nd rfl (Or.inl rfl) (XE.at (Ex:=cC) F (mV (bC kM (bC (wD (dsc:=aQ dr_) (N:=["pool", "deep", "most", "way", "kind", "found", "many"]) (tgs:=["k"]) (outs:=[0,1,2]) (N':=["k", "pool", "deep", "most"]) (by refine ⟨rfl,?_,?_,?_,rfl,?_,?_,?_⟩ <;> decide +kernel) (cm_ m_range (bC (aZ (pv 6)) cD)) (fun _ _ _ _ _=>(gN (i:=0) (show (["k", "pool", "deep", "most"]:List Str).Nodup by decide +kernel) rfl (Or.inl rfl) (.inr rfl))) (kO (n:=1) (i:=0) (by decide)) (rC (by decide)) (fun _ _ _ _ _=>nG) (fun _ _ _ _ _=>(jY (i:=1) CLK (hr.mono (by omega)) (pv 1) (bC (hd_ (aZ (pv 2)) cO) (bC (aZ (pv 3)) cD))))) cD))))))))))
    (dR (iP (jS aTh aTf (eK K (eU CLM (hr.mono (by omega)) (bC (aZ (pv 5)) cD)) cO (fun _ _=>rfl)) (aZ (pv 2)) (cH _)) (dY (gA (di_ (pv 4)))) jF)
    (dY (gA (di_ (pv 5)))))))))),fun l ds Q h => ?_⟩
  obtain ⟨B,d,mo,rfl,hp,hmo,hd1,hdn,hn5,hB,q⟩:=h
  have hT0:=rK n
  have eT:tk (n + 1)=3000 + 12 * tk n:=rfl
  rw [eT] at hB q
  refine ⟨rfl,B,7,rfl,hp,by omega,by decide,by decide,fun way l1 w0 w1 hP1 => ?_⟩
  refine ⟨rfl,_,8,rfl,hP1,by omega,by decide,by decide,fun r2 l2 r20 r21 hP2 => ?_⟩
  refine ⟨aBt (by decide),rfl,_,4,rfl,hP2,by omega,by decide,by decide,fun r3 l3 r30 r31 hP3 => ?_⟩
  refine mF r30 r31 fun v hv => ?_
  obtain ⟨m,rfl,hm⟩:=aGv hv
  refine ⟨aBt (by show 3≤1000000; decide),?_⟩
  dsimp only
  change fJ _ _ [.bw l3,.v (.tr (.int d)),.v (.tr (.int mo)),.v (.tr (.int way)),.v (.tr (Kd.num (1 + r2) m).x),.un,.un] _
  have fN:(Kd.num (1 + r2) m).Fit:=⟨by omega,by omega,hm⟩
  have rN:(Kd.num (1 + r2) m).rm.1≤mo:=by show 1 + r2≤mo; omega
  have dN:((Kd.num (1 + r2) m).deep:Int)≤d:=by show ((1:Nat):Int)≤d; omega
  have done:∀ {l':List Dx},PoolX (B + (3000 + 12 * tk n)) l'→Q (Kd.num (1 + r2) m).x l':=fun {l'} hP=>q _ _ fN dN rN hP
  have hP4:PoolX (B + 3) l3:=hP3.mono (by omega)
  clear hP3 hP2 hP1 hv
  generalize Kd.num (1 + r2) m=kN at *
  refine mY (fun c=>done (hP4.mono (by omega))) (fun c => ?_)
  have c':¬ d=1:=fun z=>c (by rw [z]; exact decide_eq_true rfl)
  refine mY (fun c=>done (hP4.mono (by omega))) (fun c2 => ?_)
  unfold fY
  dsimp only
  refine mG (el_ rfl ?_)
  change fJ _ _ [.bw l3,.v (.tr (.int d)),.v (.tr (.int mo)),.v (.tr (.int way)),.v (.tr kN.x),.v (.tr kN.x),.un] _
  refine dm_ (fun ρ => ∃ (kd:Kd) (o:Sl) (l':List Dx),ρ=[.bw l',.v (.tr (.int d)),.v (.tr (.int mo)),.v (.tr (.int way)),.v (.tr kN.x),.v (.tr kd.x),o]∧kd.Fit∧(kd.deep:Int)≤d∧PoolX (B + (3000 + 12 * tk n)) l') ?_ (fun D' hD => ?_)
  · rintro ρ' ⟨kd, o, l', rfl, hF, hdp, hP5⟩
    refine ⟨kd,rfl,hF.ok,hF.full,by omega,by decide,?_⟩
    refine mY (fun c3=>done hP5) (fun c3 => ?_)
    have:¬ kd.rm.1 > mo:=fun z=>c3 (decide_eq_true z)
    exact q kd l' hF hdp (by omega) hP5
  · have hdd : d - 1 = ((d - 1).toNat : Int) := by omega
    have T8:∀ i:Nat,i≤8→(i:Int) * tk n≤8 * tk n:=fun i hi=>bX (by omega) hT0
    have Tn:∀ i:Nat,0≤(i:Int) * tk n:=fun i=>iW (by omega) hT0
    have Ts:∀ i:Nat,((i + 1:Nat):Int) * tk n=(i:Int) * tk n + tk n:=fun i=>by push_cast; rw [Int.add_mul,Int.one_mul]
    refine mY (fun c3 => ?_) (fun c3=>mY (fun c4 => ?_) (fun c4 => ?_))
    · -- a row
      refine ⟨rfl,_,3,rfl,hP4,by omega,by decide,by decide,fun a la a0 a1 hPa => ?_⟩
      refine ⟨rfl,_,20,rfl,hPa,by omega,by decide,by decide,fun b lb b0 b1 hPb => ?_⟩
      refine ⟨iB,rfl,_,2,rfl,hPb,by omega,by decide,by decide,fun r lr r0 r1 hPr=>mF r0 r1 fun v hvm => ?_⟩
      obtain ⟨z,rfl,z0,z1⟩:=tP (B:=20) hvm a0 (by omega) b0 b1
      refine ⟨rfl,_,d - 1,mo,rfl,hPr,hmo,by omega,by omega,by omega,by omega,fun kd l5 hF hdp hrm hP5 => ?_⟩
      refine ⟨aBt (by show 3≤1000000; decide),hD _ ⟨.row kd (1 + z),.v (.tr (.int (1 + z))),l5,rfl,⟨hF,by omega,by omega⟩,?_,hP5.mono (by omega)⟩⟩
      show ((kd.deep + 1:Nat):Int)≤d
      omega
    · -- a record
      refine ⟨rfl,_,4,rfl,hP4,by omega,by decide,by decide,fun a la a0 a1 hPa => ?_⟩
      refine ⟨rfl,_,8,rfl,hPa,by omega,by decide,by decide,fun b lb b0 b1 hPb => ?_⟩
      refine ⟨iB,rfl,_,4,rfl,hPb,by omega,by decide,by decide,fun r lr r0 r1 hPr => ?_⟩
      simp only [xC,eqX,eqS,fA,Sv.d,aP,bM,aQe]
      refine mF (by split <;> decide) (by show _ < (2:Int); split <;> decide) fun v hvm => ?_
      obtain ⟨z,rfl,z0,z1⟩:=tP (B:=8) hvm a0 (by omega) b0 b1
      refine ⟨rfl,_,1 + z,rfl,hPr,by omega,by omega,by omega,fun xs l5 hxl hnd hnm hP5 => ?_⟩
      have hx8:xs.length≤8:=by omega
      refine ⟨by rw [aE]; omega,?_⟩
      refine co_ Dx.str (fun rest acc cs => ∃ (fs:List (Str×Kd)) (l':List Dx),xs=fs.map (·.1) ++ rest∧acc=xF fs∧cs=[.bw l',.v (.tr (.int d)),.v (.tr (.int mo))]∧mH fs∧eV fs≤(d - 1).toNat∧PoolX (B + 300 + (fs.length:Int) * tk n) l') (fun acc cs h => ?_) (fun nm rest acc cs Pn h hk => ?_) ⟨[],l5,rfl,rfl,rfl,trivial,dB _,hP5.mono (by simp; omega)⟩
      · obtain ⟨fs, l', e1, rfl, rfl, hF, hdp, hP6⟩ := h
        rw [cR] at e1
        have hfl:fs.length=xs.length:=by rw [e1,aE]
        have t8:=T8 fs.length (by omega)
        refine ⟨iB,hD _ ⟨.rcd fs,.v (.tr (.int (1 + z))),l',rfl,⟨hF,by omega,by omega,by rw [← e1]; exact hnd⟩,?_,hP6.mono (by omega)⟩⟩
        show ((eV fs + 1:Nat):Int)≤d
        omega
      · obtain ⟨fs, l', e1, rfl, rfl, hF, hdp, hP6⟩ := h
        have hfl:fs.length + (rest.length + 1)=xs.length:=by rw [e1,aI,aE,aL]
        have t8:=T8 fs.length (by omega)
        have ts:=Ts fs.length
        have hnm':nm∈xs:=by rw [e1]; exact aJ _ aB
        refine ⟨rfl,_,d - 1,mo,rfl,hP6,hmo,by omega,by omega,by omega,by omega,fun kd l6 hF6 hdp6 hrm hP7=>⟨iB,hk _ _ ⟨fs ++ [(nm,kd)],l6,?_,?_,rfl,sN hF (hnm nm hnm') hF6,qD hdp (by show kd.deep≤_; omega),hP7.mono (by rw [aI]; show _≤B + 300 + ((fs.length + 1:Nat):Int) * tk n; omega)⟩⟩⟩
        · rw [e1,bW,bO]; rfl
        · rw [aIm]; rfl
    · -- a choice
      refine ⟨rfl,_,3,rfl,hP4,by omega,by decide,by decide,fun a la a0 a1 hPa => ?_⟩
      refine ⟨rfl,_,6,rfl,hPa,by omega,by decide,by decide,fun b lb b0 b1 hPb => ?_⟩
      refine ⟨iB,rfl,_,2,rfl,hPb,by omega,by decide,by decide,fun r lr r0 r1 hPr=>mF r0 r1 fun v hvm => ?_⟩
      obtain ⟨z,rfl,z0,z1⟩:=tP (B:=6) hvm a0 (by omega) b0 b1
      refine ⟨⟨by omega,by omega⟩,by show ((List.range _).map _).length≤_; rw [aE,cB]; omega,?_⟩
      refine co_ (fun k:Nat=>Dx.int (0 + (k:Int))) (fun rest acc cs => ∃ (ks:List Kd) (l':List Dx),ks.length + rest.length=(1 + z).toNat∧acc=xK ks∧cs=[.bw l',.v (.tr (.int d)),.v (.tr (.int mo))]∧mZ ks∧eY ks≤(d - 1).toNat∧PoolX (B + 300 + (ks.length:Int) * tk n) l') (fun acc cs h => ?_) (fun nm rest acc cs Pn h hk => ?_) ⟨[],lr,by rw [cB]; simp,rfl,rfl,trivial,dB _,hPr.mono (by simp; omega)⟩
      · obtain ⟨ks, l', e1, rfl, rfl, hF, hdp, hP6⟩ := h
        rw [bG] at e1
        have t8:=T8 ks.length (by omega)
        refine ⟨iB,hD _ ⟨.cho ks,.v (.tr (.int (1 + z))),l',rfl,⟨hF,by omega,by omega⟩,?_,hP6.mono (by omega)⟩⟩
        show ((eY ks + 1:Nat):Int)≤d
        omega
      · obtain ⟨ks, l', e1, rfl, rfl, hF, hdp, hP6⟩ := h
        rw [aL] at e1
        have t8:=T8 ks.length (by omega)
        have ts:=Ts ks.length
        refine ⟨rfl,_,d - 1,mo,rfl,hP6,hmo,by omega,by omega,by omega,by omega,fun kd l6 hF6 hdp6 hrm hP7=>hk _ _ ⟨ks ++ [kd],l6,by rw [aI,hW]; omega,?_,rfl,sL hF hF6,qC hdp (by show kd.deep≤_; omega),hP7.mono (by rw [aI]; show _≤B + 300 + ((ks.length + 1:Nat):Int) * tk n; omega)⟩⟩
        rw [aIl]; rfl
end
mutual
def Kd.vx:Kd→Vd→Dx
  | .num _ _,.num n=>.int n
  | .row k _,.row vs=>.lst (vs.map k.vx)
  | .rcd fs,.rcd vs=>.dic (vxF fs vs)
  | .cho ks,.cho j v=>.tup [.int (j:Int),vxK ks j v]
  | _,_=>.non
def vxF:List (Str×Kd)→List Vd→List (Key×Dx)
  | f :: r,v :: vs=>(Sum.inr f.1,f.2.vx v) :: vxF r vs
  | _,_=>[]
def vxK:List Kd→Nat→Vd→Dx
  | [],_,_=>.non
  | k :: _,0,v=>k.vx v
  | _ :: r,j + 1,v=>vxK r j v
end
theorem oR:∀ {fs:List (Str×Kd)} {vs:List Vd} {f:Str×Kd} {v:Vd},vs.length=fs.length→vxF (fs ++ [f]) (vs ++ [v])=vxF fs vs ++ [(Sum.inr f.1,f.2.vx v)]
  | [],[],f,v,_=>by simp [vxF]
  | [],_ :: _,_,_,h=>by simp at h
  | _ :: _,[],_,_,h=>by simp at h
  | g :: r,u :: vs,f,v,h=>by simp only [bK,vxF]; rw [oR (by simpa using h)]
theorem fl_:∀ {fs:List (Str×Kd)} {vs:List Vd},vs.length=fs.length→(vxF fs vs).map (·.1)=fs.map fun f=>(Sum.inr f.1:Key)
  | [],[],_=>by simp [vxF]
  | [],_ :: _,h=>by simp at h
  | _ :: _,[],h=>by simp at h
  | g :: r,u :: vs,h=>by simp only [vxF,aP]; rw [fl_ (by simpa using h)]
theorem hw_ {v:Vd}:∀ {ks:List Kd} {j:Nat} {k:Kd},ks[j]? = some k→vxK ks j v=k.vx v
  | [],_,_,e=>by simp at e
  | k' :: r,0,k,e=>by simp at e; subst e; simp only [vxK]
  | k' :: r,j + 1,k,e=>by simp only [vxK]; exact hw_ (j:=j) (by simpa using e)
theorem dt_:∀ {fs:List (Str×Kd)} {vs:List Vd},fB fs vs→vs.length=fs.length
  | [],[],_=>rfl
  | [],_ :: _,h=>by simp [fB] at h
  | _ :: _,[],h=>by simp [fB] at h
  | f :: r,v :: vs,h=>by simp only [fB] at h; simp [dt_ h.2]
theorem rH:∀ {fs:List (Str×Kd)} {vs:List Vd} {f:Str×Kd} {v:Vd},fB fs vs→f.2.Val v→fB (fs ++ [f]) (vs ++ [v])
  | [],[],f,v,_,h=>by simp only [aY,fB]; exact ⟨h,trivial⟩
  | [],_ :: _,_,_,h,_=>by simp [fB] at h
  | _ :: _,[],_,_,h,_=>by simp [fB] at h
  | g :: r,u :: vs,f,v,h,h'=>by simp only [bK,fB] at h ⊢; exact ⟨h.1,rH h.2 h'⟩
theorem tM:∀ {ks:List Kd} {j:Nat} {k:Kd} {v:Vd},ks[j]? = some k→k.Val v→jH ks j v
  | [],_,_,_,e,_=>by simp at e
  | k' :: r,0,k,v,e,h=>by simp at e; subst e; simp only [jH]; exact h
  | k' :: r,j + 1,k,v,e,h=>by simp only [jH]; exact tM (j:=j) (by simpa using e) h
theorem mQ:∀ {fs:List (Str×Kd)} {f:Str×Kd},mH fs→f∈fs→f.2.Fit∧f.2.deep≤eV fs
  | g :: r, f, h, hm => by
    rcases aF.mp hm with rfl | hm
    · exact ⟨h.1.2,dQ _ _⟩
    · exact ⟨(mQ h.2 hm).1,bP (mQ h.2 hm).2 (dJ _ _)⟩
theorem kQ:∀ {ks:List Kd} {k:Kd},mZ ks→k∈ks→k.Fit∧k.deep≤eY ks
  | g :: r, f, h, hm => by
    rcases aF.mp hm with rfl | hm
    · exact ⟨h.1,dQ _ _⟩
    · exact ⟨(kQ h.2 hm).1,bP (kQ h.2 hm).2 (dJ _ _)⟩
theorem oY {i:Nat} (h:i≤8):(256:Int) ^ i≤256 ^ 8:=by
  have:=Nat.pow_le_pow_right (n:=256) (by decide) h
  exact_mod_cast this
theorem aIu {i:Nat} (h:1≤i):(256:Int)≤256 ^ i:=by
  obtain ⟨k,rfl⟩ : ∃ k,i=k + 1:=⟨i - 1,by omega⟩
  rw [iV]
  have:(1:Int)≤256 ^ k:=Int.pow_pos (by decide)
  omega
theorem aCc {v:Dx} {t a b:Int} (h:v∈[Dx.int 0,Dx.int t,Dx.int a,Dx.int b]) (ht:0≤t) (a0:0≤a) (a1:a≤t) (b0:0≤b) (b1:b≤t):∃ z,v=.int z∧0≤z∧z≤t:=by
  simp only [aF,aV,or_false] at h
  rcases h with rfl | rfl | rfl | rfl
  · exact ⟨_,rfl,by omega,ht⟩
  · exact ⟨_,rfl,ht,by omega⟩
  · exact ⟨_,rfl,a0,a1⟩
  · exact ⟨_,rfl,b0,b1⟩
def tv:Nat→Int
  | 0=>0
  | n + 1=>10 + 21 * tv n
theorem rJ:∀ n,0≤tv n
  | 0=>iO _
  | n + 1=>by have:=rJ n; show 0≤10 + 21 * tv n; omega
def gTP:GC:=fun ds Q => ∃ w:Int,ds=[.int w]∧0≤w∧w≤8∧Q (.tr (.int (256 ^ w.toNat - 1)))
def gVA (n:Nat):GB:=fun l ds Q => ∃ (B:Int) (kd:Kd),ds=[kd.x]∧PoolX B l∧kd.Fit∧kd.deep≤n∧n≤5∧B + tv n < 2 ^ 60∧∀ (vd:Vd) (l':List Dx),kd.Val vd→PoolX (B + tv n) l'→Q (kd.vx vd) l'
section
variable {P:Program} {w:World} {K:dH} {mg:gO} {base:Heap} {f:Addr} {fd:FuncData} {n j:Nat}
theorem aFo (F:Fun K "_law_top" "_law_top" gc_ f fd) (m_range:mg "range" = none):FnOk P w K mg base CX0 1 f fd ["width"] (spX gTP):=by
  refine jU F jJ (fun ds Q h=>by obtain ⟨w,rfl,_⟩:=h; rfl) (by decide) fun cdv A outer s H E hr => ?_
  refine ⟨_,(dR (gQ fun F=>fS (i:=1) jJ.nd rfl (Or.inl rfl) (XE.at (Ex:=cC) F cO))
    (dR (zK PassesOwn.never rfl (cm_ m_range (bC (aZ (pv 0)) cD)) (gN (i:=2) jJ.nd rfl (Or.inl rfl)) (kO (n:=99) (i:=2) (by decide)) (dY (gQ fun F=>fS (i:=1) jJ.nd rfl (Or.inl rfl) (XE.at (Ex:=cC) F (cw_ cO (aZ (pv 1)))))))
    (dY (gA (hd_ (aZ (pv 1)) cO))))),fun ds Q h => ?_⟩
  obtain ⟨w,rfl,h0,h8,q⟩:=h
  refine ⟨⟨by omega,by omega⟩,?_⟩
  refine zA (fun k:Nat=>Dx.int (0 + (k:Int))) (fun rest ρ => ∃ (i:Nat) (y:Sl),i + rest.length=w.toNat∧ρ=[.v (.tr (.int w)),.v (.tr (.int (256 ^ i))),y]) (fun ρ h => ?_) (fun k rest ρ Kn h hk => ?_) ⟨0,.un,by rw [cB]; simp,rfl⟩
  · obtain ⟨i, y, e, rfl⟩ := h
    rw [bG,iT] at e
    subst e
    exact q
  · obtain ⟨i, y, e, rfl⟩ := h
    rw [aL] at e
    have hp1:=oY (show i≤8 by omega)
    have hp0:(0:Int)≤256 ^ i:=Int.pow_nonneg (by decide)
    exact ⟨⟨by decide,by omega⟩,hk _ ⟨i + 1,.v (.tr (.int (0 + (k:Int)))),by omega,by rw [iV,Int.mul_comm]; rfl⟩⟩
theorem aOr (F:Fun K "_law_value" "_law_value" du_ f fd) (CTK:Cal P w K mg base 1 "_law_take" ["pool", "many"] (spB gTK)) (CTP:Cal P w K mg base 1 "_law_top" ["width"] (spX gTP)) (CVA:Cal P w K mg base j "_law_value" ["pool", "kind"] (spB (gVA n))) (m_range:mg "range" = none) (m_len:mg "len" = none) (h1:1≤j) :
    FnOk P w K mg base CX0 (j + 1) f fd ["pool", "kind"] (spB (gVA (n + 1))):=by
  refine aGy F gM (fun l ds Q h=>by obtain ⟨B,kd,rfl,_⟩:=h; rfl) (by decide) fun cdv A outer s H E hr => ?_
  have hu1:=oD hr
  have hu0:=bN hu1
  refine ⟨_,(dR (iP (jS (mJ K hu0) mI (eK K (aZ (pv 1)) cO (fun _ _=>rfl)) kM (cH _)) (dR (gQ fun F=>fS (i:=2) gM.nd rfl (Or.inl rfl) (XE.at (Ex:=cC) F (eU CTP (hr.mono (by omega)) (bC (eK K (aZ (pv 1)) cO (fun _ _=>rfl)) cD))))
    (dY (gA (eK K (qG (bC cO (bC (aZ (pv 2)) (bC (jY (i:=0) CTK (hr.mono (by omega)) (pv 0) (bC cO cD)) (bC (jY (i:=0) CTK (hr.mono (by omega)) (pv 0) (bC (jX (aZ (pv 2)) cO) cD)) cD))))) (jY (i:=0) CTK (hr.mono (by omega)) (pv 0) (bC cO cD)) (fun _ _=>rfl))))) jF)
    (dR (iP (jS (mJ K hu0) mI (eK K (aZ (pv 1)) cO (fun _ _=>rfl)) kM (cH _)) (dY (gA (wD (dsc:=aQ du_) (N:=["pool", "kind", "top", "found", "name", "inner", "k"]) (tgs:=["k"]) (outs:=[0,1]) (N':=["k", "pool", "kind"]) (by refine ⟨rfl,?_,?_,?_,rfl,?_,?_,?_⟩ <;> decide +kernel) (cm_ m_range (bC (eK K (aZ (pv 1)) cO (fun _ _=>rfl)) cD)) (fun _ _ _ _ _=>(gN (i:=0) (show (["k", "pool", "kind"]:List Str).Nodup by decide +kernel) rfl (Or.inl rfl) (.inr rfl))) (kO (n:=1) (i:=0) (by decide)) (rC (by decide)) (fun _ _ _ _ _=>nG) (fun _ _ _ _ _=>(jY (i:=1) CVA (hr.mono (by omega)) (pv 1) (bC (eK K (aZ (pv 2)) cO (fun _ _=>rfl)) cD)))))) jF)
    (dR (iP (jS (mJ K hu0) mI (eK K (aZ (pv 1)) cO (fun _ _=>rfl)) kM (cH _)) (dR (gQ fun F=>fS (i:=3) gM.nd rfl (Or.inl rfl) (XE.at (Ex:=cC) F tJ))
    (dR (zK PassesOwn.never rfl (rA (eK K (aZ (pv 1)) cO (fun _ _=>rfl))) (fu_ rfl (jT (gN (i:=4) gM.nd rfl (Or.inl rfl)) (jT (gN (i:=5) gM.nd rfl (Or.inl rfl)) vW))) (ey_ (n:=99) (is:=[4,5]) rfl (by decide)) (dY (zI fun F=>PS.weak (uI hu1 (pv 3) (XE.at (Ex:=cC) F (aZ (pv 4))) (XE.at (Ex:=cC) F (jY (i:=0) CVA (hr.mono (by omega)) (pv 0) (bC (aZ (pv 5)) cD))) rfl) tR)))
    (dY (gA (di_ (pv 3)))))) jF)
    (dR (gQ fun F=>fS (i:=6) gM.nd rfl (Or.inl rfl) (XE.at (Ex:=cC) F (jY (i:=0) CTK (hr.mono (by omega)) (pv 0) (bC (mK (wE K) zJ (by rfl) m_len PySem.boot_len (bC (eK K (aZ (pv 1)) cO (fun _ _=>rfl)) cD)) cD))))
    (dY (gA (mV (bC (aZ (pv 6)) (bC (jY (i:=0) CVA (hr.mono (by omega)) (pv 0) (bC (eK K (eK K (aZ (pv 1)) cO (fun _ _=>rfl)) (aZ (pv 6)) (fun _ _=>rfl)) cD)) cD))))))))),fun l ds Q h => ?_⟩
  obtain ⟨B,kd,rfl,hP,hfit,hdp,hn,hB,q⟩:=h
  have ht0:=rJ n
  have eT:tv (n + 1)=10 + 21 * tv n:=rfl
  rw [eT] at hB q
  have Tm:∀ i:Nat,i≤20→(i:Int) * tv n≤20 * tv n:=fun i hi=>bX (by omega) ht0
  have Ts:∀ i:Nat,((i + 1:Nat):Int) * tv n=(i:Int) * tv n + tv n:=fun i=>by push_cast; rw [Int.add_mul,Int.one_mul]
  cases kd with
  | num wd m =>
    obtain ⟨a1,a2,_⟩:=hfit
    have g1:=oY (show wd.toNat≤8 by omega)
    have g2:=aIu (show 1≤wd.toNat by omega)
    refine ⟨wd,rfl,by omega,by omega,?_⟩
    refine ⟨rfl,B,256,rfl,hP,by omega,by decide,by decide,fun x1 l1 x10 x11 hP1 => ?_⟩
    refine ⟨rfl,_,256 ^ wd.toNat - 1 + 1,rfl,hP1,by omega,by omega,by omega,fun x2 l2 x20 x21 hP2 => ?_⟩
    refine ⟨aBt (by show 4≤1000000; decide),rfl,_,4,rfl,hP2,by omega,by decide,by decide,fun x3 l3 x30 x31 hP3=>mF x30 x31 fun v hv => ?_⟩
    obtain ⟨z,rfl,z0,z1⟩:=aCc hv (by omega) x10 (by omega) x20 (by omega)
    exact q (.num z) l3 (by simp only [Kd.Val]; exact ⟨z0,by omega⟩) (hP3.mono (by omega))
  | row k m =>
    obtain ⟨f1,m1,m2⟩:=hfit
    have hdp':k.deep + 1≤n + 1:=hdp
    refine ⟨⟨by omega,by omega⟩,by show ((List.range _).map _).length≤_; rw [aE,cB]; omega,?_⟩
    refine co_ (fun k:Nat=>Dx.int (0 + (k:Int))) (fun rest acc cs => ∃ (vs:List Vd) (l':List Dx),vs.length + rest.length=m.toNat∧acc=vs.map k.vx∧cs=[.bw l',.v (.tr (Kd.row k m).x)]∧(∀ v∈vs,k.Val v)∧PoolX (B + (vs.length:Int) * tv n) l') (fun acc cs h => ?_) (fun nm rest acc cs Pn h hk => ?_) ⟨[],l,by rw [cB]; simp,rfl,rfl,(fun v hv=>nomatch hv),hP.mono (by simp)⟩
    · obtain ⟨vs, l', e1, rfl, rfl, hv, hP6⟩ := h
      rw [bG] at e1
      have t8:=Tm vs.length (by omega)
      have:=q (.row vs) l' (by simp only [Kd.Val]; exact ⟨by omega,hv⟩) (hP6.mono (by omega))
      simp only [Kd.vx] at this
      exact this
    · obtain ⟨vs, l', e1, rfl, rfl, hv, hP6⟩ := h
      rw [aL] at e1
      have t8:=Tm vs.length (by omega)
      have ts:=Ts vs.length
      refine ⟨rfl,_,k,rfl,hP6,f1,by omega,by omega,by omega,fun vd l6 hv6 hP7=>hk _ _ ⟨vs ++ [vd],l6,by rw [aI,hW]; omega,by rw [bW]; rfl,rfl,fun v hm => ?_,hP7.mono (by rw [aI]; show _≤B + ((vs.length + 1:Nat):Int) * tv n; omega)⟩⟩
      rcases bZ.mp hm with hm | hm
      · exact hv v hm
      · rw [aO.mp hm]; exact hv6
  | rcd fs =>
    obtain ⟨f1,m1,m2,hnd⟩:=hfit
    have hdp':eV fs + 1≤n + 1:=hdp
    show iY _ _ _ (xF fs) _
    rw [y_]
    refine zA _ (fun rest ρ => ∃ (done:List (Str×Kd)) (vs:List Vd) (l':List Dx) (y4 y5:Sl),fs=done ++ rest∧ρ=[.bw l',.v (.tr (Kd.rcd fs).x),.un,.v (.od (vxF done vs)),y4,y5,.un]∧fB done vs∧PoolX (B + (done.length:Int) * tv n) l') (fun ρ h => ?_) (fun f rest ρ Kn h hk => ?_) ⟨[],[],l,.un,.un,rfl,by simp only [vxF]; rfl,by simp only [fB],hP.mono (by simp)⟩
    · obtain ⟨done, vs, l', y4, y5, e1, rfl, hv, hP6⟩ := h
      rw [cR] at e1
      subst e1
      have t8:=Tm fs.length (by omega)
      have:=q (.rcd vs) l' (by simp only [Kd.Val]; exact hv) (hP6.mono (by omega))
      simp only [Kd.vx] at this
      exact this
    · obtain ⟨done, vs, l', y4, y5, e1, rfl, hv, hP6⟩ := h
      have hm:f∈fs:=by rw [e1]; exact aJ _ aB
      have hlen:done.length + (rest.length + 1)=fs.length:=by rw [e1,aI,aL]
      obtain ⟨ff,fd'⟩:=mQ f1 hm
      have t8:=Tm done.length (by omega)
      have ts:=Ts done.length
      have hvl:=dt_ hv
      have hnew:(Sum.inr f.1:Key)∉(vxF done vs).map (·.1):=by
        rw [fl_ hvl]
        intro z
        obtain ⟨g,hg,e⟩:=cN.mp z
        rw [e1,bW,gG] at hnd
        exact hnd.2.2 g.1 (dM (f:=fun x:Str×Kd=>x.1) hg) f.1 (dM (f:=fun x:Str×Kd=>x.1) aB) (Sum.inr.inj e)
      have hvx:(vxF done vs).length=done.length:=by have:=congrArg List.length (fl_ hvl); simpa using this
      refine ⟨rfl,_,f.2,rfl,hP6,ff,by omega,by omega,by omega,fun vd l6 hv6 hP7=>⟨⟨_,rfl⟩,?_⟩⟩
      refine ⟨show (vxF done vs).length < 1000000 by omega,hk _ ⟨done ++ [f],vs ++ [vd],l6,.v (.tr (.str f.1)),.v (.tr f.2.x),by rw [e1,bO]; rfl,?_,rH hv hv6,hP7.mono (by rw [aI]; show _≤B + ((done.length + 1:Nat):Int) * tv n; omega)⟩⟩
      rw [oR hvl,← oX hnew]
      rfl
  | cho ks =>
    obtain ⟨f1,m1,m2⟩:=hfit
    have hdp':eY ks + 1≤n + 1:=hdp
    have hlk:(xK ks).length=ks.length:=by rw [yQ,aE]
    refine ⟨rfl,B,((xK ks).length:Int),rfl,hP,by omega,by omega,by omega,fun r l1 r0 r1 hP1 => ?_⟩
    have hr':r.toNat < ks.length:=by omega
    have hk':=aD hr'
    generalize ks[r.toNat]=kc at hk'
    obtain ⟨kf,kdp⟩:=kQ f1 (aS hk')
    have hxk:(xK ks)[r.toNat]? = some kc.x:=by rw [yQ,cE,hk']; rfl
    refine ⟨rfl,?_⟩
    have hat:=fj_ hxk
    rw [gP r0] at hat
    simp only [fJ,fY,xIf,xB,xOp,eE,oQ,xC,iX,iQ,fG,iG,cU,fA,aAy,wG,tL,jA,xiL,aAw,aLw,ixX,nH,eqX,eqS,mE,gxN,gxT,gxs,kL,fI,eI,fH,cu_,ct_,lC,lT,lR,lQ,lP,lO,lN,lM,lL,lK,lJ,lG,lF,lE,bB,bE,cA,bV,Sv.d,aP,bM,cZ,cL,bK,aY,aL,bG,aX,bU,Nat.reduceAdd,Nat.reduceSub,Nat.reduceLeDiff,true_and,decide_eq_true_eq,cut,hY,back,qQ,cY,if_true,↓reduceIte,cM,dD,Kd.x,hat]
    refine ⟨_,kc,rfl,hP1,kf,by omega,by omega,by omega,fun vd l6 hv6 hP7 => ?_⟩
    have:=q (.cho r.toNat vd) l6 (by simp only [Kd.Val]; exact tM hk' hv6) (hP7.mono (by omega))
    simp only [Kd.vx] at this
    rw [hw_ hk',gP r0] at this
    exact this
end
def gSA (n:Nat):GC:=fun ds Q => ∃ d:Dx,ds=[d,d]∧d.Sz∧d.deep≤n∧Q (.tr (.bl true))
theorem hq_:∀ l:List Dx,iC l l=l.map fun a=>.tup [a,a]
  | []=>rfl
  | a :: l=>by show _ :: iC l l=_; rw [hq_ l]; rfl
section
variable {P:Program} {w:World} {K:dH} {mg:gO} {base:Heap} {f:Addr} {fd:FuncData} {n j:Nat}
theorem aOs (F:Fun K "_law_same" "_law_same" cy_ f fd) (CSA:Cal P w K mg base j "_law_same" ["one", "other"] (spX (gSA n))) (m_isinstance:mg "isinstance" = none) (m_list:mg "list" = none) (m_tuple:mg "tuple" = none) (m_dict:mg "dict" = none) (m_bool:mg "bool" = none) (m_str:mg "str" = none) (m_len:mg "len" = none) (m_zip:mg "zip" = none) :
    FnOk P w K mg base CX0 (j + 1) f fd ["one", "other"] (spX (gSA (n + 1))):=by
  refine jU F wP (fun ds Q h=>by obtain ⟨d,rfl,_⟩:=h; rfl) (by decide) fun cdv A outer s H E hr => ?_
  have hu1:=oD hr
  have hu0:=bN hu1
  refine ⟨_,(dR (iP (XW.pt (ht_ (jS (ge_ K hu0) lA (zC .bool m_isinstance (aZ (pv 0)) (qZ (v:=.ty "bool") rfl m_bool oI rfl)) (zC .bool m_isinstance (aZ (pv 1)) (qZ (v:=.ty "bool") rfl m_bool oI rfl)) (cH _)) (fa_ (jS (ge_ K hu0) lA (zC .tuple m_isinstance (aZ (pv 0)) (qZ (v:=.ty "tuple") rfl m_tuple go_ rfl)) (zC .tuple m_isinstance (aZ (pv 1)) (qZ (v:=.ty "tuple") rfl m_tuple go_ rfl)) (cH _))))) (dY (gA x8)) jF)
    (dR (iP (XW.pt (aDi (qY (oO .list .tuple m_isinstance (aZ (pv 0)) (c_ (jG (qZ (v:=.ty "list") rfl m_list oH rfl) (jG (qZ (v:=.ty "tuple") rfl m_tuple go_ rfl) nF))))) (m5 (qY (oO .list .tuple m_isinstance (aZ (pv 1)) (c_ (jG (qZ (v:=.ty "list") rfl m_list oH rfl) (jG (qZ (v:=.ty "tuple") rfl m_tuple go_ rfl) nF)))))))) (dY (gA (ex_ (ew_ (mJ K hu0) mI (mK (wE K) zJ (by rfl) m_len PySem.boot_len (bC (aZ (pv 0)) cD)) (mK (wE K) zJ (by rfl) m_len PySem.boot_len (bC (aZ (pv 1)) cD)) (cH _)) (fb_ (ew_ (mJ K hu0) mI (wD (dsc:=aQ cy_) (N:=["one", "other"]) (tgs:=["a", "b"]) (outs:=[]) (N':=["a", "b"]) (by refine ⟨rfl,?_,?_,?_,rfl,?_,?_,?_⟩ <;> decide +kernel) (aIh (i:=0) (j:=1) m_zip (pv 0) (pv 1)) (fun _ _ _ _ _=>(ih_ K (n:=2) rfl rfl (jT (gN (i:=0) (show (["a", "b"]:List Str).Nodup by decide +kernel) rfl (Or.inl rfl) (.inr rfl)) (jT (gN (i:=1) (show (["a", "b"]:List Str).Nodup by decide +kernel) rfl (Or.inl rfl) (.inr rfl)) vW)))) (ey_ (n:=2) (is:=[0,1]) rfl (by decide)) (hx_ (zL (by decide) (zL (by decide) ed_ zM) (cp_ zM))) (fun _ _ _ _ _=>(tK (wC (qY (eU CSA (hr.mono (by omega)) (bC (aZ (pv 0)) (bC (aZ (pv 1)) cD))))))) (fun _ _ _ _ _=>cO)) (qG cD) (cH _)))))) jF)
    (dR (iP (XW.pt (aDi (qY (zC .dict m_isinstance (aZ (pv 0)) (qZ (v:=.ty "dict") rfl m_dict vY rfl))) (m5 (qY (zC .dict m_isinstance (aZ (pv 1)) (qZ (v:=.ty "dict") rfl m_dict vY rfl)))))) (dR (iP (XW.pt (ht_ (jS (ge_ K hu0) lA (mK (wE K) zJ (by rfl) m_len PySem.boot_len (bC (aZ (pv 0)) cD)) (mK (wE K) zJ (by rfl) m_len PySem.boot_len (bC (aZ (pv 1)) cD)) (cH _)) (fa_ (jS (ge_ K hu0) lA (oP (dsc:=aQ cy_) (N:=["one", "other"]) (tgs:=["key"]) (outs:=[1]) (N':=["key", "other"]) (by refine ⟨rfl,?_,?_,?_,rfl,?_,?_,?_⟩ <;> decide +kernel) (pv 0) (fun _ _ _ _ _=>(gN (i:=0) (show (["key", "other"]:List Str).Nodup by decide +kernel) rfl (Or.inl rfl) (.inr rfl))) (kO (n:=1) (i:=0) (by decide)) (rC (by decide)) (fun _ _ _ _ _=>(tK (aAv hu1 (aZ (pv 0)) (aZ (pv 1)) (by with_unfolding_all rfl)))) (fun _ _ _ _ _=>(aZ (pv 0)))) (qG cD) (cH _))))) (dY (gA x8)) jF)
    (dY (gA (ew_ (mJ K hu0) mI (oP (dsc:=aQ cy_) (N:=["one", "other"]) (tgs:=["key"]) (outs:=[0,1]) (N':=["key", "one", "other"]) (by refine ⟨rfl,?_,?_,?_,rfl,?_,?_,?_⟩ <;> decide +kernel) (pv 0) (fun _ _ _ _ _=>(gN (i:=0) (show (["key", "one", "other"]:List Str).Nodup by decide +kernel) rfl (Or.inl rfl) (.inr rfl))) (kO (n:=1) (i:=0) (by decide)) (rC (by decide)) (fun _ _ _ _ _=>(tK (wC (qY (eU CSA (hr.mono (by omega)) (bC (nN hu1 (aZ (pv 1)) (aZ (pv 0)) (fun _ _=>rfl)) (bC (nN hu1 (aZ (pv 2)) (aZ (pv 0)) (fun _ _=>rfl)) cD))))))) (fun _ _ _ _ _=>(aZ (pv 0)))) (qG cD) (cH _))))) jF)
    (dY (gA (ex_ (ew_ (mJ K hu0) mI (zC .str m_isinstance (aZ (pv 0)) (qZ (v:=.ty "str") rfl m_str k4 rfl)) (zC .str m_isinstance (aZ (pv 1)) (qZ (v:=.ty "str") rfl m_str k4 rfl)) (cH _)) (fb_ (ew_ (mJ K hu0) mI (aZ (pv 0)) (aZ (pv 1)) (cH _))))))))),fun ds Q h => ?_⟩
  obtain ⟨d,rfl,hs,hd,q⟩:=h
  cases d with
  | scr _ _=>simp only [Dx.Sz] at hs
  | ins _ _=>simp only [Dx.Sz] at hs
  | exc _=>simp only [Dx.Sz] at hs
  | non=>exact q
  | bl b=>show Q (.tr (.bl (decide (b=b)))); rw [decide_eq_true rfl]; exact q
  | int i=>show Q (.tr (.bl (decide (i=i)))); rw [decide_eq_true rfl]; exact q
  | str x=>show Q (.tr (.bl (decide (x=x)))); rw [decide_eq_true rfl]; exact q
  | lst l =>
    simp only [Dx.Sz] at hs
    simp only [Dx.deep] at hd
    show if decide ((l.length:Int)=(l.length:Int))=true then _ else _
    rw [if_pos (decide_eq_true rfl)]
    show (iC l l).length≤1000000∧eW _ _ _ _ _ (iC l l) _ _
    rw [hq_]
    refine ⟨by rw [aE]; omega,co_ _ (fun rest acc cs=>acc=[]∧cs=[]∧∀ a∈rest,a∈l) (fun acc cs h => ?_) (fun a rest acc cs Pn h hk => ?_) ⟨rfl,rfl,fun a h=>h⟩⟩
    · obtain ⟨rfl, rfl, _⟩ := h
      exact ⟨by decide,q⟩
    · obtain ⟨rfl, rfl, h⟩ := h
      have hm:=h a aB
      exact ⟨a,rfl,nR hs.2 hm,by have:=iw_ hm; omega,hk _ _ ⟨rfl,rfl,fun b hb=>h b (aC _ hb)⟩⟩
  | tup l =>
    simp only [Dx.Sz] at hs
    simp only [Dx.deep] at hd
    show if decide ((l.length:Int)=(l.length:Int))=true then _ else _
    rw [if_pos (decide_eq_true rfl)]
    show (iC l l).length≤1000000∧eW _ _ _ _ _ (iC l l) _ _
    rw [hq_]
    refine ⟨by rw [aE]; omega,co_ _ (fun rest acc cs=>acc=[]∧cs=[]∧∀ a∈rest,a∈l) (fun acc cs h => ?_) (fun a rest acc cs Pn h hk => ?_) ⟨rfl,rfl,fun a h=>h⟩⟩
    · obtain ⟨rfl, rfl, _⟩ := h
      exact ⟨by decide,q⟩
    · obtain ⟨rfl, rfl, h⟩ := h
      have hm:=h a aB
      exact ⟨a,rfl,nR hs.2 hm,by have:=iw_ hm; omega,hk _ _ ⟨rfl,rfl,fun b hb=>h b (aC _ hb)⟩⟩
  | dic l =>
    simp only [Dx.Sz] at hs
    simp only [Dx.deep] at hd
    show if (!decide ((l.length:Int)=(l.length:Int)))=true then _ else _
    rw [decide_eq_true rfl]
    show l.length≤1000000∧eW _ _ _ _ _ (lD l) _ _
    refine ⟨by omega,co_ (fun p:Key×Dx=>xM p.1) (fun rest acc cs=>acc=[]∧cs=[.v (.tr (.dic l))]∧∀ a∈rest,a∈l) (fun acc cs h => ?_) (fun a rest acc cs Pn h hk => ?_) ⟨rfl,rfl,fun a h=>h⟩⟩
    · obtain ⟨rfl, rfl, _⟩ := h
      refine ⟨by decide,?_⟩
      show l.length≤1000000∧eW _ _ _ _ _ (lD l) _ _
      refine ⟨by omega,co_ (fun p:Key×Dx=>xM p.1) (fun rest acc cs=>acc=[]∧cs=[.v (.tr (.dic l)),.v (.tr (.dic l))]∧∀ a∈rest,a∈l) (fun acc cs h => ?_) (fun a rest acc cs Pn h hk => ?_) ⟨rfl,rfl,fun a h=>h⟩⟩
      · obtain ⟨rfl, rfl, _⟩ := h
        exact ⟨by decide,q⟩
      · obtain ⟨rfl, rfl, h⟩ := h
        have hm:=h a aB
        have hget:=iu_ hs.2.1 hm
        have:=hk [] [.v (.tr (.dic l)),.v (.tr (.dic l))] ⟨rfl,rfl,fun b hb=>h b (aC _ hb)⟩
        simp only [rM,fJ,fY,xIf,xB,xOp,eE,xC,iQ,fG,cU,fA,wG,jA,aNf,xOr,kS,wH,xIs,dgX,eqX,neX,eqS,mE,gxN,gxT,gxs,kL,fI,eI,fH,cu_,ct_,lC,lT,lR,lQ,lP,lO,lN,lM,lL,lK,lJ,lG,lF,lE,bB,bE,cA,bV,Sv.d,aP,bM,cZ,cL,bK,aY,aL,bG,aX,bU,Nat.reduceAdd,Nat.reduceSub,Nat.reduceLeDiff,true_and,decide_eq_true_eq,cut,hY,back,qQ,cY,if_true,↓reduceIte,cM,dD,xL,hget]
        exact ⟨a.2,rfl,oW hs.2.2 hm,by have:=qB hm; omega,this⟩
    · obtain ⟨rfl, rfl, h⟩ := h
      have hm:=h a aB
      have hget:=iu_ hs.2.1 hm
      have:=hk [] [.v (.tr (.dic l))] ⟨rfl,rfl,fun b hb=>h b (aC _ hb)⟩
      simp only [rM,fJ,fY,xIf,xB,xOp,eE,xC,iQ,fG,cU,fA,wG,jA,aNf,xOr,kS,wH,xIs,dgX,eqX,neX,eqS,mE,gxN,gxT,gxs,kL,fI,eI,fH,cu_,ct_,lC,lT,lR,lQ,lP,lO,lN,lM,lL,lK,lJ,lG,lF,lE,bB,bE,cA,bV,Sv.d,aP,bM,cZ,cL,bK,aY,aL,bG,aX,bU,Nat.reduceAdd,Nat.reduceSub,Nat.reduceLeDiff,true_and,decide_eq_true_eq,cut,hY,back,qQ,cY,if_true,↓reduceIte,cM,dD,j4,xL,hget]
      exact this
end
theorem sD {l s:List Int} {p k:Nat} (h1:l.length≤p) (h2:p + s.length≤l.length + k):lay (l ++ List.replicate k 0) p s=l ++ List.replicate (p - l.length) 0 ++ s ++ List.replicate (l.length + k - (p + s.length)) 0:=by
  refine fO fun i => ?_
  rw [gi_]
  by_cases c1:i < l.length
  · rw [bY c1, bO, bO, bY c1, aD c1]
    show some (if _ then _ else _)=_
    rw [if_neg (by omega)]
  · by_cases c2 : i < p
    · rw [bD (by omega), bO, bO, bD (by omega), bY (by rw [aG]; omega), bI, bI, if_pos (by omega), if_pos (by omega)]
      show some (if _ then _ else _)=_
      rw [if_neg (by omega)]
    · by_cases c3 : i < p + s.length
      · rw [bD (by omega), bI, if_pos (by omega)]
        show some (if _ then _ else _)=_
        rw [if_pos (by omega),bO (l ++ _),bD (by rw [aI,aG]; omega),aI,aG,show i - (l.length + (p - l.length))=i - p by omega,bY (by omega),aM,aD (by omega)]
        rfl
      · rw [bD (by omega), bD (by simp only [aI, aG]; omega), bI, bI]
        simp only [aI,aG]
        by_cases c4:i < l.length + k
        · rw [if_pos (by omega), if_pos (by omega)]
          show some (if _ then _ else _)=_
          rw [if_neg (by omega)]
        · rw [if_neg (by omega), if_neg (by omega)]
          rfl
def mW (l:List Int) (kv:Kd×Vd):List Int:=l ++ List.replicate ((up l.length kv.1.rm.2).toNat - l.length) 0 ++ kv.1.byt kv.2
def iD:List Int→List (Kd×Vd)→List Int
  | l,[]=>l
  | l,kv :: r=>iD (mW l kv) r
def aAr (kv:Kd×Vd):Prop:=kv.1.Val kv.2∧0≤kv.1.rm.1∧1≤kv.1.rm.2
theorem wU {l:List Int} {kv:Kd×Vd} (h:aAr kv):((mW l kv).length:Int)=up l.length kv.1.rm.2 + kv.1.rm.1:=by
  obtain ⟨h1,h2,h3⟩:=h
  obtain ⟨u1,u2⟩:=jW (n:=(l.length:Int)) (m:=kv.1.rm.2) (by omega)
  unfold mW
  rw [aI,aI,aG,Kd.byt_len h1]
  omega
theorem qJ:∀ {fs:List (Str×Kd)} {vs:List Vd} {l:List Int} {k:Nat},fB fs vs→(∀ kv∈(fs.map (·.2)).zip vs,aAr kv)→cK l.length (rmF fs)≤l.length + k →
    gD (eF l.length (rmF fs)) fs vs (l ++ List.replicate k 0)=iD l ((fs.map (·.2)).zip vs) ++ List.replicate (l.length + k - (iD l ((fs.map (·.2)).zip vs)).length) 0
  | [],[],l,k,_,_,_=>by simp only [rmF,eF,gD,bM,List.zip_nil_left,iD]; rw [fM]
  | [],_ :: _,_,_,h,_,_=>by simp [fB] at h
  | _ :: _,[],_,_,h,_,_=>by simp [fB] at h
  | f :: r, v :: vs, l, k, hv, hg, he => by
    simp only [fB] at hv
    have g:=hg (f.2,v) (by simp only [aP,cG]; exact aB)
    have pl:((mW l (f.2,v)).length:Int)=up l.length f.2.rm.2 + f.2.rm.1:=wU g
    obtain ⟨g1,g2,g3⟩ : f.2.Val v∧0≤f.2.rm.1∧1≤f.2.rm.2:=g
    obtain ⟨u1,u2⟩:=jW (n:=(l.length:Int)) (m:=f.2.rm.2) (by omega)
    have bl:(f.2.byt v).length=f.2.rm.1.toNat:=Kd.byt_len g1
    have he':cK (up l.length f.2.rm.2 + f.2.rm.1) (rmF r)≤l.length + k:=he
    have ge:=ds_ (rs:=rmF r) (e:=up l.length f.2.rm.2 + f.2.rm.1) (rms_of hv.2 fun kv h=>hg kv (by simp only [aP,cG]; exact aC _ h))
    show gD (eF (up l.length f.2.rm.2 + f.2.rm.1) (rmF r)) r vs (lay (l ++ List.replicate k 0) (up l.length f.2.rm.2).toNat (f.2.byt v))=_
    have pd:(mW l (f.2,v)).length=(up l.length f.2.rm.2).toNat + (f.2.byt v).length:=by rw [bl]; omega
    rw [sD (by omega) (by rw [bl]; omega),← pl]
    have:=qJ (fs:=r) (vs:=vs) (l:=mW l (f.2,v)) (k:=l.length + k - ((up l.length f.2.rm.2).toNat + (f.2.byt v).length)) hv.2 (fun kv h=>hg kv (by simp only [aP,cG]; exact aC _ h)) (by rw [pl]; show cK (up l.length f.2.rm.2 + f.2.rm.1) _≤_; rw [bl]; omega)
    show gD _ r vs (mW l (f.2,v) ++ _)=_
    have ea:iD l (((f :: r).map (·.2)).zip (v :: vs))=iD (mW l (f.2,v)) ((r.map (·.2)).zip vs):=rfl
    rw [this,ea]
    congr 2
    rw [bl] at pd ⊢
    omega
where rms_of:∀ {fs:List (Str×Kd)} {vs:List Vd},fB fs vs→(∀ kv∈(fs.map (·.2)).zip vs,aAr kv)→Rms (rmF fs)
  | [],_,_,_,r,hr=>by simp [rmF] at hr
  | _ :: _,[],h,_,_,_=>by simp [fB] at h
  | f :: r, v :: vs, hv, hg, x, hx => by
    simp only [fB] at hv
    simp only [rmF] at hx
    rcases aF.mp hx with rfl | hx
    · have g := hg (f.2, v) (by simp only [aP, cG]; exact aB)
      exact ⟨g.2.1,Int.lt_of_lt_of_le (by decide) (show (1:Int)≤f.2.rm.2 from g.2.2)⟩
    · exact rms_of hv.2 (fun kv h=>hg kv (by simp only [aP,cG]; exact aC _ h)) x hx
theorem sZ:∀ (l:List Int) (ps:List (Kd×Vd)) (kv:Kd×Vd),iD l (ps ++ [kv])=mW (iD l ps) kv
  | _,[],_=>rfl
  | l,p :: ps,kv=>sZ (mW l p) ps kv
mutual
theorem Kd.Fit.pw:∀ (k:Kd),k.Fit→Pw k.rm.2
  | .num w m,h=>by obtain ⟨_,_,h⟩:=h; exact h
  | .row k n,h=>Kd.Fit.pw k h.1
  | .rcd fs, h => Pw.maxL fun a ha => by
    obtain ⟨r,hr,rfl⟩:=cN.mp ha
    exact vN fs h.1 r hr
  | .cho ks, h => Pw.maxL fun a ha => by
    obtain ⟨r,hr,rfl⟩:=cN.mp ha
    exact y9 ks h.1 r hr
theorem vN:∀ (fs:List (Str×Kd)),mH fs→∀ r∈rmF fs,Pw r.2
  | [],_,r,hr=>by simp [rmF] at hr
  | f :: fs, h, r, hr => by
    simp only [rmF] at hr
    rcases aF.mp hr with rfl | hr
    · exact Kd.Fit.pw f.2 h.1.2
    · exact vN fs h.2 r hr
theorem y9:∀ (ks:List Kd),mZ ks→∀ r∈rmK ks,Pw r.2
  | [],_,r,hr=>by simp [rmK] at hr
  | f :: fs, h, r, hr => by
    simp only [rmK] at hr
    rcases aF.mp hr with rfl | hr
    · exact Kd.Fit.pw f h.1
    · exact y9 fs h.2 r hr
end
theorem vL {k:Kd} {v:Vd} (h:k.Fit) (hv:k.Val v):aAr (k,v):=by
  obtain ⟨a,b,c,d⟩:=k.bd h.ok
  exact ⟨hv,a,c⟩
theorem wK:∀ {fs:List (Str×Kd)} {vs:List Vd},mH fs→fB fs vs→∀ kv∈(fs.map (·.2)).zip vs,kv.1.Fit∧kv.1.Val kv.2∧kv.1.deep≤eV fs
  | [],_,_,_,kv,h=>by simp at h
  | _ :: _,[],_,h,_,_=>by simp [fB] at h
  | f :: r, v :: vs, hf, hv, kv, h => by
    simp only [fB] at hv
    simp only [aP,cG] at h
    rcases aF.mp h with rfl | h
    · exact ⟨hf.1.2,hv.1,dQ _ _⟩
    · obtain ⟨a, b, c⟩ := wK hf.2 hv.2 kv h
      exact ⟨a,b,bP c (dJ _ _)⟩
def aVl (kd:Kd) (vd:Vd) (n:Nat) (st:List Int) (ps:List (Kd×Vd)):Prop:=kd.byt vd=iD st ps ++ List.replicate (kd.rm.1.toNat - (iD st ps).length) 0∧∀ kv∈ps,kv.1.Fit∧kv.1.Val kv.2∧kv.1.deep≤n
theorem aGf {fs:List (Str×Kd)} {vs:List Vd} {n:Nat} (hf:(Kd.rcd fs).Fit) (hv:(Kd.rcd fs).Val (.rcd vs)) (hd:eV fs≤n):aVl (.rcd fs) (.rcd vs) n [] ((fs.map (·.2)).zip vs):=by
  simp only [Kd.Val] at hv
  have z:=wK hf.1 hv
  refine ⟨?_,fun kv h=>⟨(z kv h).1,(z kv h).2.1,bP (z kv h).2.2 hd⟩⟩
  have pw:=Pw.maxL (l:=(rmF fs).map (·.2)) fun a ha=>by
    obtain ⟨r,hr,rfl⟩:=cN.mp ha
    exact vN fs hf.1 r hr
  obtain ⟨u1,u2⟩:=jW (n:=cK 0 (rmF fs)) (m:=maxL 1 ((rmF fs).map (·.2))) (by have:=pw.pos; omega)
  have hR:Rms (rmF fs):=qJ.rms_of hv fun kv h=>vL (z kv h).1 (z kv h).2.1
  have ge:=ds_ (e:=0) hR
  have h:=qJ (fs:=fs) (vs:=vs) (l:=[]) (k:=(kE (rmF fs)).1.toNat) hv (fun kv h=>vL (z kv h).1 (z kv h).2.1) (by
    show cK 0 (rmF fs)≤0 + (((up (cK 0 (rmF fs)) (maxL 1 ((rmF fs).map (·.2)))).toNat:Nat):Int)
    omega)
  simp only [Kd.byt]
  rw [aY] at h
  have h':gD (eF 0 (rmF fs)) fs vs (List.replicate (kE (rmF fs)).1.toNat 0)=_:=h
  rw [h']
  simp only [bG,iS]
  rfl
theorem hp_ {v:Vd}:∀ {ks:List Kd} {j:Nat} {k:Kd},ks[j]? = some k→qI ks j v=k.byt v
  | [],_,_,e=>by simp at e
  | k' :: r,0,k,e=>by simp at e; subst e; simp only [qI]
  | k' :: r,j + 1,k,e=>by simp only [qI]; exact hp_ (j:=j) (by simpa using e)
theorem en_:∀ {ks:List Kd} {j:Nat} {v:Vd},jH ks j v→∃ k,ks[j]? = some k∧k.Val v
  | [],_,_,h=>by simp [jH] at h
  | k :: _,0,v,h=>by simp only [jH] at h; exact ⟨k,rfl,h⟩
  | _ :: r,j + 1,v,h=>by simp only [jH] at h; obtain ⟨k,e,hk⟩:=en_ h; exact ⟨k,by simpa using e,hk⟩
theorem ha_ {c:XC} {G K:XS} {ρ ρ':En} {D:XD} (hc:∀ Q:Bool→En→Prop,Q false ρ'→c ρ Q) (h:K ρ' D):fJ (xIf c G fY) K ρ D:=hc _ h
theorem aKv {fs:List (Str×Kd)} {vs:List Vd} {i:Nat} {f:Str×Kd} {v:Vd} (hn:(fs.map (·.1)).Nodup) (hl:vs.length=fs.length) (h1:fs[i]? = some f) (h2:vs[i]? = some v):iR (vxF fs vs) (Sum.inr f.1)=some (f.2.vx v):=by
  have hk:=fl_ hl
  have hnd:((vxF fs vs).map (·.1)).Nodup:=by
    rw [hk]
    have:(fs.map fun f=>(Sum.inr f.1:Key))=(fs.map (·.1)).map (fun x:Str=>(Sum.inr x:Key)):=by rw [cX]; rfl
    rw [this]
    exact List.Pairwise.map _ (fun a b h e=>h (Sum.inr.inj e)) hn
  exact iu_ (p:=(Sum.inr f.1,f.2.vx v)) hnd (mem_vx h1 h2)
where mem_vx:∀ {fs:List (Str×Kd)} {vs:List Vd} {i:Nat} {f:Str×Kd} {v:Vd},fs[i]? = some f→vs[i]? = some v→((Sum.inr f.1,f.2.vx v):Key×Dx)∈vxF fs vs
  | [],_,_,_,_,h,_=>by simp at h
  | _ :: _,[],_,_,_,_,h=>by simp at h
  | g :: r,u :: vs,0,f,v,h1,h2=>by simp at h1 h2; subst h1 h2; simp only [vxF]; exact aB
  | g :: r,u :: vs,i + 1,f,v,h1,h2=>by simp only [vxF]; exact aC _ (mem_vx (i:=i) (by simpa using h1) (by simpa using h2))
theorem aKf {α:Type} {a:α}:[a].length≤1000000:=by show 1≤1000000; decide
theorem rQ {α:Type} (v:α):∀ n,(List.replicate n [v]).flatten=List.replicate n v
  | 0=>rfl
  | n + 1=>by rw [aX,dE,rQ v n]; rfl
theorem aDh (q:Nat):(List.replicate q (List.map Sv.d [Sv.tr (Dx.int 0)])).flatten=(List.replicate q (0:Int)).map Dx.int:=by show (List.replicate q [Dx.int 0]).flatten=_; rw [rQ,List.map_replicate]
mutual
def Kd.isv:Kd→Vd→Dx→Prop
  | .num _ _,.num n,d=>d=.int n
  | .row k _,.row vs,d => ∃ ds,d=.lst ds∧All2 k.isv vs ds
  | .rcd fs,.rcd vs,d => ∃ kvs,d=.dic kvs∧kvs.length=fs.length∧(∀ kv∈kvs,∃ x,kv.1=Sum.inr x)∧xR fs vs kvs
  | .cho ks,.cho j x,d => ∃ u,d=.tup [.int (j:Int),u]∧vE ks j x u
  | _,_,_=>False
def xR:List (Str×Kd)→List Vd→List (Key×Dx)→Prop
  | [],[],_=>True
  | f :: r,v :: vs,kvs=>(∃ x,iR kvs (Sum.inr f.1)=some x∧f.2.isv v x)∧xR r vs kvs
  | _,_,_=>False
def vE:List Kd→Nat→Vd→Dx→Prop
  | [],_,_,_=>False
  | k :: _,0,v,u=>k.isv v u
  | _ :: r,j + 1,v,u=>vE r j v u
end
theorem xQ:∀ {fs:List (Str×Kd)} {vs:List Vd} {kvs:List (Key×Dx)} {p:(Str×Kd)×Vd},xR fs vs kvs→p∈fs.zip vs→∃ x,iR kvs (Sum.inr p.1.1)=some x∧p.1.2.isv p.2 x
  | [],_,_,_,_,h=>by simp at h
  | _ :: _,[],_,_,h,_=>by simp [xR] at h
  | f :: r, v :: vs, kvs, p, h, hm => by
    simp only [xR] at h
    rw [cG] at hm
    rcases aF.mp hm with rfl | hm
    · exact h.1
    · exact xQ h.2 hm
theorem w4:∀ {ks:List Kd} {j:Nat} {v:Vd} {u:Dx},vE ks j v u→∃ k,ks[j]? = some k∧k.isv v u
  | [],_,_,_,h=>by simp [vE] at h
  | k :: _,0,v,u,h=>by simp only [vE] at h; exact ⟨k,rfl,h⟩
  | _ :: r,j + 1,v,u,h=>by simp only [vE] at h; obtain ⟨k,e,hk⟩:=w4 h; exact ⟨k,by simpa using e,hk⟩
theorem wL:∀ {fs:List (Str×Kd)} {vs:List Vd} {p:(Str×Kd)×Vd},okF fs→fB fs vs→p∈fs.zip vs→p.1.2.Ok∧p.1.2.Val p.2∧p.1.2.deep≤eV fs
  | [],_,_,_,_,h=>by simp at h
  | _ :: _,[],_,_,h,_=>by simp [fB] at h
  | f :: r, v :: vs, p, ho, h, hm => by
    simp only [fB] at h
    rw [cG] at hm
    rcases aF.mp hm with rfl | hm
    · exact ⟨ho.1,h.1,dQ _ _⟩
    · obtain ⟨a, b, c⟩ := wL ho.2 h.2 hm
      exact ⟨a,b,bP c (dJ _ _)⟩
theorem aDs {ks:List Kd} {j:Nat} {v:Vd} {k:Kd} (h:jH ks j v) (e:ks[j]? = some k):k.Val v:=by
  obtain ⟨k',e',h'⟩:=en_ h
  rw [e] at e'
  cases e'
  exact h'
theorem zF {α β:Type} {g:α→β→Prop}:∀ {l:List α} {m:List β},All2 g l m→∀ p∈l.zip m,g p.1 p.2
  | [],_,_,p,h=>by simp at h
  | a :: l, _, ⟨b, r, e, h1, h2⟩, p, h => by
    subst e
    rw [cG] at h
    rcases aF.mp h with rfl | h
    · exact h1
    · exact zF h2 p h
theorem aHt {i w:Int} (h0:0≤i) (hw:0≤w) (h:i < 256 ^ w.toNat):((Builtin.Int.intBits i:Nat):Int)≤8 * w:=by
  have e:(256:Int) ^ w.toNat=((2 ^ (8 * w.toNat):Nat):Int):=by
    rw [Nat.pow_mul]
    simp
  rw [e] at h
  have:Builtin.Int.intBits i≤8 * w.toNat:=intBits_le_iff.mpr (by omega)
  omega
theorem aCw {n:Nat} {Q:Sv→Prop} (q:Q (.tr (.bl true))):aRg [.lst (List.replicate n (.bl true))] Q:=⟨List.replicate n true,by rw [List.map_replicate],by
  have:(List.replicate n true).all id=true:=by rw [fD]; intro x hx; rw [(iL.mp hx).2]; rfl
  rw [this]
  exact q⟩
theorem qW {α:Type} {d:Dx} (l:List α):(l.map fun _=>d)=List.replicate l.length d:=List.map_const'
def gIW:GC:=fun ds Q => ∃ i:Int,ds=[.int i]∧Q (.tr (.bl true))
section
variable {P:Program} {w:World} {K:dH} {mg:gO} {base:Heap} {f:Addr} {fd:FuncData} {n j:Nat}
theorem aPk (F:Fun K "is_whole" "is_whole" ej_ f fd) (m_isinstance:mg "isinstance" = none) (m_int:mg "int" = none) (m_bool:mg "bool" = none):FnOk P w K mg base CX0 1 f fd ["thing"] (spX gIW):=by
  refine jU F ia_ (fun ds Q h=>by obtain ⟨_,rfl,_⟩:=h; rfl) (by decide) fun cdv A outer s H E hr => ?_
  refine ⟨_,(dY (gA (ex_ (zC .int m_isinstance (aZ (pv 0)) (qZ (v:=.ty "int") rfl m_int k8 rfl)) (fb_ (zO (zC .bool m_isinstance (aZ (pv 0)) (qZ (v:=.ty "bool") rfl m_bool oI rfl))))))),fun ds Q h => ?_⟩
  obtain ⟨i,rfl,q⟩:=h
  exact q
end
theorem nO:∀ {fs:List (Str×Kd)} {vs:List Vd},vxF fs vs=(fs.zip vs).map fun p=>(Sum.inr p.1.1,p.1.2.vx p.2)
  | [],_=>by simp [vxF]
  | _ :: _,[]=>by simp [vxF]
  | g :: r,u :: vs=>by simp only [vxF,cG,aP]; rw [nO]
theorem w5:∀ {fs:List (Str×Kd)} {vs:List Vd} {kvs:List (Key×Dx)},vs.length=fs.length→(∀ p∈fs.zip vs,∃ x,iR kvs (Sum.inr p.1.1)=some x∧p.1.2.isv p.2 x)→xR fs vs kvs
  | [],[],_,_,_=>by simp only [xR]
  | [],_ :: _,_,h,_=>by simp at h
  | _ :: _,[],_,h,_=>by simp at h
  | f :: r, v :: vs, kvs, hl, h => by
    simp only [xR]
    exact ⟨h (f,v) (by rw [cG]; exact aB),w5 (by simpa using hl) fun p hp=>h p (by rw [cG]; exact aC _ hp)⟩
theorem v_ {v:Vd} {u:Dx}:∀ {ks:List Kd} {j:Nat} {k:Kd},ks[j]? = some k→k.isv v u→vE ks j v u
  | [],_,_,e,_=>by simp at e
  | k' :: r,0,k,e,h=>by simp at e; subst e; simp only [vE]; exact h
  | k' :: r,j + 1,k,e,h=>by simp only [vE]; exact v_ (j:=j) (by simpa using e) h
theorem zG {α:Type} {g:α→Dx→Prop} {φ:α→Dx}:∀ {l:List α},(∀ a∈l,g a (φ a))→All2 g l (l.map φ)
  | [],_=>rfl
  | a :: l,h=>⟨_,_,rfl,h a aB,zG fun b hb=>h b (aC _ hb)⟩
theorem aAs {fs:List (Str×Kd)} {vs:List Vd} (hvl:vs.length=fs.length) (hnd:(fs.map (·.1)).Nodup):((fs.zip vs).map fun p=>p.1.1).Nodup:=by
  have:((fs.zip vs).map fun p=>p.1.1)=fs.map (·.1):=by
    have e:fs.map (·.1)=((fs.zip vs).map (·.1)).map (·.1):=by rw [List.map_fst_zip (by omega)]
    rw [e,cX]
    rfl
  rw [this]
  exact hnd
theorem aGs {L:List ((Str×Kd)×Vd)} {φ:(Str×Kd)×Vd→Dx} (hn:(L.map fun p=>p.1.1).Nodup) {p:(Str×Kd)×Vd} (hp:p∈L):iR (L.map fun p=>((Sum.inr p.1.1,φ p):Key×Dx)) (Sum.inr p.1.1)=some (φ p):=by
  refine iu_ (p:=(Sum.inr p.1.1,φ p)) ?_ (dM (f:=fun p=>((Sum.inr p.1.1,φ p):Key×Dx)) hp)
  rw [cX]
  have:(L.map ((fun x:Key×Dx=>x.1) ∘ fun p=>((Sum.inr p.1.1,φ p):Key×Dx)))=(L.map fun p=>p.1.1).map (fun x:Str=>(Sum.inr x:Key)):=by rw [cX]; rfl
  rw [this]
  exact List.Pairwise.map _ (fun a b h e=>h (Sum.inr.inj e)) hn
mutual
theorem pS:∀ (kd:Kd) (vd:Vd),kd.Fit→kd.Val vd→kd.isv vd (kd.vx vd)
  | .num w m, vd, hf, hv => by
    cases vd with
    | num i=>simp only [Kd.isv,Kd.vx]
    | _=>simp [Kd.Val] at hv
  | .row k m, vd, hf, hv => by
    cases vd with
    | row vs =>
      simp only [Kd.Val] at hv
      simp only [Kd.isv,Kd.vx]
      exact ⟨_,rfl,zG fun v h=>pS k v hf.1 (hv.2 v h)⟩
    | _=>simp [Kd.Val] at hv
  | .rcd fs, vd, hf, hv => by
    cases vd with
    | rcd vs =>
      simp only [Kd.Val] at hv
      obtain ⟨f1,f2,f3,hnd⟩:=hf
      have hvl:=dt_ hv
      have hz:=v9 fs vs f1 hv
      simp only [Kd.isv,Kd.vx]
      rw [nO]
      refine ⟨_,rfl,by rw [aE,cQ]; omega,fun kv h => ?_,w5 hvl fun p hp=>⟨_,aGs (φ:=fun p=>p.1.2.vx p.2) (aAs hvl hnd) hp,hz p hp⟩⟩
      obtain ⟨p,_,rfl⟩:=cN.mp h
      exact ⟨_,rfl⟩
    | _=>simp [Kd.Val] at hv
  | .cho ks, vd, hf, hv => by
    cases vd with
    | cho jj v =>
      simp only [Kd.Val] at hv
      obtain ⟨k,hk,hvk⟩:=en_ hv
      simp only [Kd.isv,Kd.vx]
      exact ⟨_,rfl,v_ hk (by rw [hw_ hk]; exact v8 ks hf.1 k (aS hk) v hvk)⟩
    | _=>simp [Kd.Val] at hv
theorem v9:∀ (fs:List (Str×Kd)) (vs:List Vd),mH fs→fB fs vs→∀ p∈fs.zip vs,p.1.2.isv p.2 (p.1.2.vx p.2)
  | [],_,_,_,p,h=>by simp at h
  | _ :: _,[],_,h,_,_=>by simp [fB] at h
  | f :: r, v :: vs, hf, hv, p, h => by
    simp only [fB] at hv
    rw [cG] at h
    rcases aF.mp h with rfl | h
    · exact pS f.2 v hf.1.2 hv.1
    · exact v9 r vs hf.2 hv.2 p h
theorem v8:∀ (ks:List Kd),mZ ks→∀ k∈ks,∀ v,k.Val v→k.isv v (k.vx v)
  | [],_,k,h,_,_=>by simp at h
  | k' :: r, hf, k, h, v, hv => by
    by_cases e:k=k'
    · rw [e] at hv ⊢; exact pS k' v hf.1 hv
    · exact v8 r hf.2 k ((aF.mp h).resolve_left e) v hv
end
theorem zY:∀ {l:List Dx},(∀ d∈l,d.Sz)→szX l
  | [],_=>trivial
  | d :: r,h=>⟨h d aB,zY fun e he=>h e (aC _ he)⟩
theorem p7:∀ {l:List (Key×Dx)},(∀ p∈l,p.2.Sz)→aIo l
  | [],_=>trivial
  | d :: r,h=>⟨h d aB,p7 fun e he=>h e (aC _ he)⟩
theorem yR {n:Nat}:∀ {l:List Dx},(∀ d∈l,d.deep≤n)→sR l≤n
  | [],_=>dB _
  | d :: r,h=>Nat.max_le.mpr ⟨h d aB,yR fun e he=>h e (aC _ he)⟩
theorem sQ {n:Nat}:∀ {l:List (Key×Dx)},(∀ p∈l,p.2.deep≤n)→vQ l≤n
  | [],_=>dB _
  | d :: r,h=>Nat.max_le.mpr ⟨h d aB,sQ fun e he=>h e (aC _ he)⟩
mutual
theorem Kd.vx_sz:∀ (kd:Kd) (vd:Vd),kd.Fit→kd.Val vd→(kd.vx vd).Sz∧(kd.vx vd).deep≤kd.deep
  | .num w m, vd, hf, hv => by
    cases vd with
    | num i=>simp only [Kd.vx,Dx.Sz,Dx.deep,Kd.deep]; exact ⟨trivial,by omega⟩
    | _=>simp [Kd.Val] at hv
  | .row k m, vd, hf, hv => by
    cases vd with
    | row vs =>
      simp only [Kd.Val] at hv
      have f3:=hf.2.2
      have z:∀ d∈vs.map k.vx,d.Sz∧d.deep≤k.deep:=fun d hd=>by
        obtain ⟨v,hm,rfl⟩:=cN.mp hd
        exact Kd.vx_sz k v hf.1 (hv.2 v hm)
      simp only [Kd.vx,Dx.Sz,Dx.deep,Kd.deep]
      have:=yR fun d hd=>(z d hd).2
      exact ⟨⟨by rw [aE]; omega,zY fun d hd=>(z d hd).1⟩,by omega⟩
    | _=>simp [Kd.Val] at hv
  | .rcd fs, vd, hf, hv => by
    cases vd with
    | rcd vs =>
      simp only [Kd.Val] at hv
      obtain ⟨f1,f2,f3,hnd⟩:=hf
      have hvl:=dt_ hv
      have z:=aDp fs vs f1 hv
      simp only [Kd.vx,Dx.Sz,Dx.deep,Kd.deep]
      have hk:=fl_ hvl
      have hlen:(vxF fs vs).length=fs.length:=by have:=congrArg List.length hk; simpa using this
      have:=sQ fun d hd=>(z d hd).2
      refine ⟨⟨by omega,?_,p7 fun d hd=>(z d hd).1⟩,by omega⟩
      rw [hk]
      have e:(fs.map fun f=>(Sum.inr f.1:Key))=(fs.map (·.1)).map (fun x:Str=>(Sum.inr x:Key)):=by rw [cX]; rfl
      rw [e]
      exact List.Pairwise.map _ (fun a b h e=>h (Sum.inr.inj e)) hnd
    | _=>simp [Kd.Val] at hv
  | .cho ks, vd, hf, hv => by
    cases vd with
    | cho jj v =>
      simp only [Kd.Val] at hv
      obtain ⟨k,hk,hvk⟩:=en_ hv
      obtain ⟨a,b⟩:=aDo ks hf.1 k (aS hk) v hvk
      simp only [Kd.vx,Dx.Sz,Dx.deep,Kd.deep,szX,sR,aL,bG]
      rw [hw_ hk]
      have:=Kd.deep_pos k
      have hle:=(kQ hf.1 (aS hk)).2
      exact ⟨⟨by omega,trivial,a,trivial⟩,by omega⟩
    | _=>simp [Kd.Val] at hv
theorem aDp:∀ (fs:List (Str×Kd)) (vs:List Vd),mH fs→fB fs vs→∀ p∈vxF fs vs,p.2.Sz∧p.2.deep≤eV fs
  | [],_,_,_,p,h=>by simp [vxF] at h
  | _ :: _,[],_,h,_,_=>by simp [fB] at h
  | f :: r, v :: vs, hf, hv, p, h => by
    simp only [fB] at hv
    simp only [vxF] at h
    have e:eV (f :: r)=max f.2.deep (eV r):=rfl
    rcases aF.mp h with rfl | h
    · obtain ⟨a, b⟩ := Kd.vx_sz f.2 v hf.1.2 hv.1
      exact ⟨a,bP b (by omega)⟩
    · obtain ⟨a, b⟩ := aDp r vs hf.2 hv.2 p h
      exact ⟨a,by omega⟩
theorem aDo:∀ (ks:List Kd),mZ ks→∀ k∈ks,∀ v,k.Val v→(k.vx v).Sz∧(k.vx v).deep≤k.deep
  | [],_,k,h,_,_=>by simp at h
  | k' :: r, hf, k, h, v, hv => by
    by_cases e:k=k'
    · rw [e] at hv ⊢; exact Kd.vx_sz k' v hf.1 hv
    · exact aDo r hf.2 k ((aF.mp h).resolve_left e) v hv
end
theorem fq_:∀ {rs:List (Int×Int)} {e:Int} {i:Nat} {r:Int×Int} {p:Int},Rms rs→rs[i]? = some r→(eF e rs)[i]? = some p→p + r.1≤cK e rs∧e≤p
  | [],_,_,_,_,_,h,_=>by simp at h
  | s :: rs, e, 0, r, p, hR, h, hp => by
    simp at h
    subst h
    have hp':up e s.2=p:=by have:(up e s.2 :: eF (up e s.2 + s.1) rs)[0]? = some p:=hp; simpa using this
    obtain ⟨a,b⟩:=hR s aB
    have g:=ds_ (rs:=rs) (e:=up e s.2 + s.1) fun x hx=>hR x (aC _ hx)
    have u:=(jW (n:=e) b).1
    show p + s.1≤cK (up e s.2 + s.1) rs∧_
    omega
  | s :: rs, e, i + 1, r, p, hR, h, hp => by
    obtain ⟨a,b⟩:=hR s aB
    have hp':(eF (up e s.2 + s.1) rs)[i]? = some p:=by have:(up e s.2 :: eF (up e s.2 + s.1) rs)[i + 1]? = some p:=hp; simpa using this
    obtain ⟨x,y⟩:=fq_ (rs:=rs) (i:=i) (fun x hx=>hR x (aC _ hx)) (by simpa using h) hp'
    have u:=(jW (n:=e) b).1
    exact ⟨x,by omega⟩
theorem io_ (g:Vd→List Int) (step:Nat):∀ (vs:List Vd) (v:Vd) (j:Nat) (l:List Int),gL g step j (vs ++ [v]) l=lay (gL g step j vs l) ((j + vs.length) * step) (g v)
  | [],v,j,l=>by simp [gL]
  | u :: vs, v, j, l => by
    show gL g step (j + 1) (vs ++ [v]) _=lay (gL g step (j + 1) vs _) _ _
    rw [io_ g step vs v (j + 1),aL,show j + 1 + vs.length=j + (vs.length + 1) by omega]
theorem sT:∀ {ps:List Int} {fs:List (Str×Kd)} {vs:List Vd} {p:Int} {f:Str×Kd} {v:Vd} {l:List Int},ps.length=fs.length→vs.length=fs.length→gD (ps ++ [p]) (fs ++ [f]) (vs ++ [v]) l=lay (gD ps fs vs l) p.toNat (f.2.byt v)
  | [],[],[],_,_,_,_,_,_=>by simp [gD]
  | q :: ps, g :: fs, u :: vs, p, f, v, l, h, h' => by
    show gD (ps ++ [p]) (fs ++ [f]) (vs ++ [v]) _=lay (gD ps fs vs _) _ _
    exact sT (by simpa using h) (by simpa using h')
  | [],_ :: _,_,_,_,_,_,h,_=>by simp at h
  | _ :: _,[],_,_,_,_,_,h,_=>by simp at h
  | _,[],_ :: _,_,_,_,_,_,h=>by simp at h
  | _,_ :: _,[],_,_,_,_,_,h=>by simp at h
theorem v6 {n:Nat} {k:Int} (h0:0≤k) (h1:k < n):ixN n k=some k.toNat:=by
  unfold ixN
  rw [if_pos h0,if_pos h1]
theorem eg_ {α:Type} {l:List α} {i:Nat} {a:α} {as:List α} (h:a :: as=l.drop i):l[i]? = some a∧as=l.drop (i + 1):=by
  have h1:(l.drop i)[0]? = some a:=by rw [← h]; rfl
  rw [List.getElem?_drop,iT] at h1
  refine ⟨h1,?_⟩
  have h2:(l.drop i).tail=as:=by rw [← h]; rfl
  rw [List.tail_drop] at h2
  exact h2.symm
theorem yI {α:Type} (f:α→Dx) (l:List α):yJ (l.map f)=((List.range l.length).zip l).map fun p=>.tup [.int (0 + (p.1:Int)),f p.2]:=by
  unfold yJ lW
  rw [aE,eb_]
theorem tZ {α:Type} {l:List α} {i:Nat} {p:Nat×α} (h:((List.range l.length).zip l)[i]? = some p):p.1=i∧l[i]? = some p.2:=by
  obtain ⟨h1,h2⟩:=cT.mp h
  have hi:=(aK.mp h2).1
  rw [List.getElem?_range hi] at h1
  exact ⟨by simpa using h1.symm,h2⟩
theorem cx_ {α:Type} {l:List α} {i:Nat} {x:α} (h:l[i]? = some x):l.take (i + 1)=l.take i ++ [x]:=by
  rw [List.take_succ,h]; rfl
def gNB:GC:=fun ds Q => ∃ w n:Int,ds=[.int w,.int n]∧0≤w∧w≤100∧Q (.ol ((jV w.toNat n).map Dx.int))
def aUl:GB:=fun l ds Q => ∃ (xs ys:List Int) (p:Int),l=xs.map Dx.int∧ds=[.int p,.lst (ys.map Dx.int)]∧0≤p∧p + (ys.length:Int)≤(xs.length:Int)∧xs.length≤100000∧Q .non ((lay xs p.toNat ys).map Dx.int)
def gLB (n:Nat):GC:=fun ds Q => ∃ (kd:Kd) (vd:Vd) (d:Dx),ds=[kd.x,d]∧kd.isv vd d∧kd.Fit∧kd.Val vd∧kd.deep≤n∧n≤12∧kd.rm.1≤100000∧Q (.ol ((kd.byt vd).map Dx.int))
section
variable {P:Program} {w:World} {K:dH} {mg:gO} {base:Heap} {f:Addr} {fd:FuncData} {n j jR jP:Nat}
theorem aPd (F:Fun K "number_bytes" "number_bytes" dd_ f fd) (c_HOW_MANY_BYTES:∃ t,mg "HOW_MANY_BYTES" = some (.int 256 t)) (m_range:mg "range" = none):FnOk P w K mg base CX0 1 f fd ["w", "value"] (spX gNB):=by
  refine jU F gB (fun ds Q h=>by obtain ⟨_,_,rfl,_⟩:=h; rfl) (by decide) fun cdv A outer s H E hr => ?_
  refine ⟨_,(dR (gQ fun F=>fS (i:=2) gB.nd rfl (Or.inl rfl) (XE.at (Ex:=cC) F (qG cD)))
    (dR (gQ fun F=>fS (i:=3) gB.nd rfl (Or.inl rfl) (XE.at (Ex:=cC) F (aZ (pv 1))))
    (dR (zK PassesOwn.never rfl (cm_ m_range (bC (aZ (pv 0)) cD)) (gN (i:=4) gB.nd rfl (Or.inl rfl)) (kO (n:=99) (i:=4) (by decide)) (dR (zI fun F=>PS.weak (if_ (t7 PySem.F.plainAttrs_list PySem.F.slot_list_append PySem.F.type_list_append ik_ (pv 2) (jG (XE.at (Ex:=cC) F (hu_ (aZ (pv 3)) (hv_ (by rfl) c_HOW_MANY_BYTES))) nF))) aEb)
    (dY (gQ fun F=>fS (i:=3) gB.nd rfl (Or.inl rfl) (XE.at (Ex:=cC) F (nM (aZ (pv 3)) (hv_ (by rfl) c_HOW_MANY_BYTES)))))))
    (dY (gA (di_ (pv 2))))))),fun ds Q h => ?_⟩
  obtain ⟨w,i,rfl,h0,h1,q⟩:=h
  refine ⟨dB _,⟨by omega,by omega⟩,?_⟩
  refine zA (fun k:Nat=>Dx.int (0 + (k:Int))) (fun rest ρ => ∃ (c:Nat) (y:Sl),c + rest.length=w.toNat∧ρ=[.v (.tr (.int w)),.v (.tr (.int i)),.v (.ol ((jV c i).map Dx.int)),.v (.tr (.int (i / 256 ^ c))),y]) (fun ρ h => ?_) (fun k rest ρ Kn h hk => ?_) ⟨0,.un,by rw [cB]; simp,by simp only [jV,Int.pow_zero,Int.ediv_one]; rfl⟩
  · obtain ⟨c, y, e, rfl⟩ := h
    rw [bG,iT] at e
    subst e
    exact q
  · obtain ⟨c, y, e, rfl⟩ := h
    rw [aL] at e
    refine ⟨rfl,show (0:Int) < 256 by decide,⟨by rw [aE,hn_]; omega,⟨by decide,by decide⟩,hk _ ⟨c + 1,.v (.tr (.int (0 + (k:Int)))),by omega,?_⟩⟩⟩
    rw [rY,bW,iV,← Int.ediv_ediv_of_nonneg (Int.pow_nonneg (by decide))]
    rfl
theorem aJl (F:Fun K "lay" "lay" p9 f fd) (m_enumerate:mg "enumerate" = none):FnOk P w K mg base CX0 1 f fd ["laid", "place", "some"] (spB aUl):=by
  refine aGy F b9 (fun l ds Q h=>by obtain ⟨_,_,_,_,rfl,_⟩:=h; rfl) (by decide) fun cdv A outer s H E hr => ?_
  refine ⟨_,(dY (zK PassesOwn.never rfl (tH m_enumerate (bC (aZ (pv 2)) cD)) (fu_ rfl (jT (gN (i:=3) b9.nd rfl (Or.inl rfl)) (jT (gN (i:=4) b9.nd rfl (Or.inl rfl)) vW))) (ey_ (n:=99) (is:=[3,4]) rfl (by decide)) (dY (zI fun F=>PS.weak (gd_ (XE.at (Ex:=cC) F (aZ (pv 4))) (lZ (pv 0) (XE.at (Ex:=cC) F (jX (aZ (pv 1)) (aZ (pv 3)))) fm_)) nQ)))),fun l ds Q h => ?_⟩
  obtain ⟨xs,ys,p,rfl,rfl,h0,h1,h2,q⟩:=h
  show iY _ _ _ (yJ (ys.map Dx.int)) _
  rw [yI]
  refine zA _ (fun rest ρ => ∃ (i:Nat) (y3 y4:Sl),rest=((List.range ys.length).zip ys).drop i∧i≤ys.length∧ρ=[.bw ((lay xs p.toNat (ys.take i)).map Dx.int),.v (.tr (.int p)),.v (.tr (.lst (ys.map Dx.int))),y3,y4]) (fun ρ h => ?_) (fun a rest ρ Kn h hk => ?_) ⟨0,.un,.un,rfl,dB _,by rw [List.take_zero,aKg]; rfl⟩
  · obtain ⟨i, y3, y4, e, hi, rfl⟩ := h
    have hz:((List.range ys.length).zip ys).length=ys.length:=by rw [cQ,cB]; omega
    have hge:=List.drop_eq_nil_iff.mp e.symm
    rw [hz] at hge
    have:i=ys.length:=by omega
    subst this
    rw [List.take_length]
    exact q
  · obtain ⟨i, y3, y4, e, hi, rfl⟩ := h
    obtain ⟨e1,e2⟩:=eg_ e
    obtain ⟨e3,e4⟩:=tZ e1
    have hil:=(aK.mp e4).1
    have hlen:((lay xs p.toNat (ys.take i)).map Dx.int).length=xs.length:=by rw [aE,dy_]
    have htl:(ys.take i).length=i:=by rw [cI]; omega
    have hix:ixN ((lay xs p.toNat (ys.take i)).map Dx.int).length (p + (0 + (a.1:Int)))=some (p.toNat + i):=by
      rw [v6 (by omega) (by rw [hlen]; omega)]
      congr 1
      omega
    have hk':=hk [.bw ((lay xs p.toNat (ys.take (i + 1))).map Dx.int),.v (.tr (.int p)),.v (.tr (.lst (ys.map Dx.int))),.v (.tr (.int (0 + (a.1:Int)))),.v (.tr (.int a.2))] ⟨i + 1,_,_,e2,hil,rfl⟩
    rw [cx_ e4,aGb (by rw [htl]; omega),htl,List.map_set] at hk'
    simp only [fJ,fY,xOp,eE,iQ,cU,fA,tL,wF,nH,gxT,gxs,kL,fI,eI,fH,cu_,ct_,lC,lT,lR,lQ,lP,lO,lN,lM,lL,lK,lJ,lG,lF,lE,bB,bE,cA,bV,Sv.d,aP,bM,cZ,cL,bK,aY,aL,bG,aX,bU,Nat.reduceAdd,Nat.reduceSub,Nat.reduceLeDiff,true_and,decide_eq_true_eq,cut,hY,back,cY,if_true,↓reduceIte,cM,dD,hix]
    exact hk'
end
section
variable {P:Program} {w:World} {K:dH} {mg:gO} {base:Heap} {f:Addr} {fd:FuncData} {n j jR jP jI:Nat}
theorem aPj (F:Fun K "laid_bytes" "laid_bytes" ef_ f fd) (CNB:Cal P w K mg base 1 "number_bytes" ["w", "value"] (spX gNB)) (CRO:Cal P w K mg base jR "room_of" ["kind"] (spX (gRO (n + 1)))) (CSO:Cal P w K mg base 2 "step_of" ["room"] (spX gSO)) (CPO:Cal P w K mg base jP "places_in_order" ["fields"] (spX (gPO n))) (CCA:Cal P w K mg base 2 "chosen_at" ["multiple"] (spX gCA)) (CLAY:Cal P w K mg base 1 "lay" ["laid", "place", "some"] (spB aUl)) (CLB:Cal P w K mg base j "laid_bytes" ["kind", "value"] (spX (gLB n))) (m_zip:mg "zip" = none) (m_enumerate:mg "enumerate" = none) (hR:jR≤j) (hP:jP≤j) (h2j:2≤j) :
    FnOk P w K mg base CX0 (j + 1) f fd ["kind", "value"] (spX (gLB (n + 1))):=by
  refine jU F fQ (fun ds Q h=>by obtain ⟨_,_,_,rfl,_⟩:=h; rfl) (by decide) fun cdv A outer s H E hr => ?_
  have hu1:=oD hr
  have hu0:=bN hu1
  refine ⟨_,(dR (iP (jS (mJ K hu0) mI (eK K (aZ (pv 0)) cO (fun _ _=>rfl)) kM (cH _)) (dY (gA (eU CNB (hr.mono (by omega)) (bC (eK K (aZ (pv 0)) cO (fun _ _=>rfl)) (bC (aZ (pv 1)) cD))))) jF)
    (dR (gQ fun F=>fS (i:=2) fQ.nd rfl (Or.inl rfl) (XE.at (Ex:=cC) F (cw_ (qG (bC cO cD)) (eK K (eU CRO (hr.mono (by omega)) (bC (aZ (pv 0)) cD)) cO (fun _ _=>rfl)))))
    (dR (iP (jS (mJ K hu0) mI (eK K (aZ (pv 0)) cO (fun _ _=>rfl)) kM (cH _)) (dR (gQ fun F=>fS (i:=3) fQ.nd rfl (Or.inl rfl) (XE.at (Ex:=cC) F (eU CSO (hr.mono (by omega)) (bC (eU CRO (hr.mono (by omega)) (bC (eK K (aZ (pv 0)) cO (fun _ _=>rfl)) cD)) cD))))
    (dY (zK PassesOwn.never rfl (tH m_enumerate (bC (aZ (pv 1)) cD)) (fu_ rfl (jT (gN (i:=4) fQ.nd rfl (Or.inl rfl)) (jT (gN (i:=5) fQ.nd rfl (Or.inl rfl)) vW))) (ey_ (n:=99) (is:=[4,5]) rfl (by decide)) (dY (tE (jY (i:=2) CLAY (hr.mono (by omega)) (pv 2) (bC (cw_ (aZ (pv 4)) (aZ (pv 3))) (bC (eU CLB (hr.mono (by omega)) (bC (eK K (aZ (pv 0)) cO (fun _ _=>rfl)) (bC (aZ (pv 5)) cD))) cD)))))))) (dY (iP (jS (mJ K hu0) mI (eK K (aZ (pv 0)) cO (fun _ _=>rfl)) kM (cH _)) (dY (zK PassesOwn.never rfl (tG m_zip (bC (eK K (aZ (pv 0)) cO (fun _ _=>rfl)) (bC (eU CPO (hr.mono (by omega)) (bC (eK K (aZ (pv 0)) cO (fun _ _=>rfl)) cD)) cD))) (fu_ rfl (jT (gN (i:=6) fQ.nd rfl (Or.inl rfl)) (jT (gN (i:=7) fQ.nd rfl (Or.inl rfl)) vW))) (ey_ (n:=99) (is:=[6,7]) rfl (by decide)) (dY (tE (jY (i:=2) CLAY (hr.mono (by omega)) (pv 2) (bC (eK K (aZ (pv 7)) cO (fun _ _=>rfl)) (bC (eU CLB (hr.mono (by omega)) (bC (eK K (aZ (pv 6)) cO (fun _ _=>rfl)) (bC (nN hu1 (aZ (pv 1)) (eK K (aZ (pv 6)) cO (fun _ _=>rfl)) (fun _ _=>rfl)) cD))) cD))))))) (dR (zI fun F=>PS.weak (gd_ (XE.at (Ex:=cC) F (eK K (aZ (pv 1)) cO (fun _ _=>rfl))) (lZ (pv 2) (XE.at (Ex:=cC) F cO) fm_)) nQ)
    (dY (tE (jY (i:=2) CLAY (hr.mono (by omega)) (pv 2) (bC (eU CCA (hr.mono (by omega)) (bC (eK K (eU CRO (hr.mono (by omega)) (bC (aZ (pv 0)) cD)) cO (fun _ _=>rfl)) cD)) (bC (eU CLB (hr.mono (by omega)) (bC (eK K (eK K (aZ (pv 0)) cO (fun _ _=>rfl)) (eK K (aZ (pv 1)) cO (fun _ _=>rfl)) (fun _ _=>rfl)) (bC (eK K (aZ (pv 1)) cO (fun _ _=>rfl)) cD))) cD)))))))))
    (dY (gA (di_ (pv 2))))))),fun ds Q h => ?_⟩
  obtain ⟨kd,vd,d,rfl,hi,hfit,hval,hdp,hn,hrm,q⟩:=h
  change fJ _ _ [.v (.tr kd.x),.v (.tr d),.un,.un,.un,.un,.un,.un] _
  by_cases isnum:∃ wd m,kd=.num wd m
  · obtain ⟨wd, m, rfl⟩ := isnum
    cases vd with
    | num i =>
      obtain ⟨a1,a2,_⟩:=hfit
      simp only [Kd.isv] at hi
      subst hi
      simp only [Kd.byt] at q
      exact ⟨wd,i,rfl,by omega,by omega,q⟩
    | _=>simp [Kd.Val] at hval
  · have hnum : ∀ Q : Bool → En → Prop, Q false [.v (.tr kd.x), .v (.tr d), .un, .un, .un, .un, .un, .un] → (xB (xOp eqX (xOp ixX (eE 0) (xC (.int 0))) (xC (.str "number")))) [.v (.tr kd.x), .v (.tr d), .un, .un, .un, .un, .un, .un] Q := by
      cases kd with
      | num wd m=>exact absurd ⟨wd,m,rfl⟩ isnum
      | row k m=>exact fun Q q=>q
      | rcd fs=>exact fun Q q=>q
      | cho ks=>exact fun Q q=>q
    refine ha_ hnum ?_
    obtain ⟨b0,b1,b2,b3⟩:=kd.bd hfit.ok
    refine ⟨aKf,kd,rfl,hfit.ok,hdp,hn,⟨by omega,by omega,by show 1 * _≤_; omega⟩,?_⟩
    rw [aDh]
    dsimp only
    change fJ _ _ [.v (.tr kd.x),.v (.tr d),.v (.ol ((List.replicate kd.rm.1.toNat (0:Int)).map Dx.int)),.un,.un,.un,.un,.un] _
    refine dm_ (fun ρ => ∃ y3 y4 y5 y6 y7,ρ=[.v (.tr kd.x),.v (.tr d),.v (.ol ((kd.byt vd).map Dx.int)),y3,y4,y5,y6,y7]) ?_ (fun D' hD => ?_)
    · rintro ρ ⟨y3, y4, y5, y6, y7, rfl⟩
      exact q
    · cases kd with
      | num wd m=>exact absurd ⟨wd,m,rfl⟩ isnum
      | row k m =>
        cases vd with
        | row vs =>
          have hdp':k.deep + 1≤n + 1:=hdp
          obtain ⟨f1,f2,f3⟩:=hfit
          simp only [Kd.Val] at hval
          simp only [Kd.isv] at hi
          obtain ⟨ds,rfl,ha⟩:=hi
          have hl:ds.length=vs.length:=ha.len
          obtain ⟨c0,c1,c2,c3⟩:=aLp (n:=n) f1.ok (by omega) (by omega)
          obtain ⟨u1,u2⟩:=jW (n:=k.rm.1) (m:=k.rm.2) (by omega)
          have hst:((up k.rm.1 k.rm.2).toNat:Int)=up k.rm.1 k.rm.2:=gP (by omega)
          have hR':(Kd.row k m).rm.1=m * up k.rm.1 k.rm.2:=rfl
          have hRn:(m * up k.rm.1 k.rm.2).toNat=vs.length * (up k.rm.1 k.rm.2).toNat:=by
            have:m * up k.rm.1 k.rm.2=((vs.length * (up k.rm.1 k.rm.2).toNat:Nat):Int):=by rw [← hval.1]; push_cast; rw [hst]
            rw [this,dA]
          have hup:up k.rm.1 k.rm.2≤100000:=by
            have:1 * up k.rm.1 k.rm.2≤m * up k.rm.1 k.rm.2:=bX (by omega) (by omega)
            rw [hR'] at hrm
            omega
          have hRle:vs.length * (up k.rm.1 k.rm.2).toNat≤100000:=by rw [← hRn]; rw [hR'] at hrm; omega
          rw [hR',hRn]
          refine ⟨k,rfl,f1.ok,by omega,by omega,k.rm,rfl,c0,by omega,by omega,by omega,?_⟩
          generalize hS:(up k.rm.1 k.rm.2).toNat=S at *
          have ez:ds=(vs.zip ds).map (·.2):=by rw [List.map_snd_zip (by omega)]
          have een:yJ ds=((List.range (vs.zip ds).length).zip (vs.zip ds)).map fun p=>.tup [.int (0 + (p.1:Int)),p.2.2]:=by
            conv=>lhs; rw [ez]
            rw [yI]
          have hzl:(vs.zip ds).length=vs.length:=by rw [cQ]; omega
          show iY _ _ _ (yJ ds) _
          rw [een]
          refine zA _ (fun rest ρ => ∃ (i:Nat) (y4 y5:Sl),rest=((List.range (vs.zip ds).length).zip (vs.zip ds)).drop i∧i≤vs.length∧ρ=[.v (.tr (Kd.row k m).x),.v (.tr (.lst ds)),.v (.ol ((gL k.byt S 0 (vs.take i) (List.replicate (vs.length * S) 0)).map Dx.int)),.v (.tr (.int (up k.rm.1 k.rm.2))),y4,y5,.un,.un]) (fun ρ h => ?_) (fun a rest ρ Kn h hk => ?_) ⟨0,.un,.un,rfl,dB _,rfl⟩
          · obtain ⟨i, y4, y5, e, hi, rfl⟩ := h
            have hge:=List.drop_eq_nil_iff.mp e.symm
            rw [cQ,cB,hzl] at hge
            have:i=vs.length:=by omega
            subst this
            refine hD _ ⟨.v (.tr (.int (up k.rm.1 k.rm.2))),y4,y5,.un,.un,?_⟩
            simp only [Kd.byt]
            rw [List.take_length,hRn,hS]
          · obtain ⟨i, y4, y5, e, hi, rfl⟩ := h
            obtain ⟨e1,e2⟩:=eg_ e
            obtain ⟨e3,e4⟩:=tZ e1
            obtain ⟨e5,e6⟩:=cT.mp e4
            have hil:=(aK.mp e5).1
            have hva:=hval.2 a.2.1 (aS e5)
            have hia:=zF ha a.2 (aS e4)
            have bl:(k.byt a.2.1).length=k.rm.1.toNat:=Kd.byt_len hva
            have hmul:(i + 1) * S≤vs.length * S:=Nat.mul_le_mul_right _ hil
            rw [Nat.add_mul,Nat.one_mul] at hmul
            have hcast:(0 + (a.1:Int)) * up k.rm.1 k.rm.2=((i * S:Nat):Int):=by rw [e3,Int.zero_add,← hst]; push_cast; rfl
            have htl:(vs.take i).length=i:=by rw [cI]; omega
            refine ⟨rfl,⟨by omega,by omega⟩,k,a.2.1,a.2.2,rfl,hia,f1,hva,by omega,by omega,by omega,gL k.byt S 0 (vs.take i) (List.replicate (vs.length * S) 0),k.byt a.2.1,(0 + (a.1:Int)) * up k.rm.1 k.rm.2,rfl,rfl,by rw [hcast]; omega,by rw [hcast,ek_,aG,bl]; omega,by rw [ek_,aG]; exact hRle,hk _ ⟨i + 1,.v (.tr (.int (0 + (a.1:Int)))),.v (.tr a.2.2),e2,hil,?_⟩⟩
            rw [hcast,dA,cx_ e5,io_,htl,iS]
            rfl
        | _=>simp [Kd.Val] at hval
      | rcd fs =>
        cases vd with
        | rcd vs =>
          have hdp':eV fs + 1≤n + 1:=hdp
          obtain ⟨f1,f2,f3,hnd⟩:=hfit
          simp only [Kd.Val] at hval
          simp only [Kd.isv] at hi
          obtain ⟨kvs,rfl,hl,hks,ha⟩:=hi
          have hvl:=dt_ hval
          have hok:=hb_ fs f1
          have hb:=aHu (n:=n) hok (by omega) (by omega)
          have hRms:Rms (rmF fs):=fun r hr=>⟨(hb r hr).1,by have:=(hb r hr).2.2.1; omega⟩
          obtain ⟨x0,x1⟩:=lB hb
          obtain ⟨u1,u2⟩:=jW (n:=cK 0 (rmF fs)) (m:=maxL 1 ((rmF fs).map (·.2))) (by omega)
          have hR':(Kd.rcd fs).rm.1=up (cK 0 (rmF fs)) (maxL 1 ((rmF fs).map (·.2))):=rfl
          have hlr:(rmF fs).length=fs.length:=xJ fs
          have hpl:(eF 0 (rmF fs)).length=fs.length:=by rw [cz_,hlr]
          refine ⟨fs,rfl,hok,by omega,by omega,by omega,?_⟩
          have exf:xF fs=(fs.zip vs).map fun p=>.tup [.str p.1.1,p.1.2.x]:=by
            rw [y_]
            have:fs=(fs.zip vs).map (·.1):=by rw [List.map_fst_zip (by omega)]
            conv=>lhs; rw [this]
            rw [cX]
            rfl
          show iY _ _ _ (iC (xF fs) ((fs.zip (eF 0 (rmF fs))).map fun x=>.tup [.str x.1.1,.int x.2])) _
          rw [exf,eb_]
          have hzl:((fs.zip vs).zip (fs.zip (eF 0 (rmF fs)))).length=fs.length:=by rw [cQ,cQ,cQ]; omega
          refine zA _ (fun rest ρ => ∃ (i:Nat) (y6 y7:Sl),rest=((fs.zip vs).zip (fs.zip (eF 0 (rmF fs)))).drop i∧i≤fs.length∧ρ=[.v (.tr (Kd.rcd fs).x),.v (.tr (.dic kvs)),.v (.ol ((gD ((eF 0 (rmF fs)).take i) (fs.take i) (vs.take i) (List.replicate (Kd.rcd fs).rm.1.toNat 0)).map Dx.int)),.un,.un,.un,y6,y7]) (fun ρ h => ?_) (fun a rest ρ Kn h hk => ?_) ⟨0,.un,.un,rfl,dB _,by simp only [List.take_zero,gD]; rfl⟩
          · obtain ⟨i, y6, y7, e, hi, rfl⟩ := h
            have hge:=List.drop_eq_nil_iff.mp e.symm
            rw [hzl] at hge
            have:i=fs.length:=by omega
            subst this
            refine hD _ ⟨.un,.un,.un,y6,y7,?_⟩
            simp only [Kd.byt]
            have t1:(eF 0 (rmF fs)).take fs.length=eF 0 (rmF fs):=gZ (by omega)
            have t2:vs.take fs.length=vs:=gZ (by omega)
            rw [t1,t2,List.take_length]
            rfl
          · obtain ⟨i, y6, y7, e, hi, rfl⟩ := h
            obtain ⟨e1,e2⟩:=eg_ e
            obtain ⟨e3,e4⟩:=cT.mp e1
            obtain ⟨e5,e6⟩:=cT.mp e3
            obtain ⟨e7,e8⟩:=cT.mp e4
            have hil:=(aK.mp e5).1
            obtain ⟨x,hx,hix⟩:=xQ ha (aS e3)
            obtain ⟨o1,o2,o3⟩:=wL hok hval (aS e3)
            have ff:=(mQ f1 (aS e5)).1
            obtain ⟨l1,l2⟩:=fq_ (e:=0) hRms (lX e5) e8
            have bl:(a.1.1.2.byt a.1.2).length=a.1.1.2.rm.1.toNat:=Kd.byt_len o2
            have hb0:=(hb _ (aS (lX e5))).1
            have hk':=hk [.v (.tr (Kd.rcd fs).x),.v (.tr (.dic kvs)),.v (.ol ((gD ((eF 0 (rmF fs)).take (i + 1)) (fs.take (i + 1)) (vs.take (i + 1)) (List.replicate (Kd.rcd fs).rm.1.toNat 0)).map Dx.int)),.un,.un,.un,.v (.tr (.tup [.str a.1.1.1,a.1.1.2.x])),.v (.tr (.tup [.str a.2.1.1,.int a.2.2]))] ⟨i + 1,_,_,e2,hil,rfl⟩
            rw [cx_ e5,cx_ e6,cx_ e8,sT (by rw [cI,cI]; omega) (by rw [cI,cI]; omega)] at hk'
            simp only [fJ,fY,xIf,xB,xOp,eE,oQ,xC,iX,iQ,aNe,fG,iG,cU,fA,wG,tL,wF,ixX,dgX,aFw,eqX,eqS,gxT,gxs,kL,fI,eI,fH,cu_,ct_,lC,lT,lR,lQ,lP,lO,lN,lM,lL,lK,lJ,lG,lF,lE,bB,bE,cA,bV,Sv.d,aP,bM,cZ,cL,bK,aY,aL,bG,aX,bU,Nat.reduceAdd,Nat.reduceSub,Nat.reduceLeDiff,true_and,decide_eq_true_eq,cut,hY,back,cY,if_true,↓reduceIte,cM,dD,vD,hx,Kd.x]
            exact ⟨a.1.1.2,a.1.2,x,rfl,hix,ff,o2,by omega,by omega,by omega,_,_,a.2.2,rfl,rfl,l2,by rw [gn_,aG,bl]; omega,by rw [gn_,aG]; omega,hk'⟩
        | _=>simp [Kd.Val] at hval
      | cho ks =>
        cases vd with
        | cho jj v =>
          have hdp':eY ks + 1≤n + 1:=hdp
          have hf':=hfit
          obtain ⟨f1,f2,f3⟩:=hfit
          have hval':=hval
          simp only [Kd.Val] at hval
          simp only [Kd.isv] at hi
          obtain ⟨u,rfl,ha⟩:=hi
          obtain ⟨k,hk,hik⟩:=w4 ha
          obtain ⟨kf,kdp⟩:=kQ f1 (aS hk)
          have hvk:=aDs hval hk
          have hok:=vM ks f1
          have hb:=aAn (n:=n) hok (by omega) (by omega)
          obtain ⟨x0,x1⟩:=lB hb
          have hrk:k.rm∈rmK ks:=aS (uB hk)
          have hl1:k.rm.1≤maxL 0 ((rmK ks).map (·.1)):=il_ (dM hrk)
          obtain ⟨u1,u2⟩:=jW (n:=up 1 (maxL 1 ((rmK ks).map (·.2))) + maxL 0 ((rmK ks).map (·.1))) (m:=maxL 1 ((rmK ks).map (·.2))) (by omega)
          rw [lV x0] at u1 u2
          have hk0:=(hb _ hrk).1
          have bl:(k.byt v).length=k.rm.1.toNat:=Kd.byt_len hvk
          have eR:(Kd.cho ks).rm.1=up (maxL 1 ((rmK ks).map (·.2)) + maxL 0 ((rmK ks).map (·.1))) (maxL 1 ((rmK ks).map (·.2))):=by show up (up 1 _ + _) _=_; rw [lV x0]
          have eM:(Kd.cho ks).rm.2=maxL 1 ((rmK ks).map (·.2)):=rfl
          have eu:up 1 (Kd.cho ks).rm.2=(Kd.cho ks).rm.2:=by rw [eM]; exact lV x0
          have hxk:(xK ks)[jj]? = some k.x:=by rw [yQ,cE,hk]; rfl
          have hat:=fj_ hxk
          have hlen:((List.replicate (Kd.cho ks).rm.1.toNat (0:Int)).map Dx.int).length=(Kd.cho ks).rm.1.toNat:=by rw [aE,aG]
          have hix:ixN ((List.replicate (Kd.cho ks).rm.1.toNat (0:Int)).map Dx.int).length 0=some 0:=by rw [v6 (by decide) (by rw [hlen]; omega)]; rfl
          refine ⟨rfl,?_⟩
          simp only [fJ,fY,xIf,xB,xOp,eE,oQ,xC,iX,iQ,aNe,fG,iG,cU,fA,wG,tL,wF,ixX,dgX,aFw,eqX,eqS,gxT,gxs,kL,fI,eI,fH,cu_,ct_,lC,lT,lR,lQ,lP,lO,lN,lM,lL,lK,lJ,lG,lF,lE,bB,bE,cA,bV,Sv.d,aP,bM,cZ,cL,bK,aY,aL,bG,aX,bU,Nat.reduceAdd,Nat.reduceSub,Nat.reduceLeDiff,true_and,decide_eq_true_eq,cut,hY,back,cY,if_true,↓reduceIte,cM,dD,hix,hat,Kd.x]
          refine ⟨.cho ks,rfl,hf'.ok,hdp,hn,(Kd.cho ks).rm.2,rfl,by rw [eM]; omega,by rw [eM]; omega,k,v,u,rfl,hik,kf,hvk,by omega,by omega,by omega,(List.replicate (Kd.cho ks).rm.1.toNat (0:Int)).set 0 (jj:Int),k.byt v,up 1 (Kd.cho ks).rm.2,by rw [List.map_set],rfl,by rw [eu,eM]; omega,by rw [eu,eM,bl,bF,aG]; omega,by rw [bF,aG]; omega,hD _ ⟨.un,.un,.un,.un,.un,?_⟩⟩
          simp only [Kd.byt]
          rw [hp_ hk]
          rfl
        | _=>simp [Kd.Val] at hval
end
def gPL (K:dH):GC:=fun ds Q => ∃ (ns:List Int) (k:Int),ds=[.scr K ns,.int k]∧0≤k∧k < 2 ^ 20∧∀ l,PoolX (31 * k) l→Q (.ol l)
section
variable {P:Program} {w:World} {K:dH} {mg:gO} {base:Heap} {f:Addr} {fd:FuncData}
theorem aPb (F:Fun K "_law_pool" "_law_pool" gv_ f fd) (m_len:mg "len" = none):FnOk P w K mg base CX0 1 f fd ["script", "k"] (spX (gPL K)):=by
  refine jU F kD (fun ds Q h=>by obtain ⟨ns,k,rfl,_⟩:=h; rfl) (by decide) fun cdv A outer s H E hr => ?_
  have hu1:=oD hr
  have hu0:=bN hu1
  refine ⟨_,(dR (gQ fun F=>fS (i:=2) kD.nd rfl (Or.inl rfl) (XE.at (Ex:=cC) F cO))
    (dR (iP (jS rV rT (aZ (pv 1)) (mK (wE K) aAd (by rfl) m_len PySem.boot_len (bC (aZ (pv 0)) cD)) (cH _)) (dY (gQ fun F=>fS (i:=2) kD.nd rfl (Or.inl rfl) (XE.at (Ex:=cC) F (aNa K (aZ (pv 0)) (aZ (pv 1)) (fun _ _=>rfl))))) jF)
    (dR (iP (jS aFl aFe (aZ (pv 2)) (aDl cO cO) (cH _)) (dY (gA (qG (bC (hd_ (aZ (pv 2)) (aDl cO cO)) (bC cO (bC cO cD)))))) jF)
    (dY (gA (qG (bC (aZ (pv 2)) (bC cO (bC (cw_ cO (aZ (pv 1))) cD))))))))),fun ds Q h => ?_⟩
  obtain ⟨ns,k,rfl,h0,h1,q⟩:=h
  have cp:aRm 10 18:=⟨by decide,by decide,by decide⟩
  refine mG ?_
  change fJ _ _ [.v (.tr (.scr K ns)),.v (.tr (.int k)),.v (.tr (.int 0))] _
  refine dm_ (fun ρ => ∃ c:Int,ρ=[.v (.tr (.scr K ns)),.v (.tr (.int k)),.v (.tr (.int c))]) ?_ (fun D' hD => ?_)
  · rintro ρ' ⟨c, rfl⟩
    refine ⟨cp,?_⟩
    refine mY (fun c2 => ?_) (fun c2 => ?_)
    · exact ⟨cp,aBt (by show 3≤1000000; decide),q _ ⟨_,_,_,rfl,by omega,by omega⟩⟩
    · exact ⟨⟨by decide,by omega⟩,aBt (by show 3≤1000000; decide),q _ ⟨_,_,_,rfl,by omega,by omega⟩⟩
  · refine ⟨rfl, ?_⟩
    refine mY (fun c => ?_) (fun c=>hD _ ⟨0,rfl⟩)
    have c':=of_decide_eq_true c
    obtain ⟨v,hv,_⟩:=aRf (l:=ns) h0 c'
    refine ⟨rfl,?_⟩
    rw [hv]
    exact hD _ ⟨v,rfl⟩
end
def AtP (xs:List Int) (p:Nat) (ys:List Int):Prop:=p + ys.length≤xs.length∧∀ i,i < ys.length→xs.getD (p + i) 0=ys.getD i 0
theorem AtP.trans {xs ys zs:List Int} {p q:Nat} (h:AtP xs p ys) (h':AtP ys q zs):AtP xs (p + q) zs:=⟨by have:=h.1; have:=h'.1; omega,fun i hi=>by rw [Nat.add_assoc,h.2 (q + i) (by have:=h'.1; omega),h'.2 i hi]⟩
theorem AtP.self (xs:List Int):AtP xs 0 xs:=⟨by omega,fun i _=>by rw [iS]⟩
theorem AtP.cut {xs ys:List Int} {p:Nat} (h:AtP xs p ys):(xs.drop p).take ys.length=ys:=by
  have h1:=h.1
  refine fO fun i => ?_
  by_cases hi:i < ys.length
  · have := h.2 i hi
    rw [List.getElem?_take_of_lt hi,List.getElem?_drop,aD (by omega),aD hi]
    rw [aM,aM,aD (by omega),aD hi] at this
    exact congrArg some this
  · rw [bQ (by rw [cI]; omega),bQ (by omega)]
theorem u_ {l s:List Int} {p:Nat} (h:p + s.length≤l.length):AtP (lay l p s) p s:=⟨by rw [dy_]; exact h,fun i hi=>by rw [oA (by omega),if_pos (by omega),fM]⟩
theorem aHv {k:Kd} {m:Int} {vs:List Vd} {t:Nat} {v:Vd} (hf:(Kd.row k m).Fit) (hv:(Kd.row k m).Val (.row vs)) (h:vs[t]? = some v):AtP ((Kd.row k m).byt (.row vs)) (t * (up k.rm.1 k.rm.2).toNat) (k.byt v):=by
  obtain ⟨f1,f2,f3⟩:=hf
  simp only [Kd.Val] at hv
  obtain ⟨c0,c1,c2,c3⟩:=k.bd f1.ok
  obtain ⟨u1,u2⟩:=jW (n:=k.rm.1) (m:=k.rm.2) (by omega)
  have hst:((up k.rm.1 k.rm.2).toNat:Int)=up k.rm.1 k.rm.2:=gP (by omega)
  have hRn:(m * up k.rm.1 k.rm.2).toNat=vs.length * (up k.rm.1 k.rm.2).toNat:=by
    have:m * up k.rm.1 k.rm.2=((vs.length * (up k.rm.1 k.rm.2).toNat:Nat):Int):=by rw [← hv.1]; push_cast; rw [hst]
    rw [this,dA]
  have htl:=(aK.mp h).1
  have hva:=hv.2 v (aS h)
  have bl:∀ u∈vs,(k.byt u).length≤(up k.rm.1 k.rm.2).toNat:=fun u hu=>by rw [Kd.byt_len (hv.2 u hu)]; omega
  have hmul:(t + 1) * (up k.rm.1 k.rm.2).toNat≤vs.length * (up k.rm.1 k.rm.2).toNat:=Nat.mul_le_mul_right _ htl
  rw [Nat.add_mul,Nat.one_mul] at hmul
  have b2:=bl v (aS h)
  simp only [Kd.byt]
  rw [hRn]
  refine ⟨by rw [ek_,aG]; omega,fun i hi => ?_⟩
  have:=pO k.byt (up k.rm.1 k.rm.2).toNat vs 0 (List.replicate (vs.length * (up k.rm.1 k.rm.2).toNat) 0) (t * (up k.rm.1 k.rm.2).toNat + i) t v bl h (by rw [iS]; omega) (by rw [iS]; omega) (by rw [aG]; omega)
  rw [this,iS,fM]
theorem yY:∀ {fs:List (Str×Kd)} {vs:List Vd} {e:Int} {l:List Int} {t:Nat} {f:Str×Kd} {v:Vd} {p:Int},Rms (rmF fs)→0≤e→fB fs vs→fs[t]? = some f→vs[t]? = some v→(eF e (rmF fs))[t]? = some p→cK e (rmF fs)≤(l.length:Int)→AtP (gD (eF e (rmF fs)) fs vs l) p.toNat (f.2.byt v)
  | [],_,_,_,_,_,_,_,_,_,_,h,_,_,_=>by simp at h
  | g :: r,[],_,_,_,_,_,_,_,_,h,_,_,_,_=>by simp [fB] at h
  | g :: r, u :: vs, e, l, t, f, v, p, hR, he, hv, h1, h2, h3, hl => by
    simp only [fB] at hv
    have e0:rmF (g :: r)=g.2.rm :: rmF r:=rfl
    rw [e0] at hR h3 hl ⊢
    have hR':Rms (rmF r):=fun x hx=>hR x (aC _ hx)
    obtain ⟨c0,c1⟩:=hR _ aB
    obtain ⟨u1,u2⟩:=jW (n:=e) (m:=g.2.rm.2) c1
    have hge:=ds_ (rs:=rmF r) (e:=up e g.2.rm.2 + g.2.rm.1) hR'
    have hl':cK (up e g.2.rm.2 + g.2.rm.1) (rmF r)≤(l.length:Int):=hl
    have bl:(g.2.byt u).length=g.2.rm.1.toNat:=Kd.byt_len hv.1
    show AtP (gD (up e g.2.rm.2 :: eF (up e g.2.rm.2 + g.2.rm.1) (rmF r)) (g :: r) (u :: vs) l) p.toNat (f.2.byt v)
    simp only [gD]
    cases t with
    | zero =>
      simp at h1 h2
      subst h1 h2
      have h3':some (up e g.2.rm.2)=some p:=h3
      cases h3'
      have hlay:AtP (lay l (up e g.2.rm.2).toNat (g.2.byt u)) (up e g.2.rm.2).toNat (g.2.byt u):=u_ (by omega)
      refine ⟨by rw [gn_]; exact hlay.1,fun i hi => ?_⟩
      rw [sU r _ vs _ _ fun q hq => ?_]
      · exact hlay.2 i hi
      · obtain ⟨n, hn⟩ := eC hq
        have hn':n < (rmF r).length:=by
          have:=(aK.mp hn).1
          rwa [cz_] at this
        have:=(fq_ (e:=up e g.2.rm.2 + g.2.rm.1) hR' (aD hn') hn).2
        omega
    | succ t =>
      exact yY (e:=up e g.2.rm.2 + g.2.rm.1) (l:=lay l (up e g.2.rm.2).toNat (g.2.byt u)) hR' (by omega) hv.2 (by simpa using h1) (by simpa using h2) (by simpa [eF] using h3) (by rw [dy_]; exact hl')
theorem aRd {fs:List (Str×Kd)} {vs:List Vd} {t:Nat} {f:Str×Kd} {v:Vd} {p:Int} (hf:(Kd.rcd fs).Fit) (hv:(Kd.rcd fs).Val (.rcd vs)) (h1:fs[t]? = some f) (h2:vs[t]? = some v) (h3:(eF 0 (rmF fs))[t]? = some p):AtP ((Kd.rcd fs).byt (.rcd vs)) p.toNat (f.2.byt v):=by
  obtain ⟨f1,f2,f3,hnd⟩:=hf
  simp only [Kd.Val] at hv
  have hok:=hb_ fs f1
  have hb:∀ r∈rmF fs,0≤r.1∧1≤r.2:=fun r hr=>by
    obtain ⟨i,hi⟩:=eC hr
    have hil:i < fs.length:=by have:=(aK.mp hi).1; rwa [xJ fs] at this
    have:=lX (aD hil)
    rw [this] at hi
    cases hi
    obtain ⟨c0,c1,c2,c3⟩:=(fs[i]).2.bd (mQ f1 (List.getElem_mem hil)).1.ok
    exact ⟨by omega,by omega⟩
  have hRms:Rms (rmF fs):=fun r hr=>⟨(hb r hr).1,by have:=(hb r hr).2; omega⟩
  have x0:1≤maxL 1 ((rmF fs).map (·.2)):=hf_ _
  obtain ⟨u1,u2⟩:=jW (n:=cK 0 (rmF fs)) (m:=maxL 1 ((rmF fs).map (·.2))) (by omega)
  simp only [Kd.byt]
  have hR':(kE (rmF fs)).1=up (cK 0 (rmF fs)) (maxL 1 ((rmF fs).map (·.2))):=rfl
  exact yY hRms (by decide) hv h1 h2 h3 (by rw [aG,hR']; omega)
theorem aRe {ks:List Kd} {j:Nat} {k:Kd} {v:Vd} (hf:(Kd.cho ks).Fit) (hk:ks[j]? = some k) (hv:k.Val v):AtP ((Kd.cho ks).byt (.cho j v)) (up 1 (Kd.cho ks).rm.2).toNat (k.byt v)∧((Kd.cho ks).byt (.cho j v))[0]? = some (j:Int):=by
  obtain ⟨f1,f2,f3⟩:=hf
  obtain ⟨kf,kdp⟩:=kQ f1 (aS hk)
  have x0:1≤maxL 1 ((rmK ks).map (·.2)):=hf_ _
  have hrk:k.rm∈rmK ks:=aS (uB hk)
  have hl1:k.rm.1≤maxL 0 ((rmK ks).map (·.1)):=il_ (dM hrk)
  obtain ⟨u1,u2⟩:=jW (n:=up 1 (maxL 1 ((rmK ks).map (·.2))) + maxL 0 ((rmK ks).map (·.1))) (m:=maxL 1 ((rmK ks).map (·.2))) (by omega)
  rw [lV x0] at u1 u2
  obtain ⟨c0,c1,c2,c3⟩:=k.bd kf.ok
  have bl:(k.byt v).length=k.rm.1.toNat:=Kd.byt_len hv
  have eR:(hZ (rmK ks)).1=up (maxL 1 ((rmK ks).map (·.2)) + maxL 0 ((rmK ks).map (·.1))) (maxL 1 ((rmK ks).map (·.2))):=by show up (up 1 _ + _) _=_; rw [lV x0]
  have eM:(hZ (rmK ks)).2=maxL 1 ((rmK ks).map (·.2)):=rfl
  have eu:up 1 (hZ (rmK ks)).2=maxL 1 ((rmK ks).map (·.2)):=by rw [eM]; exact lV x0
  simp only [Kd.byt]
  rw [hp_ hk]
  show AtP (lay _ (up 1 (hZ (rmK ks)).2).toNat _) (up 1 (hZ (rmK ks)).2).toNat (k.byt v)∧_
  refine ⟨u_ (by rw [eu,bl,bF,aG,eR]; omega),?_⟩
  rw [gi_,eQ (by rw [aG,eR]; omega),Option.map_some,if_neg (by rw [eu]; omega)]
theorem vA {Pp:Int→Prop} {l s:List Int} {p:Nat} (hl:∀ b∈l,Pp b) (hs:∀ b∈s,Pp b):∀ b∈lay l p s,Pp b:=fun b hb=>by
  obtain ⟨i,hi⟩:=eC hb
  rw [gi_] at hi
  obtain ⟨c,h1,h2⟩:=eP.mp hi
  by_cases hc:p≤i∧i < p + s.length
  · rw [if_pos hc, aM, aD (by omega)] at h2
    rw [← h2]
    exact hs _ (List.getElem_mem _)
  · rw [if_neg hc] at h2
    rw [← h2]
    exact hl _ (aS h1)
theorem pP {Pp:Int→Prop} (f:Vd→List Int) (st:Nat):∀ (vs:List Vd) (j:Nat) (l:List Int),(∀ b∈l,Pp b)→(∀ v∈vs,∀ b∈f v,Pp b)→∀ b∈gL f st j vs l,Pp b
  | [],_,_,hl,_=>hl
  | v :: r,j,l,hl,hv=>pP f st r (j + 1) _ (vA hl (hv v aB)) fun u hu=>hv u (aC _ hu)
theorem hs_ {n:Nat}:∀ b∈List.replicate n (0:Int),0≤b∧b < 256:=fun b hb=>by rw [(iL.mp hb).2]; decide
mutual
theorem oG:∀ (kd:Kd) (v:Vd),kd.Fit→kd.Val v→∀ b∈kd.byt v,0≤b∧b < 256
  | .num w m,.num n,_,_=>by simp only [Kd.byt]; exact gy_ _ _
  | .row k m, .row vs, hf, hv => by
    simp only [Kd.byt]
    simp only [Kd.Val] at hv
    exact pP _ _ _ _ _ hs_ fun v hm=>oG k v hf.1 (hv.2 v hm)
  | .rcd fs, .rcd vs, hf, hv => by
    simp only [Kd.byt]
    simp only [Kd.Val] at hv
    exact yX fs vs hf.1 hv _ _ hs_
  | .cho ks, .cho j v, hf, hv => by
    simp only [Kd.byt]
    simp only [Kd.Val] at hv
    obtain ⟨k,hk,_⟩:=en_ hv
    have hj:=(aK.mp hk).1
    have h6:=hf.2.2
    refine vA (fun b hb => ?_) (yW ks j v hf.1 hv)
    rcases List.mem_or_eq_of_mem_set hb with h | h
    · exact hs_ b h
    · rw [h]; omega
  | .num _ _,.row _,_,hv=>by simp [Kd.Val] at hv
  | .num _ _,.rcd _,_,hv=>by simp [Kd.Val] at hv
  | .num _ _,.cho _ _,_,hv=>by simp [Kd.Val] at hv
  | .row _ _,.num _,_,hv=>by simp [Kd.Val] at hv
  | .row _ _,.rcd _,_,hv=>by simp [Kd.Val] at hv
  | .row _ _,.cho _ _,_,hv=>by simp [Kd.Val] at hv
  | .rcd _,.num _,_,hv=>by simp [Kd.Val] at hv
  | .rcd _,.row _,_,hv=>by simp [Kd.Val] at hv
  | .rcd _,.cho _ _,_,hv=>by simp [Kd.Val] at hv
  | .cho _,.num _,_,hv=>by simp [Kd.Val] at hv
  | .cho _,.row _,_,hv=>by simp [Kd.Val] at hv
  | .cho _,.rcd _,_,hv=>by simp [Kd.Val] at hv
theorem yX:∀ (fs:List (Str×Kd)) (vs:List Vd),mH fs→fB fs vs→∀ (ps l:List Int),(∀ b∈l,0≤b∧b < 256)→∀ b∈gD ps fs vs l,0≤b∧b < 256
  | [],vs,_,_,ps,l,hl=>by simp only [gD]; exact hl
  | f :: r,[],_,_,ps,l,hl=>by simp only [gD]; exact hl
  | f :: r,v :: vs,_,_,[],l,hl=>by simp only [gD]; exact hl
  | f :: r, v :: vs, hf, hv, p :: ps, l, hl => by
    simp only [gD]
    simp only [fB] at hv
    exact yX r vs hf.2 hv.2 ps _ (vA hl (oG f.2 v hf.1.2 hv.1))
theorem yW:∀ (ks:List Kd) (j:Nat) (v:Vd),mZ ks→jH ks j v→∀ b∈qI ks j v,0≤b∧b < 256
  | [],_,_,_,h=>by simp [jH] at h
  | k :: r,0,v,hf,hv=>by simp only [qI]; simp only [jH] at hv; exact oG k v hf.1 hv
  | k :: r,j + 1,v,hf,hv=>by simp only [qI]; simp only [jH] at hv; exact yW r j v hf.2 hv
end
def fZ:List Int→Int
  | []=>0
  | b :: r=>b + 256 * fZ r
theorem rX:∀ (w:Nat) (n:Int),0≤n→n < 256 ^ w→fZ (jV w n)=n
  | 0,n,h0,h1=>by simp at h1; show (0:Int)=n; omega
  | w + 1, n, h0, h1 => by
    show n % 256 + 256 * fZ (jV w (n / 256))=n
    rw [rX w (n / 256) (Int.ediv_nonneg h0 (by decide)) (Int.ediv_lt_of_lt_mul (by decide) (by rw [iV] at h1; exact h1))]
    omega
theorem tN:∀ {fs:List (Str×Kd)} {vs:List Vd} {i:Nat} {f:Str×Kd} {v:Vd},fB fs vs→fs[i]? = some f→vs[i]? = some v→f.2.Val v
  | [],_,_,_,_,_,h,_=>by simp at h
  | g :: r,[],_,_,_,h,_,_=>by simp [fB] at h
  | g :: r,u :: vs,0,f,v,h,h1,h2=>by simp only [fB] at h; simp at h1 h2; subst h1 h2; exact h.1
  | g :: r,u :: vs,i + 1,f,v,h,h1,h2=>by simp only [fB] at h; exact tN h.2 (by simpa using h1) (by simpa using h2)
theorem aNg {fs:List (Str×Kd)} {vs:List Vd} {p:Key×Dx} (hl:vs.length=fs.length) (h:p∈vxF fs vs):∃ (i:Nat) (f:Str×Kd) (v:Vd),fs[i]? = some f∧vs[i]? = some v∧p=(Sum.inr f.1,f.2.vx v):=by
  rw [nO] at h
  obtain ⟨q,h1,h2⟩:=cN.mp h
  obtain ⟨i,hi⟩:=eC h1
  obtain ⟨a,b⟩:=cT.mp hi
  exact ⟨i,q.1,q.2,a,b,h2.symm⟩
theorem oS {fs:List (Str×Kd)} {vs:List Vd} (hl:vs.length=fs.length):(vxF fs vs).length=fs.length:=by rw [nO,aE,cQ]; omega
theorem n9 {w m:Int} {v:Vd} (h:(Kd.num w m).Val v):∃ i,v=.num i∧0≤i∧i < 256 ^ w.toNat:=by
  cases v with
  | num i=>simp only [Kd.Val] at h; exact ⟨i,rfl,h⟩
  | _=>simp [Kd.Val] at h
theorem n5 {k:Kd} {m:Int} {v:Vd} (h:(Kd.row k m).Val v):∃ vs,v=.row vs∧(vs.length:Int)=m∧∀ u∈vs,k.Val u:=by
  cases v with
  | row vs=>simp only [Kd.Val] at h; exact ⟨vs,rfl,h⟩
  | _=>simp [Kd.Val] at h
theorem n6 {fs:List (Str×Kd)} {v:Vd} (h:(Kd.rcd fs).Val v):∃ vs,v=.rcd vs∧fB fs vs:=by
  cases v with
  | rcd vs=>simp only [Kd.Val] at h; exact ⟨vs,rfl,h⟩
  | _=>simp [Kd.Val] at h
theorem n_ {ks:List Kd} {v:Vd} (h:(Kd.cho ks).Val v):∃ j u k,v=.cho j u∧ks[j]? = some k∧k.Val u:=by
  cases v with
  | cho j u=>simp only [Kd.Val] at h; obtain ⟨k,h1,h2⟩:=en_ h; exact ⟨j,u,k,rfl,h1,h2⟩
  | _=>simp [Kd.Val] at h
theorem it_ {g:GC} {u:XA} {ρ:En} {Q:Sv→En→Prop} (h:u ρ fun ss ρ'=>g (ss.map Sv.d) fun s=>Q s ρ'):fG g u ρ Q:=h
theorem fi_ {t:XT} {u:XA} {ρ:En} {Q:List Sv→En→Prop} (h:t ρ fun s ρ1=>u ρ1 fun ss ρ2=>Q (s :: ss) ρ2):cU t u ρ Q:=h
theorem x5 {g:G2} {ta tb:XT} {ρ:En} {Q:Sv→En→Prop} (h:ta ρ fun a ρ1=>tb ρ1 fun b ρ2=>g a.d b.d fun s=>Q s ρ2):xOp g ta tb ρ Q:=h
theorem o0 {i:Nat} {s:Sv} {ρ:En} {Q:Sv→En→Prop} {d:Dx} (hi:ρ[i]? = some (.v s)) (hs:s.d=d) (h:Q (.tr d) (ρ.set i (.v (.tr d)))):eE i ρ Q:=by
  subst hs
  exact el_ hi h
def gIB:GC:=fun ds Q => ∃ b:Int,ds=[.int b]∧0≤b∧b < 256∧Q (.tr (.bl true))
def gAB:GC:=fun ds Q => ∃ xs:List Int,ds=[.lst (xs.map Dx.int),.int (xs.length:Int)]∧(∀ b∈xs,0≤b∧b < 256)∧xs.length≤100000∧Q (.tr (.bl true))
def gNA:GC:=fun ds Q => ∃ (w p i:Int) (xs:List Int),ds=[.int w,.lst (xs.map Dx.int),.int p]∧0≤w∧w≤8∧0≤p∧0≤i∧i < 256 ^ w.toNat∧AtP xs p.toNat (jV w.toNat i)∧Q (.tr (.int i))
def gVT (n:Nat):GC:=fun ds Q => ∃ (kd:Kd) (vd:Vd) (xs:List Int) (p:Int),ds=[kd.x,.lst (xs.map Dx.int),.int p]∧kd.Fit∧kd.Val vd∧kd.deep≤n∧n≤12∧0≤p∧xs.length≤100000∧AtP xs p.toNat (kd.byt vd)∧Q (kd.vx vd).own
def gRD (n:Nat):GC:=fun ds Q => ∃ (fs:List (Str×Kd)) (vs:List Vd) (xs:List Int) (p:Int),ds=[.lst (xF fs),.lst (xs.map Dx.int),.int p]∧(Kd.rcd fs).Fit∧(Kd.rcd fs).Val (.rcd vs)∧eV fs≤n∧n≤12∧0≤p∧xs.length≤100000∧AtP xs p.toNat ((Kd.rcd fs).byt (.rcd vs))∧Q (.od (vxF fs vs))
def gCH (n:Nat):GC:=fun ds Q => ∃ (ks:List Kd) (jj:Nat) (v:Vd) (xs:List Int) (p:Int),ds=[(Kd.cho ks).x,.lst (xs.map Dx.int),.int p]∧(Kd.cho ks).Fit∧(Kd.cho ks).Val (.cho jj v)∧eY ks≤n∧n≤11∧0≤p∧xs.length≤100000∧AtP xs p.toNat ((Kd.cho ks).byt (.cho jj v))∧Q (.tr ((Kd.cho ks).vx (.cho jj v)))
theorem u0:∀ {l:List Int},(∀ b∈l,0≤b∧b < 256)→0≤fZ l∧fZ l < 256 ^ l.length
  | [],_=>by decide
  | b :: r, h => by
    obtain ⟨h1,h2⟩:=h b aB
    obtain ⟨h3,h4⟩:=u0 (l:=r) fun x hx=>h x (aC _ hx)
    show 0≤b + 256 * fZ r∧b + 256 * fZ r < 256 ^ (r.length + 1)
    rw [iV]
    omega
theorem aQx {xs ys:List Int} {p w:Int} (h:AtP xs p.toNat ys) (hp:0≤p) (hw:w.toNat=ys.length) (hw0:0≤w):nE (xs.map Dx.int) (some p) (some (p + w))=ys.map Dx.int:=by
  have h1:=h.1
  unfold nE
  have e1:p=((p.toNat:Nat):Int):=by omega
  have e2:p + w=((p.toNat + ys.length:Nat):Int):=by omega
  rw [e2,e1,HT.sIx_nat,HT.sIx_nat,aE,Nat.min_eq_left (by omega),Nat.min_eq_left (by omega),← List.map_drop,← List.map_take,dA,fM,h.cut]
section
variable {P:Program} {w:World} {K:dH} {mg:gO} {base:Heap} {f:Addr} {fd:FuncData} {n j jR jP:Nat}
theorem aPm (F:Fun K "is_byte" "is_byte" id_ f fd) (CIW:Cal P w K mg base 1 "is_whole" ["thing"] (spX gIW)) (c_HOW_MANY_BYTES:∃ t,mg "HOW_MANY_BYTES" = some (.int 256 t)):FnOk P w K mg base CX0 2 f fd ["thing"] (spX gIB):=by
  refine jU F b_ (fun ds Q h=>by obtain ⟨_,rfl,_⟩:=h; rfl) (by decide) fun cdv A outer s H E hr => ?_
  refine ⟨_,(dY (gA (ex_ (eU CIW (hr.mono (by omega)) (bC (aZ (pv 0)) cD)) (fb_ (aDm aFk aFd rV rT cO (aZ (pv 0)) (hv_ (by rfl) c_HOW_MANY_BYTES)))))),fun ds Q h => ?_⟩
  obtain ⟨b,rfl,h0,h1,q⟩:=h
  refine ⟨b,rfl,?_⟩
  show if true=true then _ else _
  rw [if_pos rfl]
  show if decide (0≤b)=true then _ else _
  rw [if_pos (decide_eq_true h0)]
  show Q (.tr (.bl (decide (b < 256))))
  rw [decide_eq_true h1]
  exact q
theorem aPr (F:Fun K "are_bytes" "are_bytes" et_ f fd) (CIB:Cal P w K mg base 2 "is_byte" ["thing"] (spX gIB)) (m_isinstance:mg "isinstance" = none) (m_list:mg "list" = none) (m_len:mg "len" = none) (m_all:mg "all" = none):FnOk P w K mg base CX0 3 f fd ["thing", "how_many"] (spX gAB):=by
  refine jU F tW (fun ds Q h=>by obtain ⟨_,rfl,_⟩:=h; rfl) (by decide) fun cdv A outer s H E hr => ?_
  have hu1:=oD hr
  have hu0:=bN hu1
  refine ⟨_,(dR (iP (XW.pt (ht_ (wC (qY (zC .list m_isinstance (aZ (pv 0)) (qZ (v:=.ty "list") rfl m_list oH rfl)))) (fa_ (jS (ge_ K hu0) lA (mK (wE K) zJ (by rfl) m_len PySem.boot_len (bC (aZ (pv 0)) cD)) (aZ (pv 1)) (cH _))))) (dY (gA x8)) jF)
    (dY (gA (mK (gm_ K (by rfl)) vS (by rfl) m_all vZ (bC (wD (dsc:=aQ et_) (N:=["thing", "how_many"]) (tgs:=["each"]) (outs:=[]) (N':=["each"]) (by refine ⟨rfl,?_,?_,?_,rfl,?_,?_,?_⟩ <;> decide +kernel) (rA (aZ (pv 0))) (fun _ _ _ _ _=>(gN (i:=0) (show (["each"]:List Str).Nodup by decide +kernel) rfl (Or.inl rfl) (.inr rfl))) (kO (n:=1) (i:=0) (by decide)) (rC (by decide)) (fun _ _ _ _ _=>nG) (fun _ _ _ _ _=>(eU CIB (hr.mono (by omega)) (bC (aZ (pv 0)) cD)))) cD))))),fun ds Q h => ?_⟩
  obtain ⟨xs,rfl,h0,h1,q⟩:=h
  have e:decide ((((xs.map Dx.int).length:Nat):Int)=(xs.length:Int))=true:=decide_eq_true (by rw [aE])
  show if (!decide ((((xs.map Dx.int).length:Nat):Int)=(xs.length:Int)))=true then _ else _
  rw [e]
  refine ⟨show (xs.map Dx.int).length≤_ by rw [aE]; omega,show eW _ _ _ _ _ (xs.map Dx.int) _ _ from ?_⟩
  refine zB _ (fun _:Int=>.bl true) (fun b hb acc P pp => ?_) ?_
  · exact ⟨b,rfl,(h0 b hb).1,(h0 b hb).2,pp⟩
  · rw [aY, qW]
    exact aCw q
theorem aPe (F:Fun K "number_at" "number_at" ep_ f fd) (c_HOW_MANY_BYTES:∃ t,mg "HOW_MANY_BYTES" = some (.int 256 t)) (m_reversed:mg "reversed" = none):FnOk P w K mg base CX0 1 f fd ["w", "some", "place"] (spX gNA):=by
  refine jU F iI (fun ds Q h=>by obtain ⟨_,_,_,_,rfl,_⟩:=h; rfl) (by decide) fun cdv A outer s H E hr => ?_
  refine ⟨_,(dR (gQ fun F=>fS (i:=3) iI.nd rfl (Or.inl rfl) (XE.at (Ex:=cC) F cO))
    (dR (zK PassesOwn.never rfl (aMz m_reversed (bC (oN K (aZ (pv 1)) (nK (aZ (pv 2))) (nK (jX (aZ (pv 2)) (aZ (pv 0))))) cD)) (gN (i:=4) iI.nd rfl (Or.inl rfl)) (kO (n:=99) (i:=4) (by decide)) (dY (gQ fun F=>fS (i:=3) iI.nd rfl (Or.inl rfl) (XE.at (Ex:=cC) F (jX (cw_ (aZ (pv 3)) (hv_ (by rfl) c_HOW_MANY_BYTES)) (aZ (pv 4)))))))
    (dY (gA (di_ (pv 3)))))),fun ds Q h => ?_⟩
  obtain ⟨w,p,i,xs,rfl,w0,w1,p0,i0,i1,ha,q⟩:=h
  have hl:=hn_ w.toNat i
  have hr:=gy_ w.toNat i
  have hv:=rX w.toNat i i0 i1
  generalize jV w.toNat i=ys at *
  have hc:=aQx ha p0 hl.symm w0
  show iY _ _ _ (nE (xs.map Dx.int) (some p) (some (p + w))).reverse _
  rw [hc,← List.map_reverse]
  refine zA _ (fun rest ρ => ∃ (done:List Int) (y:Sl),ys=rest.reverse ++ done∧ρ=[.v (.tr (.int w)),.v (.tr (.lst (xs.map Dx.int))),.v (.tr (.int p)),.v (.tr (.int (fZ done))),y]) (fun ρ h => ?_) (fun b rest ρ Kn h hk => ?_) ⟨[],.un,by rw [List.reverse_reverse,cR],rfl⟩
  · obtain ⟨done, y, e, rfl⟩ := h
    rw [List.reverse_nil,aY] at e
    rw [e] at hv
    rw [← hv] at q
    exact q
  · obtain ⟨done, y, e, rfl⟩ := h
    rw [iU,bO] at e
    have hd:∀ c∈done,0≤c∧c < 256:=fun c hc=>hr c (by rw [e]; exact aJ _ (aJ _ hc))
    obtain ⟨n0,n1⟩:=u0 hd
    have hdl:done.length≤8:=by
      have:=congrArg List.length e
      rw [aI,aI] at this
      have:ys.length≤8:=by omega
      omega
    have n2:fZ done < 256 ^ 8:=Int.lt_of_lt_of_le n1 (oY hdl)
    have k':=hk [.v (.tr (.int w)),.v (.tr (.lst (xs.map Dx.int))),.v (.tr (.int p)),.v (.tr (.int (fZ (b :: done)))),.v (.tr (.int b))] ⟨b :: done,_,e,rfl⟩
    have e3:fZ (b :: done)=fZ done * 256 + b:=by show b + 256 * fZ done=_; omega
    rw [e3] at k'
    exact ⟨⟨by omega,by decide⟩,k'⟩
theorem aOy (F:Fun K "record_at" "record_at" eo_ f fd) (CVT:Cal P w K mg base j "value_at" ["kind", "some", "place"] (spX (gVT n))) (CPO:Cal P w K mg base jP "places_in_order" ["fields"] (spX (gPO n))) (m_zip:mg "zip" = none) (hj:jP≤j):FnOk P w K mg base CX0 (j + 1) f fd ["fields", "some", "place"] (spX (gRD n)):=by
  refine jU F iH (fun ds Q h=>by obtain ⟨_,_,_,_,rfl,_⟩:=h; rfl) (by decide) fun cdv A outer s H E hr => ?_
  have hu1:=oD hr
  refine ⟨_,(dR (gQ fun F=>fS (i:=3) iH.nd rfl (Or.inl rfl) (XE.at (Ex:=cC) F tJ))
    (dR (zK PassesOwn.never rfl (tG m_zip (bC (aZ (pv 0)) (bC (eU CPO (hr.mono (by omega)) (bC (aZ (pv 0)) cD)) cD))) (fu_ rfl (jT (gN (i:=4) iH.nd rfl (Or.inl rfl)) (jT (gN (i:=5) iH.nd rfl (Or.inl rfl)) vW))) (ey_ (n:=99) (is:=[4,5]) rfl (by decide)) (dY (zI fun F=>PS.weak (uI hu1 (pv 3) (XE.at (Ex:=cC) F (eK K (aZ (pv 4)) cO (fun _ _=>rfl))) (XE.at (Ex:=cC) F (eU CVT (hr.mono (by omega)) (bC (eK K (aZ (pv 4)) cO (fun _ _=>rfl)) (bC (aZ (pv 1)) (bC (jX (aZ (pv 2)) (eK K (aZ (pv 5)) cO (fun _ _=>rfl))) cD))))) rfl) tR)))
    (dY (gA (di_ (pv 3)))))),fun ds Q h => ?_⟩
  obtain ⟨fs,vs,xs,p,rfl,hfit,hval,hd,hn,p0,hx,ha,q⟩:=h
  have hf':=hfit
  obtain ⟨f1,f2,f3,hnd⟩:=hfit
  have hval':=hval
  simp only [Kd.Val] at hval
  have hvl:=dt_ hval
  have hok:=hb_ fs f1
  have hpl:(eF 0 (rmF fs)).length=fs.length:=by rw [cz_,xJ fs]
  refine ⟨fs,rfl,hok,by omega,by omega,by omega,?_⟩
  have exf:xF fs=(fs.zip vs).map fun p=>.tup [.str p.1.1,p.1.2.x]:=by
    rw [y_]
    have:fs=(fs.zip vs).map (·.1):=by rw [List.map_fst_zip (by omega)]
    conv=>lhs; rw [this]
    rw [cX]
    rfl
  show iY _ _ _ (iC (xF fs) ((fs.zip (eF 0 (rmF fs))).map fun x=>.tup [.str x.1.1,.int x.2])) _
  have ezz:iC (xF fs) ((fs.zip (eF 0 (rmF fs))).map fun x=>.tup [.str x.1.1,.int x.2])=((fs.zip vs).zip (fs.zip (eF 0 (rmF fs)))).map fun q=>.tup [.tup [.str q.1.1.1,q.1.1.2.x],.tup [.str q.2.1.1,.int q.2.2]]:=by rw [exf,eb_]
  rw [ezz]
  have hzl:((fs.zip vs).zip (fs.zip (eF 0 (rmF fs)))).length=fs.length:=by rw [cQ,cQ,cQ]; omega
  refine zA _ (fun rest ρ => ∃ (i:Nat) (y4 y5:Sl),rest=((fs.zip vs).zip (fs.zip (eF 0 (rmF fs)))).drop i∧i≤fs.length∧ρ=[.v (.tr (.lst (xF fs))),.v (.tr (.lst (xs.map Dx.int))),.v (.tr (.int p)),.v (.od (vxF (fs.take i) (vs.take i))),y4,y5]) (fun ρ h => ?_) (fun a rest ρ Kn h hk => ?_) ⟨0,.un,.un,rfl,dB _,by simp only [List.take_zero,vxF]; rfl⟩
  · obtain ⟨i, y4, y5, e, hi, rfl⟩ := h
    have hge:=List.drop_eq_nil_iff.mp e.symm
    rw [hzl] at hge
    have:i=fs.length:=by omega
    subst this
    have t2:vs.take fs.length=vs:=gZ (by omega)
    rw [t2,List.take_length]
    exact q
  · obtain ⟨i, y4, y5, e, hi, rfl⟩ := h
    obtain ⟨e1,e2⟩:=eg_ e
    obtain ⟨e3,e4⟩:=cT.mp e1
    obtain ⟨e5,e6⟩:=cT.mp e3
    obtain ⟨e7,e8⟩:=cT.mp e4
    have hil:=(aK.mp e5).1
    obtain ⟨ff,fdp⟩:=mQ f1 (aS e5)
    have hat:=ha.trans (aRd hf' hval' e5 e6 e8)
    have hRms:Rms (rmF fs):=fun r hr=>by
      obtain ⟨m,hm⟩:=eC hr
      have hml:m < fs.length:=by have:=(aK.mp hm).1; rwa [xJ fs] at this
      have:=lX (aD hml)
      rw [this] at hm
      cases hm
      obtain ⟨c0,c1,c2,c3⟩:=(fs[m]).2.bd (mQ f1 (List.getElem_mem hml)).1.ok
      exact ⟨by omega,by omega⟩
    have l2:=(fq_ (e:=0) hRms (lX e5) e8).2
    have hlt:(vs.take i).length=(fs.take i).length:=by rw [cI,cI]; omega
    have hnew:(Sum.inr a.1.1.1:Key)∉(vxF (fs.take i) (vs.take i)).map (·.1):=by
      rw [fl_ hlt]
      intro hm
      obtain ⟨g,hg,eg⟩:=cN.mp hm
      have eg':g.1=a.1.1.1:=Sum.inr.inj eg
      obtain ⟨m,hm2⟩:=eC hg
      have hml:m < i:=by have:=(aK.mp hm2).1; rw [cI] at this; omega
      rw [List.getElem?_take_of_lt hml] at hm2
      have n1:(fs.map (·.1))[m]? = some a.1.1.1:=by rw [cE,hm2,← eg']; rfl
      have n2:(fs.map (·.1))[i]? = some a.1.1.1:=by rw [cE,e5]; rfl
      have:=(List.getElem?_inj (by rw [aE]; omega) hnd).mp (n1.trans n2.symm)
      omega
    have hk':=hk [.v (.tr (.lst (xF fs))),.v (.tr (.lst (xs.map Dx.int))),.v (.tr (.int p)),.v (.od (vxF (fs.take (i + 1)) (vs.take (i + 1)))),.v (.tr (.tup [.str a.1.1.1,a.1.1.2.x])),.v (.tr (.tup [.str a.2.1.1,.int a.2.2]))] ⟨i + 1,_,_,e2,hil,rfl⟩
    rw [cx_ e5,cx_ e6,oR hlt,← oX hnew] at hk'
    have hk2:Kn [.v (.tr (.lst (xF fs))),.v (.tr (.lst (xs.map Dx.int))),.v (.tr (.int p)),.v (.od (aBh (vxF (fs.take i) (vs.take i)) (Sum.inr a.1.1.1) (a.1.1.2.vx a.1.2).own.d)),.v (.tr (.tup [.str a.1.1.1,a.1.1.2.x])),.v (.tr (.tup [.str a.2.1.1,.int a.2.2]))]:=by rw [wW]; exact hk'
    refine ⟨a.1.1.2,a.1.2,xs,p + a.2.2,rfl,ff,tN hval e5 e6,by omega,by omega,by omega,hx,by rw [show (p + a.2.2).toNat=p.toNat + a.2.2.toNat from by omega]; exact hat,?_⟩
    have hvlen:(vxF (fs.take i) (vs.take i)).length≤100000:=by rw [oS hlt,cI]; omega
    exact ⟨⟨_,rfl⟩,by omega,hk2⟩
theorem aPo (F:Fun K "choice_at" "choice_at" es_ f fd) (CVT:Cal P w K mg base j "value_at" ["kind", "some", "place"] (spX (gVT n))) (CRO:Cal P w K mg base jR "room_of" ["kind"] (spX (gRO (n + 1)))) (CCA:Cal P w K mg base 2 "chosen_at" ["multiple"] (spX gCA)) (m_len:mg "len" = none) (hj:jR≤j) (hj2:2≤j):FnOk P w K mg base CX0 (j + 1) f fd ["kind", "some", "place"] (spX (gCH n)):=by
  refine jU F kY (fun ds Q h=>by obtain ⟨_,_,_,_,_,rfl,_⟩:=h; rfl) (by decide) fun cdv A outer s H E hr => ?_
  have hu1:=oD hr
  refine ⟨_,(dR (gQ fun F=>fS (i:=3) kY.nd rfl (Or.inl rfl) (XE.at (Ex:=cC) F (eK K (aZ (pv 1)) (aZ (pv 2)) (fun _ _=>rfl))))
    (dR (iP (jS aFl aFe (aZ (pv 3)) (mK (wE K) zJ (by rfl) m_len PySem.boot_len (bC (eK K (aZ (pv 0)) cO (fun _ _=>rfl)) cD)) (cH _)) (dY m6) jF)
    (dY (gA (mV (bC (aZ (pv 3)) (bC (eU CVT (hr.mono (by omega)) (bC (eK K (eK K (aZ (pv 0)) cO (fun _ _=>rfl)) (aZ (pv 3)) (fun _ _=>rfl)) (bC (aZ (pv 1)) (bC (jX (aZ (pv 2)) (eU CCA (hr.mono (by omega)) (bC (eK K (eU CRO (hr.mono (by omega)) (bC (aZ (pv 0)) cD)) cO (fun _ _=>rfl)) cD))) cD)))) cD))))))),fun ds Q h => ?_⟩
  obtain ⟨ks,jj,v,xs,p,rfl,hfit,hval,hd,hn,p0,hx,ha,q⟩:=h
  have hf':=hfit
  obtain ⟨f1,f2,f3⟩:=hfit
  simp only [Kd.Val] at hval
  obtain ⟨k,hk,hvk⟩:=en_ hval
  obtain ⟨kf,kdp⟩:=kQ f1 (aS hk)
  have hjl:=(aK.mp hk).1
  obtain ⟨a1,a2⟩:=aRe hf' hk hvk
  have hat:=ha.trans a1
  obtain ⟨b0,b1,b2,b3⟩:=(Kd.cho ks).bd hf'.ok
  have hlen0:0 < ((Kd.cho ks).byt (.cho jj v)).length:=(aK.mp a2).1
  have h0:=ha.1
  have hxp:xs[p.toNat]? = some (jj:Int):=by
    have:=ha.2 0 hlen0
    rw [iT,aM,aM,a2,aD (by omega)] at this
    rw [aD (by omega)]
    exact congrArg some this
  have hix:ixX (.lst (xs.map Dx.int)) (.int p)=fun Q=>Q (.tr (.int (jj:Int))):=by
    have hm:(xs.map Dx.int)[p.toNat]? = some (.int (jj:Int)):=by rw [cE,hxp]; rfl
    have:=fj_ hm
    rw [show ((p.toNat:Nat):Int)=p from by omega] at this
    funext Q
    simp only [ixX,this]
  have hxk:(xK ks)[jj]? = some k.x:=by rw [yQ,cE,hk]; rfl
  have hat':=fj_ hxk
  have hkl:(xK ks).length=ks.length:=by rw [yQ,aE]
  refine mG ?_
  refine x5 (el_ rfl (el_ rfl ?_))
  show ixX (.lst (xs.map Dx.int)) (.int p) _
  rw [hix]
  dsimp only
  change fJ _ _ [.v (.tr (Kd.cho ks).x),.v (.tr (.lst (xs.map Dx.int))),.v (.tr (.int p)),.v (.tr (.int (jj:Int)))] _
  refine ha_ (ρ':=[.v (.tr (Kd.cho ks).x),.v (.tr (.lst (xs.map Dx.int))),.v (.tr (.int p)),.v (.tr (.int (jj:Int)))]) (fun Q q => ?_) ?_
  · show Q (decide (((xK ks).length : Int) ≤ (jj : Int))) _
    rw [decide_eq_false (by omega)]
    exact q
  · simp only [fJ, fY, xIf, xB, xOp, eE, xC, iX, iQ, fG, cU, fA, aAy, ixX, nH, gI, mE, kL, fI, eI, fH, cu_, ct_, lC, lT, lR, lQ, lP, lO, lN, lM, lL, lK, lJ, lG, lF, lE, bB, bE, cA, bV, Sv.d, aP, bM, cZ, cL, bK, aY, aL, bG, aX, bU, Nat.reduceAdd, Nat.reduceSub, Nat.reduceLeDiff, true_and, decide_eq_true_eq, cut, hY, back, cY, if_true, ↓reduceIte, cM, dD, hat', Kd.x]
    refine ⟨.cho ks,rfl,hf'.ok,by show eY ks + 1≤n + 1; omega,by omega,(Kd.cho ks).rm.2,rfl,by omega,by omega,k,v,xs,p + up 1 (Kd.cho ks).rm.2,rfl,kf,hvk,by omega,by omega,?_⟩
    obtain ⟨u1,u2⟩:=jW (n:=1) (m:=(Kd.cho ks).rm.2) (by omega)
    refine ⟨by omega,hx,by rw [show (p + up 1 (Kd.cho ks).rm.2).toNat=p.toNat + (up 1 (Kd.cho ks).rm.2).toNat from by omega]; exact hat,?_⟩
    simp only [Kd.vx] at q
    rw [hw_ hk] at q
    show Q (.tr (.tup [.int (jj:Int),(k.vx v).own.d]))
    rw [wW]
    exact q
theorem aOp (F:Fun K "value_at" "value_at" eh_ f fd) (CNA:Cal P w K mg base 1 "number_at" ["w", "some", "place"] (spX gNA)) (CVT:Cal P w K mg base j "value_at" ["kind", "some", "place"] (spX (gVT n))) (CRO:Cal P w K mg base jR "room_of" ["kind"] (spX (gRO n))) (CSO:Cal P w K mg base 2 "step_of" ["room"] (spX gSO)) (CRD:Cal P w K mg base (j + 1) "record_at" ["fields", "some", "place"] (spX (gRD n))) (CCH:Cal P w K mg base (j + 1) "choice_at" ["kind", "some", "place"] (spX (gCH n))) (m_range:mg "range" = none) (hj:jR≤j) (hj2:2≤j):FnOk P w K mg base CX0 (j + 2) f fd ["kind", "some", "place"] (spX (gVT (n + 1))):=by
  refine jU F mP (fun ds Q h=>by obtain ⟨_,_,_,_,rfl,_⟩:=h; rfl) (by decide) fun cdv A outer s H E hr => ?_
  have hu1:=oD hr
  have hu0:=bN hu1
  refine ⟨_,(dR (iP (jS (mJ K hu0) mI (eK K (aZ (pv 0)) cO (fun _ _=>rfl)) kM (cH _)) (dY (gA (eU CNA (hr.mono (by omega)) (bC (eK K (aZ (pv 0)) cO (fun _ _=>rfl)) (bC (aZ (pv 1)) (bC (aZ (pv 2)) cD)))))) jF)
    (dR (iP (jS (mJ K hu0) mI (eK K (aZ (pv 0)) cO (fun _ _=>rfl)) kM (cH _)) (dR (gQ fun F=>fS (i:=3) mP.nd rfl (Or.inr rfl) (XE.at (Ex:=cC) F (eU CSO (hr.mono (by omega)) (bC (eU CRO (hr.mono (by omega)) (bC (eK K (aZ (pv 0)) cO (fun _ _=>rfl)) cD)) cD))))
    (dY (gA (wD (dsc:=aQ eh_) (N:=["kind", "some", "place", "step"]) (tgs:=["k"]) (outs:=[0,1,2,3]) (N':=["k", "kind", "some", "place", "step"]) (by refine ⟨rfl,?_,?_,?_,rfl,?_,?_,?_⟩ <;> decide +kernel) (cm_ m_range (bC (eK K (aZ (pv 0)) cO (fun _ _=>rfl)) cD)) (fun _ _ _ _ _=>(gN (i:=0) (show (["k", "kind", "some", "place", "step"]:List Str).Nodup by decide +kernel) rfl (Or.inl rfl) (.inr rfl))) (kO (n:=1) (i:=0) (by decide)) (rC (by decide)) (fun _ _ _ _ _=>nG) (fun _ _ _ _ _=>(eU CVT (hr.mono (by omega)) (bC (eK K (aZ (pv 1)) cO (fun _ _=>rfl)) (bC (aZ (pv 2)) (bC (jX (aZ (pv 3)) (cw_ (aZ (pv 0)) (aZ (pv 4)))) cD))))))))) jF)
    (dR (iP (jS (mJ K hu0) mI (eK K (aZ (pv 0)) cO (fun _ _=>rfl)) kM (cH _)) (dY (gA (eU CRD (hr.mono (by omega)) (bC (eK K (aZ (pv 0)) cO (fun _ _=>rfl)) (bC (aZ (pv 1)) (bC (aZ (pv 2)) cD)))))) jF)
    (dY (gA (eU CCH (hr.mono (by omega)) (bC (aZ (pv 0)) (bC (aZ (pv 1)) (bC (aZ (pv 2)) cD))))))))),fun ds Q h => ?_⟩
  obtain ⟨kd,vd,xs,p,rfl,hfit,hval,hd,hn,p0,hx,ha,q⟩:=h
  cases kd with
  | num wd m =>
    obtain ⟨i,rfl,i0,i1⟩:=n9 hval
    simp only [Kd.byt] at ha
    exact ⟨wd,p,i,xs,rfl,by have:=hfit.1; omega,hfit.2.1,p0,i0,i1,ha,q⟩
  | row k m =>
    obtain ⟨vs,rfl,hl,hvs⟩:=n5 hval
    have hd':k.deep + 1≤n + 1:=hd
    have hf':=hfit
    obtain ⟨f1,f2,f3⟩:=hfit
    obtain ⟨c0,c1,c2,c3⟩:=aLp (n:=n) f1.ok (by omega) (by omega)
    obtain ⟨u1,u2⟩:=jW (n:=k.rm.1) (m:=k.rm.2) (by omega)
    have hst:((up k.rm.1 k.rm.2).toNat:Int)=up k.rm.1 k.rm.2:=gP (by omega)
    have hbl:=Kd.byt_len hval
    have h1:=ha.1
    refine ⟨k,rfl,f1.ok,by omega,by omega,k.rm,rfl,c0,by omega,by omega,by omega,?_⟩
    have hup:up k.rm.1 k.rm.2≤100000:=by
      have hR':(Kd.row k m).rm.1=m * up k.rm.1 k.rm.2:=rfl
      have:1 * up k.rm.1 k.rm.2≤m * up k.rm.1 k.rm.2:=bX (by omega) (by omega)
      rw [hbl,hR'] at h1
      omega
    have er:lW 0 m.toNat=((List.range vs.length).zip vs).map fun a:Nat×Vd=>.int (0 + (a.1:Int)):=by
      have:m.toNat=vs.length:=by omega
      rw [this]
      unfold lW
      have e2:List.range vs.length=((List.range vs.length).zip vs).map (·.1):=by rw [List.map_fst_zip (by rw [cB]; omega)]
      conv=>lhs; rw [e2]
      rw [cX]
      rfl
    refine ⟨⟨by omega,by omega⟩,?_⟩
    have hlen:(lW 0 m.toNat).length≤1000000:=by unfold lW; rw [aE,cB]; omega
    refine ⟨hlen,?_⟩
    show eW _ _ _ _ _ (lW 0 m.toNat) _ _
    rw [er]
    refine zB _ (fun a:Nat×Vd=>k.vx a.2) (fun a hm acc Pp pp => ?_) ?_
    · obtain ⟨i, hi⟩ := eC hm
      obtain ⟨e3,e4⟩:=tZ hi
      have hil:=(aK.mp e4).1
      have hva:=hvs a.2 (aS e4)
      have hat:=ha.trans (aHv hf' hval e4)
      have hcast:(0 + (a.1:Int)) * up k.rm.1 k.rm.2=((i * (up k.rm.1 k.rm.2).toNat:Nat):Int):=by rw [e3,Int.zero_add,← hst]; push_cast; rfl
      refine ⟨⟨by rw [e3]; omega,by omega⟩,k,a.2,xs,p + (0 + (a.1:Int)) * up k.rm.1 k.rm.2,rfl,f1,hva,by omega,by omega,by rw [hcast]; omega,hx,?_,?_⟩
      · rw [hcast, show (p + ((i * (up k.rm.1 k.rm.2).toNat : Nat) : Int)).toNat = p.toNat + i * (up k.rm.1 k.rm.2).toNat from by omega]
        exact hat
      · show Pp (acc ++ [(k.vx a.2).own.d]) _
        rw [wW]
        exact pp
    · have e5 : (((List.range vs.length).zip vs).map fun a : Nat × Vd => k.vx a.2) = vs.map k.vx := by
        have:vs=((List.range vs.length).zip vs).map (·.2):=by rw [List.map_snd_zip (by rw [cB]; omega)]
        conv=>rhs; rw [this]
        rw [cX]
        rfl
      rw [aY,e5]
      simp only [Kd.vx] at q
      exact q
  | rcd fs =>
    obtain ⟨vs,rfl,hvs⟩:=n6 hval
    have hd':eV fs + 1≤n + 1:=hd
    simp only [Kd.vx] at q
    exact ⟨fs,vs,xs,p,rfl,hfit,hval,by omega,by omega,p0,hx,ha,q⟩
  | cho ks =>
    obtain ⟨jj,v,k,rfl,hk,hvk⟩:=n_ hval
    have hd':eY ks + 1≤n + 1:=hd
    have q':Q (.tr ((Kd.cho ks).vx (.cho jj v))):=by simp only [Kd.vx] at q ⊢; exact q
    exact ⟨ks,jj,v,xs,p,rfl,hfit,hval,by omega,by omega,p0,hx,ha,q'⟩
theorem aDq:FnOk P w K mg base CX0 j f fd ["kind", "some", "place"] (spX (gVT 0)):=sK fun ds Q h=>by
  obtain ⟨kd,_,_,_,_,_,_,hd,_⟩:=h
  have:=Kd.deep_pos kd
  omega
end
def gVO (n:Nat):GC:=fun ds Q => ∃ (kd:Kd) (vd:Vd),ds=[kd.x,.lst ((kd.byt vd).map Dx.int)]∧kd.Fit∧kd.Val vd∧kd.deep≤n∧n≤12∧kd.rm.1≤100000∧Q (.tr (kd.vx vd))
section
variable {P:Program} {w:World} {K:dH} {mg:gO} {base:Heap} {f:Addr} {fd:FuncData} {n j jR jB:Nat}
theorem aOq (F:Fun K "value_of" "value_of" gu_ f fd) (CAB:Cal P w K mg base 3 "are_bytes" ["thing", "how_many"] (spX gAB)) (CRO:Cal P w K mg base jR "room_of" ["kind"] (spX (gRO n))) (CVT:Cal P w K mg base j "value_at" ["kind", "some", "place"] (spX (gVT n))) (CLB:Cal P w K mg base jB "laid_bytes" ["kind", "value"] (spX (gLB n))) (hj:jR≤j) (hjB:jB≤j) (hj3:3≤j):FnOk P w K mg base CX0 (j + 1) f fd ["kind", "thing"] (spX (gVO n)):=by
  refine jU F mO (fun ds Q h=>by obtain ⟨_,_,rfl,_⟩:=h; rfl) (by decide) fun cdv A outer s H E hr => ?_
  have hu1:=oD hr
  have hu0:=bN hu1
  refine ⟨_,(dR (iP (wC (qY (eU CAB (hr.mono (by omega)) (bC (aZ (pv 1)) (bC (eK K (eU CRO (hr.mono (by omega)) (bC (aZ (pv 0)) cD)) cO (fun _ _=>rfl)) cD))))) (dY m6) jF)
    (dR (gQ fun F=>fS (i:=2) mO.nd rfl (Or.inl rfl) (XE.at (Ex:=cC) F (eU CVT (hr.mono (by omega)) (bC (aZ (pv 0)) (bC (aZ (pv 1)) (bC cO cD))))))
    (dR (iP (jS (aFj hu0) pB (eU CLB (hr.mono (by omega)) (bC (aZ (pv 0)) (bC (aZ (pv 2)) cD))) (aZ (pv 1)) (cH _)) (dY m6) jF)
    (dY (gA (di_ (pv 2))))))),fun ds Q h => ?_⟩
  obtain ⟨kd,vd,rfl,hfit,hval,hd,hn,hrm,q⟩:=h
  have hbl:=Kd.byt_len hval
  obtain ⟨b0,b1,b2,b3⟩:=kd.bd hfit.ok
  have hrl:kd.rm.1=((kd.byt vd).length:Int):=by rw [hbl]; omega
  refine ha_ (ρ':=[.v (.tr kd.x),.v (.tr (.lst ((kd.byt vd).map Dx.int))),.un]) (fun Q q => ?_) ?_
  · refine ⟨kd, rfl, hfit.ok, hd, hn, ?_⟩
    exact ⟨kd.byt vd,by rw [← hrl]; rfl,oG kd vd hfit hval,by omega,q⟩
  · refine ⟨kd, vd, kd.byt vd, 0, rfl, hfit, hval, hd, hn, by decide, by omega, AtP.self _, ?_⟩
    dsimp only
    refine ha_ (ρ':=[.v (.tr kd.x),.v (.tr (.lst ((kd.byt vd).map Dx.int))),.v (.tr (kd.vx vd).own.d)]) (fun Q q => ?_) ?_
    · refine ⟨kd, vd, (kd.vx vd).own.d, rfl, by rw [wW]; exact pS kd vd hfit hval, hfit, hval, hd, hn, hrm, ?_⟩
      refine ⟨kd.byt vd,kd.byt vd,rfl,rfl,?_⟩
      show Q (!decide (kd.byt vd=kd.byt vd)) _
      rw [decide_eq_true rfl]
      exact q
    · rw [wW]
      exact q
end
def whD:Dx→Bool
  | .int _=>true
  | _=>false
def i6:Key→Bool
  | .inr _=>true
  | .inl _=>false
def isN:Nat→Kd→Dx→Bool
  | _ + 1,.num w _,.int i=>decide (0≤i) && decide (((Builtin.Int.intBits i:Nat):Int)≤8 * w)
  | n + 1,.row k m,.lst l=>decide ((l.length:Int)=m) && l.all (isN n k)
  | n + 1, .rcd fs, .dic l => decide ((l.length : Int) = (fs.length : Int)) && (l.all fun p => i6 p.1) && fs.all fun f => match iR l (Sum.inr f.1) with
    | some x=>isN n f.2 x
    | none=>false
  | n + 1, .cho ks, .tup [.int j, x] => decide (0 ≤ j) && decide (j < (ks.length : Int)) && (match ks[j.toNat]? with
    | some k=>isN n k x
    | none=>false)
  | _,_,_=>false
def gWB:GC:=fun ds Q => ∃ d:Dx,ds=[d]∧sA d∧Q (.tr (.bl (whD d)))
def gIG (n:Nat):GC:=fun ds Q => ∃ (kd:Kd) (d:Dx),ds=[kd.x,d]∧d.Sz∧kd.Ok∧kd.deep≤n∧n≤12∧Q (.tr (.bl (isN n kd d)))
def aUm (n:Nat):GC:=fun ds Q => ∃ (k:Kd) (m:Int) (d:Dx),ds=[k.x,.int m,d]∧d.Sz∧(Kd.row k m).Ok∧k.deep≤n∧n≤12∧Q (.tr (.bl (isN (n + 1) (.row k m) d)))
def aUn (n:Nat):GC:=fun ds Q => ∃ (fs:List (Str×Kd)) (d:Dx),ds=[.lst (xF fs),d]∧d.Sz∧(Kd.rcd fs).Ok∧eV fs≤n∧n≤12∧Q (.tr (.bl (isN (n + 1) (.rcd fs) d)))
def aUo (n:Nat):GC:=fun ds Q => ∃ (ks:List Kd) (d:Dx),ds=[.lst (xK ks),d]∧d.Sz∧(Kd.cho ks).Ok∧eY ks≤n∧n≤12∧Q (.tr (.bl (isN (n + 1) (.cho ks) d)))
theorem uS:∀ {fs:List (Str×Kd)} {f:Str×Kd},okF fs→f∈fs→f.2.Ok∧f.2.deep≤eV fs
  | g :: r, f, h, hm => by
    rcases aF.mp hm with rfl | hm
    · exact ⟨h.1,dQ _ _⟩
    · exact ⟨(uS h.2 hm).1,bP (uS h.2 hm).2 (dJ _ _)⟩
theorem uR:∀ {ks:List Kd} {k:Kd},okK ks→k∈ks→k.Ok∧k.deep≤eY ks
  | g :: r, k, h, hm => by
    rcases aF.mp hm with rfl | hm
    · exact ⟨h.1,dQ _ _⟩
    · exact ⟨(uR h.2 hm).1,bP (uR h.2 hm).2 (dJ _ _)⟩
theorem aKw {l:List (Key×Dx)} {k:Key} {d:Dx} (h:iR l k=some d):(k,d)∈l:=by
  unfold iR at h
  obtain ⟨p,h1,h2⟩:=eP.mp h
  have h3:=List.mem_of_find?_eq_some h1
  have h4:=List.find?_some h1
  have h5:p.1=k:=by simpa using h4
  rw [← h5,← h2]
  exact h3
theorem aMb {d:Dx} (h:d.Sz):sA d:=by cases d <;> simp only [Dx.Sz] at h <;> first | exact h.elim | trivial
section
variable {P:Program} {w:World} {K:dH} {mg:gO} {base:Heap} {f:Addr} {fd:FuncData} {n j:Nat}
theorem aOo (F:Fun K "is_whole" "is_whole" ej_ f fd) (m_isinstance:mg "isinstance" = none) (m_int:mg "int" = none) (m_bool:mg "bool" = none):FnOk P w K mg base CX0 1 f fd ["thing"] (spX gWB):=by
  refine jU F ia_ (fun ds Q h=>by obtain ⟨_,rfl,_⟩:=h; rfl) (by decide) fun cdv A outer s H E hr => ?_
  refine ⟨_,(dY (gA (ex_ (zC .int m_isinstance (aZ (pv 0)) (qZ (v:=.ty "int") rfl m_int k8 rfl)) (fb_ (zO (zC .bool m_isinstance (aZ (pv 0)) (qZ (v:=.ty "bool") rfl m_bool oI rfl))))))),fun ds Q h => ?_⟩
  obtain ⟨d,rfl,hd,q⟩:=h
  cases d <;> first | exact q | exact hd.elim
theorem aJn (F:Fun K "is_row_value" "is_row_value" cn_ f fd) (CIV:Cal P w K mg base j "is_value" ["kind", "thing"] (spX (gIG n))) (m_isinstance:mg "isinstance" = none) (m_list:mg "list" = none) (m_len:mg "len" = none) (m_all:mg "all" = none):FnOk P w K mg base CX0 (j + 1) f fd ["kind", "n", "thing"] (spX (aUm n)):=by
  refine jU F ib_ (fun ds Q h=>by obtain ⟨_,_,_,rfl,_⟩:=h; rfl) (by decide) fun cdv A outer s H E hr => ?_
  have hu1:=oD hr
  have hu0:=bN hu1
  refine ⟨_,(dR (iP (XW.pt (ht_ (wC (qY (zC .list m_isinstance (aZ (pv 2)) (qZ (v:=.ty "list") rfl m_list oH rfl)))) (fa_ (jS (ge_ K hu0) lA (mK (wE K) zJ (by rfl) m_len PySem.boot_len (bC (aZ (pv 2)) cD)) (aZ (pv 1)) (cH _))))) (dY (gA x8)) jF)
    (dY (gA (mK (gm_ K (by rfl)) vS (by rfl) m_all vZ (bC (wD (dsc:=aQ cn_) (N:=["kind", "n", "thing"]) (tgs:=["each"]) (outs:=[0]) (N':=["each", "kind"]) (by refine ⟨rfl,?_,?_,?_,rfl,?_,?_,?_⟩ <;> decide +kernel) (rA (aZ (pv 2))) (fun _ _ _ _ _=>(gN (i:=0) (show (["each", "kind"]:List Str).Nodup by decide +kernel) rfl (Or.inl rfl) (.inr rfl))) (kO (n:=1) (i:=0) (by decide)) (rC (by decide)) (fun _ _ _ _ _=>nG) (fun _ _ _ _ _=>(eU CIV (hr.mono (by omega)) (bC (aZ (pv 1)) (bC (aZ (pv 0)) cD))))) cD))))),fun ds Q h => ?_⟩
  obtain ⟨k,m,d,rfl,hs,hok,hd,hn,q⟩:=h
  cases d with
  | lst l =>
    simp only [Dx.Sz] at hs
    show if (!decide ((l.length:Int)=m))=true then _ else _
    by_cases hm:(l.length:Int)=m
    · rw [decide_eq_true hm]
      simp only [isN,decide_eq_true hm,gK] at q
      refine ⟨show l.length≤_ by omega,show eW _ _ _ _ _ l _ _ from ?_⟩
      have el:l=l.map id:=by rw [List.map_id]
      rw [el]
      refine zB id (fun a:Dx=>.bl (isN n k a)) (fun a ha acc P pp => ?_) ?_
      · exact ⟨k,a,rfl,nR hs.2 ha,hok.1,hd,hn,pp⟩
      · rw [aY]
        refine ⟨l.map (isN n k),?_,?_⟩
        · rw [cX]; rfl
        · rw [List.all_map]; exact q
    · rw [decide_eq_false hm]
      simp only [isN,decide_eq_false hm,gS] at q
      exact q
  | scr _ _=>simp only [Dx.Sz] at hs
  | ins _ _=>simp only [Dx.Sz] at hs
  | exc _=>simp only [Dx.Sz] at hs
  | _=>exact q
theorem aJo (F:Fun K "is_record_value" "is_record_value" bn_ f fd) (CIV:Cal P w K mg base j "is_value" ["kind", "thing"] (spX (gIG n))) (m_isinstance:mg "isinstance" = none) (m_dict:mg "dict" = none) (m_str:mg "str" = none) (m_len:mg "len" = none) (m_all:mg "all" = none):FnOk P w K mg base CX0 (j + 1) f fd ["fields", "thing"] (spX (aUn n)):=by
  refine jU F fz_ (fun ds Q h=>by obtain ⟨_,_,rfl,_⟩:=h; rfl) (by decide) fun cdv A outer s H E hr => ?_
  have hu1:=oD hr
  have hu0:=bN hu1
  refine ⟨_,(dR (iP (XW.pt (ht_ (wC (qY (zC .dict m_isinstance (aZ (pv 1)) (qZ (v:=.ty "dict") rfl m_dict vY rfl)))) (fa_ (jS (ge_ K hu0) lA (mK (wE K) zJ (by rfl) m_len PySem.boot_len (bC (aZ (pv 1)) cD)) (mK (wE K) zJ (by rfl) m_len PySem.boot_len (bC (aZ (pv 0)) cD)) (cH _))))) (dY (gA x8)) jF)
    (dR (iP (wC (qY (mK (gm_ K (by rfl)) vS (by rfl) m_all vZ (bC (oP (dsc:=aQ bn_) (N:=["fields", "thing"]) (tgs:=["key"]) (outs:=[]) (N':=["key"]) (by refine ⟨rfl,?_,?_,?_,rfl,?_,?_,?_⟩ <;> decide +kernel) (pv 1) (fun _ _ _ _ _=>(gN (i:=0) (show (["key"]:List Str).Nodup by decide +kernel) rfl (Or.inl rfl) (.inr rfl))) (kO (n:=1) (i:=0) (by decide)) (rC (by decide)) (fun _ _ _ _ _=>nG) (fun _ _ _ _ _=>(zC .str m_isinstance (aZ (pv 0)) (qZ (v:=.ty "str") rfl m_str k4 rfl)))) cD)))) (dY (gA x8)) jF)
    (dY (gA (mK (gm_ K (by rfl)) vS (by rfl) m_all vZ (bC (wD (dsc:=aQ bn_) (N:=["fields", "thing"]) (tgs:=["field"]) (outs:=[1]) (N':=["field", "thing"]) (by refine ⟨rfl,?_,?_,?_,rfl,?_,?_,?_⟩ <;> decide +kernel) (rA (aZ (pv 0))) (fun _ _ _ _ _=>(gN (i:=0) (show (["field", "thing"]:List Str).Nodup by decide +kernel) rfl (Or.inl rfl) (.inr rfl))) (kO (n:=1) (i:=0) (by decide)) (rC (by decide)) (fun _ _ _ _ _=>nG) (fun _ _ _ _ _=>(ex_ (aNb hu1 (eK K (aZ (pv 0)) cO (fun _ _=>rfl)) (aZ (pv 1)) (by with_unfolding_all rfl)) (fb_ (eU CIV (hr.mono (by omega)) (bC (eK K (aZ (pv 0)) cO (fun _ _=>rfl)) (bC (nN hu1 (aZ (pv 1)) (eK K (aZ (pv 0)) cO (fun _ _=>rfl)) (fun _ _=>rfl)) cD))))))) cD)))))),fun ds Q h => ?_⟩
  obtain ⟨fs,d,rfl,hs,hok,hd,hn,q⟩:=h
  cases d with
  | dic kvs =>
    simp only [Dx.Sz] at hs
    have hm:=hok.2
    have hxl:(xF fs).length=fs.length:=by rw [y_,aE]
    show if (!decide ((kvs.length:Int)=((xF fs).length:Int)))=true then _ else _
    rw [hxl]
    by_cases he:(kvs.length:Int)=(fs.length:Int)
    · rw [decide_eq_true he]
      simp only [isN,decide_eq_true he,gK] at q
      refine ⟨show kvs.length≤_ by omega,show eW _ _ _ _ _ (lD kvs) _ _ from ?_⟩
      refine zB (fun p:Key×Dx=>xM p.1) (fun p=>.bl (i6 p.1)) (fun p hp acc P pp => ?_) ?_
      · obtain ⟨k, x⟩ := p
        cases k with
        | inl i=>exact pp
        | inr x=>exact pp
      rw [aY]
      simp only [fA,aP,bM,Sv.d]
      refine ⟨kvs.map fun p=>i6 p.1,by rw [cX]; rfl,?_⟩
      rw [List.all_map]
      show if (!(kvs.all (id ∘ fun p=>i6 p.1)))=true then _ else _
      rw [show (id ∘ fun p:Key×Dx=>i6 p.1)=fun p=>i6 p.1 from rfl]
      cases hall:kvs.all fun p=>i6 p.1 with
      | false =>
        rw [hall,gS] at q
        exact q
      | true =>
        rw [hall,gK] at q
        refine ⟨show (xF fs).length≤_ by omega,show eW _ _ _ _ _ (xF fs) _ _ from ?_⟩
        rw [y_]
        refine zB _ (fun f:Str×Kd=>.bl (match iR kvs (Sum.inr f.1) with | some x=>isN n f.2 x | none=>false)) (fun p hp acc P pp => ?_) ?_
        · obtain ⟨o1, o3⟩ := uS hok.1 hp
          cases hg:iR kvs (Sum.inr p.1) with
          | none =>
            rw [hg] at pp
            simp only [rM,fJ,fY,xIf,xB,xOp,eE,xC,iQ,fG,cU,fA,jA,xiL,xOr,kS,wH,xIs,ixX,dgX,neX,eqS,mE,gxN,kL,fI,eI,fH,cu_,ct_,lC,lT,lR,lQ,lP,lO,lN,lM,lL,lK,lJ,lG,lF,lE,bB,bE,cA,bV,Sv.d,aP,bM,cZ,cL,bK,aY,aL,bG,aX,bU,Nat.reduceAdd,Nat.reduceSub,Nat.reduceLeDiff,true_and,decide_eq_true_eq,cut,hY,back,qQ,cY,if_true,↓reduceIte,cM,dD,j4,vD,hg]
            exact pp
          | some x =>
            rw [hg] at pp
            simp only [rM,fJ,fY,xIf,xB,xOp,eE,xC,iQ,fG,cU,fA,jA,xiL,xOr,kS,wH,xIs,ixX,dgX,neX,eqS,mE,gxN,kL,fI,eI,fH,cu_,ct_,lC,lT,lR,lQ,lP,lO,lN,lM,lL,lK,lJ,lG,lF,lE,bB,bE,cA,bV,Sv.d,aP,bM,cZ,cL,bK,aY,aL,bG,aX,bU,Nat.reduceAdd,Nat.reduceSub,Nat.reduceLeDiff,true_and,decide_eq_true_eq,cut,hY,back,qQ,cY,if_true,↓reduceIte,cM,dD,j4,vD,hg]
            exact ⟨p.2,x,rfl,oW hs.2.2 (aKw hg),o1,by omega,hn,pp⟩
        · rw [aY]
          refine ⟨fs.map fun f=>(match iR kvs (Sum.inr f.1) with | some x=>isN n f.2 x | none=>false),by rw [cX]; rfl,?_⟩
          rw [List.all_map]
          exact q
    · rw [decide_eq_false he]
      simp only [isN,decide_eq_false he,gS] at q
      exact q
  | scr _ _=>simp only [Dx.Sz] at hs
  | ins _ _=>simp only [Dx.Sz] at hs
  | exc _=>simp only [Dx.Sz] at hs
  | _=>exact q
theorem aJp (F:Fun K "is_choice_value" "is_choice_value" cj_ f fd) (CIV:Cal P w K mg base j "is_value" ["kind", "thing"] (spX (gIG n))) (CIW:Cal P w K mg base 1 "is_whole" ["thing"] (spX gWB)) (m_isinstance:mg "isinstance" = none) (m_tuple:mg "tuple" = none) (m_len:mg "len" = none) (hj:1≤j):FnOk P w K mg base CX0 (j + 1) f fd ["kinds", "thing"] (spX (aUo n)):=by
  refine jU F ga_ (fun ds Q h=>by obtain ⟨_,_,rfl,_⟩:=h; rfl) (by decide) fun cdv A outer s H E hr => ?_
  have hu1:=oD hr
  have hu0:=bN hu1
  refine ⟨_,(dR (iP (XW.pt (ht_ (wC (qY (zC .tuple m_isinstance (aZ (pv 1)) (qZ (v:=.ty "tuple") rfl m_tuple go_ rfl)))) (fa_ (jS (ge_ K hu0) lA (mK (wE K) zJ (by rfl) m_len PySem.boot_len (bC (aZ (pv 1)) cD)) cO (cH _))))) (dY (gA x8)) jF)
    (dR (iP (XW.pt (ht_ (wC (qY (eU CIW (hr.mono (by omega)) (bC (eK K (aZ (pv 1)) cO (fun _ _=>rfl)) cD)))) (fa_ (wC (aDj aFk aFd rV rT cO (eK K (aZ (pv 1)) cO (fun _ _=>rfl)) (mK (wE K) zJ (by rfl) m_len PySem.boot_len (bC (aZ (pv 0)) cD))))))) (dY (gA x8)) jF)
    (dY (gA (eU CIV (hr.mono (by omega)) (bC (eK K (aZ (pv 0)) (eK K (aZ (pv 1)) cO (fun _ _=>rfl)) (fun _ _=>rfl)) (bC (eK K (aZ (pv 1)) cO (fun _ _=>rfl)) cD))))))),fun ds Q h => ?_⟩
  obtain ⟨ks,d,rfl,hs,hok,hd,hn,q⟩:=h
  have hxl:(xK ks).length=ks.length:=by rw [yQ,aE]
  cases d with
  | tup l =>
    simp only [Dx.Sz] at hs
    cases l with
    | nil=>exact q
    | cons a r =>
      cases r with
      | nil=>cases a <;> exact q
      | cons b r =>
        cases r with
        | cons c r=>cases a <;> exact q
        | nil =>
          obtain ⟨ha,hb,_⟩:=hs.2
          refine ⟨a,rfl,aMb ha,?_⟩
          cases a with
          | int jj =>
            show if (!true)=true then _ else _
            by_cases h0:0≤jj
            · by_cases h1 : jj < (ks.length : Int)
              · have hkk := aD (l := ks) (i := jj.toNat) (by omega)
                obtain ⟨o1,o2⟩:=uR hok.1 (aS hkk)
                have hxk:(xK ks)[jj.toNat]? = some (ks[jj.toNat]'(by omega)).x:=by rw [yQ,cE,hkk]; rfl
                have hat:=fj_ hxk
                rw [show ((jj.toNat:Nat):Int)=jj from by omega] at hat
                have e1:((0:Int)≤jj)=True:=eq_true h0
                have e2:(jj < ((xK ks).length:Int))=True:=eq_true (by omega)
                simp only [isN,hkk,decide_eq_true h0,decide_eq_true h1,gK] at q
                simp only [fJ,fY,xIf,xB,xOp,eE,xC,iQ,fG,cU,fA,xOr,kS,xIs,ixX,gI,neX,eqS,mE,kL,fI,eI,fH,cu_,ct_,lC,lT,lR,lQ,lP,lO,lN,lM,lL,lK,lJ,lG,lF,lE,bB,bE,cA,bV,Sv.d,aP,bM,cZ,cL,bK,aY,aL,bG,aX,bU,Nat.reduceAdd,Nat.reduceSub,Nat.reduceLeDiff,true_and,decide_eq_true_eq,cut,hY,back,cY,if_true,↓reduceIte,cM,dD,isT,lU,e1,e2,hat,Bool.not_true,Bool.not_false,decide_true,fE]
                exact ⟨_,b,rfl,hb,o1,by omega,hn,q⟩
              · have e1 : ((0 : Int) ≤ jj) = True := eq_true h0
                have e2:(jj < ((xK ks).length:Int))=False:=eq_false (by omega)
                simp only [isN,decide_eq_true h0,decide_eq_false h1,gK,gS] at q
                simp only [fJ,fY,xIf,xB,xOp,eE,xC,iQ,fG,cU,fA,xOr,kS,xIs,ixX,gI,neX,eqS,mE,kL,fI,eI,fH,cu_,ct_,lC,lT,lR,lQ,lP,lO,lN,lM,lL,lK,lJ,lG,lF,lE,bB,bE,cA,bV,Sv.d,aP,bM,cZ,cL,bK,aY,aL,bG,aX,bU,Nat.reduceAdd,Nat.reduceSub,Nat.reduceLeDiff,true_and,decide_eq_true_eq,cut,hY,back,cY,if_true,↓reduceIte,cM,dD,isT,lU,e1,e2,Bool.not_true,Bool.not_false,decide_true,decide_false,fE]
                exact q
            · have e1 : ((0 : Int) ≤ jj) = False := eq_false h0
              simp only [isN,decide_eq_false h0,gS] at q
              simp only [fJ,fY,xIf,xB,xOp,eE,xC,iQ,fG,cU,fA,xOr,kS,xIs,ixX,gI,neX,eqS,mE,kL,fI,eI,fH,cu_,ct_,lC,lT,lR,lQ,lP,lO,lN,lM,lL,lK,lJ,lG,lF,lE,bB,bE,cA,bV,Sv.d,aP,bM,cZ,cL,bK,aY,aL,bG,aX,bU,Nat.reduceAdd,Nat.reduceSub,Nat.reduceLeDiff,true_and,decide_eq_true_eq,cut,hY,back,cY,if_true,↓reduceIte,cM,dD,isT,lU,e1,Bool.not_true,Bool.not_false,decide_true,decide_false,fE]
              exact q
          | scr _ _=>simp only [Dx.Sz] at ha
          | ins _ _=>simp only [Dx.Sz] at ha
          | exc _=>simp only [Dx.Sz] at ha
          | _=>exact q
  | scr _ _=>simp only [Dx.Sz] at hs
  | ins _ _=>simp only [Dx.Sz] at hs
  | exc _=>simp only [Dx.Sz] at hs
  | _=>exact q
theorem aPl (F:Fun K "is_value" "is_value" fn_ f fd) (CIW:Cal P w K mg base 1 "is_whole" ["thing"] (spX gWB)) (CIRV:Cal P w K mg base j "is_row_value" ["kind", "n", "thing"] (spX (aUm n))) (CIDV:Cal P w K mg base j "is_record_value" ["fields", "thing"] (spX (aUn n))) (CICV:Cal P w K mg base j "is_choice_value" ["kinds", "thing"] (spX (aUo n))) (c_BITS_OF_A_BYTE:∃ t,mg "BITS_OF_A_BYTE" = some (.int 8 t)) (hj:1≤j) :
    FnOk P w K mg base CX0 (j + 1) f fd ["kind", "thing"] (spX (gIG (n + 1))):=by
  refine jU F wQ (fun ds Q h=>by obtain ⟨_,_,rfl,_⟩:=h; rfl) (by decide) fun cdv A outer s H E hr => ?_
  have hu1:=oD hr
  have hu0:=bN hu1
  refine ⟨_,(dR (iP (jS (mJ K hu0) mI (eK K (aZ (pv 0)) cO (fun _ _=>rfl)) kM (cH _)) (dY (gA (ex_ (eU CIW (hr.mono (by omega)) (bC (aZ (pv 1)) cD)) (ex_ (ew_ aFl aFe (aZ (pv 1)) cO (cH _)) (fb_ (ew_ aFk aFd (fun F=>PE.weak (aOg PySem.F.plainAttrs_int PySem.F.slot_int_bit_length PySem.F.type_int_bit_length qV (XE.at (Ex:=cC) F (aZ (pv 1)))) aRb) (cw_ (hv_ (by rfl) c_BITS_OF_A_BYTE) (eK K (aZ (pv 0)) cO (fun _ _=>rfl))) (cH _))))))) jF)
    (dR (iP (jS (mJ K hu0) mI (eK K (aZ (pv 0)) cO (fun _ _=>rfl)) kM (cH _)) (dY (gA (eU CIRV (hr.mono (by omega)) (bC (eK K (aZ (pv 0)) cO (fun _ _=>rfl)) (bC (eK K (aZ (pv 0)) cO (fun _ _=>rfl)) (bC (aZ (pv 1)) cD)))))) jF)
    (dR (iP (jS (mJ K hu0) mI (eK K (aZ (pv 0)) cO (fun _ _=>rfl)) kM (cH _)) (dY (gA (eU CIDV (hr.mono (by omega)) (bC (eK K (aZ (pv 0)) cO (fun _ _=>rfl)) (bC (aZ (pv 1)) cD))))) jF)
    (dY (gA (eU CICV (hr.mono (by omega)) (bC (eK K (aZ (pv 0)) cO (fun _ _=>rfl)) (bC (aZ (pv 1)) cD)))))))),fun ds Q h => ?_⟩
  obtain ⟨kd,d,rfl,hs,hok,hd,hn,q⟩:=h
  cases kd with
  | num wd m =>
    obtain ⟨a1,a2,a3,a4⟩:=hok
    refine ⟨d,rfl,aMb hs,?_⟩
    cases d with
    | int i =>
      show if decide ((0:Int)≤i)=true then _ else _
      by_cases h0:0≤i
      · rw [if_pos (decide_eq_true h0)]
        simp only [isN,decide_eq_true h0,gK] at q
        exact ⟨⟨by decide,by omega⟩,q⟩
      · rw [if_neg (by simpa using h0)]
        simp only [isN,decide_eq_false h0,gS] at q
        exact q
    | scr _ _=>simp only [Dx.Sz] at hs
    | ins _ _=>simp only [Dx.Sz] at hs
    | exc _=>simp only [Dx.Sz] at hs
    | _=>exact q
  | row k m =>
    have hd':k.deep + 1≤n + 1:=hd
    exact ⟨k,m,d,rfl,hs,hok,by omega,by omega,q⟩
  | rcd fs =>
    have hd':eV fs + 1≤n + 1:=hd
    exact ⟨fs,d,rfl,hs,hok,by omega,by omega,q⟩
  | cho ks =>
    have hd':eY ks + 1≤n + 1:=hd
    exact ⟨ks,d,rfl,hs,hok,by omega,by omega,q⟩
theorem aGn:FnOk P w K mg base CX0 j f fd ["kind", "thing"] (spX (gIG 0)):=sK fun ds Q h=>by
  obtain ⟨kd,_,_,_,_,hd,_⟩:=h
  have:=Kd.deep_pos kd
  omega
end
def gBE (C:Addr) (n:Nat):GE:=fun ds Q Ex => ∃ (kd:Kd) (d:Dx),ds=[kd.x,d]∧d.Sz∧kd.Ok∧kd.deep≤n∧n≤12∧isN n kd d=false∧Ex (.ref C)
section
variable {P:Program} {w:World} {K:dH} {mg:gO} {base:Heap} {f:Addr} {fd:FuncData} {n j jI:Nat}
theorem aPq (F:Fun K "bytes_of" "bytes_of" fo_ f fd) (CIV:Cal P w K mg base jI "is_value" ["kind", "thing"] (spX (gIG n))) (CLB:Cal P w K mg base j "laid_bytes" ["kind", "value"] (spX (gLB n))) (hj:jI≤j) {C_NoValue:Addr} (O_NoValue:PyProof.Rows.OwnCls "NoValue" C_NoValue veM "ValueError.__new__" mg base):FnOk P w K mg base (CXe P w) (j + 1) f fd ["kind", "thing"] (spE (gBE C_NoValue n)):=by
  refine aYp F ic_ (fun ds Q Ex h=>by obtain ⟨_,_,rfl,_⟩:=h; rfl) (by decide) fun cdv A outer s H E Ex hr => ?_
  refine ⟨_,(dR (iP (wC (qY (eU CIV (hr.mono (by omega)) (bC (aZ (pv 0)) (bC (aZ (pv 1)) cD))))) (dY (aDk O_NoValue rfl (by rfl))) jF)
    (dY (gA (eU CLB (hr.mono (by omega)) (bC (aZ (pv 0)) (bC (aZ (pv 1)) cD)))))),fun ds Q h => ?_⟩
  obtain ⟨kd,d,rfl,hs,hok,hd,hn,hf,q⟩:=h
  refine ⟨kd,d,rfl,hs,hok,hd,hn,?_⟩
  rw [hf]
  exact q
end
theorem AtP.get {xs ys:List Int} {p i:Nat} (h:AtP xs p ys) (hi:i < ys.length):xs[p + i]? = ys[i]? := by
  have h1:=h.1
  have h2:=h.2 i hi
  rw [aM,aM,aD (by omega),aD hi] at h2
  rw [aD (by omega),aD hi]
  exact congrArg some h2
theorem j_ {kd:Kd} {v:Vd} {i:Nat} (hf:kd.Fit) (hv:kd.Val v) (hi:i < kd.rm.1.toNat) (hz:kd.bz i=false):(kd.byt v)[i]? = some 0:=by
  have hl:=Kd.byt_len hv
  have:(kd.byt v).getD i 0=0:=Classical.byContradiction fun h=>by rw [Kd.byt_nz kd v i hf.ok hv h] at hz; cases hz
  rw [aM,aD (by omega)] at this
  rw [aD (by omega)]
  exact congrArg some this
theorem pY {S:Nat} (hS:0 < S):∀ {L:List (List Int)},(∀ c∈L,c.length=S)→∀ i,L.flatten[i]? = (L[i / S]?).bind fun c=>c[i % S]?
  | [],_,i=>by simp
  | c :: r, h, i => by
    have hc:=h c aB
    rw [dE]
    by_cases hi:i < S
    · rw [bY (by omega), Nat.div_eq_of_lt hi, Nat.mod_eq_of_lt hi]
      rfl
    · rw [bD (by omega), hc, pY hS (fun d hd => h d (aC _ hd)) (i - S)]
      have e:i=(i - S) + S:=by omega
      have e1:i / S=(i - S) / S + 1:=by rw [e,Nat.add_div_right _ hS]; simp
      have e2:i % S=(i - S) % S:=by rw [e,Nat.add_mod_right]; simp
      rw [e1,e2]
      rfl
theorem aEg {k:Kd} {m:Int} {vs:List Vd} (hf:(Kd.row k m).Fit) (hv:(Kd.row k m).Val (.row vs)):(Kd.row k m).byt (.row vs)=(vs.map fun v=>k.byt v ++ List.replicate ((up k.rm.1 k.rm.2).toNat - k.rm.1.toNat) 0).flatten:=by
  have hf':=hf
  obtain ⟨f1,f2,f3⟩:=hf
  have hv':=hv
  simp only [Kd.Val] at hv
  obtain ⟨c0,c1,c2,c3⟩:=k.bd f1.ok
  obtain ⟨u1,u2⟩:=jW (n:=k.rm.1) (m:=k.rm.2) (by omega)
  have hlen:∀ c∈vs.map fun v=>k.byt v ++ List.replicate ((up k.rm.1 k.rm.2).toNat - k.rm.1.toNat) 0,c.length=(up k.rm.1 k.rm.2).toNat:=fun c hc=>by
    obtain ⟨v,hm,rfl⟩:=cN.mp hc
    rw [aI,aG,Kd.byt_len (hv.2 v hm)]
    omega
  have hR:(Kd.row k m).rm.1.toNat=vs.length * (up k.rm.1 k.rm.2).toNat:=by
    have:(Kd.row k m).rm.1=((vs.length * (up k.rm.1 k.rm.2).toNat:Nat):Int):=by show m * up k.rm.1 k.rm.2=_; rw [← hv.1]; push_cast; rw [gP (by omega)]
    rw [this,dA]
  have hbl:=Kd.byt_len hv'
  generalize hS:(up k.rm.1 k.rm.2).toNat=S at *
  by_cases hS0:S=0
  · subst hS0
    rw [Nat.mul_zero] at hR
    have h1:(Kd.row k m).byt (.row vs)=[]:=fK (by omega)
    rw [h1]
    symm
    rw [List.flatten_eq_nil_iff]
    intro c hc
    exact fK (hlen c hc)
  · refine fO fun i => ?_
    rw [pY (by omega) hlen i,cE]
    by_cases hi:i < vs.length * S
    · have ht : i / S < vs.length := Nat.div_lt_of_lt_mul (by rw [Nat.mul_comm]; exact hi)
      have hj:i % S < S:=Nat.mod_lt _ (by omega)
      have e0:i / S * S + i % S=i:=by rw [Nat.mul_comm]; exact Nat.div_add_mod i S
      have ev:=aD ht
      have hva:=hv.2 _ (aS ev)
      have hkl:=Kd.byt_len hva
      rw [ev]
      show _=(k.byt (vs[i / S]'ht) ++ List.replicate (S - k.rm.1.toNat) 0)[i % S]?
      by_cases hjr:i % S < k.rm.1.toNat
      · rw [bY (by omega)]
        have a:=(aHv hf' hv' ev).get (i:=i % S) (by omega)
        rw [hS,e0] at a
        exact a
      · rw [bD (by omega), bI, if_pos (by omega)]
        refine j_ hf' hv' (by omega) ?_
        cases hz:(Kd.row k m).bz i with
        | false=>rfl
        | true =>
          exfalso
          obtain ⟨j,j1,j2,j3⟩:=(aHq f1.ok i).mp hz
          have hlt:=Kd.bz_lt f1.ok j3
          rw [hS] at j2 hlt
          have hd:i / S=j:=by
            refine Nat.div_eq_of_lt_le j2 ?_
            rw [Nat.add_mul,Nat.one_mul]
            omega
          rw [hd] at e0
          omega
    · rw [bQ (by omega)]
      have:vs.length≤i / S:=(Nat.le_div_iff_mul_le (by omega)).mpr (by omega)
      rw [bQ this]
      rfl
theorem vF:∀ (n:Nat) (kd:Kd) (v:Vd),kd.deep≤n→kd.Fit→kd.Val v→isN n kd (kd.vx v)=true
  | 0,kd,_,hd,_,_=>by have:=Kd.deep_pos kd; omega
  | n + 1, .num w m, v, hd, hf, hv => by
    obtain ⟨i,rfl,a1,a2⟩:=n9 hv
    have hw:=hf.1
    simp only [Kd.vx,isN]
    rw [decide_eq_true a1,decide_eq_true (aHt a1 (by omega) a2)]
    rfl
  | n + 1, .row k m, v, hd, hf, hv => by
    obtain ⟨vs,rfl,h1,h2⟩:=n5 hv
    have hd':k.deep + 1≤n + 1:=hd
    simp only [Kd.vx,isN]
    rw [decide_eq_true (by rw [aE]; exact h1),gK,fD]
    intro d hm
    obtain ⟨u,hu,rfl⟩:=cN.mp hm
    exact vF n k u (by omega) hf.1 (h2 u hu)
  | n + 1, .rcd fs, v, hd, hf, hv => by
    obtain ⟨vs,rfl,h2⟩:=n6 hv
    have hd':eV fs + 1≤n + 1:=hd
    obtain ⟨f1,f2,f3,hnd⟩:=hf
    have hvl:=dt_ h2
    simp only [Kd.vx,isN]
    rw [decide_eq_true (by rw [oS hvl]),gK,fF]
    refine ⟨?_,?_⟩
    · rw [fD]
      intro p hp
      obtain ⟨i,f,u,e1,e2,rfl⟩:=aNg hvl hp
      rfl
    · rw [fD]
      intro f hm
      obtain ⟨i,hi⟩:=eC hm
      have hil:=(aK.mp hi).1
      have e2:=aD (l:=vs) (i:=i) (by omega)
      obtain ⟨ff,fd⟩:=mQ f1 hm
      rw [aKv hnd hvl hi e2]
      exact vF n f.2 _ (by omega) ff (tN h2 hi e2)
  | n + 1, .cho ks, v, hd, hf, hv => by
    obtain ⟨j,u,k,rfl,hk,hu⟩:=n_ hv
    have hd':eY ks + 1≤n + 1:=hd
    obtain ⟨kf,kdp⟩:=kQ hf.1 (aS hk)
    have hjl:=(aK.mp hk).1
    simp only [Kd.vx,isN,hw_ hk]
    rw [decide_eq_true (by omega),decide_eq_true (by omega),dA,hk]
    exact vF n k u (by omega) kf hu
theorem aKm {n:Nat} {kd:Kd}:isN n kd .non=false:=by cases n <;> cases kd <;> rfl
theorem aKk {n:Nat} {k:Kd} {m:Int} {l:List Dx} {d:Dx} (hm:d∈l) (hd:isN n k d=false):isN (n + 1) (.row k m) (.lst l)=false:=by
  simp only [isN]
  have:l.all (isN n k)=false:=List.all_eq_false.mpr ⟨d,hm,by rw [hd]; exact aW⟩
  rw [this,Bool.and_false]
theorem aKn {n:Nat} {ks:List Kd} {j:Int} {x:Dx} (h:(ks.length:Int)≤j):isN (n + 1) (.cho ks) (.tup [.int j,x])=false:=by
  simp only [isN]
  rw [decide_eq_false (by omega:¬ j < (ks.length:Int)),Bool.and_false,gS]
theorem aKl {n:Nat} {w m i:Int} (hw:0≤w) (h:256 ^ w.toNat≤i):isN (n + 1) (.num w m) (.int i)=false:=by
  simp only [isN]
  have:¬ (((Builtin.Int.intBits i:Nat):Int)≤8 * w):=fun hle=>by
    have h1:Builtin.Int.intBits i≤8 * w.toNat:=by omega
    have h2:=intBits_le_iff.mp h1
    have e:(2:Nat) ^ (8 * w.toNat)=256 ^ w.toNat:=by rw [Nat.pow_mul]
    have h3:((256 ^ w.toNat:Nat):Int)≤i:=by push_cast; exact h
    rw [e] at h2
    omega
  rw [decide_eq_false this,Bool.and_false]
def gBV (n:Nat):GC:=fun ds Q => ∃ (kd:Kd) (vd:Vd) (d:Dx),ds=[kd.x,d]∧d=kd.vx vd∧kd.Fit∧kd.Val vd∧kd.deep≤n∧n≤12∧kd.rm.1≤100000∧Q (.ol ((kd.byt vd).map Dx.int))
section
variable {P:Program} {w:World} {K:dH} {mg:gO} {base:Heap} {f:Addr} {fd:FuncData} {n j jI:Nat}
theorem aJq (F:Fun K "bytes_of" "bytes_of" fo_ f fd) (CIV:Cal P w K mg base jI "is_value" ["kind", "thing"] (spX (gIG n))) (CLB:Cal P w K mg base j "laid_bytes" ["kind", "value"] (spX (gLB n))) (hj:jI≤j):FnOk P w K mg base CX0 (j + 1) f fd ["kind", "thing"] (spX (gBV n)):=by
  refine jU F ic_ (fun ds Q h=>by obtain ⟨_,_,_,rfl,_⟩:=h; rfl) (by decide) fun cdv A outer s H E hr => ?_
  refine ⟨_,(dR (iP (wC (qY (eU CIV (hr.mono (by omega)) (bC (aZ (pv 0)) (bC (aZ (pv 1)) cD))))) (dY m6) jF)
    (dY (gA (eU CLB (hr.mono (by omega)) (bC (aZ (pv 0)) (bC (aZ (pv 1)) cD)))))),fun ds Q h => ?_⟩
  obtain ⟨kd,vd,d,rfl,rfl,hfit,hval,hdp,hn,hrm,q⟩:=h
  refine ⟨kd,kd.vx vd,rfl,(kd.vx_sz vd hfit hval).1,hfit.ok,hdp,hn,?_⟩
  rw [vF n kd vd hdp hfit hval]
  exact ⟨kd,vd,kd.vx vd,rfl,pS kd vd hfit hval,hfit,hval,hdp,hn,hrm,q⟩
end
def gLF:GC:=fun ds Q => ∃ (xs:List Int) (r:Int),ds=[.lst (xs.map Dx.int),.int r]∧xs.length≤100000∧r≤100000 ∧ -100000≤r∧Q (.ol ((xs ++ List.replicate (r - (xs.length:Int)).toNat 0).map Dx.int))
def gRW:GC:=fun ds Q => ∃ (k:Kd) (vs:List Vd),ds=[k.x,.lst (vs.map k.vx)]∧k.Fit∧k.deep≤4∧1≤vs.length∧vs.length≤20∧(∀ v∈vs,k.Val v)∧k.rm.1≤1000∧Q (.tr (.bl true))
section
variable {P:Program} {w:World} {K:dH} {mg:gO} {base:Heap} {f:Addr} {fd:FuncData} {n L:Nat}
theorem aPi (F:Fun K "_law_filled" "_law_filled" fe_ f fd) (m_len:mg "len" = none):FnOk P w K mg base CX0 1 f fd ["row", "room"] (spX gLF):=by
  refine jU F qT (fun ds Q h=>by obtain ⟨_,_,rfl,_⟩:=h; rfl) (by decide) fun cdv A outer s H E hr => ?_
  refine ⟨_,(dY (gA (jX (aZ (pv 0)) (cw_ (qG (bC cO cD)) (hd_ (aZ (pv 1)) (mK (wE K) zJ (by rfl) m_len PySem.boot_len (bC (aZ (pv 0)) cD))))))),fun ds Q h => ?_⟩
  obtain ⟨xs,r,rfl,h1,h2,h3,q⟩:=h
  have hl:(((xs.map Dx.int).length:Nat):Int)=(xs.length:Int):=by rw [aE]
  refine ⟨aKf,⟨by rw [hl]; omega,by rw [hl]; omega,by rw [hl]; show 1 * _≤_; omega⟩,?_⟩
  rw [aDh,hl]
  refine ⟨by rw [aE,aE,aG]; omega,?_⟩
  rw [bW] at q
  exact q
theorem aOt (F:Fun K "_law_row_right" "_law_row_right" dv_ f fd) (CRO:Cal P w K mg base L "room_of" ["kind"] (spX (gRO 5))) (CRU:Cal P w K mg base 1 "rounded_up" ["number", "m"] (spX gRU)) (CLF:Cal P w K mg base 1 "_law_filled" ["row", "room"] (spX gLF)) (CBY:Cal P w K mg base L "bytes_of" ["kind", "thing"] (spX (gBV 5))) (CVO:Cal P w K mg base L "value_of" ["kind", "thing"] (spX (gVO 5))) (CSB:Cal P w K mg base L "_law_same" ["one", "other"] (spX (gSA 6))) (m_len:mg "len" = none) (hL:1≤L):FnOk P w K mg base CX0 (L + 1) f fd ["kind", "values"] (spX gRW):=by
  refine jU F dZ (fun ds Q h=>by obtain ⟨_,_,rfl,_⟩:=h; rfl) (by decide) fun cdv A outer s H E hr => ?_
  have hu1:=oD hr
  have hu0:=bN hu1
  refine ⟨_,(dR (tF (ey_ (n:=99) (is:=[2,3]) rfl (by decide)) fun F=>gd_ (XE.at (Ex:=cC) F (eU CRO (hr.mono (by omega)) (bC (aZ (pv 0)) cD))) (fu_ rfl (jT (gN (i:=2) dZ.nd rfl (Or.inl rfl)) (jT (gN (i:=3) dZ.nd rfl (Or.inl rfl)) vW))))
    (dR (gQ fun F=>fS (i:=4) dZ.nd rfl (Or.inl rfl) (XE.at (Ex:=cC) F (mV (bC kM (bC (aZ (pv 0)) (bC (mK (wE K) zJ (by rfl) m_len PySem.boot_len (bC (aZ (pv 1)) cD)) cD))))))
    (dR (gQ fun F=>fS (i:=5) dZ.nd rfl (Or.inl rfl) (XE.at (Ex:=cC) F (qG cD)))
    (dR (zK PassesOwn.never rfl (rA (aZ (pv 1))) (gN (i:=6) dZ.nd rfl (Or.inl rfl)) (kO (n:=99) (i:=6) (by decide)) (dY (gQ fun F=>fS (i:=5) dZ.nd rfl (Or.inl rfl) (XE.at (Ex:=cC) F (jX (aZ (pv 5)) (eU CLF (hr.mono (by omega)) (bC (eU CBY (hr.mono (by omega)) (bC (aZ (pv 0)) (bC (aZ (pv 6)) cD))) (bC (eU CRU (hr.mono (by omega)) (bC (aZ (pv 2)) (bC (aZ (pv 3)) cD))) cD))))))))
    (dY (gA (ex_ (ew_ (e_ hu0) pB (eU CBY (hr.mono (by omega)) (bC (aZ (pv 4)) (bC (aZ (pv 1)) cD))) (aZ (pv 5)) (cH _)) (fb_ (eU CSB (hr.mono (by omega)) (bC (eU CVO (hr.mono (by omega)) (bC (aZ (pv 4)) (bC (aZ (pv 5)) cD))) (bC (aZ (pv 1)) cD))))))))))),fun ds Q h => ?_⟩
  obtain ⟨k,vs,rfl,hF,hd,h1,h2,hV,hrm,q⟩:=h
  have hfit:(Kd.row k (vs.length:Int)).Fit:=⟨hF,by omega,by omega⟩
  have hval:(Kd.row k (vs.length:Int)).Val (.row vs):=by simp only [Kd.Val]; exact ⟨trivial,hV⟩
  have hdp:(Kd.row k (vs.length:Int)).deep≤5:=by show k.deep + 1≤5; omega
  obtain ⟨c0,c1,c2,c3⟩:=k.bd hF.ok
  obtain ⟨u1,u2⟩:=jW (n:=k.rm.1) (m:=k.rm.2) (by omega)
  have hR':(Kd.row k (vs.length:Int)).rm.1=(vs.length:Int) * up k.rm.1 k.rm.2:=rfl
  have hrm2:(Kd.row k (vs.length:Int)).rm.1≤100000:=by
    rw [hR']
    have:(vs.length:Int) * up k.rm.1 k.rm.2≤20 * up k.rm.1 k.rm.2:=bX (by omega) (by omega)
    omega
  have hvx:(Kd.row k (vs.length:Int)).vx (.row vs)=.lst (vs.map k.vx):=by simp only [Kd.vx]
  obtain ⟨hsz,hdd⟩:=Kd.vx_sz _ _ hfit hval
  rw [hvx] at hsz hdd
  have hfl:=aEg hfit hval
  have hbl:=Kd.byt_len hval
  refine ⟨k,rfl,hF.ok,by omega,by decide,?_⟩
  dsimp only
  refine ⟨by show 3≤1000000; decide,?_⟩
  refine ⟨dB _,?_⟩
  rw [aE]
  dsimp only
  change fJ _ _ [.v (.tr k.x),.v (.tr (.lst (vs.map k.vx))),.v (.tr (.int k.rm.1)),.v (.tr (.int k.rm.2)),.v (.tr (Kd.row k (vs.length:Int)).x),.v (.ol []),.un] _
  refine dm_ (fun ρ => ∃ (s5:Sv) (y6:Sl),ρ=[.v (.tr k.x),.v (.tr (.lst (vs.map k.vx))),.v (.tr (.int k.rm.1)),.v (.tr (.int k.rm.2)),.v (.tr (Kd.row k (vs.length:Int)).x),.v s5,y6]∧s5.d=.lst (((Kd.row k (vs.length:Int)).byt (.row vs)).map Dx.int)) ?_ (fun D2 hD2 => ?_)
  · rintro ρ ⟨s5, y6, rfl, h5⟩
    refine ⟨Kd.row k (vs.length:Int),.row vs,.lst (vs.map k.vx),rfl,hvx.symm,hfit,hval,hdp,by decide,hrm2,?_⟩
    refine o0 rfl h5 ?_
    refine ⟨_,_,rfl,rfl,?_⟩
    have ed:(if (false:Bool)=true then !decide ((Kd.row k (vs.length:Int)).byt (.row vs)=(Kd.row k (vs.length:Int)).byt (.row vs)) else decide ((Kd.row k (vs.length:Int)).byt (.row vs)=(Kd.row k (vs.length:Int)).byt (.row vs)))=true:=decide_eq_true rfl
    rw [ed]
    refine ⟨Kd.row k (vs.length:Int),.row vs,rfl,hfit,hval,hdp,by decide,hrm2,?_⟩
    rw [hvx]
    exact ⟨.lst (vs.map k.vx),rfl,hsz,by omega,q⟩
  · rw [hfl] at hD2
    refine zA k.vx (fun rest ρ => ∃ (done:List Vd) (y6:Sl),vs=done ++ rest∧ρ=[.v (.tr k.x),.v (.tr (.lst (vs.map k.vx))),.v (.tr (.int k.rm.1)),.v (.tr (.int k.rm.2)),.v (.tr (Kd.row k (vs.length:Int)).x),.v (.ol ((done.map fun v=>k.byt v ++ List.replicate ((up k.rm.1 k.rm.2).toNat - k.rm.1.toNat) 0).flatten.map Dx.int)),y6]) (fun ρ h => ?_) (fun v rest ρ Kn h hk => ?_) ⟨[],.un,rfl,rfl⟩
    · obtain ⟨done, y6, e, rfl⟩ := h
      rw [cR] at e
      subst e
      exact hD2 _ ⟨_,_,rfl,rfl⟩
    · obtain ⟨done, y6, e, rfl⟩ := h
      have hm:v∈vs:=by rw [e]; exact aJ _ aB
      have hkl:=Kd.byt_len (hV v hm)
      have hdl:done.length < vs.length:=by rw [e,aI,aL]; omega
      have hfl2:((done.map fun v=>k.byt v ++ List.replicate ((up k.rm.1 k.rm.2).toNat - k.rm.1.toNat) 0).flatten).length≤30000:=by
        have h3:∀ (l:List Vd),(∀ u∈l,k.Val u)→((l.map fun v=>k.byt v ++ List.replicate ((up k.rm.1 k.rm.2).toNat - k.rm.1.toNat) 0).flatten).length≤l.length * 1100:=by
          intro l
          induction l with
          | nil=>intro _; simp
          | cons a r ih =>
            intro hl
            rw [aP,dE,aI,aI,aG,Kd.byt_len (hl a aB),aL]
            have:=ih fun u hu=>hl u (aC _ hu)
            omega
        have:=h3 done fun u hu=>hV u (by rw [e]; exact bH _ hu)
        omega
      refine ⟨k,v,k.vx v,rfl,rfl,hF,hV v hm,by omega,by decide,by omega,?_⟩
      refine ⟨k.rm.1,k.rm.2,rfl,by omega,by omega,by omega,by omega,?_⟩
      refine ⟨k.byt v,up k.rm.1 k.rm.2,rfl,by omega,by omega,by omega,?_⟩
      rw [show (up k.rm.1 k.rm.2 - ((k.byt v).length:Int)).toNat=(up k.rm.1 k.rm.2).toNat - k.rm.1.toNat from by omega]
      refine ⟨by simp only [aE,aI,aG]; omega,?_⟩
      have hk':=hk [.v (.tr k.x),.v (.tr (.lst (vs.map k.vx))),.v (.tr (.int k.rm.1)),.v (.tr (.int k.rm.2)),.v (.tr (Kd.row k (vs.length:Int)).x),.v (.ol (((done ++ [v]).map fun v=>k.byt v ++ List.replicate ((up k.rm.1 k.rm.2).toNat - k.rm.1.toNat) 0).flatten.map Dx.int)),.v (.tr (k.vx v))] ⟨done ++ [v],_,by rw [e,bO]; rfl,rfl⟩
      rw [bW,List.flatten_append,bW (f:=Dx.int),aP,bM,dE,List.flatten_nil,cR] at hk'
      exact hk'
end
theorem v3 {l:List Dx} {j:Nat} {d:Dx} {Q:Sv→Prop} (h:l[j]? = some d) (q:Q (.tr d)):ixX (.lst l) (.int (j:Int)) Q:=by
  show (match atI l (j:Int) with | some d=>Q (.tr d) | none=>False)
  rw [fj_ h]
  exact q
theorem aHl {ks:List Kd} {j:Nat} {k:Kd} {v:Vd} (hf:(Kd.cho ks).Fit) (hk:ks[j]? = some k) (hv:k.Val v) :
    (Kd.cho ks).byt (.cho j v)=(([(j:Int)] ++ List.replicate (up 1 (Kd.cho ks).rm.2 - (([(j:Int)].length:Nat):Int)).toNat 0) ++ k.byt v) ++ List.replicate ((Kd.cho ks).rm.1 - (((([(j:Int)] ++ List.replicate (up 1 (Kd.cho ks).rm.2 - (([(j:Int)].length:Nat):Int)).toNat 0) ++ k.byt v).length:Nat):Int)).toNat 0∧(Kd.cho ks).rm.2≤8∧1≤(Kd.cho ks).rm.2:=by
  obtain ⟨kf,kd⟩:=kQ hf.1 (aS hk)
  have hl1:k.rm.1≤maxL 0 ((rmK ks).map (·.1)):=il_ (dM (aS (uB hk)))
  obtain ⟨a,b,c,d⟩:=k.bd kf.ok
  obtain ⟨a',b',c',d'⟩:=(Kd.cho ks).bd hf.ok
  have bl:(k.byt v).length=k.rm.1.toNat:=Kd.byt_len hv
  have u1:=(jW (n:=up 1 (Kd.cho ks).rm.2 + maxL 0 ((rmK ks).map (·.1))) (m:=(Kd.cho ks).rm.2) (by omega)).1
  have u2:=(jW (n:=1) (m:=(Kd.cho ks).rm.2) (by omega)).1
  have eR:up (up 1 (Kd.cho ks).rm.2 + maxL 0 ((rmK ks).map (·.1))) (Kd.cho ks).rm.2=(Kd.cho ks).rm.1:=rfl
  rw [eR] at u1
  refine ⟨?_,d',c'⟩
  simp only [Kd.byt]
  rw [hp_ hk,show (hZ (rmK ks)).1=(Kd.cho ks).rm.1 from rfl,show (hZ (rmK ks)).2=(Kd.cho ks).rm.2 from rfl]
  clear eR b' b
  generalize (Kd.cho ks).rm.1=R at *
  generalize up 1 (Kd.cho ks).rm.2=M at *
  have e1:(List.replicate R.toNat (0:Int)).set 0 (j:Int)=[(j:Int)] ++ List.replicate (R.toNat - 1) 0:=by
    obtain ⟨q,hq⟩ : ∃ q,R.toNat=q + 1:=⟨R.toNat - 1,by omega⟩
    rw [hq]; rfl
  have l1:([(j:Int)].length:Nat)=1:=rfl
  rw [e1,sD (by rw [l1]; omega) (by rw [bl,l1]; omega),l1,show (M - ((1:Nat):Int)).toNat=M.toNat - 1 from by omega]
  congr 2
  rw [aI,aI,aG,l1,bl]
  omega
theorem aQk {i j:Nat} {a b:Dx} {ρ:En} {K:En→Prop} (h:K ((ρ.set i (.v (.tr a))).set j (.v (.tr b)))):gxT [i,j] (.tup [a,b]) ρ K:=h
theorem aQj {ρ:En} {Q:List Sv→En→Prop} (h:Q [] ρ):fA ρ Q:=h
theorem aQl {ds:List Dx} {Q:Sv→Prop} {xs ys:List Int} {r:Int} (e:ds=[.lst (xs.map Dx.int),.int r]) (hl:xs.length≤100000) (h1:r≤100000) (h2 : -100000≤r) (hy:ys=xs ++ List.replicate (r - (xs.length:Int)).toNat 0) (q:Q (.ol (ys.map Dx.int))):gLF ds Q:=⟨xs,r,e,hl,h1,h2,by rw [← hy]; exact q⟩
def gCC:GC:=fun ds Q => ∃ (ks:List Kd) (j:Nat) (k:Kd) (v:Vd),ds=[.lst (xK ks),.int (j:Int),k.vx v]∧(Kd.cho ks).Fit∧ks[j]? = some k∧k.Val v∧eY ks≤4∧(Kd.cho ks).rm.1≤100000∧k.rm.1≤1000∧Q (.tr (.bl true))
def gRF (n:Nat):GC:=fun ds Q => ∃ (kd:Kd) (d:Dx),ds=[kd.x,d]∧d.Sz∧kd.Ok∧kd.deep≤n∧n≤12∧isN n kd d=false∧Q (.tr (.bl true))
section
variable {P:Program} {w:World} {K:dH} {mg:gO} {base:Heap} {f:Addr} {fd:FuncData} {n j L:Nat}
theorem aOx (F:Fun K "_law_refused" "_law_refused" eq_ f fd) {C_NoValue:Addr} (O_NoValue:PyProof.Rows.OwnCls "NoValue" C_NoValue veM "ValueError.__new__" mg base) (hun:zH base C_NoValue C_NoValue) (CBE:aRl P w K mg base j "bytes_of" ["kind", "thing"] (spE (gBE C_NoValue n))) (CIV:Cal P w K mg base j "is_value" ["kind", "thing"] (spX (gIG n))):FnOk P w K mg base CX0 (j + 1) f fd ["kind", "thing"] (spX (gRF n)):=by
  refine jU F hX (fun ds Q h=>by obtain ⟨_,_,rfl,_⟩:=h; rfl) (by decide) fun cdv A outer s H E hr => ?_
  have hu1:=oD hr
  have hu0:=bN hu1
  refine ⟨_,(dR (gQ fun F=>fS (i:=2) hX.nd rfl (Or.inl rfl) (XE.at (Ex:=cC) F zP))
    (dR (aMx (jn:=3) (aMy fun _ _ _ _=>aFb CBE (hr.mono (by omega)) (bC (aZ (pv 0)) (bC (aZ (pv 1)) cD))) O_NoValue rfl rfl (by rfl) hX.nd rfl (by rfl) (fun _=>(dY (gQ fun F=>fS (i:=2) hX.nd rfl (Or.inl rfl) (XE.at (Ex:=cC) F (aZ (pv 3)))))))
    (dY (gA (ex_ (ew_ aJi aJg (aZ (pv 2)) zP (cH _)) (fb_ (zO (eU CIV (hr.mono (by omega)) (bC (aZ (pv 0)) (bC (aZ (pv 1)) cD)))))))))),fun ds Q h => ?_⟩
  obtain ⟨kd,d,rfl,hs,hok,hd,hn,hf,q⟩:=h
  refine ⟨kd,d,rfl,hs,hok,hd,hn,hf,⟨C_NoValue,rfl,hun⟩,?_⟩
  refine ⟨kd,d,rfl,hs,hok,hd,hn,?_⟩
  rw [hf]
  exact q
theorem aPp (F:Fun K "_law_choice_right" "_law_choice_right" cs_ f fd) (CRO:Cal P w K mg base L "room_of" ["kind"] (spX (gRO 5))) (CRU:Cal P w K mg base 1 "rounded_up" ["number", "m"] (spX gRU)) (CLF:Cal P w K mg base 1 "_law_filled" ["row", "room"] (spX gLF)) (CBY:Cal P w K mg base L "bytes_of" ["kind", "thing"] (spX (gBV 5))) (CVO:Cal P w K mg base L "value_of" ["kind", "thing"] (spX (gVO 5))) (CSB:Cal P w K mg base L "_law_same" ["one", "other"] (spX (gSA 6))) (hL:1≤L):FnOk P w K mg base CX0 (L + 1) f fd ["kinds", "k", "value"] (spX gCC):=by
  refine jU F dS (fun ds Q h=>by obtain ⟨_,_,_,_,rfl,_⟩:=h; rfl) (by decide) fun cdv A outer s H E hr => ?_
  have hu1:=oD hr
  have hu0:=bN hu1
  refine ⟨_,(dR (gQ fun F=>fS (i:=3) dS.nd rfl (Or.inl rfl) (XE.at (Ex:=cC) F (mV (bC kM (bC (aZ (pv 0)) cD)))))
    (dR (tF (ey_ (n:=99) (is:=[4,5]) rfl (by decide)) fun F=>gd_ (XE.at (Ex:=cC) F (eU CRO (hr.mono (by omega)) (bC (aZ (pv 3)) cD))) (fu_ rfl (jT (gN (i:=4) dS.nd rfl (Or.inl rfl)) (jT (gN (i:=5) dS.nd rfl (Or.inl rfl)) vW))))
    (dR (gQ fun F=>fS (i:=6) dS.nd rfl (Or.inl rfl) (XE.at (Ex:=cC) F (jX (eU CLF (hr.mono (by omega)) (bC (qG (bC (aZ (pv 1)) cD)) (bC (eU CRU (hr.mono (by omega)) (bC cO (bC (aZ (pv 5)) cD))) cD))) (eU CBY (hr.mono (by omega)) (bC (eK K (aZ (pv 0)) (aZ (pv 1)) (fun _ _=>rfl)) (bC (aZ (pv 2)) cD))))))
    (dR (gQ fun F=>fS (i:=6) dS.nd rfl (Or.inl rfl) (XE.at (Ex:=cC) F (eU CLF (hr.mono (by omega)) (bC (aZ (pv 6)) (bC (aZ (pv 4)) cD)))))
    (dY (gA (ex_ (ew_ (e_ hu0) pB (eU CBY (hr.mono (by omega)) (bC (aZ (pv 3)) (bC (mV (bC (aZ (pv 1)) (bC (aZ (pv 2)) cD))) cD))) (aZ (pv 6)) (cH _)) (fb_ (eU CSB (hr.mono (by omega)) (bC (eU CVO (hr.mono (by omega)) (bC (aZ (pv 3)) (bC (aZ (pv 6)) cD))) (bC (mV (bC (aZ (pv 1)) (bC (aZ (pv 2)) cD))) cD))))))))))),fun ds Q h => ?_⟩
  obtain ⟨ks,j,k,v,rfl,hfit,hk,hv,hd,hrm,hkr,q⟩:=h
  have hval:(Kd.cho ks).Val (.cho j v):=by simp only [Kd.Val]; exact tM hk hv
  have hdp:(Kd.cho ks).deep≤5:=by show eY ks + 1≤5; omega
  obtain ⟨kf,kdp⟩:=kQ hfit.1 (aS hk)
  obtain ⟨hfl,hm8,hm1⟩:=aHl hfit hk hv
  obtain ⟨c0,c1,c2,c3⟩:=k.bd kf.ok
  obtain ⟨b0,b1,b2,b3⟩:=(Kd.cho ks).bd hfit.ok
  obtain ⟨u1,u2⟩:=jW (n:=1) (m:=(Kd.cho ks).rm.2) (by omega)
  have hvx:(Kd.cho ks).vx (.cho j v)=.tup [.int (j:Int),k.vx v]:=by simp only [Kd.vx]; rw [hw_ hk]
  obtain ⟨hsz,hdd⟩:=Kd.vx_sz _ _ hfit hval
  rw [hvx] at hsz hdd
  have hkl:=Kd.byt_len hv
  have hxk:(xK ks)[j]? = some k.x:=by rw [yQ,cE,hk]; rfl
  refine ⟨iB,?_⟩
  refine ⟨.cho ks,rfl,hfit.ok,hdp,by decide,?_⟩
  dsimp only
  refine aQk ?_
  change fJ _ _ [.v (.tr (.lst (xK ks))),.v (.tr (.int (j:Int))),.v (.tr (k.vx v)),.v (.tr (.tup [.str "choice",.lst (xK ks)])),.v (.tr (.int (Kd.cho ks).rm.1)),.v (.tr (.int (Kd.cho ks).rm.2)),.un] _
  refine ⟨aKf,?_⟩
  refine ⟨1,(Kd.cho ks).rm.2,rfl,by decide,by decide,by omega,by omega,?_⟩
  refine ⟨[(j:Int)],up 1 (Kd.cho ks).rm.2,rfl,by show 1≤100000; decide,by omega,by omega,?_⟩
  change fG (gBV 5) (cU (xOp ixX (eE 0) (eE 1)) (cU (eE 2) fA)) [.v (.tr (.lst (xK ks))),.v (.tr (.int (j:Int))),.v (.tr (k.vx v)),.v (.tr (.tup [.str "choice",.lst (xK ks)])),.v (.tr (.int (Kd.cho ks).rm.1)),.v (.tr (.int (Kd.cho ks).rm.2)),.un] _
  refine it_ (fi_ (x5 (el_ rfl (el_ rfl (v3 hxk ?_)))))
  refine ⟨k,v,k.vx v,rfl,rfl,kf,hv,by omega,by decide,by omega,?_⟩
  refine ⟨?_,?_⟩
  · simp only [aE, aI, aG]
    show 1 + _ + _≤_
    omega
  dsimp only
  change fJ _ _ [.v (.tr (.lst (xK ks))),.v (.tr (.int (j:Int))),.v (.tr (k.vx v)),.v (.tr (.tup [.str "choice",.lst (xK ks)])),.v (.tr (.int (Kd.cho ks).rm.1)),.v (.tr (.int (Kd.cho ks).rm.2)),.v (.ol (([(j:Int)] ++ List.replicate (up 1 (Kd.cho ks).rm.2 - (([(j:Int)].length:Nat):Int)).toNat 0).map Dx.int ++ (k.byt v).map Dx.int))] _
  refine mG (it_ (fi_ (el_ rfl (fi_ (el_ rfl (aQj ?_))))))
  refine aQl (xs:=([(j:Int)] ++ List.replicate (up 1 (Kd.cho ks).rm.2 - (([(j:Int)].length:Nat):Int)).toNat 0) ++ k.byt v) (r:=(Kd.cho ks).rm.1) (ys:=(Kd.cho ks).byt (.cho j v)) ?_ ?_ (by omega) (by omega) hfl ?_
  · show [Dx.lst (List.map Dx.int _ ++ List.map Dx.int _), Dx.int _] = _
    rw [← bW]
  · simp only [aI, aG]
    show 1 + _ + _≤_
    omega
  change iQ _ [.v (.tr (.lst (xK ks))),.v (.tr (.int (j:Int))),.v (.tr (k.vx v)),.v (.tr (.tup [.str "choice",.lst (xK ks)])),.v (.tr (.int (Kd.cho ks).rm.1)),.v (.tr (.int (Kd.cho ks).rm.2)),.v (.ol (((Kd.cho ks).byt (.cho j v)).map Dx.int))] _
  refine ⟨iB,?_⟩
  refine ⟨.cho ks,.cho j v,.tup [.int (j:Int),k.vx v],rfl,hvx.symm,hfit,hval,hdp,by decide,hrm,?_⟩
  refine ⟨_,_,rfl,rfl,?_⟩
  have ed:(if (false:Bool)=true then !decide ((Kd.cho ks).byt (.cho j v)=(Kd.cho ks).byt (.cho j v)) else decide ((Kd.cho ks).byt (.cho j v)=(Kd.cho ks).byt (.cho j v)))=true:=decide_eq_true rfl
  rw [ed]
  refine ⟨.cho ks,.cho j v,rfl,hfit,hval,hdp,by decide,hrm,?_⟩
  rw [hvx]
  refine ⟨iB,?_⟩
  exact ⟨.tup [.int (j:Int),k.vx v],rfl,hsz,by omega,q⟩
end
theorem aGr {u:XA} {gx:XG} {G:XS} {ρ ρ':En} {D:XD} {s1 s2 s3:Sv} {l m q L:List Dx} (hu:∀ Q:List Sv→En→Prop,Q [s1,s2,s3] ρ'→u ρ Q) (h1:s1.d=.lst l) (h2:s2.d=.lst m) (h3:s3.d=.lst q) (e:iM l m q=L) (h:iY gx G D L ρ'):tL (aSf u) gx G ρ D:=by
  refine hu _ ?_
  rw [aP,aP,aP,bM,h1,h2,h3]
  subst e
  exact h
theorem aKp {i:Nat} {t:XT} {ρ:En} {D:XD} (h:t ρ fun s ρ'=>D.nx (ρ'.set i (.v s))):iX i t ρ D:=h
def fs3 (k0 k1 k2:Kd):List (Str×Kd):=[(⟨#[97]⟩,k0),(⟨#[98]⟩,k1),(⟨#[99]⟩,k2)]
theorem g8 {c:Nat} (h:97≤c∧c≤122):Nm (⟨#[c]⟩ : Str):=by
  refine ⟨by show 1≤1; decide,by show 1≤8; decide,fun d hd => ?_⟩
  have:d∈[c]:=hd
  rw [aO.mp this]
  exact h
theorem aLa {k0 k1 k2:Kd} (h0:k0.Fit) (h1:k1.Fit) (h2:k2.Fit):(Kd.rcd (fs3 k0 k1 k2)).Fit :=
  ⟨⟨⟨g8 (by decide),h0⟩,⟨g8 (by decide),h1⟩,⟨g8 (by decide),h2⟩,trivial⟩,by show 1≤3; decide,by show 3≤8; decide,by show ([⟨#[97]⟩,⟨#[98]⟩,⟨#[99]⟩]:List Str).Nodup; decide⟩
def gRC:GC:=fun ds Q => ∃ (k0 k1 k2:Kd) (v0 v1 v2:Vd),ds=[.lst [k0.x,k1.x,k2.x],.lst [k0.vx v0,k1.vx v1,k2.vx v2]]∧(k0.Fit∧k1.Fit∧k2.Fit)∧(k0.Val v0∧k1.Val v1∧k2.Val v2)∧(k0.deep≤4∧k1.deep≤4∧k2.deep≤4)∧(k0.rm.1≤1000∧k1.rm.1≤1000∧k2.rm.1≤1000)∧Q (.tr (.bl true))
theorem wV:∀ (a b:List (Int×Int)) (e:Int),eF e (a ++ b)=eF e a ++ eF (cK e a) b
  | [],b,e=>rfl
  | r :: a, b, e => by
    show up e r.2 :: eF (up e r.2 + r.1) (a ++ b)=_
    rw [wV a b]
    rfl
theorem qM:∀ {ps:List (Kd×Vd)},(∀ p∈ps,p.1.Fit∧p.1.Val p.2)→∀ (l:List Int),((iD l ps).length:Int)=cK l.length (ps.map fun p=>p.1.rm)
  | [],_,l=>rfl
  | p :: ps, h, l => by
    obtain ⟨h1,h2⟩:=h p aB
    have:=wU (l:=l) (vL h1 h2)
    show ((iD (mW l p) ps).length:Int)=cK (up l.length p.1.rm.2 + p.1.rm.1) _
    rw [qM (fun q hq=>h q (aC _ hq)),this]
section
variable {P:Program} {w:World} {K:dH} {mg:gO} {base:Heap} {f:Addr} {fd:FuncData} {n j L:Nat}
theorem aJk (F:Fun K "_law_record_right" "_law_record_right" cf_ f fd) (CRO:Cal P w K mg base L "room_of" ["kind"] (spX (gRO 5))) (CPO:Cal P w K mg base L "places_in_order" ["fields"] (spX (gPO 5))) (CLF:Cal P w K mg base 1 "_law_filled" ["row", "room"] (spX gLF)) (CBY:Cal P w K mg base L "bytes_of" ["kind", "thing"] (spX (gBV 5))) (CVO:Cal P w K mg base L "value_of" ["kind", "thing"] (spX (gVO 5))) (CSB:Cal P w K mg base L "_law_same" ["one", "other"] (spX (gSA 6))) (m_enumerate:mg "enumerate" = none) (m_zip:mg "zip" = none) (hL:1≤L):FnOk P w K mg base CX0 (L + 1) f fd ["kinds", "values"] (spX gRC):=by
  refine jU F cV (fun ds Q h=>by obtain ⟨_,_,_,_,_,_,rfl,_⟩:=h; rfl) (by decide) fun cdv A outer s H E hr => ?_
  have hu1:=oD hr
  have hu0:=bN hu1
  refine ⟨_,(dR (zI fun F=>PS.weak (fv_ (i:=2) cV.nd rfl rfl (dsc:=aQ cf_) (N:=["kinds", "values", "fields", "value", "due", "name", "place", "kind", "one"]) (tgs:=["k", "kind"]) (outs:=[]) (N':=["k", "kind"]) (by refine ⟨rfl,?_,?_,?_,rfl,?_,?_,?_⟩ <;> decide +kernel) (XIt.at (Ex:=cC) F (tH m_enumerate (bC (aZ (pv 0)) cD))) (fun _ _ _ _ _=>(ih_ K (n:=2) rfl rfl (jT (gN (i:=0) (show (["k", "kind"]:List Str).Nodup by decide +kernel) rfl (Or.inl rfl) (.inr rfl)) (jT (gN (i:=1) (show (["k", "kind"]:List Str).Nodup by decide +kernel) rfl (Or.inl rfl) (.inr rfl)) vW)))) (hx_ (zL (by decide) (zL (by decide) ed_ zM) (cp_ zM))) (fun a b c d e=>XCs.at (Ex:=cC) F nG) (fun a b c d e=>XE.at (Ex:=cC) F (mV (bC (eK K kM (aZ (pv 0)) (fun _ _=>rfl)) (bC (aZ (pv 1)) cD))))) (hz_ (ey_ (n:=2) (is:=[0,1]) rfl (by decide)) (by decide)))
    (dR (gQ fun F=>fS (i:=3) cV.nd rfl (Or.inl rfl) (XE.at (Ex:=cC) F tJ))
    (dR (gQ fun F=>fS (i:=4) cV.nd rfl (Or.inl rfl) (XE.at (Ex:=cC) F (qG cD)))
    (dR (zK PassesOwn.never rfl (aIi m_zip (bC (eU CPO (hr.mono (by omega)) (bC (aZ (pv 2)) cD)) (bC (aZ (pv 0)) (bC (aZ (pv 1)) cD)))) (fu_ rfl (jT (fu_ rfl (jT (gN (i:=5) cV.nd rfl (Or.inl rfl)) (jT (gN (i:=6) cV.nd rfl (Or.inl rfl)) vW))) (jT (gN (i:=7) cV.nd rfl (Or.inl rfl)) (jT (gN (i:=8) cV.nd rfl (Or.inl rfl)) vW)))) (x4 (fh_ (x4 (fh_ (kO (n:=99) (i:=5) (by decide)) (fh_ (kO (n:=99) (i:=6) (by decide)) xU))) (fh_ (kO (n:=99) (i:=7) (by decide)) (fh_ (kO (n:=99) (i:=8) (by decide)) xU)))) (dR (zI fun F=>PS.weak (uI hu1 (pv 3) (XE.at (Ex:=cC) F (aZ (pv 5))) (XE.at (Ex:=cC) F (aZ (pv 8))) rfl) tR)
    (dY (gQ fun F=>fS (i:=4) cV.nd rfl (Or.inl rfl) (XE.at (Ex:=cC) F (jX (eU CLF (hr.mono (by omega)) (bC (aZ (pv 4)) (bC (aZ (pv 6)) cD))) (eU CBY (hr.mono (by omega)) (bC (aZ (pv 7)) (bC (aZ (pv 8)) cD)))))))))
    (dR (gQ fun F=>fS (i:=4) cV.nd rfl (Or.inl rfl) (XE.at (Ex:=cC) F (eU CLF (hr.mono (by omega)) (bC (aZ (pv 4)) (bC (eK K (eU CRO (hr.mono (by omega)) (bC (mV (bC kM (bC (aZ (pv 2)) cD))) cD)) cO (fun _ _=>rfl)) cD)))))
    (dY (gA (ex_ (ew_ (e_ hu0) pB (eU CBY (hr.mono (by omega)) (bC (mV (bC kM (bC (aZ (pv 2)) cD))) (bC (aZ (pv 3)) cD))) (aZ (pv 4)) (cH _)) (fb_ (eU CSB (hr.mono (by omega)) (bC (eU CVO (hr.mono (by omega)) (bC (mV (bC kM (bC (aZ (pv 2)) cD))) (bC (aZ (pv 4)) cD))) (bC (aZ (pv 3)) cD)))))))))))),fun ds Q h => ?_⟩
  obtain ⟨k0,k1,k2,v0,v1,v2,rfl,⟨f0,f1,f2⟩,⟨w0,w1,w2⟩,⟨d0,d1,d2⟩,⟨r0,r1,r2⟩,q⟩:=h
  have hfit:=aLa f0 f1 f2
  have hval:(Kd.rcd (fs3 k0 k1 k2)).Val (.rcd [v0,v1,v2]):=by simp only [Kd.Val,fs3,fB]; exact ⟨w0,w1,w2,trivial⟩
  have hdf:eV (fs3 k0 k1 k2)≤4:=by show max k0.deep (max k1.deep (max k2.deep 0))≤4; omega
  have hdp:(Kd.rcd (fs3 k0 k1 k2)).deep≤5:=by show eV _ + 1≤5; omega
  have hbd:∀ r∈rmF (fs3 k0 k1 k2),Bd 1000 r:=by
    intro r hr
    obtain ⟨a0,b0,c0,e0⟩:=k0.bd f0.ok
    obtain ⟨a1,b1,c1,e1⟩:=k1.bd f1.ok
    obtain ⟨a2,b2,c2,e2⟩:=k2.bd f2.ok
    have:r∈[k0.rm,k1.rm,k2.rm]:=hr
    simp only [aF,aV,or_false] at this
    rcases this with rfl | rfl | rfl
    · exact ⟨a0,r0,c0,e0⟩
    · exact ⟨a1,r1,c1,e1⟩
    · exact ⟨a2,r2,c2,e2⟩
  have hrm:(Kd.rcd (fs3 k0 k1 k2)).rm.1≤4000∧0≤(Kd.rcd (fs3 k0 k1 k2)).rm.1:=by
    obtain ⟨l0,l1⟩:=ck_ (e:=0) (by omega) hbd
    obtain ⟨x0,x1⟩:=lB hbd
    obtain ⟨u1,u2⟩:=jW (n:=cK 0 (rmF (fs3 k0 k1 k2))) (m:=maxL 1 ((rmF (fs3 k0 k1 k2)).map (·.2))) (by omega)
    have l2:cK 0 (rmF (fs3 k0 k1 k2))≤0 + ((3:Nat):Int) * (1000 + 8):=l1
    show up _ _≤_∧0≤up _ _
    omega
  have hvx:(Kd.rcd (fs3 k0 k1 k2)).vx (.rcd [v0,v1,v2])=.dic (vxF (fs3 k0 k1 k2) [v0,v1,v2]):=by simp only [Kd.vx]
  obtain ⟨hsz,hdd⟩:=Kd.vx_sz _ _ hfit hval
  rw [hvx] at hsz hdd
  obtain ⟨hlaid,_⟩:=aGf (n:=4) hfit hval hdf
  refine ⟨by show 3≤1000000; decide,?_⟩
  show eW _ _ _ _ _ ([(0,97,k0),(1,98,k1),(2,99,k2)].map fun a:Nat×Nat×Kd=>Dx.tup [.int (a.1:Int),a.2.2.x]) _ _
  refine zB (fun a:Nat×Nat×Kd=>Dx.tup [.int (a.1:Int),a.2.2.x]) (fun a=>Dx.tup [.str ⟨#[a.2.1]⟩,a.2.2.x]) (fun a ha acc P p => ?_) ?_
  · have hat : atI ("abcd" : Str).cps.toList (a.1 : Int) = some a.2.1 := by
      have h0:atI ("abcd" : Str).cps.toList 0=some 97:=by decide +kernel
      have h1:atI ("abcd" : Str).cps.toList 1=some 98:=by decide +kernel
      have h2:atI ("abcd" : Str).cps.toList 2=some 99:=by decide +kernel
      simp only [aF,aV,or_false] at ha
      rcases ha with rfl | rfl | rfl
      · exact h0
      · exact h1
      · exact h2
    refine ⟨by decide +kernel,?_⟩
    rw [hat]
    exact ⟨iB,p⟩
  refine ⟨dB _,?_⟩
  dsimp only
  change fJ _ _ [.v (.tr (.lst [k0.x,k1.x,k2.x])),.v (.tr (.lst [k0.vx v0,k1.vx v1,k2.vx v2])),.v (.ol (xF (fs3 k0 k1 k2))),.v (.od []),.v (.ol []),.un,.un,.un,.un] _
  refine dm_ (fun ρ => ∃ (s4:Sv) (y5 y6 y7 y8:Sl),ρ=[.v (.tr (.lst [k0.x,k1.x,k2.x])),.v (.tr (.lst [k0.vx v0,k1.vx v1,k2.vx v2])),.v (.tr (.lst (xF (fs3 k0 k1 k2)))),.v (.od (vxF (fs3 k0 k1 k2) [v0,v1,v2])),.v s4,y5,y6,y7,y8]∧s4.d=.lst ((iD [] (((fs3 k0 k1 k2).map (·.2)).zip [v0,v1,v2])).map Dx.int)) ?_ (fun D2 hD2 => ?_)
  · rintro ρ ⟨s4, y5, y6, y7, y8, rfl, h4⟩
    have hal:=qM (ps:=((fs3 k0 k1 k2).map (·.2)).zip [v0,v1,v2]) (fun p hp=>by
      have:p∈[(k0,v0),(k1,v1),(k2,v2)]:=hp
      simp only [aF,aV,or_false] at this
      rcases this with rfl | rfl | rfl
      · exact ⟨f0,w0⟩
      · exact ⟨f1,w1⟩
      · exact ⟨f2,w2⟩) []
    have hal2:((iD [] (((fs3 k0 k1 k2).map (·.2)).zip [v0,v1,v2])).length:Int)≤4000:=by
      rw [hal]
      have:=(ck_ (e:=0) (by omega) hbd).2
      have l2:cK 0 (rmF (fs3 k0 k1 k2))≤0 + ((3:Nat):Int) * (1000 + 8):=this
      show cK 0 (rmF (fs3 k0 k1 k2))≤_
      omega
    generalize hfs:fs3 k0 k1 k2=fs at *
    generalize hvs:[v0,v1,v2]=vs at *
    have ex:(Kd.rcd (fs)).byt (.rcd vs)=iD [] (((fs).map (·.2)).zip vs) ++ List.replicate ((Kd.rcd (fs)).rm.1 - ((iD [] (((fs).map (·.2)).zip vs)).length:Int)).toNat 0:=by
      rw [hlaid]
      congr 2
      omega
    refine mG (it_ (fi_ (o0 rfl h4 ?_)))
    refine ⟨iB,?_⟩
    refine ⟨.rcd (fs),rfl,hfit.ok,hdp,by decide,?_⟩
    refine ⟨iD [] ((fs.map (·.2)).zip vs),(Kd.rcd fs).rm.1,rfl,by omega,by omega,by omega,?_⟩
    rw [← ex]
    dsimp only
    change iQ _ [.v (.tr (.lst [k0.x,k1.x,k2.x])),.v (.tr (.lst [k0.vx v0,k1.vx v1,k2.vx v2])),.v (.tr (.lst (xF (fs)))),.v (.od (vxF (fs) vs)),.v (.ol (((Kd.rcd (fs)).byt (.rcd vs)).map Dx.int)),y5,y6,y7,y8] _
    refine ⟨iB,?_⟩
    refine ⟨.rcd (fs),.rcd vs,.dic (vxF (fs) vs),rfl,hvx.symm,hfit,hval,hdp,by decide,by omega,?_⟩
    refine ⟨_,_,rfl,rfl,?_⟩
    have ed:(if (false:Bool)=true then !decide ((Kd.rcd (fs)).byt (.rcd vs)=(Kd.rcd (fs)).byt (.rcd vs)) else decide ((Kd.rcd (fs)).byt (.rcd vs)=(Kd.rcd (fs)).byt (.rcd vs)))=true:=decide_eq_true rfl
    rw [ed]
    refine ⟨iB,?_⟩
    refine ⟨.rcd (fs),.rcd vs,rfl,hfit,hval,hdp,by decide,by omega,?_⟩
    rw [hvx]
    exact ⟨.dic (vxF (fs) vs),rfl,hsz,by omega,q⟩
  · let T : List (((Str × Kd) × Int) × Vd) := ((fs3 k0 k1 k2).zip (eF 0 (rmF (fs3 k0 k1 k2)))).zip [v0, v1, v2]
    let φ:((Str×Kd)×Int)×Vd→Dx:=fun x=>.tup [.tup [.str x.1.1.1,.int x.1.2],x.1.1.2.x,x.1.1.2.vx x.2]
    have good:∀ x∈T,x.1.1.2.Fit∧x.1.1.2.Val x.2∧x.1.1.2.deep≤4∧x.1.1.2.rm.1≤1000:=fun x hx=>by
      have:x∈[(((⟨#[97]⟩,k0),up 0 k0.rm.2),v0),(((⟨#[98]⟩,k1),up (up 0 k0.rm.2 + k0.rm.1) k1.rm.2),v1),(((⟨#[99]⟩,k2),up (up (up 0 k0.rm.2 + k0.rm.1) k1.rm.2 + k1.rm.1) k2.rm.2),v2)]:=hx
      simp only [aF,aV,or_false] at this
      rcases this with rfl | rfl | rfl
      · exact ⟨f0,w0,d0,r0⟩
      · exact ⟨f1,w1,d1,r1⟩
      · exact ⟨f2,w2,d2,r2⟩
    have hT1:T.map (fun x=>x.1.1)=fs3 k0 k1 k2:=rfl
    have hT2:T.map (fun x=>x.1.2)=eF 0 (T.map fun x=>x.1.1.2.rm):=rfl
    have hT3:T.map (fun x=>(x.1.1.2,x.2))=((fs3 k0 k1 k2).map (·.2)).zip [v0,v1,v2]:=rfl
    have hT4:vxF (fs3 k0 k1 k2) [v0,v1,v2]=T.map fun x=>(Sum.inr x.1.1.1,x.1.1.2.vx x.2):=by simp only [fs3,vxF]; rfl
    have hT5:T.length=3:=rfl
    have hnd:(T.map fun x=>x.1.1.1).Nodup:=by show ([⟨#[97]⟩,⟨#[98]⟩,⟨#[99]⟩]:List Str).Nodup; decide
    rw [← hT3,hT4] at hD2
    refine aGr (s1:=.ol (((fs3 k0 k1 k2).zip (eF 0 (rmF (fs3 k0 k1 k2)))).map fun x:(Str×Kd)×Int=>Dx.tup [Dx.str x.1.1,Dx.int x.2])) (s2:=.tr (.lst [k0.x,k1.x,k2.x])) (s3:=.tr (.lst [k0.vx v0,k1.vx v1,k2.vx v2])) (L:=T.map φ) (ρ':=[.v (.tr (.lst [k0.x,k1.x,k2.x])),.v (.tr (.lst [k0.vx v0,k1.vx v1,k2.vx v2])),.v (.tr (.lst (xF (fs3 k0 k1 k2)))),.v (.od []),.v (.ol []),.un,.un,.un,.un]) (fun Q q=>⟨fs3 k0 k1 k2,rfl,hb_ _ hfit.1,by omega,by show 3≤10; decide,by decide,q⟩) rfl rfl rfl rfl ?_
    revert hD2
    generalize T=T' at good hT2 hT5 hnd
    intro hD2
    clear hT1 hT3 hT4
    refine zA φ (fun rest ρ => ∃ (done:List (((Str×Kd)×Int)×Vd)) (s4:Sv) (y5 y6 y7 y8:Sl),T'=done ++ rest∧ρ=[.v (.tr (.lst [k0.x,k1.x,k2.x])),.v (.tr (.lst [k0.vx v0,k1.vx v1,k2.vx v2])),.v (.tr (.lst (xF (fs3 k0 k1 k2)))),.v (.od (done.map fun x=>(Sum.inr x.1.1.1,x.1.1.2.vx x.2))),.v s4,y5,y6,y7,y8]∧s4.d=.lst ((iD [] (done.map fun x=>(x.1.1.2,x.2))).map Dx.int)) (fun ρ h => ?_) (fun x rest ρ Kn h hk => ?_) ⟨[],.ol [],.un,.un,.un,.un,rfl,rfl,rfl⟩
    · obtain ⟨done, s4, y5, y6, y7, y8, e, rfl, h4⟩ := h
      rw [cR] at e
      subst e
      exact hD2 _ ⟨s4,y5,y6,y7,y8,rfl,h4⟩
    · obtain ⟨done, s4, y5, y6, y7, y8, e, rfl, h4⟩ := h
      have hm:x∈T':=by rw [e]; exact aJ _ aB
      obtain ⟨xf,xv,xd,xr⟩:=good x hm
      have hdl:done.length < 3:=by rw [← hT5,e,aI,aL]; omega
      have hgd:∀ p∈done.map fun x=>(x.1.1.2,x.2),p.1.Fit∧p.1.Val p.2:=fun p hp=>by
        obtain ⟨y,hy,rfl⟩:=cN.mp hp
        have:=good y (by rw [e]; exact bH _ hy)
        exact ⟨this.1,this.2.1⟩
      have hend:=qM hgd []
      have hpl:x.1.2=up (cK 0 (done.map fun x=>x.1.1.2.rm)) x.1.1.2.rm.2:=by
        have h2:=hT2
        rw [e,bW,bW,wV] at h2
        have h3:=(List.append_inj h2 (by rw [cz_,aE,aE])).2
        exact (List.cons.inj h3).1
      have hnew:(Sum.inr x.1.1.1:Key)∉(done.map fun x=>((Sum.inr x.1.1.1,x.1.1.2.vx x.2):Key×Dx)).map (·.1):=by
        rw [cX]
        intro z
        obtain ⟨y,hy,ey⟩:=cN.mp z
        rw [e,bW,gG] at hnd
        exact hnd.2.2 y.1.1.1 (dM (f:=fun x:((Str×Kd)×Int)×Vd=>x.1.1.1) hy) x.1.1.1 (dM (f:=fun x:((Str×Kd)×Int)×Vd=>x.1.1.1) aB) (Sum.inr.inj ey)
      have hl4:((iD [] (done.map fun x=>(x.1.1.2,x.2))).length:Int)≤4000:=by
        rw [hend,cX]
        have l1:=(ck_ (B:=1000) (e:=0) (rs:=done.map fun x=>x.1.1.2.rm) (by omega) fun r hr=>by
          obtain ⟨y,hy,rfl⟩:=cN.mp hr
          obtain ⟨yf,_,_,yr⟩:=good y (by rw [e]; exact bH _ hy)
          obtain ⟨a,b,c,d⟩:=y.1.1.2.bd yf.ok
          exact ⟨a,yr,c,d⟩).2
        rw [aE] at l1
        show cK 0 (done.map fun x=>x.1.1.2.rm)≤4000
        omega
      obtain ⟨a,b,c,d⟩:=x.1.1.2.bd xf.ok
      have hpe:x.1.2=up ((iD [] (done.map fun x=>(x.1.1.2,x.2))).length:Int) x.1.1.2.rm.2:=by rw [hend,cX]; exact hpl
      obtain ⟨u1,u2⟩:=jW (n:=((iD [] (done.map fun x=>(x.1.1.2,x.2))).length:Int)) (m:=x.1.1.2.rm.2) (by omega)
      rw [← hpe] at u1 u2
      have hbl:=Kd.byt_len xv
      refine ⟨rfl,rfl,?_⟩
      refine ⟨⟨_,rfl⟩,show (done.map _).length < 1000000 by rw [aE]; omega,?_⟩
      dsimp only
      change iX 4 _ _ _
      refine aKp ?_
      refine x5 ?_
      refine it_ ?_
      refine fi_ ?_
      refine o0 rfl h4 ?_
      refine ⟨iD [] (done.map fun x=>(x.1.1.2,x.2)),x.1.2,rfl,by omega,by omega,by omega,?_⟩
      refine ⟨x.1.1.2,x.2,x.1.1.2.vx x.2,rfl,rfl,xf,xv,by omega,by decide,by omega,?_⟩
      refine ⟨?_,?_⟩
      · simp only [aE, aI, aG]
        omega
      refine hk _ ⟨done ++ [x],.ol ((iD [] (done.map fun x:((Str×Kd)×Int)×Vd=>(x.1.1.2,x.2)) ++ List.replicate (x.1.2 - ((iD [] (done.map fun x:((Str×Kd)×Int)×Vd=>(x.1.1.2,x.2))).length:Int)).toNat 0).map Dx.int ++ (x.1.1.2.byt x.2).map Dx.int),.v (.tr (.str x.1.1.1)),.v (.tr (.int x.1.2)),.v (.tr x.1.1.2.x),.v (.tr (x.1.1.2.vx x.2)),by rw [e,bO]; rfl,?_,?_⟩
      rotate_left 1
      · show Dx.lst (List.map Dx.int _ ++ List.map Dx.int _) = _
        rw [← bW,bW (f:=fun x:((Str×Kd)×Int)×Vd=>(x.1.1.2,x.2)),aP,bM,sZ]
        unfold mW
        rw [← hpe,show (x.1.2 - ((iD [] (done.map fun x=>(x.1.1.2,x.2))).length:Int)).toNat=x.1.2.toNat - (iD [] (done.map fun x=>(x.1.1.2,x.2))).length from by omega]
      · rw [bW (f := fun x : ((Str × Kd) × Int) × Vd => ((Sum.inr x.1.1.1, x.1.1.2.vx x.2) : Key × Dx)), aP, bM, ← oX hnew]
        rfl
end
theorem rZ:∀ {xs:List Int},(∀ b∈xs,0≤b∧b < 256)→jV xs.length (fZ xs)=xs
  | [],_=>rfl
  | b :: r, h => by
    obtain ⟨b0,b1⟩:=h b aB
    show (b + 256 * fZ r) % 256 :: jV r.length ((b + 256 * fZ r) / 256)=_
    rw [show (b + 256 * fZ r) % 256=b from by omega,show (b + 256 * fZ r) / 256=fZ r from by omega,rZ fun c hc=>h c (aC _ hc)]
theorem uW:∀ {xs:List Int},(∀ b∈xs,0≤b∧b < 256)→0≤fZ xs∧fZ xs < 256 ^ xs.length
  | [],_=>by decide
  | b :: r, h => by
    obtain ⟨b0,b1⟩:=h b aB
    obtain ⟨r0,r1⟩:=uW (xs:=r) fun c hc=>h c (aC _ hc)
    show 0≤b + 256 * fZ r∧b + 256 * fZ r < 256 ^ (r.length + 1)
    rw [iV]
    omega
theorem aFv {i:Int} {Q:Sv→Prop} (q:Q (.tr (.bl false))):neX (.int i) (.int i) Q:=by
  have en:eqS (.int i) (.int i)=some true:=by show some (decide _)=_; rw [decide_eq_true rfl]
  unfold neX
  rw [en]
  exact q
def gNR:GB:=fun l ds Q => ∃ B:Int,ds=[]∧PoolX B l∧B + 100 < 2 ^ 60∧∀ l',PoolX (B + 100) l'→Q (.bl true) l'
section
variable {P:Program} {w:World} {K:dH} {mg:gO} {base:Heap} {f:Addr} {fd:FuncData} {n j L:Nat}
theorem aPc (F:Fun K "_law_number_right" "_law_number_right" cg_ f fd) (CTK:Cal P w K mg base 1 "_law_take" ["pool", "many"] (spB gTK)) (CTP:Cal P w K mg base 1 "_law_top" ["width"] (spX gTP)) (CBY:Cal P w K mg base L "bytes_of" ["kind", "thing"] (spX (gBV 5))) (CVO:Cal P w K mg base L "value_of" ["kind", "thing"] (spX (gVO 5))) (CRF:Cal P w K mg base L "_law_refused" ["kind", "thing"] (spX (gRF 5))) (m_range:mg "range" = none) (hL:1≤L):FnOk P w K mg base CX0 (L + 1) f fd ["pool"] (spB gNR):=by
  refine aGy F dO (fun l ds Q h=>by obtain ⟨_,rfl,_⟩:=h; rfl) (by decide) fun cdv A outer s H E hr => ?_
  have hu1:=oD hr
  have hu0:=bN hu1
  refine ⟨_,(dR (gQ fun F=>fS (i:=1) dO.nd rfl (Or.inl rfl) (XE.at (Ex:=cC) F (jX cO (jY (i:=0) CTK (hr.mono (by omega)) (pv 0) (bC cO cD)))))
    (dR (zI fun F=>PS.weak (fv_ (i:=2) dO.nd rfl rfl (dsc:=aQ cg_) (N:=["pool", "width", "row", "number", "byte", "m"]) (tgs:=["k"]) (outs:=[0]) (N':=["k", "pool"]) (by refine ⟨rfl,?_,?_,?_,rfl,?_,?_,?_⟩ <;> decide +kernel) (XIt.at (Ex:=cC) F (cm_ m_range (bC (aZ (pv 1)) cD))) (fun _ _ _ _ _=>(gN (i:=0) (show (["k", "pool"]:List Str).Nodup by decide +kernel) rfl (Or.inl rfl) (.inr rfl))) (rC (by decide)) (fun a b c d e=>XCs.at (Ex:=cC) F nG) (fun a b c d e=>XE.at (Ex:=cC) F (jY (i:=1) CTK (hr.mono (by omega)) (pv 1) (bC cO cD)))) (hz_ (kO (n:=1) (i:=0) (by decide)) (by decide)))
    (dR (gQ fun F=>fS (i:=3) dO.nd rfl (Or.inl rfl) (XE.at (Ex:=cC) F cO))
    (dR (zK PassesOwn.never rfl (rA (aIj (aZ (pv 2)))) (gN (i:=4) dO.nd rfl (Or.inl rfl)) (kO (n:=99) (i:=4) (by decide)) (dY (gQ fun F=>fS (i:=3) dO.nd rfl (Or.inl rfl) (XE.at (Ex:=cC) F (jX (cw_ cO (aZ (pv 3))) (aZ (pv 4)))))))
    (dR (zK PassesOwn.never rfl (rA (qG (bC cO (bC cO (bC cO (bC cO cD)))))) (gN (i:=5) dO.nd rfl (Or.inl rfl)) (kO (n:=99) (i:=5) (by decide)) (dY (iP (XW.pt (ht_ (jS (aFj hu0) pB (eU CBY (hr.mono (by omega)) (bC (mV (bC kM (bC (aZ (pv 1)) (bC (aZ (pv 5)) cD)))) (bC (aZ (pv 3)) cD))) (aZ (pv 2)) (cH _)) (fa_ (jS (ge_ K hu0) lA (eU CVO (hr.mono (by omega)) (bC (mV (bC kM (bC (aZ (pv 1)) (bC (aZ (pv 5)) cD)))) (bC (aZ (pv 2)) cD))) (aZ (pv 3)) (cH _))))) (dY (gA x8)) jF)))
    (dY (gA (eU CRF (hr.mono (by omega)) (bC (mV (bC kM (bC (aZ (pv 1)) (bC cO cD)))) (bC (jX (jX (eU CTP (hr.mono (by omega)) (bC (aZ (pv 1)) cD)) cO) (aZ (pv 3))) cD)))))))))),fun l ds Q h => ?_⟩
  obtain ⟨B,rfl,hP,hB,q⟩:=h
  refine ⟨rfl,B,8,rfl,hP,by omega,by decide,by decide,fun wd l1 w0 w1 hP1 => ?_⟩
  refine ⟨⟨by omega,by omega⟩,by show ((List.range _).map _).length≤_; rw [aE,cB]; omega,?_⟩
  refine co_ (fun k:Nat=>Dx.int (0 + (k:Int))) (fun rest acc cs => ∃ (xs:List Int) (l':List Dx),xs.length + rest.length=(1 + wd).toNat∧acc=xs.map Dx.int∧cs=[.bw l']∧(∀ b∈xs,0≤b∧b < 256)∧PoolX (B + 1 + (xs.length:Int)) l') (fun acc cs h => ?_) (fun k rest acc cs Pn h hk => ?_) ⟨[],l1,by rw [cB]; simp,rfl,rfl,(fun v hv=>nomatch hv),hP1.mono (by simp)⟩
  · obtain ⟨xs, l', e1, rfl, rfl, hx, hP2⟩ := h
    rw [bG,iT] at e1
    obtain ⟨n0,n1⟩:=uW hx
    have hnb:=rZ hx
    have hw:(1 + wd)=(xs.length:Int):=by omega
    have hl8:xs.length≤8:=by omega
    have hl1:1≤xs.length:=by omega
    have hp:=oY hl8
    dsimp only
    rw [hw]
    change fJ _ _ [.bw l',.v (.tr (.int (xs.length:Int))),.v (.ol (xs.map Dx.int)),.un,.un,.un] _
    refine mG ?_
    change fJ _ _ [.bw l',.v (.tr (.int (xs.length:Int))),.v (.ol (xs.map Dx.int)),.v (.tr (.int 0)),.un,.un] _
    refine dm_ (fun ρ => ∃ (s2:Sv) (y4:Sl),ρ=[.bw l',.v (.tr (.int (xs.length:Int))),.v s2,.v (.tr (.int (fZ xs))),y4,.un]∧s2.d=.lst (xs.map Dx.int)) ?_ (fun D2 hD2 => ?_)
    · rintro ρ ⟨s2, y4, rfl, h2⟩
      refine dm_ (fun ρ => ∃ (s2:Sv) (y4 y5:Sl),ρ=[.bw l',.v (.tr (.int (xs.length:Int))),.v s2,.v (.tr (.int (fZ xs))),y4,y5]) ?_ (fun D3 hD3 => ?_)
      · rintro ρ ⟨s2, y4, y5, rfl⟩
        refine ⟨by show 3≤1000000; decide,?_⟩
        refine ⟨xs.length,rfl,by omega,by omega,?_⟩
        refine ⟨.num (xs.length:Int) 1,.int (256 ^ xs.length - 1 + 1 + fZ xs),rfl,by simp only [Dx.Sz],⟨by omega,by omega,by decide,by decide⟩,by show 1≤5; decide,by decide,aKl (by omega) (by rw [dA]; omega),?_⟩
        exact q _ (hP2.mono (by omega))
      · obtain ⟨ms, eM, hms⟩ : ∃ ms : List Int, [Dx.int 1, Dx.int 2, Dx.int 4, Dx.int 8] = ms.map Dx.int ∧ ∀ m ∈ ms, m = 1 ∨ m = 2 ∨ m = 4 ∨ m = 8 := ⟨[1, 2, 4, 8], rfl, fun m hm => by simpa using hm⟩
        refine ⟨by show 4≤1000000; decide,?_⟩
        show iY _ _ _ [Dx.int 1,Dx.int 2,Dx.int 4,Dx.int 8] _
        rw [eM]
        refine zA Dx.int (fun rest ρ=>(∀ m∈rest,m=1∨m=2∨m=4∨m=8)∧∃ (s2:Sv) (y4 y5:Sl),ρ=[.bw l',.v (.tr (.int (xs.length:Int))),.v s2,.v (.tr (.int (fZ xs))),y4,y5]∧s2.d=.lst (xs.map Dx.int)) (fun ρ h => ?_) (fun m rest ρ Kn h hk => ?_) ⟨hms,s2,y4,.un,rfl,h2⟩
        · obtain ⟨_, s2, y4, y5, rfl, _⟩ := h
          exact hD3 _ ⟨s2,y4,y5,rfl⟩
        · obtain ⟨hin, s2, y4, y5, rfl, h2⟩ := h
          have hm:=hin m aB
          have hfit:(Kd.num (xs.length:Int) m).Fit:=⟨by omega,by omega,hm⟩
          have hval:(Kd.num (xs.length:Int) m).Val (.num (fZ xs)):=by simp only [Kd.Val]; exact ⟨n0,by rw [dA]; exact n1⟩
          have hby:(Kd.num (xs.length:Int) m).byt (.num (fZ xs))=xs:=by simp only [Kd.byt]; rw [dA]; exact hnb
          have hvx:(Kd.num (xs.length:Int) m).vx (.num (fZ xs))=.int (fZ xs):=by simp only [Kd.vx]
          refine ⟨by show 3≤1000000; decide,?_⟩
          refine ⟨.num (xs.length:Int) m,.num (fZ xs),.int (fZ xs),rfl,hvx.symm,hfit,hval,by show 1≤5; decide,by decide,by show (xs.length:Int)≤_; omega,?_⟩
          refine o0 rfl h2 ?_
          refine ⟨_,_,rfl,rfl,?_⟩
          rw [hby]
          have ed:(if (true:Bool)=true then !decide (xs=xs) else decide (xs=xs))=false:=by rw [if_pos rfl,decide_eq_true rfl]; rfl
          rw [ed]
          refine ⟨by show 3≤1000000; decide,?_⟩
          refine ⟨.num (xs.length:Int) m,.num (fZ xs),by rw [hby]; rfl,hfit,hval,by show 1≤5; decide,by decide,by show (xs.length:Int)≤_; omega,?_⟩
          rw [hvx]
          dsimp only
          refine el_ rfl (aFv ?_)
          exact hk _ ⟨fun m hm=>hin m (aC _ hm),.tr (.lst (xs.map Dx.int)),_,_,rfl,rfl⟩
    · show iY _ _ _ (xs.map Dx.int).reverse _
      rw [← List.map_reverse]
      refine zA Dx.int (fun rest ρ => ∃ (done:List Int) (y4:Sl),xs.reverse=done ++ rest∧ρ=[.bw l',.v (.tr (.int (xs.length:Int))),.v (.tr (.lst (xs.map Dx.int))),.v (.tr (.int (fZ done.reverse))),y4,.un]) (fun ρ h => ?_) (fun b rest ρ Kn h hk => ?_) ⟨[],.un,rfl,rfl⟩
      · obtain ⟨done, y4, e, rfl⟩ := h
        rw [cR] at e
        rw [← e,List.reverse_reverse]
        exact hD2 _ ⟨_,_,rfl,rfl⟩
      · obtain ⟨done, y4, e, rfl⟩ := h
        have hdx:∀ c∈done.reverse,0≤c∧c < 256:=fun c hc=>hx c (by
          have:c∈xs.reverse:=by rw [e]; exact bH _ (List.mem_reverse.mp hc)
          exact List.mem_reverse.mp this)
        have hdl:done.length≤8:=by
          have:=congrArg List.length e
          rw [iE,aI,aL] at this
          omega
        obtain ⟨z0,z1⟩:=uW hdx
        rw [iE] at z1
        have z2:=oY hdl
        refine ⟨⟨by decide,by omega⟩,?_⟩
        have hk':=hk [.bw l',.v (.tr (.int (xs.length:Int))),.v (.tr (.lst (xs.map Dx.int))),.v (.tr (.int (fZ (done ++ [b]).reverse))),.v (.tr (.int b)),.un] ⟨done ++ [b],_,by rw [e,bO]; rfl,rfl⟩
        rw [List.reverse_append,show fZ ([b].reverse ++ done.reverse)=256 * fZ done.reverse + b from by show b + 256 * fZ done.reverse=_; omega] at hk'
        exact hk'
  · obtain ⟨xs, l', e1, rfl, rfl, hx, hP2⟩ := h
    rw [aL] at e1
    refine ⟨rfl,_,256,rfl,hP2,by omega,by decide,by decide,fun r l2 r0 r1 hP3 => ?_⟩
    refine hk _ _ ⟨xs ++ [r],l2,by rw [aI,hW]; omega,by rw [bW]; rfl,rfl,fun b hb => ?_,hP3.mono (by rw [aI]; show _≤B + 1 + ((xs.length + 1:Nat):Int); omega)⟩
    rcases bZ.mp hb with hb | hb
    · exact hx b hb
    · rw [aO.mp hb]; exact ⟨r0,r1⟩
end
def aEj (K : dH) : XS := (fJ (tL (aAw (cU (fG aFy (cU (xC (.int 1)) (cU (fG aFx (cU (xC (.int 5)) (cU (fG (aPv K) (cU (eE 0) fA)) fA))) fA))) fA)) (gxN 1) (fJ (iX 2 (fG (gPL K) (cU (eE 0) (cU (eE 1) fA))))
    (fJ (iX 3 (xOp ixX (wG (cU (xC (.int 60)) (cU (xC (.int 200)) fA))) (iG gTK 2 (cU (xC (.int 2)) fA))))
    (fJ (iX 4 (jA 1 [2,3] (aAw (cU (xC (.int 3)) fA)) (gxN 0) qQ (iG (gLK 5) 1 (cU (xOp nH (xC (.int 1)) (iG gTK 1 (cU (xC (.int 4)) fA))) (cU (eE 2) fA)))))
    (fJ (iX 5 (jA 1 [2] (xiL (eE 4)) (gxN 0) qQ (iG (gVA 5) 1 (cU (eE 0) fA))))
    (fJ (iX 6 (jA 1 [2,4] (aAw (cU (xOp nH (xC (.int 1)) (iG gTK 2 (cU (xC (.int 5)) fA))) fA)) (gxN 0) qQ (iG (gVA 5) 1 (cU (xOp ixX (eE 2) (xC (.int 0))) fA))))
    (fJ (xIf (xOr (kS (xB (fG gRW (cU (xOp ixX (eE 4) (xC (.int 0))) (cU (eE 6) fA))))) (kS (xB (fG gRC (cU (eE 4) (cU (eE 5) fA)))))) (iQ (xC (.bl false))) fY)
    (fJ (tL (aAw (cU (xC (.int 3)) fA)) (gxN 1) (xIf (kS (xB (fG gCC (cU (eE 4) (cU (eE 1) (cU (xOp ixX (eE 5) (eE 1)) fA)))))) (iQ (xC (.bl false))) fY))
    (fJ (iX 7 (iG gTK 2 (cU (fG mE (cU (eE 6) fA)) fA)))
    (fJ (xIf (kS (xB (fG (gRF 5) (cU (aAy (cU (xC (.str "row")) (cU (xOp ixX (eE 4) (xC (.int 0))) (cU (fG mE (cU (eE 6) fA)) fA)))) (cU (xOp nH (xOp nH (xSl (eE 6) xoN (xoS (eE 7))) (wG (cU (xC .non) fA))) (xSl (eE 6) (xoS (xOp nH (eE 7) (xC (.int 1)))) xoN)) fA))))) (iQ (xC (.bl false))) fY)
    (xIf (xOr (kS (xB (fG (gRF 5) (cU (aAy (cU (xC (.str "choice")) (cU (eE 4) fA))) (cU (aAy (cU (xC (.int 3)) (cU (xOp ixX (eE 5) (xC (.int 0))) fA))) fA))))) (kS (xB (iG gNR 2 fA)))) (iQ (xC (.bl false))) fY)))))))))))
    (iQ (xC (.bl true))))
section
variable {P:Program} {w:World} {K:dH} {mg:gO} {base:Heap} {f:Addr} {fd:FuncData} {L:Nat}
theorem aLg (CPL:Cal P w K mg base 1 "_law_pool" ["script", "k"] (spX (gPL K)))
    (CTK:Cal P w K mg base 1 "_law_take" ["pool", "many"] (spB gTK)) (CLK:Cal P w K mg base L "_law_kind" ["pool", "deep", "most"] (spB (gLK 5))) (CVA:Cal P w K mg base L "_law_value" ["pool", "kind"] (spB (gVA 5))) (CRW:Cal P w K mg base L "_law_row_right" ["kind", "values"] (spX gRW)) (CRR2:Cal P w K mg base L "_law_record_right" ["kinds", "values"] (spX gRC)) (CCR:Cal P w K mg base L "_law_choice_right" ["kinds", "k", "value"] (spX gCC)) (CRF:Cal P w K mg base L "_law_refused" ["kind", "thing"] (spX (gRF 5))) (CNR:Cal P w K mg base L "_law_number_right" ["pool"] (spB gNR))
    (m_max:mg "max" = none) (m_min:mg "min" = none) (m_range:mg "range" = none) (m_len:mg "len" = none) (hL:1≤L)
    {cdv:Value} {A:Around} {outer:List Env} {s:Shared} {H:Hp} {E:XK} (hr:Room L (A.deeper (PyProof.Rows.envOfC "law" (aQ hg_) s.heap.objs.size f cdv))) :
    XSs (nB CX0 P w K mg base (["script", "k", "pool", "most", "kinds", "values", "some", "at"]:List Str) "law" (aQ hg_) f cdv A outer s H E).nox cC (iJ hg_) (aEj K):=by
  have hu1:=oD hr
  have hu0:=bN hu1
  exact (dR (zK PassesOwn.never rfl (cm_ m_range (bC (mK (aCp (by rfl)) aLj (by rfl) m_max qK (bC cO (bC (mK (aCl (by rfl)) aLi (by rfl) m_min aRa (bC cO (bC (mK (wE K) aAd (by rfl) m_len PySem.boot_len (bC (aZ (pv 0)) cD)) cD))) cD))) cD)) (gN (i:=1) jK.nd rfl (Or.inl rfl)) (kO (n:=99) (i:=1) (by decide)) (dR (gQ fun F=>fS (i:=2) jK.nd rfl (Or.inr rfl) (XE.at (Ex:=cC) F (eU CPL (hr.mono (by omega)) (bC (aZ (pv 0)) (bC (aZ (pv 1)) cD)))))
    (dR (gQ fun F=>fS (i:=3) jK.nd rfl (Or.inr rfl) (XE.at (Ex:=cC) F (eK K (qG (bC cO (bC cO cD))) (jY (i:=2) CTK (hr.mono (by omega)) (pv 2) (bC cO cD)) (fun _ _=>rfl))))
    (dR (gQ fun F=>fS (i:=4) jK.nd rfl (Or.inr rfl) (XE.at (Ex:=cC) F (wD (dsc:=aQ hg_) (N:=["script", "k", "pool", "most", "kinds", "values", "some", "at"]) (tgs:=["turn"]) (outs:=[2,3]) (N':=["turn", "pool", "most"]) (by refine ⟨rfl,?_,?_,?_,rfl,?_,?_,?_⟩ <;> decide +kernel) (cm_ m_range (bC cO cD)) (fun _ _ _ _ _=>(gN (i:=0) (show (["turn", "pool", "most"]:List Str).Nodup by decide +kernel) rfl (Or.inl rfl) (.inr rfl))) (kO (n:=1) (i:=0) (by decide)) (rC (by decide)) (fun _ _ _ _ _=>nG) (fun _ _ _ _ _=>(jY (i:=1) CLK (hr.mono (by omega)) (pv 1) (bC (jX cO (jY (i:=1) CTK (hr.mono (by omega)) (pv 1) (bC cO cD))) (bC (aZ (pv 2)) cD)))))))
    (dR (zI fun F=>PS.weak (fv_ (i:=5) jK.nd rfl rfl (dsc:=aQ hg_) (N:=["script", "k", "pool", "most", "kinds", "values", "some", "at"]) (tgs:=["kind"]) (outs:=[2]) (N':=["kind", "pool"]) (by refine ⟨rfl,?_,?_,?_,rfl,?_,?_,?_⟩ <;> decide +kernel) (XIt.at (Ex:=cC) F (rA (aZ (pv 4)))) (fun _ _ _ _ _=>(gN (i:=0) (show (["kind", "pool"]:List Str).Nodup by decide +kernel) rfl (Or.inl rfl) (.inr rfl))) (rC (by decide)) (fun a b c d e=>XCs.at (Ex:=cC) F nG) (fun a b c d e=>XE.at (Ex:=cC) F (jY (i:=1) CVA (hr.mono (by omega)) (pv 1) (bC (aZ (pv 0)) cD)))) (hz_ (kO (n:=1) (i:=0) (by decide)) (by decide)))
    (dR (zI fun F=>PS.weak (fv_ (i:=6) jK.nd rfl rfl (dsc:=aQ hg_) (N:=["script", "k", "pool", "most", "kinds", "values", "some", "at"]) (tgs:=["turn"]) (outs:=[2,4]) (N':=["turn", "pool", "kinds"]) (by refine ⟨rfl,?_,?_,?_,rfl,?_,?_,?_⟩ <;> decide +kernel) (XIt.at (Ex:=cC) F (cm_ m_range (bC (jX cO (jY (i:=2) CTK (hr.mono (by omega)) (pv 2) (bC cO cD))) cD))) (fun _ _ _ _ _=>(gN (i:=0) (show (["turn", "pool", "kinds"]:List Str).Nodup by decide +kernel) rfl (Or.inl rfl) (.inr rfl))) (rC (by decide)) (fun a b c d e=>XCs.at (Ex:=cC) F nG) (fun a b c d e=>XE.at (Ex:=cC) F (jY (i:=1) CVA (hr.mono (by omega)) (pv 1) (bC (eK K (aZ (pv 2)) cO (fun _ _=>rfl)) cD)))) (hz_ (kO (n:=1) (i:=0) (by decide)) (by decide)))
    (dR (iP (XW.pt (ht_ (wC (qY (eU CRW (hr.mono (by omega)) (bC (eK K (aZ (pv 4)) cO (fun _ _=>rfl)) (bC (aZ (pv 6)) cD))))) (fa_ (wC (qY (eU CRR2 (hr.mono (by omega)) (bC (aZ (pv 4)) (bC (aZ (pv 5)) cD)))))))) (dY (gA x8)) jF)
    (dR (zK PassesOwn.never rfl (cm_ m_range (bC cO cD)) (gN (i:=1) jK.nd rfl (Or.inl rfl)) (kO (n:=99) (i:=1) (by decide)) (dY (iP (wC (qY (eU CCR (hr.mono (by omega)) (bC (aZ (pv 4)) (bC (aZ (pv 1)) (bC (eK K (aZ (pv 5)) (aZ (pv 1)) (fun _ _=>rfl)) cD)))))) (dY (gA x8)) jF)))
    (dR (gQ fun F=>fS (i:=7) jK.nd rfl (Or.inl rfl) (XE.at (Ex:=cC) F (jY (i:=2) CTK (hr.mono (by omega)) (pv 2) (bC (mK (wE K) zJ (by rfl) m_len PySem.boot_len (bC (aZ (pv 6)) cD)) cD))))
    (dR (iP (wC (qY (eU CRF (hr.mono (by omega)) (bC (mV (bC kM (bC (eK K (aZ (pv 4)) cO (fun _ _=>rfl)) (bC (mK (wE K) zJ (by rfl) m_len PySem.boot_len (bC (aZ (pv 6)) cD)) cD)))) (bC (jX (jX (oN K (aZ (pv 6)) m7 (nK (aZ (pv 7)))) (qG (bC zP cD))) (oN K (aZ (pv 6)) (nK (jX (aZ (pv 7)) cO)) m7)) cD))))) (dY (gA x8)) jF)
    (dY (iP (XW.pt (ht_ (wC (qY (eU CRF (hr.mono (by omega)) (bC (mV (bC kM (bC (aZ (pv 4)) cD))) (bC (mV (bC cO (bC (eK K (aZ (pv 5)) cO (fun _ _=>rfl)) cD))) cD))))) (fa_ (wC (qY (jY (i:=2) CNR (hr.mono (by omega)) (pv 2) cD)))))) (dY (gA x8)) jF))))))))))))
    (dY (gA x8)))
end
theorem aNj {v:Dx} {a b:Int} (h:v∈[Dx.int a,Dx.int b]):∃ z,v=.int z∧(z=a∨z=b):=by
  simp only [aF,aV,or_false] at h
  rcases h with rfl | rfl
  · exact ⟨_,rfl,.inl rfl⟩
  · exact ⟨_,rfl,.inr rfl⟩
theorem aAe {α:Type} {xs:List α} {lo hi:Option Int} {a:α} (h:a∈nE xs lo hi):a∈xs:=by
  unfold nE at h
  exact List.mem_of_mem_drop (List.mem_of_mem_take h)
theorem aLk {α:Type} (xs:List α) (lo hi:Option Int):(nE xs lo hi).length≤xs.length:=by
  unfold nE
  rw [cI,List.length_drop]
  omega
theorem aKr {c:XC} {G:XS} {ρ ρ':En} {D:XD} (hc:∀ Q:Bool→En→Prop,Q false ρ'→c ρ Q) (h:D.nx ρ'):xIf c G fY ρ D:=hc _ h
theorem aKq {t:XT} {ρ:En} {Q:Bool→En→Prop} (h:t ρ fun s ρ'=>match s with
  | .tr (.bl b)=>Q (!b) ρ'
  | _=>False):kS (xB t) ρ Q:=h
theorem aQc {l:List Dx} {j:Nat} {i:Int} {d:Dx} {Q:Sv→Prop} (e:i=(j:Int)) (h:l[j]? = some d) (q:Q (.tr d)):ixX (.lst l) (.int i) Q:=by subst e; exact v3 h q
section
variable {P:Program} {w:World} {K:dH} {mg:gO} {base:Heap} {f:Addr} {fd:FuncData} {L:Nat}
theorem aJm (F:Fun K "law" "law" hg_ f fd) (CPL:Cal P w K mg base 1 "_law_pool" ["script", "k"] (spX (gPL K)))
    (CTK:Cal P w K mg base 1 "_law_take" ["pool", "many"] (spB gTK)) (CLK:Cal P w K mg base L "_law_kind" ["pool", "deep", "most"] (spB (gLK 5))) (CVA:Cal P w K mg base L "_law_value" ["pool", "kind"] (spB (gVA 5))) (CRW:Cal P w K mg base L "_law_row_right" ["kind", "values"] (spX gRW)) (CRR2:Cal P w K mg base L "_law_record_right" ["kinds", "values"] (spX gRC)) (CCR:Cal P w K mg base L "_law_choice_right" ["kinds", "k", "value"] (spX gCC)) (CRF:Cal P w K mg base L "_law_refused" ["kind", "thing"] (spX (gRF 5))) (CNR:Cal P w K mg base L "_law_number_right" ["pool"] (spB gNR))
    (m_max:mg "max" = none) (m_min:mg "min" = none) (m_range:mg "range" = none) (m_len:mg "len" = none) (hL:1≤L) :
    FnOk P w K mg base CX0 (L + 1) f fd ["script"] (spX (aUk K)):=by
  refine jU F jK (fun ds Q h=>by obtain ⟨ns,rfl,_⟩:=h; rfl) (by decide) fun cdv A outer s H E hr => ?_
  refine ⟨_,aLg CPL CTK CLK CVA CRW CRR2 CCR CRF CNR m_max m_min m_range m_len hL hr,fun ds Q h => ?_⟩
  obtain ⟨ns,rfl,h63,q⟩:=h
  have t5:tk 5=67863000:=by decide
  have v5:tv 5=2042050:=by decide
  unfold aEj
  refine dm_ (fun ρ=>True) (fun ρ _=>q) (fun D' hD => ?_)
  refine ⟨rfl,?_⟩
  refine ⟨⟨by split <;> (try split) <;> omega,by split <;> (try split) <;> omega⟩,?_⟩
  refine zA (fun k:Nat=>Dx.int (0 + (k:Int))) (fun rest ρ=>(∀ k∈rest,k < 63)∧∃ y1 y2 y3 y4 y5 y6 y7,ρ=[.v (.tr (.scr K ns)),y1,y2,y3,y4,y5,y6,y7]) (fun ρ h=>hD ρ trivial) (fun k rest ρ Kn h hk => ?_) ⟨fun k hk=>by
      have:=iA.mp hk
      revert this
      split <;> (try split) <;> omega,.un,.un,.un,.un,.un,.un,.un,rfl⟩
  obtain ⟨hlt,y1,y2,y3,y4,y5,y6,y7,rfl⟩:=h
  have hk4:=hlt k aB
  have hknext:∀ a1 a2 a3 a4 a5 a6 a7,Kn [.v (.tr (.scr K ns)),a1,a2,a3,a4,a5,a6,a7]:=fun a1 a2 a3 a4 a5 a6 a7=>hk _ ⟨fun k' hk'=>hlt k' (aC _ hk'),_,_,_,_,_,_,_,rfl⟩
  refine ⟨ns,0 + (k:Int),rfl,by omega,by omega,fun l hP => ?_⟩
  dsimp only
  refine ⟨iB,rfl,_,2,rfl,hP,by omega,by decide,by decide,fun r1 l1 r10 r11 hP1 => ?_⟩
  refine mF r10 r11 fun v hv => ?_
  obtain ⟨mo,rfl,hmo⟩:=aNj hv
  refine ⟨⟨by decide,by decide⟩,by show 3≤1000000; decide,?_⟩
  refine ⟨rfl,rfl,_,4,rfl,hP1,by omega,by decide,by decide,fun r2 l2 r20 r21 hP2 => ?_⟩
  refine ⟨_,1 + r2,mo,rfl,hP2,by omega,by omega,by omega,by decide,by rw [t5]; omega,fun k0 l3 f0 d0 m0 hP3 => ?_⟩
  rw [t5] at hP3
  refine ⟨rfl,rfl,_,4,rfl,hP3,by omega,by decide,by decide,fun r3 l4 r30 r31 hP4 => ?_⟩
  refine ⟨_,1 + r3,mo,rfl,hP4,by omega,by omega,by omega,by decide,by rw [t5]; omega,fun k1 l5 f1 d1 m1 hP5 => ?_⟩
  rw [t5] at hP5
  refine ⟨rfl,rfl,_,4,rfl,hP5,by omega,by decide,by decide,fun r4 l6 r40 r41 hP6 => ?_⟩
  refine ⟨_,1 + r4,mo,rfl,hP6,by omega,by omega,by omega,by decide,by rw [t5]; omega,fun k2 l7 f2 d2 m2 hP7 => ?_⟩
  rw [t5] at hP7
  have d0':k0.deep≤4:=by omega
  have d1':k1.deep≤4:=by omega
  have d2':k2.deep≤4:=by omega
  refine ⟨by show 3≤1000000; decide,?_⟩
  refine ⟨rfl,_,k0,rfl,hP7,f0,by omega,by decide,by rw [v5]; omega,fun v0 l8 w0 hP8 => ?_⟩
  rw [v5] at hP8
  refine ⟨rfl,_,k1,rfl,hP8,f1,by omega,by decide,by rw [v5]; omega,fun v1 l9 w1 hP9 => ?_⟩
  rw [v5] at hP9
  refine ⟨rfl,_,k2,rfl,hP9,f2,by omega,by decide,by rw [v5]; omega,fun v2 la w2 hPa => ?_⟩
  rw [v5] at hPa
  dsimp only
  obtain ⟨PB,hPB,hPBb⟩ : ∃ PB:Int,PoolX PB la∧PB + 100000000 < 2 ^ 60:=⟨_,hPa,by omega⟩
  clear hP hP1 hP2 hP3 hP4 hP5 hP6 hP7 hP8 hP9 hPa
  change fJ _ _ [.v (.tr (.scr K ns)),.v (.tr (.int (0 + (k:Int)))),.v (.ol la),.v (.tr (.int mo)),.v (.tr (.lst [k0.x,k1.x,k2.x])),.v (.ol [k0.vx v0,k1.vx v1,k2.vx v2]),y6,y7] _
  refine ⟨rfl,_,5,rfl,hPB,by omega,by decide,by decide,fun r5 lb r50 r51 hPc => ?_⟩
  refine ⟨⟨by omega,by omega⟩,by show ((List.range _).map _).length≤_; rw [aE,cB]; omega,?_⟩
  refine co_ (fun k:Nat=>Dx.int (0 + (k:Int))) (fun rest acc cs => ∃ (vs:List Vd) (l':List Dx),vs.length + rest.length=(1 + r5).toNat∧acc=vs.map k0.vx∧cs=[.v (.ol l'),.v (.tr (.lst [k0.x,k1.x,k2.x]))]∧(∀ v∈vs,k0.Val v)∧PoolX (PB + 1 + (vs.length:Int) * 2042050) l') (fun acc cs h => ?_) (fun kk rest acc cs Pn h hk => ?_) ⟨[],lb,by rw [cB]; simp,rfl,rfl,(fun v hv=>nomatch hv),hPc.mono (by simp)⟩
  · obtain ⟨vs, l', e1, rfl, rfl, hV, hPd⟩ := h
    rw [bG,iT] at e1
    have hvl1:1≤vs.length:=by omega
    have hvl5:vs.length≤5:=by omega
    have hPe:PoolX (PB + 11000000) l':=hPd.mono (by omega)
    clear hPd hPc
    dsimp only
    change fJ _ _ [.v (.tr (.scr K ns)),.v (.tr (.int (0 + (k:Int)))),.v (.ol l'),.v (.tr (.int mo)),.v (.tr (.lst [k0.x,k1.x,k2.x])),.v (.ol [k0.vx v0,k1.vx v1,k2.vx v2]),.v (.ol (vs.map k0.vx)),y7] _
    refine ha_ (ρ':=[.v (.tr (.scr K ns)),.v (.tr (.int (0 + (k:Int)))),.v (.ol l'),.v (.tr (.int mo)),.v (.tr (.lst [k0.x,k1.x,k2.x])),.v (.tr (.lst [k0.vx v0,k1.vx v1,k2.vx v2])),.v (.tr (.lst (vs.map k0.vx))),y7]) (fun Q q => ?_) ?_
    · refine ⟨k0, vs, rfl, f0, d0', hvl1, by omega, hV, by omega, ?_⟩
      exact ⟨k0,k1,k2,v0,v1,v2,rfl,⟨f0,f1,f2⟩,⟨w0,w1,w2⟩,⟨d0',d1',d2'⟩,⟨by omega,by omega,by omega⟩,q⟩
    have hcf:(Kd.cho [k0,k1,k2]).Fit:=⟨⟨f0,f1,f2,trivial⟩,by show 1≤3; decide,by show 3≤6; decide⟩
    have hcd:eY [k0,k1,k2]≤4:=by show max k0.deep (max k1.deep (max k2.deep 0))≤4; omega
    have hcr:(Kd.cho [k0,k1,k2]).rm.1≤100000:=by
      obtain ⟨a0,b0,c0,e0⟩:=k0.bd f0.ok
      obtain ⟨a1,b1,c1,e1⟩:=k1.bd f1.ok
      obtain ⟨a2,b2,c2,e2⟩:=k2.bd f2.ok
      have x1:maxL 1 ([k0.rm,k1.rm,k2.rm].map (·.2))≤8:=gz_ (by decide) fun a ha=>by simp only [aP,bM,aF,aV,or_false] at ha; omega
      have x0:1≤maxL 1 ([k0.rm,k1.rm,k2.rm].map (·.2)):=hf_ _
      have y1:maxL 0 ([k0.rm,k1.rm,k2.rm].map (·.1))≤200:=gz_ (by decide) fun a ha=>by simp only [aP,bM,aF,aV,or_false] at ha; omega
      show up (up 1 (maxL 1 ([k0.rm,k1.rm,k2.rm].map (·.2))) + maxL 0 ([k0.rm,k1.rm,k2.rm].map (·.1))) (maxL 1 ([k0.rm,k1.rm,k2.rm].map (·.2)))≤_
      generalize maxL 1 ([k0.rm,k1.rm,k2.rm].map (·.2))=M at *
      generalize maxL 0 ([k0.rm,k1.rm,k2.rm].map (·.1))=R at *
      obtain ⟨u1,u2⟩:=jW (n:=1) (m:=M) (by omega)
      obtain ⟨u3,u4⟩:=jW (n:=up 1 M + R) (m:=M) (by omega)
      omega
    refine dm_ (fun ρ => ∃ x1,ρ=[.v (.tr (.scr K ns)),x1,.v (.ol l'),.v (.tr (.int mo)),.v (.tr (.lst [k0.x,k1.x,k2.x])),.v (.tr (.lst [k0.vx v0,k1.vx v1,k2.vx v2])),.v (.tr (.lst (vs.map k0.vx))),y7]) ?_ (fun D2 hD2 => ?_)
    · rintro ρ ⟨x1, rfl⟩
      refine ⟨rfl,_,((vs.map k0.vx).length:Int),rfl,hPe,by omega,by rw [aE]; omega,by rw [aE]; omega,fun r6 lc r60 r61 hPf => ?_⟩
      rw [aE] at r61
      have hcl:∀ lo hi,(nE (vs.map k0.vx) lo hi).length≤5:=fun lo hi=>by
        have:=aLk (vs.map k0.vx) lo hi
        rw [aE] at this
        omega
      have hsz:∀ d∈vs.map k0.vx,d.Sz:=fun d hd=>by
        obtain ⟨u,hu,rfl⟩:=cN.mp hd
        exact (k0.vx_sz u f0 (hV u hu)).1
      dsimp only
      refine ha_ (ρ':=[.v (.tr (.scr K ns)),x1,.v (.ol lc),.v (.tr (.int mo)),.v (.tr (.lst [k0.x,k1.x,k2.x])),.v (.tr (.lst [k0.vx v0,k1.vx v1,k2.vx v2])),.v (.tr (.lst (vs.map k0.vx))),.v (.tr (.int r6))]) (fun Q q => ?_) ?_
      · refine ⟨by show 3 ≤ 1000000; decide, aKf, ?_, ?_, .row k0 (vs.length : Int), .lst (nE (vs.map k0.vx) none (some r6) ++ [.non] ++ nE (vs.map k0.vx) (some (r6 + 1)) none), ?_, ?_, ?_, by show k0.deep + 1 ≤ 5; omega, by decide, aKk (d := .non) (bH _ (aJ _ aB)) aKm, q⟩
        · have := hcl none (some r6)
          show _ + 1≤_
          omega
        · have := hcl none (some r6)
          have:=hcl (some (r6 + 1)) none
          rw [aI]
          show _ + 1 + _≤_
          omega
        · rw [← aE (f := k0.vx)]
          rfl
        · simp only [Dx.Sz]
          refine ⟨?_,zY fun d hd => ?_⟩
          · have := hcl none (some r6)
            have:=hcl (some (r6 + 1)) none
            rw [aI,aI]
            show _ + 1 + _≤_
            omega
          · rcases bZ.mp hd with hd | hd
            · rcases bZ.mp hd with hd | hd
              · exact hsz d (aAe hd)
              · rw [aO.mp hd]; simp only [Dx.Sz]
            · exact hsz d (aAe hd)
        · exact Kd.Fit.ok (.row k0 (vs.length:Int)) ⟨f0,by omega,by omega⟩
      · refine ⟨iB, iB, .cho [k0, k1, k2], .tup [.int 3, k0.vx v0], rfl, ?_, hcf.ok, by show eY _ + 1 ≤ 5; omega, by decide, aKn (by show (3 : Int) ≤ 3; decide), ?_⟩
        · simp only [Dx.Sz, szX]
          exact ⟨by show 2≤100000; decide,trivial,(k0.vx_sz v0 f0 w0).1,trivial⟩
        · exact ⟨rfl,_,rfl,hPf,by omega,fun l2 hP2=>hknext _ _ _ _ _ _ _⟩
    · refine ⟨⟨by decide, by decide⟩, ?_⟩
      obtain ⟨rg,hrg⟩ : ∃ rg,rg=List.range 3:=⟨_,rfl⟩
      show iY _ _ _ ((List.range 3).map fun k:Nat=>Dx.int (0 + (k:Int))) _
      rw [← hrg]
      refine zA (fun k:Nat=>Dx.int (0 + (k:Int))) (fun rest ρ=>(∀ j∈rest,j < 3)∧∃ x1,ρ=[.v (.tr (.scr K ns)),x1,.v (.ol l'),.v (.tr (.int mo)),.v (.tr (.lst [k0.x,k1.x,k2.x])),.v (.tr (.lst [k0.vx v0,k1.vx v1,k2.vx v2])),.v (.tr (.lst (vs.map k0.vx))),y7]) (fun ρ h => ?_) (fun j rest ρ K2 h hk2 => ?_) ⟨fun j hj=>by rw [hrg] at hj; exact iA.mp hj,_,rfl⟩
      · obtain ⟨_, x1, rfl⟩ := h
        exact hD2 _ ⟨x1,rfl⟩
      · obtain ⟨hin, x1, rfl⟩ := h
        have hj:=hin j aB
        obtain ⟨kj,vj,e1,e2,e3,e4⟩ : ∃ kj vj,[k0,k1,k2][j]? = some kj∧[k0.vx v0,k1.vx v1,k2.vx v2][j]? = some (kj.vx vj)∧kj.Val vj∧kj.rm.1≤1000:=by
          rcases (show j=0∨j=1∨j=2 by omega) with rfl | rfl | rfl
          · exact ⟨k0,v0,rfl,rfl,w0,by omega⟩
          · exact ⟨k1,v1,rfl,rfl,w1,by omega⟩
          · exact ⟨k2,v2,rfl,rfl,w2,by omega⟩
        show xIf _ _ _ [.v (.tr (.scr K ns)),.v (.tr (.int (0 + (j:Int)))),.v (.ol l'),.v (.tr (.int mo)),.v (.tr (.lst [k0.x,k1.x,k2.x])),.v (.tr (.lst [k0.vx v0,k1.vx v1,k2.vx v2])),.v (.tr (.lst (vs.map k0.vx))),y7] _
        refine aKr (ρ':=[.v (.tr (.scr K ns)),.v (.tr (.int (0 + (j:Int)))),.v (.ol l'),.v (.tr (.int mo)),.v (.tr (.lst [k0.x,k1.x,k2.x])),.v (.tr (.lst [k0.vx v0,k1.vx v1,k2.vx v2])),.v (.tr (.lst (vs.map k0.vx))),y7]) (fun Q q => ?_) ?_
        · refine aKq (it_ (fi_ (el_ rfl (fi_ (el_ rfl (fi_ (x5 (el_ rfl (el_ rfl (aQc (j := j) (Int.zero_add _) e2 ?_))))))))))
          refine ⟨[k0,k1,k2],j,kj,vj,?_,hcf,e1,e3,hcd,hcr,e4,q⟩
          show [Dx.lst [k0.x,k1.x,k2.x],Dx.int (0 + (j:Int)),kj.vx vj]=_
          rw [Int.zero_add]
          rfl
        · exact hk2 _ ⟨fun i hi=>hin i (aC _ hi),_,rfl⟩
  · obtain ⟨vs, l', e1, rfl, rfl, hV, hPd⟩ := h
    rw [aL] at e1
    refine ⟨rfl,_,k0,rfl,hPd,f0,by omega,by decide,by rw [v5]; omega,fun vd l6 hv6 hP7 => ?_⟩
    rw [v5] at hP7
    refine hk _ _ ⟨vs ++ [vd],l6,by rw [aI,hW]; omega,by rw [bW]; rfl,rfl,fun v hm => ?_,hP7.mono (by rw [aI]; show _≤PB + 1 + ((vs.length + 1:Nat):Int) * 2042050; omega)⟩
    rcases bZ.mp hm with hm | hm
    · exact hV v hm
    · rw [aO.mp hm]; exact hv6
end
structure Fx (K:dH) (mg:gO) (nm:Str) (st:Stmt) (ps:List Str) (f:Addr) (fd:FuncData):Prop where
  F:Fun K nm nm st f fd
  b:Binds K fd ps []
  k:PySem.W.keepIn K (.ref f)=true
  m:mg nm=some (.ref f)
theorem Fx.cal {P:Program} {w:World} {K:dH} {mg:gO} {base:Heap} {nm:Str} {st:Stmt} {ps:List Str} {f:Addr} {fd:FuncData} {j:Nat} {sp:Sp} (x:Fx K mg nm st ps f fd) (h:FnOk P w K mg base CX0 j f fd ps sp):Cal P w K mg base j nm ps sp:=⟨f,fd,h,x.b,x.k,x.m⟩
theorem aGx {P:Program} {w:World} {K:dH} {mg:gO} {base:Heap} {j:Nat} {f:Addr} {fd:FuncData} {ps:List Str} {g:GB} (no:∀ l ds Q,¬ g l ds Q):FnOk P w K mg base CX0 j f fd ps (spB g) :=
  ⟨fun vs H Q E h=>by obtain ⟨_,_,_,_,_,_,_,_,_,_,_,_,_,h3,_⟩:=h; exact (no _ _ _ h3).elim,fun A outer s H args us vs Q E hr he hb hv h=>by obtain ⟨_,_,_,_,_,_,_,_,_,_,_,_,_,h3,_⟩:=h; exact (no _ _ _ h3).elim⟩
theorem j0 (d:Dx):1≤d.deep:=by cases d <;> simp only [Dx.deep] <;> omega
section
variable {P:Program} {w:World} {K:dH} {mg:gO} {base:Heap} {fRU fRO fRS fGM fSO fRR fRC fPB fRH fCA fPO fT fLR fLM fLN fLK fVA fTP fLY fCP fSA fTU fIV fIW fIRV fIDV fICV fNB fLAY fLB fBY f:Addr} {dRU dRO dRS dGM dSO dRR dRC dPB dRH dCA dPO dT dLR dLM dLN dLK dVA dTP dLY dCP dSA dTU dIV dIW dIRV dIDV dICV dNB dLAY dLB dBY fd:FuncData}
structure RoomX (K:dH) (mg:gO) (fRU fRO fRS fGM fSO fRR fRC fPB fRH fCA:Addr) (dRU dRO dRS dGM dSO dRR dRC dPB dRH dCA:FuncData):Prop where
  RU:Fx K mg "rounded_up" ee_ ["number", "m"] fRU dRU
  RO:Fx K mg "room_of" fd_ ["kind"] fRO dRO
  RS:Fx K mg "rooms_of" ei_ ["kinds"] fRS dRS
  GM:Fx K mg "greatest_multiple" bo_ ["rooms"] fGM dGM
  SO:Fx K mg "step_of" gb_ ["room"] fSO dSO
  RR:Fx K mg "room_of_row" do_ ["kind", "n"] fRR dRR
  RC:Fx K mg "room_of_record" ca_ ["kinds"] fRC dRC
  PB:Fx K mg "places_behind" cq_ ["rooms"] fPB dPB
  RH:Fx K mg "room_of_choice" cb_ ["kinds"] fRH dRH
  CA:Fx K mg "chosen_at" er_ ["multiple"] fCA dCA
  m_max:mg "max" = none
  m_zip:mg "zip" = none
theorem gw_ (X:RoomX K mg fRU fRO fRS fGM fSO fRR fRC fPB fRH fCA dRU dRO dRS dGM dSO dRR dRC dPB dRH dCA):∀ n,FnOk P w K mg base CX0 (2 + 3 * n) fRO dRO ["kind"] (spX (gRO n))
  | 0=>aEf
  | n + 1 => by
    have ih:=gw_ X n
    have GRU:=X.RU.cal (P:=P) (w:=w) (base:=base) (pG X.RU.F)
    have GSO:=X.SO.cal (f_ X.SO.F GRU)
    have GCA:=X.CA.cal (g7 X.CA.F GRU)
    have GGM:=X.GM.cal (P:=P) (w:=w) (base:=base) (aPn X.GM.F X.m_max)
    have GPB:=X.PB.cal (aFq X.PB.F GRU)
    have GRS:=X.RS.cal (aFp X.RS.F (X.RO.cal ih))
    have GRR:=X.RR.cal (aOu X.RR.F (X.RO.cal (ih.mono (Nat.le_succ _))) GSO (by omega))
    have GRC:=X.RC.cal (aOz X.RC.F GRS GGM GPB GRU X.m_max X.m_zip (by omega))
    have GRH:=X.RH.cal (aOw X.RH.F GRS GGM GCA GRU X.m_max (by omega))
    exact (aOv X.RO.F GRR GRC GRH).mono (by omega)
theorem uJ (X:RoomX K mg fRU fRO fRS fGM fSO fRR fRC fPB fRH fCA dRU dRO dRS dGM dSO dRR dRC dPB dRH dCA) (PO:Fx K mg "places_in_order" aw_ ["fields"] fPO dPO) (n:Nat):FnOk P w K mg base CX0 (4 + 3 * n) fPO dPO ["fields"] (spX (gPO n)) :=
  (aPa PO.F (X.PB.cal (aFq X.PB.F (X.RU.cal (pG X.RU.F)))) (X.RS.cal (aFp X.RS.F (X.RO.cal (gw_ X n)))) X.m_zip (by omega)).mono (by omega)
theorem u6 (LM:Fx K mg "_law_room" cd_ ["kind"] fLM dLM) (LR:Fx K mg "_law_rounded" cr_ ["number", "m"] fLR dLR) (m_max:mg "max" = none):∀ n,FnOk P w K mg base CX0 (1 + n) fLM dLM ["kind"] (spX (gLM n))
  | 0=>aGa
  | n + 1=>(aPg LM.F (LM.cal (u6 LM LR m_max n)) (LR.cal (aPf LR.F)) m_max (by omega)).mono (by omega)
theorem u7 (LK:Fx K mg "_law_kind" dr_ ["pool", "deep", "most"] fLK dLK) (T:Fx K mg "_law_take" dq_ ["pool", "many"] fT dT) (LN:Fx K mg "_law_names" dw_ ["pool", "many"] fLN dLN) (LM:Fx K mg "_law_room" cd_ ["kind"] fLM dLM) (LR:Fx K mg "_law_rounded" cr_ ["number", "m"] fLR dLR)
    (m_max:mg "max" = none) (m_range:mg "range" = none) (m_len:mg "len" = none) (m_int:mg "int" = none):∀ n,FnOk P w K mg base CX0 (6 + n) fLK dLK ["pool", "deep", "most"] (spB (gLK n))
  | 0=>aGx fun l ds Q h=>by obtain ⟨_,_,_,_,_,_,_,_,_⟩:=h; omega
  | n + 1=>(aPh LK.F (T.cal (pF T.F)) (LN.cal (aJy (aTk LN.F (aJs T.F) T.b T.k T.m m_range m_len))) (LM.cal (u6 LM LR m_max 5)) (by omega) (by omega) (LK.cal (u7 LK T LN LM LR m_max m_range m_len m_int n)) m_range m_int).mono (by omega)
theorem m9 (VA:Fx K mg "_law_value" du_ ["pool", "kind"] fVA dVA) (T:Fx K mg "_law_take" dq_ ["pool", "many"] fT dT) (TP:Fx K mg "_law_top" gc_ ["width"] fTP dTP) (m_range:mg "range" = none) (m_len:mg "len" = none):∀ n,FnOk P w K mg base CX0 (1 + n) fVA dVA ["pool", "kind"] (spB (gVA n))
  | 0=>aGx fun l ds Q h=>by obtain ⟨_,kd,_,_,_,hd,_⟩:=h; have:=Kd.deep_pos kd; omega
  | n + 1=>(aOr VA.F (T.cal (pF T.F)) (TP.cal (aFo TP.F m_range)) (VA.cal (m9 VA T TP m_range m_len n)) m_range m_len (by omega)).mono (by omega)
structure IvX (K:dH) (mg:gO) (fIV fIW fIRV fIDV fICV:Addr) (dIV dIW dIRV dIDV dICV:FuncData):Prop where
  IV:Fx K mg "is_value" fn_ ["kind", "thing"] fIV dIV
  IW:Fx K mg "is_whole" ej_ ["thing"] fIW dIW
  IRV:Fx K mg "is_row_value" cn_ ["kind", "n", "thing"] fIRV dIRV
  IDV:Fx K mg "is_record_value" bn_ ["fields", "thing"] fIDV dIDV
  ICV:Fx K mg "is_choice_value" cj_ ["kinds", "thing"] fICV dICV
  m_isinstance:mg "isinstance" = none
  m_int:mg "int" = none
  m_bool:mg "bool" = none
  m_list:mg "list" = none
  m_tuple:mg "tuple" = none
  m_dict:mg "dict" = none
  m_str:mg "str" = none
  m_len:mg "len" = none
  m_all:mg "all" = none
  c_BITS:∃ t,mg "BITS_OF_A_BYTE" = some (.int 8 t)
theorem u9 (X:RoomX K mg fRU fRO fRS fGM fSO fRR fRC fPB fRH fCA dRU dRO dRS dGM dSO dRR dRC dPB dRH dCA) (PO:Fx K mg "places_in_order" aw_ ["fields"] fPO dPO) (NB:Fx K mg "number_bytes" dd_ ["w", "value"] fNB dNB) (LAY:Fx K mg "lay" p9 ["laid", "place", "some"] fLAY dLAY) (LB:Fx K mg "laid_bytes" ef_ ["kind", "value"] fLB dLB)
    (c_HOW:∃ t,mg "HOW_MANY_BYTES" = some (.int 256 t)) (m_range:mg "range" = none) (m_enumerate:mg "enumerate" = none):∀ n,FnOk P w K mg base CX0 (5 + 3 * n) fLB dLB ["kind", "value"] (spX (gLB n))
  | 0=>sK fun ds Q h=>by obtain ⟨kd,_,_,_,_,_,_,hd,_⟩:=h; have:=Kd.deep_pos kd; omega
  | n + 1 => by
    have ih:=LB.cal (u9 X PO NB LAY LB c_HOW m_range m_enumerate n)
    have GRU:=X.RU.cal (P:=P) (w:=w) (base:=base) (pG X.RU.F)
    exact (aPj LB.F (NB.cal (aPd NB.F c_HOW m_range)) (X.RO.cal (gw_ X (n + 1))) (X.SO.cal (f_ X.SO.F GRU)) (PO.cal (uJ X PO n)) (X.CA.cal (g7 X.CA.F GRU)) (LAY.cal (aJl LAY.F m_enumerate)) ih X.m_zip m_enumerate (by omega) (by omega) (by omega)).mono (by omega)
theorem p8 (SB:Fx K mg "_law_same" cy_ ["one", "other"] fSA dSA) (m_isinstance:mg "isinstance" = none) (m_list:mg "list" = none) (m_tuple:mg "tuple" = none) (m_dict:mg "dict" = none) (m_bool:mg "bool" = none) (m_str:mg "str" = none) (m_len:mg "len" = none) (m_zip:mg "zip" = none):∀ n,FnOk P w K mg base CX0 n fSA dSA ["one", "other"] (spX (gSA n))
  | 0=>sK fun ds Q h=>by obtain ⟨d,_,_,hd,_⟩:=h; have:=j0 d; omega
  | n + 1=>aOs SB.F (SB.cal (p8 SB m_isinstance m_list m_tuple m_dict m_bool m_str m_len m_zip n)) m_isinstance m_list m_tuple m_dict m_bool m_str m_len m_zip
theorem m8 {fVT fNA fRD fCH:Addr} {dVT dNA dRD dCH:FuncData} (X:RoomX K mg fRU fRO fRS fGM fSO fRR fRC fPB fRH fCA dRU dRO dRS dGM dSO dRR dRC dPB dRH dCA) (PO:Fx K mg "places_in_order" aw_ ["fields"] fPO dPO) (VT:Fx K mg "value_at" eh_ ["kind", "some", "place"] fVT dVT) (NA:Fx K mg "number_at" ep_ ["w", "some", "place"] fNA dNA) (RD:Fx K mg "record_at" eo_ ["fields", "some", "place"] fRD dRD) (CH:Fx K mg "choice_at" es_ ["kind", "some", "place"] fCH dCH)
    (c_HOW:∃ t,mg "HOW_MANY_BYTES" = some (.int 256 t)) (m_range:mg "range" = none) (m_reversed:mg "reversed" = none) (m_len:mg "len" = none):∀ n,FnOk P w K mg base CX0 (5 + 3 * n) fVT dVT ["kind", "some", "place"] (spX (gVT n))
  | 0=>aDq
  | n + 1 => by
    have ih:=VT.cal (m8 X PO VT NA RD CH c_HOW m_range m_reversed m_len n)
    have GRU:=X.RU.cal (P:=P) (w:=w) (base:=base) (pG X.RU.F)
    exact (aOp VT.F (NA.cal (aPe NA.F c_HOW m_reversed)) ih (X.RO.cal (gw_ X n)) (X.SO.cal (f_ X.SO.F GRU)) (RD.cal (aOy RD.F ih (PO.cal (uJ X PO n)) X.m_zip (by omega))) (CH.cal (aPo CH.F ih (X.RO.cal (gw_ X (n + 1))) (X.CA.cal (g7 X.CA.F GRU)) m_len (by omega) (by omega))) m_range (by omega) (by omega)).mono (by omega)
theorem Fx.calE {nm:Str} {st:Stmt} {ps:List Str} {j:Nat} {sp:Sp} (x:Fx K mg nm st ps f fd) (h:FnOk P w K mg base (CXe P w) j f fd ps sp):aRl P w K mg base j nm ps sp:=⟨f,fd,h,x.b,x.k,x.m⟩
theorem w9 (X:IvX K mg fIV fIW fIRV fIDV fICV dIV dIW dIRV dIDV dICV):∀ n,FnOk P w K mg base CX0 (1 + 2 * n) fIV dIV ["kind", "thing"] (spX (gIG n))
  | 0=>aGn
  | n + 1 => by
    have ih:=X.IV.cal (w9 X n)
    have GIW:=X.IW.cal (P:=P) (w:=w) (base:=base) (aOo X.IW.F X.m_isinstance X.m_int X.m_bool)
    exact (aPl X.IV.F GIW (X.IRV.cal (aJn X.IRV.F ih X.m_isinstance X.m_list X.m_len X.m_all)) (X.IDV.cal (aJo X.IDV.F ih X.m_isinstance X.m_dict X.m_str X.m_len X.m_all)) (X.ICV.cal (aJp X.ICV.F ih GIW X.m_isinstance X.m_tuple X.m_len (by omega))) X.c_BITS (by omega)).mono (by omega)
end
structure VConsts (mg:gO):Prop where
  many:∃ t,mg "HOW_MANY_BYTES" = some (.int 256 t)
  bits:∃ t,mg "BITS_OF_A_BYTE" = some (.int 8 t)
theorem aXq:Nat.ble 1 PySem.Challenge.pw_laidfields_k23_whole_bytes_of_parts.main.body.length=true:=by k_qdec
def aVh (s:Stmt):Option V:=match s with
  | .Assign _ (.Constant (.int i) _ _) _=>some (.int i)
  | .Assign _ (.Constant (.str x) _ _) _=>some (.str x)
  | _=>none
def aXr (e:Expr):Option V:=match e with
  | .Constant (.int i) _ _=>some (.int i)
  | _=>none
def aYy (s:Stmt):Option (List (Option V)):=match s with
  | .Assign _ (.Tuple es _ _) _=>some (es.map aXr)
  | _=>none
def seenF (p:Program) (K:dH):List FO×List Bool×List (Option V)×List (Option (List (Option V)))×List OX:=([5,6,7,8,9,10,11,12,13,14,15,17,21,22,23,24,25,26,27,28,29,30,31,32,33,34,35,37,38,39,40,41,42,44,45,46,47,48,49,50,51,52,53].map fun i=>uV K (gY (kP p i)),bltNs.map (xA K),[19,20].map fun i=>uU K (gY (kP p i)),[].map fun i=>aPt K (gY (kP p i)),aPs K ["NoValue"])
def seenV (p:Program):List FO×List Bool×List (Option V)×List (Option (List (Option V)))×List OX:=([5,6,7,8,9,10,11,12,13,14,15,17,21,22,23,24,25,26,27,28,29,30,31,32,33,34,35,37,38,39,40,41,42,44,45,46,47,48,49,50,51,52,53].map fun i=>vP (kP p i),List.replicate 17 true,[19,20].map fun i=>aVh (kP p i),[].map fun i=>aYy (kP p i),[(true,[(some true,true)],some true,some false)])
theorem aFn:∀ w:World,onceSeen PySem.W.topRun treeTable importedModules (fun m s=>PySem.W.openSeen (PySem.W.view PySem.Challenge.pw_laidfields_k23_whole_bytes_of_parts [1,2,3,5,6,7,8,9,10,11,12,13,14,15,17,19,20,21,22,23,24,25,26,27,28,29,30,31,32,33,34,35,37,38,39,40,41,42,43,44,45,46,47,48,49,50,51,52,53]) [] m (fun s=>PySem.W.xlAt (PySem.W.view PySem.Challenge.pw_laidfields_k23_whole_bytes_of_parts [1,2,3,5,6,7,8,9,10,11,12,13,14,15,17,19,20,21,22,23,24,25,26,27,28,29,30,31,32,33,34,35,37,38,39,40,41,42,43,44,45,46,47,48,49,50,51,52,53]) [] s && PySem.W.recOk [] s) true s) PySem.Challenge.pw_laidfields_k23_whole_bytes_of_parts 4044 (seenF PySem.Challenge.pw_laidfields_k23_whole_bytes_of_parts) w=fun _=>some (true,PySem.W.openGood (PySem.W.view PySem.Challenge.pw_laidfields_k23_whole_bytes_of_parts [1,2,3,5,6,7,8,9,10,11,12,13,14,15,17,19,20,21,22,23,24,25,26,27,28,29,30,31,32,33,34,35,37,38,39,40,41,42,43,44,45,46,47,48,49,50,51,52,53]) [],seenV PySem.Challenge.pw_laidfields_k23_whole_bytes_of_parts):=by
  have _:=aXq
  rw [PySem.W.Fast.te5613672245838830930,PySem.W.Fast.te14082659384304107361,PySem.W.Fast.te14364793385576792824,PySem.W.Fast.te5923862056798008813,PySem.W.Fast.te4187177175401517315]
  exact fun w=>by kernel_rfl
theorem left_top:PySem.W.LeftO PySem.Challenge.pw_laidfields_k23_whole_bytes_of_parts (PySem.W.view PySem.Challenge.pw_laidfields_k23_whole_bytes_of_parts [1,2,3,5,6,7,8,9,10,11,12,13,14,15,17,19,20,21,22,23,24,25,26,27,28,29,30,31,32,33,34,35,37,38,39,40,41,42,43,44,45,46,47,48,49,50,51,52,53]) [] (fun s=>PySem.W.xlAt (PySem.W.view PySem.Challenge.pw_laidfields_k23_whole_bytes_of_parts [1,2,3,5,6,7,8,9,10,11,12,13,14,15,17,19,20,21,22,23,24,25,26,27,28,29,30,31,32,33,34,35,37,38,39,40,41,42,43,44,45,46,47,48,49,50,51,52,53]) [] s && PySem.W.recOk [] s) (exHook (seenF PySem.Challenge.pw_laidfields_k23_whole_bytes_of_parts) (seenV PySem.Challenge.pw_laidfields_k23_whole_bytes_of_parts)).obs (exHook (seenF PySem.Challenge.pw_laidfields_k23_whole_bytes_of_parts) (seenV PySem.Challenge.pw_laidfields_k23_whole_bytes_of_parts)).val 4044 true:=aBu (by decide) (by kernel_rfl) (fun s=>by kernel_rfl) aFn
theorem pK {α:Type} {f g:Nat→α}:∀ {l:List Nat},l.map f=l.map g→∀ i,i∈l→f i=g i:=fun h i hi=>List.map_inj_left.mp h i hi
theorem aCu {K:dH} {f:Addr} {fd:FuncData} (F:Fun K "law" "law" hg_ f fd) (s:Shared) (v:Value):BindsTo s fd ⟨[v],[]⟩ [("script",v)]:=by
  obtain ⟨oc,od,kV,doc,pm,an,cdv,ct,osl,rfl,_⟩:=F.ex
  exact .of_eq rfl
theorem all_mk {l:PySem.W.OpenLaw} {w:World} {K:dH} {mg:gO} {fa:Addr} {h:Heap} (hK:seenF PySem.Challenge.pw_laidfields_k23_whole_bytes_of_parts K=seenV PySem.Challenge.pw_laidfields_k23_whole_bytes_of_parts) (X:K.In h) (G:h.Ns mainGlobals mg) (hfa:mg "law" = some (.ref fa)) :
    ∃ fd:FuncData,(∀ (s:Shared) (v:Value),BindsTo s fd ⟨[v],[]⟩ [("script",v)])∧∀ base:Heap,K.In base→base.Ns mainGlobals mg→FnOk l.prog w K mg base CX0 30 fa fd ["script"] (spLaw K):=by
  have hd:=pK (f:=fun i=>uV K (gY (kP PySem.Challenge.pw_laidfields_k23_whole_bytes_of_parts i))) (g:=fun i=>vP (kP PySem.Challenge.pw_laidfields_k23_whole_bytes_of_parts i)) (l:=[5,6,7,8,9,10,11,12,13,14,15,17,21,22,23,24,25,26,27,28,29,30,31,32,33,34,35,37,38,39,40,41,42,44,45,46,47,48,49,50,51,52,53]) (congrArg (fun x=>x.1) hK)
  have hn:bltNs.map (xA K)=List.replicate 17 true:=congrArg (fun x=>x.2.1) hK
  have hc:=pK (f:=fun i=>uU K (gY (kP PySem.Challenge.pw_laidfields_k23_whole_bytes_of_parts i))) (g:=fun i=>aVh (kP PySem.Challenge.pw_laidfields_k23_whole_bytes_of_parts i)) (l:=[19,20]) (congrArg (fun x=>x.2.2.1) hK)
  obtain ⟨f5,d5,a5,F5⟩:=iZ (hd 5 (by decide))
  have x_is_whole:Fx K mg "is_whole" ej_ ["thing"] f5 d5:=⟨F5,hU F5 (fun _ _ _ _ _ _ _=>rfl),F5.kp,PySem.W.mg_of X G a5⟩
  obtain ⟨f6,d6,a6,F6⟩:=iZ (hd 6 (by decide))
  have x_rounded_up:Fx K mg "rounded_up" ee_ ["number", "m"] f6 d6:=⟨F6,fV F6 (fun _ _ _ _ _ _ _ _=>rfl),F6.kp,PySem.W.mg_of X G a6⟩
  obtain ⟨f7,d7,a7,F7⟩:=iZ (hd 7 (by decide))
  have x_room_of:Fx K mg "room_of" fd_ ["kind"] f7 d7:=⟨F7,hU F7 (fun _ _ _ _ _ _ _=>rfl),F7.kp,PySem.W.mg_of X G a7⟩
  obtain ⟨f8,d8,a8,F8⟩:=iZ (hd 8 (by decide))
  have x_rooms_of:Fx K mg "rooms_of" ei_ ["kinds"] f8 d8:=⟨F8,hU F8 (fun _ _ _ _ _ _ _=>rfl),F8.kp,PySem.W.mg_of X G a8⟩
  obtain ⟨f9,d9,a9,F9⟩:=iZ (hd 9 (by decide))
  have x_greatest_multiple:Fx K mg "greatest_multiple" bo_ ["rooms"] f9 d9:=⟨F9,hU F9 (fun _ _ _ _ _ _ _=>rfl),F9.kp,PySem.W.mg_of X G a9⟩
  obtain ⟨f10,d10,a10,F10⟩:=iZ (hd 10 (by decide))
  have x_step_of:Fx K mg "step_of" gb_ ["room"] f10 d10:=⟨F10,hU F10 (fun _ _ _ _ _ _ _=>rfl),F10.kp,PySem.W.mg_of X G a10⟩
  obtain ⟨f11,d11,a11,F11⟩:=iZ (hd 11 (by decide))
  have x_room_of_row:Fx K mg "room_of_row" do_ ["kind", "n"] f11 d11:=⟨F11,fV F11 (fun _ _ _ _ _ _ _ _=>rfl),F11.kp,PySem.W.mg_of X G a11⟩
  obtain ⟨f12,d12,a12,F12⟩:=iZ (hd 12 (by decide))
  have x_room_of_record:Fx K mg "room_of_record" ca_ ["kinds"] f12 d12:=⟨F12,hU F12 (fun _ _ _ _ _ _ _=>rfl),F12.kp,PySem.W.mg_of X G a12⟩
  obtain ⟨f13,d13,a13,F13⟩:=iZ (hd 13 (by decide))
  have x_places_behind:Fx K mg "places_behind" cq_ ["rooms"] f13 d13:=⟨F13,hU F13 (fun _ _ _ _ _ _ _=>rfl),F13.kp,PySem.W.mg_of X G a13⟩
  obtain ⟨f14,d14,a14,F14⟩:=iZ (hd 14 (by decide))
  have x_room_of_choice:Fx K mg "room_of_choice" cb_ ["kinds"] f14 d14:=⟨F14,hU F14 (fun _ _ _ _ _ _ _=>rfl),F14.kp,PySem.W.mg_of X G a14⟩
  obtain ⟨f15,d15,a15,F15⟩:=iZ (hd 15 (by decide))
  have x_chosen_at:Fx K mg "chosen_at" er_ ["multiple"] f15 d15:=⟨F15,hU F15 (fun _ _ _ _ _ _ _=>rfl),F15.kp,PySem.W.mg_of X G a15⟩
  obtain ⟨f17,d17,a17,F17⟩:=iZ (hd 17 (by decide))
  have x_places_in_order:Fx K mg "places_in_order" aw_ ["fields"] f17 d17:=⟨F17,hU F17 (fun _ _ _ _ _ _ _=>rfl),F17.kp,PySem.W.mg_of X G a17⟩
  obtain ⟨f21,d21,a21,F21⟩:=iZ (hd 21 (by decide))
  have x_is_value:Fx K mg "is_value" fn_ ["kind", "thing"] f21 d21:=⟨F21,fV F21 (fun _ _ _ _ _ _ _ _=>rfl),F21.kp,PySem.W.mg_of X G a21⟩
  obtain ⟨f22,d22,a22,F22⟩:=iZ (hd 22 (by decide))
  have x_is_row_value:Fx K mg "is_row_value" cn_ ["kind", "n", "thing"] f22 d22:=⟨F22,kH F22 (fun _ _ _ _ _ _ _ _ _=>rfl),F22.kp,PySem.W.mg_of X G a22⟩
  obtain ⟨f23,d23,a23,F23⟩:=iZ (hd 23 (by decide))
  have x_is_record_value:Fx K mg "is_record_value" bn_ ["fields", "thing"] f23 d23:=⟨F23,fV F23 (fun _ _ _ _ _ _ _ _=>rfl),F23.kp,PySem.W.mg_of X G a23⟩
  obtain ⟨f24,d24,a24,F24⟩:=iZ (hd 24 (by decide))
  have x_is_choice_value:Fx K mg "is_choice_value" cj_ ["kinds", "thing"] f24 d24:=⟨F24,fV F24 (fun _ _ _ _ _ _ _ _=>rfl),F24.kp,PySem.W.mg_of X G a24⟩
  obtain ⟨f25,d25,a25,F25⟩:=iZ (hd 25 (by decide))
  have x_bytes_of:Fx K mg "bytes_of" fo_ ["kind", "thing"] f25 d25:=⟨F25,fV F25 (fun _ _ _ _ _ _ _ _=>rfl),F25.kp,PySem.W.mg_of X G a25⟩
  obtain ⟨f26,d26,a26,F26⟩:=iZ (hd 26 (by decide))
  have x_laid_bytes:Fx K mg "laid_bytes" ef_ ["kind", "value"] f26 d26:=⟨F26,fV F26 (fun _ _ _ _ _ _ _ _=>rfl),F26.kp,PySem.W.mg_of X G a26⟩
  obtain ⟨f27,d27,a27,F27⟩:=iZ (hd 27 (by decide))
  have x_number_bytes:Fx K mg "number_bytes" dd_ ["w", "value"] f27 d27:=⟨F27,fV F27 (fun _ _ _ _ _ _ _ _=>rfl),F27.kp,PySem.W.mg_of X G a27⟩
  obtain ⟨f28,d28,a28,F28⟩:=iZ (hd 28 (by decide))
  have x_lay:Fx K mg "lay" p9 ["laid", "place", "some"] f28 d28:=⟨F28,kH F28 (fun _ _ _ _ _ _ _ _ _=>rfl),F28.kp,PySem.W.mg_of X G a28⟩
  obtain ⟨f29,d29,a29,F29⟩:=iZ (hd 29 (by decide))
  have x_value_of:Fx K mg "value_of" gu_ ["kind", "thing"] f29 d29:=⟨F29,fV F29 (fun _ _ _ _ _ _ _ _=>rfl),F29.kp,PySem.W.mg_of X G a29⟩
  obtain ⟨f30,d30,a30,F30⟩:=iZ (hd 30 (by decide))
  have x_are_bytes:Fx K mg "are_bytes" et_ ["thing", "how_many"] f30 d30:=⟨F30,fV F30 (fun _ _ _ _ _ _ _ _=>rfl),F30.kp,PySem.W.mg_of X G a30⟩
  obtain ⟨f31,d31,a31,F31⟩:=iZ (hd 31 (by decide))
  have x_is_byte:Fx K mg "is_byte" id_ ["thing"] f31 d31:=⟨F31,hU F31 (fun _ _ _ _ _ _ _=>rfl),F31.kp,PySem.W.mg_of X G a31⟩
  obtain ⟨f32,d32,a32,F32⟩:=iZ (hd 32 (by decide))
  have x_value_at:Fx K mg "value_at" eh_ ["kind", "some", "place"] f32 d32:=⟨F32,kH F32 (fun _ _ _ _ _ _ _ _ _=>rfl),F32.kp,PySem.W.mg_of X G a32⟩
  obtain ⟨f33,d33,a33,F33⟩:=iZ (hd 33 (by decide))
  have x_number_at:Fx K mg "number_at" ep_ ["w", "some", "place"] f33 d33:=⟨F33,kH F33 (fun _ _ _ _ _ _ _ _ _=>rfl),F33.kp,PySem.W.mg_of X G a33⟩
  obtain ⟨f34,d34,a34,F34⟩:=iZ (hd 34 (by decide))
  have x_record_at:Fx K mg "record_at" eo_ ["fields", "some", "place"] f34 d34:=⟨F34,kH F34 (fun _ _ _ _ _ _ _ _ _=>rfl),F34.kp,PySem.W.mg_of X G a34⟩
  obtain ⟨f35,d35,a35,F35⟩:=iZ (hd 35 (by decide))
  have x_choice_at:Fx K mg "choice_at" es_ ["kind", "some", "place"] f35 d35:=⟨F35,kH F35 (fun _ _ _ _ _ _ _ _ _=>rfl),F35.kp,PySem.W.mg_of X G a35⟩
  obtain ⟨f37,d37,a37,F37⟩:=iZ (hd 37 (by decide))
  have x__law_pool:Fx K mg "_law_pool" gv_ ["script", "k"] f37 d37:=⟨F37,fV F37 (fun _ _ _ _ _ _ _ _=>rfl),F37.kp,PySem.W.mg_of X G a37⟩
  obtain ⟨f38,d38,a38,F38⟩:=iZ (hd 38 (by decide))
  have x__law_take:Fx K mg "_law_take" dq_ ["pool", "many"] f38 d38:=⟨F38,fV F38 (fun _ _ _ _ _ _ _ _=>rfl),F38.kp,PySem.W.mg_of X G a38⟩
  obtain ⟨f39,d39,a39,F39⟩:=iZ (hd 39 (by decide))
  have x__law_rounded:Fx K mg "_law_rounded" cr_ ["number", "m"] f39 d39:=⟨F39,fV F39 (fun _ _ _ _ _ _ _ _=>rfl),F39.kp,PySem.W.mg_of X G a39⟩
  obtain ⟨f40,d40,a40,F40⟩:=iZ (hd 40 (by decide))
  have x__law_room:Fx K mg "_law_room" cd_ ["kind"] f40 d40:=⟨F40,hU F40 (fun _ _ _ _ _ _ _=>rfl),F40.kp,PySem.W.mg_of X G a40⟩
  obtain ⟨f41,d41,a41,F41⟩:=iZ (hd 41 (by decide))
  have x__law_names:Fx K mg "_law_names" dw_ ["pool", "many"] f41 d41:=⟨F41,fV F41 (fun _ _ _ _ _ _ _ _=>rfl),F41.kp,PySem.W.mg_of X G a41⟩
  obtain ⟨f42,d42,a42,F42⟩:=iZ (hd 42 (by decide))
  have x__law_kind:Fx K mg "_law_kind" dr_ ["pool", "deep", "most"] f42 d42:=⟨F42,kH F42 (fun _ _ _ _ _ _ _ _ _=>rfl),F42.kp,PySem.W.mg_of X G a42⟩
  obtain ⟨f44,d44,a44,F44⟩:=iZ (hd 44 (by decide))
  have x__law_same:Fx K mg "_law_same" cy_ ["one", "other"] f44 d44:=⟨F44,fV F44 (fun _ _ _ _ _ _ _ _=>rfl),F44.kp,PySem.W.mg_of X G a44⟩
  obtain ⟨f45,d45,a45,F45⟩:=iZ (hd 45 (by decide))
  have x__law_top:Fx K mg "_law_top" gc_ ["width"] f45 d45:=⟨F45,hU F45 (fun _ _ _ _ _ _ _=>rfl),F45.kp,PySem.W.mg_of X G a45⟩
  obtain ⟨f46,d46,a46,F46⟩:=iZ (hd 46 (by decide))
  have x__law_value:Fx K mg "_law_value" du_ ["pool", "kind"] f46 d46:=⟨F46,fV F46 (fun _ _ _ _ _ _ _ _=>rfl),F46.kp,PySem.W.mg_of X G a46⟩
  obtain ⟨f47,d47,a47,F47⟩:=iZ (hd 47 (by decide))
  have x__law_filled:Fx K mg "_law_filled" fe_ ["row", "room"] f47 d47:=⟨F47,fV F47 (fun _ _ _ _ _ _ _ _=>rfl),F47.kp,PySem.W.mg_of X G a47⟩
  obtain ⟨f48,d48,a48,F48⟩:=iZ (hd 48 (by decide))
  have x__law_row_right:Fx K mg "_law_row_right" dv_ ["kind", "values"] f48 d48:=⟨F48,fV F48 (fun _ _ _ _ _ _ _ _=>rfl),F48.kp,PySem.W.mg_of X G a48⟩
  obtain ⟨f49,d49,a49,F49⟩:=iZ (hd 49 (by decide))
  have x__law_record_right:Fx K mg "_law_record_right" cf_ ["kinds", "values"] f49 d49:=⟨F49,fV F49 (fun _ _ _ _ _ _ _ _=>rfl),F49.kp,PySem.W.mg_of X G a49⟩
  obtain ⟨f50,d50,a50,F50⟩:=iZ (hd 50 (by decide))
  have x__law_choice_right:Fx K mg "_law_choice_right" cs_ ["kinds", "k", "value"] f50 d50:=⟨F50,kH F50 (fun _ _ _ _ _ _ _ _ _=>rfl),F50.kp,PySem.W.mg_of X G a50⟩
  obtain ⟨f51,d51,a51,F51⟩:=iZ (hd 51 (by decide))
  have x__law_refused:Fx K mg "_law_refused" eq_ ["kind", "thing"] f51 d51:=⟨F51,fV F51 (fun _ _ _ _ _ _ _ _=>rfl),F51.kp,PySem.W.mg_of X G a51⟩
  obtain ⟨f52,d52,a52,F52⟩:=iZ (hd 52 (by decide))
  have x__law_number_right:Fx K mg "_law_number_right" cg_ ["pool"] f52 d52:=⟨F52,hU F52 (fun _ _ _ _ _ _ _=>rfl),F52.kp,PySem.W.mg_of X G a52⟩
  obtain ⟨f53,d53,a53,F53⟩:=iZ (hd 53 (by decide))
  have x_law:Fx K mg "law" hg_ ["script"] f53 d53:=⟨F53,hU F53 (fun _ _ _ _ _ _ _=>rfl),F53.kp,PySem.W.mg_of X G a53⟩
  have m_isinstance:mg "isinstance" = none:=PySem.W.mg_none_of X G (i8 hn 0 (by decide) (by rfl))
  have m_int:mg "int" = none:=PySem.W.mg_none_of X G (i8 hn 1 (by decide) (by rfl))
  have m_bool:mg "bool" = none:=PySem.W.mg_none_of X G (i8 hn 2 (by decide) (by rfl))
  have m_list:mg "list" = none:=PySem.W.mg_none_of X G (i8 hn 3 (by decide) (by rfl))
  have m_len:mg "len" = none:=PySem.W.mg_none_of X G (i8 hn 4 (by decide) (by rfl))
  have m_str:mg "str" = none:=PySem.W.mg_none_of X G (i8 hn 5 (by decide) (by rfl))
  have m_tuple:mg "tuple" = none:=PySem.W.mg_none_of X G (i8 hn 6 (by decide) (by rfl))
  have m_all:mg "all" = none:=PySem.W.mg_none_of X G (i8 hn 7 (by decide) (by rfl))
  have m_dict:mg "dict" = none:=PySem.W.mg_none_of X G (i8 hn 8 (by decide) (by rfl))
  have m_max:mg "max" = none:=PySem.W.mg_none_of X G (i8 hn 9 (by decide) (by rfl))
  have m_min:mg "min" = none:=PySem.W.mg_none_of X G (i8 hn 10 (by decide) (by rfl))
  have m_range:mg "range" = none:=PySem.W.mg_none_of X G (i8 hn 11 (by decide) (by rfl))
  have m_zip:mg "zip" = none:=PySem.W.mg_none_of X G (i8 hn 12 (by decide) (by rfl))
  have m_enumerate:mg "enumerate" = none:=PySem.W.mg_none_of X G (i8 hn 13 (by decide) (by rfl))
  have m_reversed:mg "reversed" = none:=PySem.W.mg_none_of X G (i8 hn 16 (by decide) (by rfl))
  obtain ⟨_,c_HOW_MANY_BYTES,r_HOW_MANY_BYTES⟩:=rW (x:=.int 256) (hc 19 (by decide))
  obtain ⟨_,rfl⟩:=r_HOW_MANY_BYTES
  obtain ⟨_,c_BITS_OF_A_BYTE,r_BITS_OF_A_BYTE⟩:=rW (x:=.int 8) (hc 20 (by decide))
  obtain ⟨_,rfl⟩:=r_BITS_OF_A_BYTE
  have hx:aPs K ["NoValue"]=[(true,[(some true,true)],some true,some false)]:=congrArg (fun x=>x.2.2.2.2) hK
  rw [aJu] at hx
  simp only [aP,bM,List.cons.injEq,and_true] at hx
  have hx_NoValue:=hx
  obtain ⟨C_NoValue,cls_NoValue,l_NoValue,v_NoValue,n_NoValue⟩:=aQy hx_NoValue X G
  have x_vconsts:VConsts mg:=⟨⟨_,PySem.W.mg_of X G c_HOW_MANY_BYTES⟩,⟨_,PySem.W.mg_of X G c_BITS_OF_A_BYTE⟩⟩
  have e:=hfa.symm.trans x_law.m
  cases e
  refine ⟨d53,fun s v=>aCu x_law.F s v,fun base hbK _ => ?_⟩
  exact have RX:=(⟨x_rounded_up,x_room_of,x_rooms_of,x_greatest_multiple,x_step_of,x_room_of_row,x_room_of_record,x_places_behind,x_room_of_choice,x_chosen_at,m_max,m_zip⟩ : RoomX K mg _ _ _ _ _ _ _ _ _ _ _ _ _ _ _ _ _ _ _ _)
    have IX:=(⟨x_is_value,x_is_whole,x_is_row_value,x_is_record_value,x_is_choice_value,m_isinstance,m_int,m_bool,m_list,m_tuple,m_dict,m_str,m_len,m_all,x_vconsts.bits⟩ : IvX K mg _ _ _ _ _ _ _ _ _ _)
    have GLB:=x_laid_bytes.cal (P:=l.prog) (w:=w) (base:=base) (u9 RX x_places_in_order x_number_bytes x_lay x_laid_bytes x_vconsts.many m_range m_enumerate 5)
    have GIG:=x_is_value.cal (P:=l.prog) (w:=w) (base:=base) (w9 IX 5)
    have GBY:=x_bytes_of.cal (aJq x_bytes_of.F GIG GLB (by decide))
    have GIW:=x_is_whole.cal (P:=l.prog) (w:=w) (base:=base) (aPk x_is_whole.F m_isinstance m_int m_bool)
    have GAB:=x_are_bytes.cal (aPr x_are_bytes.F (x_is_byte.cal (aPm x_is_byte.F GIW x_vconsts.many)) m_isinstance m_list m_len m_all)
    have GRO:=x_room_of.cal (P:=l.prog) (w:=w) (base:=base) (gw_ RX 5)
    have GVT:=x_value_at.cal (P:=l.prog) (w:=w) (base:=base) (m8 RX x_places_in_order x_value_at x_number_at x_record_at x_choice_at x_vconsts.many m_range m_reversed m_len 5)
    have GVO:=x_value_of.cal (aOq x_value_of.F GAB GRO GVT GLB (by decide) (by decide) (by decide))
    have GTK:=x__law_take.cal (P:=l.prog) (w:=w) (base:=base) (pF x__law_take.F)
    have GSB:=x__law_same.cal (P:=l.prog) (w:=w) (base:=base) (p8 x__law_same m_isinstance m_list m_tuple m_dict m_bool m_str m_len m_zip 6)
    have GBE:=x_bytes_of.calE (aPq x_bytes_of.F GIG GLB (by decide) (cls_NoValue.own hbK))
    have GRF:=x__law_refused.cal (aOx x__law_refused.F (cls_NoValue.own hbK) (cls_NoValue.und hbK) GBE (GIG.mono (by decide)))
    have GRU:=x_rounded_up.cal (P:=l.prog) (w:=w) (base:=base) (pG x_rounded_up.F)
    have GPO:=x_places_in_order.cal (P:=l.prog) (w:=w) (base:=base) (uJ RX x_places_in_order 5)
    have GLF:=x__law_filled.cal (P:=l.prog) (w:=w) (base:=base) (aPi x__law_filled.F m_len)
    have GTP:=x__law_top.cal (P:=l.prog) (w:=w) (base:=base) (aFo x__law_top.F m_range)
    have GRW:=x__law_row_right.cal (aOt (L:=28) x__law_row_right.F (GRO.mono (by decide)) GRU GLF (GBY.mono (by decide)) (GVO.mono (by decide)) (GSB.mono (by decide)) m_len (by decide))
    have GRC:=x__law_record_right.cal (aJk (L:=28) x__law_record_right.F (GRO.mono (by decide)) (GPO.mono (by decide)) GLF (GBY.mono (by decide)) (GVO.mono (by decide)) (GSB.mono (by decide)) m_enumerate m_zip (by decide))
    have GCC:=x__law_choice_right.cal (aPp (L:=28) x__law_choice_right.F (GRO.mono (by decide)) GRU GLF (GBY.mono (by decide)) (GVO.mono (by decide)) (GSB.mono (by decide)) (by decide))
    have GNR:=x__law_number_right.cal (aPc (L:=28) x__law_number_right.F GTK GTP (GBY.mono (by decide)) (GVO.mono (by decide)) (GRF.mono (by decide)) m_range (by decide))
    aGc ((aJm (L:=29) x_law.F (x__law_pool.cal (aPb x__law_pool.F m_len)) GTK ((x__law_kind.cal (u7 x__law_kind x__law_take x__law_names x__law_room x__law_rounded m_max m_range m_len m_int 5)).mono (by decide)) ((x__law_value.cal (m9 x__law_value x__law_take x__law_top m_range m_len 5)).mono (by decide)) GRW GRC GCC (GRF.mono (by decide)) GNR m_max m_min m_range m_len (by decide)))
def lawRec:DefRec:=match hg_ with
  | .FunctionDef n a b _ _ _ sc _ _ pos=>⟨n,a,b,sc,pos⟩
  | _=>⟨⟨#[]⟩,⟨[],[],none,[],[],none,[]⟩,[],aQ hg_,⟨0,0,0,0⟩⟩
end Lf
open PySem PySem.W PyProof.Rows
set_option maxHeartbeats 0 in
theorem PySem.Challenge.cw_laidfields_k23_whole_bytes_of_parts_holds : PySem.Challenge.rw_laidfields_k23_whole_bytes_of_parts.Holds := by
  w_on; o_law
  refine holds_open (d := Lf.lawRec) (kwd := []) (XP := XL (PySem.W.view PySem.Challenge.pw_laidfields_k23_whole_bytes_of_parts [1, 2, 3, 5, 6, 7, 8, 9, 10, 11, 12, 13, 14, 15, 17, 19, 20, 21, 22, 23, 24, 25, 26, 27, 28, 29, 30, 31, 32, 33, 34, 35, 37, 38, 39, 40, 41, 42, 43, 44, 45, 46, 47, 48, 49, 50, 51, 52, 53]) []) Lf.left_top (Hook.of (L2.exHook (Lf.seenF PySem.Challenge.pw_laidfields_k23_whole_bytes_of_parts) (Lf.seenV PySem.Challenge.pw_laidfields_k23_whole_bytes_of_parts))) (Hook.keeps (L2.exHook (Lf.seenF PySem.Challenge.pw_laidfields_k23_whole_bytes_of_parts) (Lf.seenV PySem.Challenge.pw_laidfields_k23_whole_bytes_of_parts))) (fun s e => xl_of s (gH.mp e).1) XL.keeps (by kernel_rfl) (by kernel_rfl) (by kernel_rfl) (fun s e => recFacts_of (gH.mp e).2) (by rfl) (by assumption) (by decide +kernel) ⟨rfl, rfl, rfl, rfl, rfl, by decide +kernel⟩ ?hw ?hc
  case hw=>w_witness2
  case hc=>exact L2.walk_ex (l:=PySem.Challenge.rw_laidfields_k23_whole_bytes_of_parts) (n:=63) (k:=30) (x := "script") (CX:=L2.CX0) (sp:=Lf.spLaw) rfl (by decide) (by rfl) ⟨rfl,by decide,by decide⟩ (fun w K mg fa h hK X G hfa=>Lf.all_mk hK X G hfa) (fun K H a ns hl _ hS=>⟨a,ns,rfl,hS,hl,fun _=>rfl⟩) (fun _ _ _ _ z=>z)
#print axioms PySem.Challenge.cw_laidfields_k23_whole_bytes_of_parts_holds
