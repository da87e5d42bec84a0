import PyProof.Rows.All
import Wide.All
import OpenK.AllK
import Wide.FinOn
import PyProof.EqAt
import PyProof.EqKinds
import PyProof.NeKinds
import PyProof.TupleCall
import PyProof.StrWalks
import PyProof.ConsumeWalk
import PyProof.EnumMake
import PyProof.EnumFor
import PyProof.ListNew
import PyProof.ListRange
import PyProof.Rows.SortWalk
import PyProof.Rows.Range3
import PyProof.Rows.ChunkEnd
import PyProof.Rows.ChunkLeaf
import PyProof.Rows.StrInSeq
import Wide.Txt
import PyProof.DictIter
import PyProof.DictWalks
import PyProof.AttrMissHeap
import KE.KDictOf
import KE.KSortTup
import KE.KDictList
import KE.KRevIter
import PyProof.Rows.Own
import PyProof.ExcBaseAll.ValueError
import PyProof.RulesAs
import PyProof.NsDelKeeps
import PyProof.ExcClass3
import PyProof.ExcArgsOwn
import KE.KIsAll
import KE.IntBitsLaws
import PyProof.Rows.StrRev
import PyProof.PureStr
import PyProof.ToksMono
import PyProof.MeetsStr3
import PyProof.StrCalls6
import KE.KDictSum
import KE.KIntText
import KE.KEqDict
import PyProof.Rows.SortStr
import PyProof.Rows.SortShellK
import PyProof.Rows.StrKeys3
import Lean
import PySem.Challenge.RW_laidfields_k46_values_written_and_read
set_option Elab.async false
set_option linter.all false
set_option maxRecDepth 100000
set_option maxHeartbeats 16000000
abbrev FG_:=PySem.W.Frag
abbrev MG_:=PySem.Str→Option PySem.Value
abbrev PN_:=List (PySem.Addr×PySem.Obj)
abbrev SV_:=PySem.Value→PySem.Shared→Prop
namespace L2
open PySem PySem.Spec PyProof.Rows
abbrev Key:=Sum Int Str
def keyIs:Key→Value→Bool
 | .inl k,v=>Value.isInt k v
 | .inr x,v=>Value.isStrOf x v
def keyH (w:World):Key→Int
 | .inl k=>hashInt k
 | .inr x=>hashStr w x
theorem bq_:∀ {k:Key} {v:Value},keyIs k v=true→(∃ i t,k=Sum.inl i∧v=Value.int i t)∨(∃ x t,k=Sum.inr x∧v=Value.str x t)
 | .inl i,v,h=>by
  obtain ⟨t,e⟩:=Value.isInt_shape (k:=i) (v:=v) h
  exact .inl ⟨i,t,rfl,e⟩
 | .inr x,v,h=>by
  obtain ⟨t,e⟩:=Value.isStrOf_shape (x:=x) (v:=v) h
  exact .inr ⟨x,t,rfl,e⟩
theorem keyIs_int (i:Int) (t:Tok):keyIs (.inl i) (.int i t)=true:=by simp [keyIs,Value.isInt]
theorem keyIs_str (x:Str) (t:Tok):keyIs (.inr x) (.str x t)=true:=by simp [keyIs,Value.isStrOf]
theorem key_ll (a b:Int):decide ((Sum.inl a:Key)=Sum.inl b)=(a == b):=by
 by_cases e:a=b
 ·subst e; simp
 ·have h:¬ (Sum.inl a:Key)=Sum.inl b:=fun q=>e (Sum.inl.inj q)
  rw [decide_eq_false h]
  exact (beq_eq_false_iff_ne.mpr e).symm
theorem key_rr (a b:Str):decide ((Sum.inr a:Key)=Sum.inr b)=decide (a=b):=by
 by_cases e:a=b
 ·subst e; simp
 ·have h:¬ (Sum.inr a:Key)=Sum.inr b:=fun q=>e (Sum.inr.inj q)
  rw [decide_eq_false h,decide_eq_false e]
theorem key_lr (a:Int) (b:Str):decide ((Sum.inl a:Key)=Sum.inr b)=false:=decide_eq_false (fun q=>nomatch q)
theorem key_rl (a:Str) (b:Int):decide ((Sum.inr a:Key)=Sum.inl b)=false:=decide_eq_false (fun q=>nomatch q)
def mixKind (prog:Program) (w:World):PySem.KeyKind prog w Key where
 is:=keyIs
 hash:=keyH w
 inj:=fun v a b ha hb=>by
  rcases bq_ ha with ⟨i,t,rfl,rfl⟩ | ⟨x,t,rfl,rfl⟩
  ·rcases bq_ hb with ⟨j,u,rfl,e⟩ | ⟨y,u,rfl,e⟩
   ·injection e with e1 _; rw [e1]
   ·exact nomatch e
  ·rcases bq_ hb with ⟨j,u,rfl,e⟩ | ⟨y,u,rfl,e⟩
   ·exact nomatch e
   ·injection e with e1 _; rw [e1]
 byValue:=fun k v h=>by
  rcases bq_ h with ⟨i,t,rfl,rfl⟩ | ⟨x,t,rfl,rfl⟩ <;> rfl
 pyHash:=fun hv h=>by
  rcases bq_ hv with ⟨i,t,rfl,rfl⟩ | ⟨x,t,rfl,rfl⟩
  ·exact wpAny_pyHash_int h
  ·exact wpAny_pyHash_str h
 eqBool:=fun hu hv h=>by
  rcases bq_ hu with ⟨i,t,rfl,rfl⟩ | ⟨x,t,rfl,rfl⟩
  ·rcases bq_ hv with ⟨j,u,rfl,rfl⟩ | ⟨y,u,rfl,rfl⟩
   ·rw [key_ll] at h; exact wpAny_eqBool_int h
   ·rw [key_lr] at h; exact SeqAt.EqAt.int_str i t y u _ _ _ _ h
  ·rcases bq_ hv with ⟨j,u,rfl,rfl⟩ | ⟨y,u,rfl,rfl⟩
   ·rw [key_rl] at h; exact SeqAt.EqAt.str_int x t j u _ _ _ _ h
   ·rw [key_rr] at h; exact wpAny_eqBool_str h
 «strs» := fun k x t v h=>by
  rcases bq_ h with ⟨i,u,rfl,e⟩ | ⟨y,u,rfl,e⟩
  ·exact nomatch e
  ·injection e with e1 _
   subst e1
   cases v <;> rfl
theorem mixKind_int (prog:Program) (w:World) (i:Int) (t:Tok):(mixKind prog w).is (.inl i) (.int i t)=true:=keyIs_int i t
theorem mixKind_str (prog:Program) (w:World) (x:Str) (t:Tok):(mixKind prog w).is (.inr x) (.str x t)=true:=keyIs_str x t
inductive V where
 | non | bl (b:Bool) | int (i:Int) | str (x:Str) | byt (b:Array UInt8) | flt (b:UInt64) | ref (a:Addr) | ty (n:String)
 deriving DecidableEq
def RelV:V→Value→Prop
 | .non,u=>u=Value.none
 | .bl b,u=>u=Value.bool b
 | .int i,u => ∃ t,u=Value.int i t
 | .str x,u => ∃ t,u=Value.str x t
 | .byt b,u => ∃ t,u=Value.bytes b t
 | .flt b,u => ∃ t,u=Value.float b t
 | .ref a,u=>u=Value.ref a
 | .ty n,u=>u=Value.type n
abbrev Vals:List V→List Value→Prop:=Paired RelV
theorem Vals.length {xs:List V} {us:List Value} (r:Vals xs us):xs.length=us.length:=Paired.length r
theorem Vals.get:∀ {xs:List V} {us:List Value} {i:Nat} {x:V},Vals xs us→xs[i]? = some x→∃ u,us[i]? = some u∧RelV x u
 | _,_,_,_,.nil,e=>by simp at e
 | _,_,0,_,.cons r _,e=>by simp at e; subst e; exact ⟨_,rfl,r⟩
 | _,_,i + 1,x,.cons _ t,e=>by
  obtain ⟨u,h1,h2⟩:=Vals.get (i:=i) (x:=x) t (by simpa using e)
  exact ⟨u,by simpa using h1,h2⟩
theorem Vals.set {x:V} {u:Value} (r:RelV x u):∀ {xs:List V} {us:List Value} (i:Nat),Vals xs us→Vals (xs.set i x) (us.set i u)
 | _,_,_,.nil=>.nil
 | _,_,0,.cons _ t=>.cons r t
 | _,_,i + 1,.cons q t=>.cons q (Vals.set r i t)
theorem Vals.append:∀ {xs ys:List V} {us ws:List Value},Vals xs us→Vals ys ws→Vals (xs ++ ys) (us ++ ws)
 | _,_,_,_,.nil,s=>s
 | _,_,_,_,.cons r t,s=>.cons r (Vals.append t s)
theorem Vals.take:∀ {xs:List V} {us:List Value} (n:Nat),Vals xs us→Vals (xs.take n) (us.take n)
 | _,_,0,_=>.nil
 | _,_,_ + 1,.nil=>.nil
 | _,_,n + 1,.cons r t=>.cons r (Vals.take n t)
theorem Vals.drop:∀ {xs:List V} {us:List Value} (n:Nat),Vals xs us→Vals (xs.drop n) (us.drop n)
 | _,_,0,r=>r
 | _,_,_ + 1,.nil=>.nil
 | _,_,n + 1,.cons _ t=>Vals.drop n t
def RelO:Option V→Option Value→Prop
 | some v,some u=>RelV v u
 | none,none=>True
 | _,_=>False
def KV {κ:Type}:List (κ×V)→List (κ×Value)→Prop:=Paired fun (p:κ×V) (q:κ×Value)=>p.1=q.1∧RelV p.2 q.2
def kV:Key→V
 | .inl i=>.int i
 | .inr x=>.str x
inductive HO where
 /-- a list -/
 | lst (xs:List V)
 /-- a tuple (never changes) -/
 | tup (xs:List V)
 /-- a dict whose keys are ints and texts; one whose keys are tuples of ints and texts (the empty one is both) -/
 | dK (kvs:List (Key×V)) | dT (kvs:List (List Key×V))
 /-- a set of ints: its members,its size -/
 | set (S:Int→Bool) (n:Nat)
 /-- an instance of the class at C,its dict at dx,its attributes -/
 | ins (C dx:Addr) (fs:List (Str×V))
 /-- the dict of the instance at x -/
 | own (x:Addr)
 /-- the dict of an exception -/
 | xd (fs:List (Str×V))
 /-- a bound method,f of x -/
 | met (f x:Addr)
 /-- a range object lo,lo + 1,.. below hi -/
 | rng (lo hi:Int)
 /-- a thing that is known to the object (the script; a dict while a loop walks it): read,never written while it is so -/
 | frz (o:Obj) (u:HO)
 /-- a code object's table -/
 | tbl (ps:Array Value)
 /-- any other thing,by what is true of its one object (a def of one's own: SetO a S n:=HO.ext fun h=>..) -/
 | ext (φ:Heap→Prop)
abbrev Hp:=Addr→Option HO
def upd (H:Hp) (a:Addr) (o:HO):Hp:=fun b=>if b=a then some o else H b
theorem upd_same {H:Hp} {a:Addr} {o:HO}:upd H a o a=some o:=by unfold upd; rw [if_pos rfl]
theorem ag_ {H:Hp} {a b:Addr} {o:HO} (h:b≠a):upd H a o b=H b:=by unfold upd; rw [if_neg h]
theorem ne_of {H:Hp} {a b:Addr} {o u:HO} (h:H a=some o) (h':H b=some u) (d:o≠u):a≠b:=by
 intro e; subst e; rw [h] at h'; exact d (Option.some.inj h')
theorem bs_ {H:Hp} {a b:Addr} {o:HO} (h:H a=some o) (h':H b=none):a≠b:=by
 intro e; subst e; rw [h] at h'; cases h'
section
variable (P:Program) (w:World)
def ObjOk (H:Hp) (h:Heap) (a:Addr):HO→Prop
 | .lst xs=>xs.length≤sizeLine∧∃ (its:List Value) (n:Nat),Vals xs its∧h.get? a=some { cls:=.type "list",data:=.seq its.toArray n }
 | .tup xs=>xs.length≤sizeLine∧∃ its:List Value,Vals xs its∧IsTup h a its.toArray
 | .dK kvs=>kvs.length≤sizeLine∧(a == sysModules)=false∧∃ vs,KV kvs vs∧h.DictOf (mixKind P w) a vs
 | .dT kvs => kvs.length ≤ sizeLine ∧ (a == sysModules) = false ∧ ∃ xs : List (List Key × Addr × Value),
   Paired (fun (p:List Key×V) (q:List Key×Addr×Value)=>p.1=q.1∧H q.2.1=some (.tup (p.1.map kV))∧RelV p.2 q.2.2) kvs xs ∧
   ∃ o es ep,h.get? a=some o∧o.ExactDict∧o.data=.dict es ep∧es.toList=xs.map (entryOfKey (tupleKind (mixKind P w)))∧(xs.map (·.1)).Nodup
 | .set S n=>h.SetOf (intKind P w) a S n
 | .ins C dx fs => H dx = some (.own a) ∧ fs.length ≤ 1000 ∧ dx ≠ a ∧ h.get? a = some (PySem.W.instObj C dx) ∧
   ∃ mA,h.Ns1 dx mA∧(∀ f,RelO (fs.lookup f) (mA f))∧PySem.Within mA (fs.map (·.1))
 | .own _ => ∃ o,h.get? a=some o
 | .xd fs => ∃ mA,h.Ns1 a mA∧∀ f,RelO (fs.lookup f) (mA f)
 | .rng lo hi => ∃ t u v,h.get? a=some { cls:=.type "range",data:=.fields #[.int lo t,.int hi u,.int 1 v] }
 | .frz o u=>h.get? a=some o∧ObjOk H h a u
 | .tbl ps=>h.get? a=some { cls:=.none,data:=.fields ps }
 | .met f x=>h.get? a=some (PySem.W.methodObj (.ref f) (.ref x))
 | .ext φ=>φ h∧(∃ o,h.get? a=some o)∧∀ h1 h2:Heap,φ h1→(∀ o,h1.get? a=some o→h2.get? a=some o)→φ h2
def HOk (H:Hp) (h:Heap):Prop := ∀ a o,H a=some o→ObjOk P w H h a o
end
section
variable {P:Program} {w:World} {H H':Hp} {h h':Heap} {a:Addr} {o:HO}
theorem ObjOk.lt (x:ObjOk P w H h a o):a < h.objs.size:=by
 cases o with
 | lst xs=>obtain ⟨_,_,_,_,e⟩:=x; exact Heap.lt_size e
 | tup xs=>obtain ⟨_,_,_,p⟩:=x; exact p.lt
 | dK kvs=>obtain ⟨_,_,_,_,o,_,_,e,_⟩:=x; exact Heap.lt_size e
 | dT kvs=>obtain ⟨_,_,_,_,o,_,_,e,_⟩:=x; exact Heap.lt_size e
 | set S n=>obtain ⟨o,_,_,_,e,_⟩:=x; exact Heap.lt_size e
 | ins C dx fs=>obtain ⟨_,_,_,e,_⟩:=x; exact Heap.lt_size e
 | own y=>obtain ⟨_,e⟩:=x; exact Heap.lt_size e
 | xd fs=>obtain ⟨_,⟨_,_,_,e,_⟩,_⟩:=x; exact Heap.lt_size e
 | rng lo hi=>obtain ⟨_,_,_,e⟩:=x; exact Heap.lt_size e
 | frz ob u=>obtain ⟨e,_⟩:=x; exact Heap.lt_size e
 | tbl ps=>exact Heap.lt_size (show h.get? a=some _ from x)
 | met f y=>exact Heap.lt_size (show h.get? a=some _ from x)
 | ext φ=>obtain ⟨_,⟨_,e⟩,_⟩:=x; exact Heap.lt_size e
theorem Paired.mapP {α β:Type} {F G:α→β→Prop}:∀ {l₁:List α} {l₂:List β},Paired F l₁ l₂→(∀ a b,F a b→G a b)→Paired G l₁ l₂
 | _,_,.nil,_=>.nil
 | _,_,.cons r t,f=>.cons (f _ _ r) (Paired.mapP t f)
theorem ObjOk.stay (x:ObjOk P w H h a o) (k:∀ b u,(b=a∨H b=some (.own a))→h.get? b=some u→h'.get? b=some u)
  (ho:∀ b,H b=some (.own a)→H' b=some (.own a)) (ht:∀ b xs,H b=some (.tup xs)→H' b=some (.tup xs)):ObjOk P w H' h' a o:=by
 induction o with
 | lst xs=>obtain ⟨z,its,n,r,e⟩:=x; exact ⟨z,its,n,r,k _ _ (.inl rfl) e⟩
 | tup xs=>obtain ⟨z,its,r,ob,e,c⟩:=x; exact ⟨z,its,r,ob,k _ _ (.inl rfl) e,c⟩
 | dK kvs=>obtain ⟨z,y,vs,r,ob,es,ep,e,c⟩:=x; exact ⟨z,y,vs,r,ob,es,ep,k _ _ (.inl rfl) e,c⟩
 | dT kvs =>
  obtain ⟨z,y,xs,r,ob,es,ep,e,c⟩:=x
  exact ⟨z,y,xs,Paired.mapP r fun p q z=>⟨z.1,ht _ _ z.2.1,z.2.2⟩,ob,es,ep,k _ _ (.inl rfl) e,c⟩
 | set S n=>obtain ⟨ob,es,ep,t,e,c⟩:=x; exact ⟨ob,es,ep,t,k _ _ (.inl rfl) e,c⟩
 | ins C dx fs =>
  obtain ⟨d,z,ne,e,mA,⟨od,es,ep,e2,c⟩,r⟩:=x
  exact ⟨ho _ d,z,ne,k _ _ (.inl rfl) e,mA,⟨od,es,ep,k _ _ (.inr d) e2,c⟩,r⟩
 | own y=>obtain ⟨ob,e⟩:=x; exact ⟨ob,k _ _ (.inl rfl) e⟩
 | xd fs=>obtain ⟨mA,⟨od,es,ep,e,c⟩,r⟩:=x; exact ⟨mA,⟨od,es,ep,k _ _ (.inl rfl) e,c⟩,r⟩
 | rng lo hi=>obtain ⟨t,u,v,e⟩:=x; exact ⟨t,u,v,k _ _ (.inl rfl) e⟩
 | frz ob u ih=>obtain ⟨e,q⟩:=x; exact ⟨k _ _ (.inl rfl) e,ih q⟩
 | tbl ps =>
  have e:h.get? a=some { cls:=.none,data:=.fields ps }:=x
  show h'.get? a=some { cls:=.none,data:=.fields ps }
  exact k a _ (.inl rfl) e
 | met f y =>
  have e:h.get? a=some (PySem.W.methodObj (.ref f) (.ref y)):=x
  show h'.get? a=some (PySem.W.methodObj (.ref f) (.ref y))
  exact k a _ (.inl rfl) e
 | ext φ=>obtain ⟨p,⟨o,e⟩,st⟩:=x; exact ⟨st _ _ p fun o q=>k _ _ (.inl rfl) q,⟨o,k _ _ (.inl rfl) e⟩,st⟩
theorem HOk.lt (x:HOk P w H h) (e:H a=some o):a < h.objs.size:=(x a o e).lt
theorem HOk.fresh (x:HOk P w H h) (e:h.objs.size≤a):H a=none:=by
 cases q:H a with
 | none=>rfl
 | some u=>exact absurd (Nat.lt_of_lt_of_le (x.lt q) e) (Nat.lt_irrefl _)
theorem HOk.kept (x:HOk P w H h) (k:∀ b u,h.get? b=some u→h'.get? b=some u):HOk P w H h':=fun a o e =>
 (x a o e).stay (fun b u _ q=>k b u q) (fun _ q=>q) fun _ _ q=>q
theorem HOk.laid (x:HOk P w H h) (k:∀ b u,h.get? b=some u→h'.get? b=some u) (hp:h.objs.size≤a) (new:ObjOk P w (upd H a o) h' a o):HOk P w (upd H a o) h':=fun b u e=>by
 have hn:=x.fresh hp
 by_cases hb:b=a
 ·subst hb; rw [upd_same] at e; cases e; exact new
 ·rw [ag_ hb] at e
  exact (x b u e).stay (fun c v _ q=>k c v q) (fun c q=>by rw [ag_ (bs_ q hn)]; exact q) fun c xs q=>by rw [ag_ (bs_ q hn)]; exact q
end
def Rd (H:Hp) (a:Addr) (u:HO):Prop:=H a=some u∨∃ o,H a=some (.frz o u)
theorem Rd.ok {P:Program} {w:World} {H:Hp} {h:Heap} {a:Addr} {u:HO} (r:Rd H a u) (x:HOk P w H h):ObjOk P w H h a u:=by
 rcases r with r | ⟨o,r⟩
 ·exact x a u r
 ·obtain ⟨_,q⟩:=x a _ r
  exact q
def Mut:Option HO→Prop
 | some (.lst _)=>True
 | some (.dK _)=>True
 | some (.dT _)=>True
 | some (.set _ _)=>True
 | some (.ins _ _ _)=>True
 | some (.ext _)=>True
 | _=>False
section
variable {P:Program} {w:World} {H:Hp} {h h':Heap} {x e:Addr} {o':HO}
theorem HOk.write (ok:HOk P w H h) (mu:Mut (H x)) (he:e=x∨H e=some (.own x)) (k:∀ b u,b≠e→h.get? b=some u→h'.get? b=some u) (heo:∃ u,h'.get? e=some u)
  (new:ObjOk P w (upd H x o') h' x o'):HOk P w (upd H x o') h':=fun b u q=>by
 have nown:∀ c y,H c=some (.own y)→c≠x:=fun c y r z=>by subst z; rw [r] at mu; exact mu
 have ntup:∀ c xs,H c=some (.tup xs)→c≠x:=fun c xs r z=>by subst z; rw [r] at mu; exact mu
 by_cases hb:b=x
 ·subst hb; rw [upd_same] at q; cases q; exact new
 ·rw [ag_ hb] at q
  by_cases hbe:b=e
  ·have q':H b=some (.own x):=by
    rcases he with z | z
    ·exact absurd (hbe.trans z) hb
    ·rw [hbe]; exact z
   rw [q] at q'; cases q'
   obtain ⟨v,hv⟩:=heo
   exact ⟨v,by rw [hbe]; exact hv⟩
  ·refine (ok b u q).stay (fun c v hc r=>k c v ?_ r) (fun c r=>by rw [ag_ (nown c b r)]; exact r) fun c xs r=>by rw [ag_ (ntup c xs r)]; exact r
   rcases hc with rfl | hc
   ·exact hbe
   ·rintro rfl
    rcases he with z | z
    ·exact nown c b hc z
    ·rw [hc] at z; cases z; exact hb rfl
end
structure Un (fs ex:List Addr) (H H':Hp) (h h':Heap):Prop where
 keep:∀ b o,h.get? b=some o→H b=none→b∉fs→b∉ex→h'.get? b=some o
 slot:∀ b o,h.get? b=some o→H b=none→b∈fs→b∉ex→∃ sl,h'.get? b=some { o with slots:=sl }
 free:∀ b o,h.get? b=some o→H b=none→b∉ex→H' b=none
 there:∀ b o,h.get? b=some o→b∉ex→∃ o',h'.get? b=some o'
 tups:∀ b xs,H b=some (.tup xs)→H' b=some (.tup xs)
 frzs:∀ b o u,H b=some (.frz o u)→H' b=some (.frz o u)
 tbls:∀ b ps,H b=some (.tbl ps)→∃ more,H' b=some (.tbl (ps ++ more))
section
variable {fs fs' ex ex':List Addr} {H H1 H2:Hp} {h h1 h2 h':Heap} {a x e:Addr} {o:HO}
theorem Un.any (u:Un fs ex H H1 h h1) {b:Addr} {ob:Obj} (q:h.get? b=some ob) (n:H b=none) (hx:b∉ex):∃ sl,h1.get? b=some { ob with slots:=sl }:=by
 by_cases hb:b∈fs
 ·exact u.slot b ob q n hb hx
 ·exact ⟨ob.slots,u.keep b ob q n hb hx⟩
theorem Un.kept (k:∀ b u,h.get? b=some u→h'.get? b=some u):Un fs ex H H h h' :=
 ⟨fun b ob q _ _ _=>k b ob q,fun b ob q _ _ _=>⟨ob.slots,k b ob q⟩,fun _ _ _ n _=>n,fun b ob q _=>⟨ob,k b ob q⟩,fun _ _ q=>q,fun _ _ _ q=>q,fun _ ps q=>⟨#[],by rw [q]; simp⟩⟩
theorem Un.refl:Un fs ex H H h h:=Un.kept fun _ _ q=>q
theorem Un.laid (k:∀ b u,h.get? b=some u→h'.get? b=some u) (hp:h.objs.size≤a) (hn:H a=none):Un fs ex H (upd H a o) h h' where
 keep:=fun b u q _ _ _=>k b u q
 slot:=fun b u q _ _ _=>⟨u.slots,k b u q⟩
 free:=fun b u q n _=>by rw [ag_ (Nat.ne_of_lt (Nat.lt_of_lt_of_le (Heap.lt_size q) hp))]; exact n
 there:=fun b u q _=>⟨u,k b u q⟩
 tups:=fun b xs q=>by rw [ag_ (bs_ q hn)]; exact q
 frzs:=fun b u xs q=>by rw [ag_ (bs_ q hn)]; exact q
 tbls:=fun b ps q=>⟨#[],by rw [ag_ (bs_ q hn),q]; simp⟩
theorem Un.write (mu:Mut (H x)) (he:e=x∨H e=some (.own x)) (k:∀ b u,b≠e→h.get? b=some u→h'.get? b=some u) (heo:∃ u,h'.get? e=some u):Un fs ex H (upd H x o) h h':=by
 have hx:∀ b,H b=none→b≠x:=fun b n z=>by subst z; rw [n] at mu; exact mu
 have hb:∀ b,H b=none→b≠e:=fun b n z=>by
  subst z
  rcases he with r | r
  ·exact hx b n r
  ·rw [n] at r; cases r
 have hm:∀ b u,H b=some u→¬ Mut (some u)→b≠x:=fun b u q nm z=>by subst z; rw [q] at mu; exact nm mu
 refine ⟨fun b u q n _ _=>k b u (hb b n) q,fun b u q n _ _=>⟨u.slots,k b u (hb b n) q⟩,fun b u q n _=>by rw [ag_ (hx b n)]; exact n,fun b u q _ => ?_,
  fun b xs q=>by rw [ag_ (hm b _ q fun z=>z)]; exact q,fun b u xs q=>by rw [ag_ (hm b _ q fun z=>z)]; exact q,fun b ps q=>⟨#[],by rw [ag_ (hm b _ q fun z=>z),q]; simp⟩⟩
 by_cases hbe:b=e
 ·subst hbe; exact heo
 ·exact ⟨u,k b u hbe q⟩
end
def trk (h:Heap) (H:Hp):List Addr:=(List.range h.objs.size).filter fun a=>(H a).isSome
def hidT (h:Heap) (H:Hp):Heap:=PySem.W.hideAll h (trk h H)
theorem hidT_size (h:Heap) (H:Hp):(hidT h H).objs.size=h.objs.size:=PySem.W.hideAll_size _ _
theorem hidT_get {h:Heap} {H:Hp} {b:Addr} {o:Obj} (e:h.get? b=some o) (n:H b=none):(hidT h H).get? b=some o :=
 PySem.W.hideAll_get _ e fun hm=>by
  have q:(H b).isSome=true:=(List.mem_filter.mp hm).2
  rw [n] at q; simp at q
theorem of_hidT {h:Heap} {H:Hp} {b:Addr} {o:Obj} (e:(hidT h H).get? b=some o):h.get? b=some o∧H b=none:=by
 have e':h.get? b=some o:=PySem.W.of_hideAll (trk h H) e
 refine ⟨e',?_⟩
 cases q:H b with
 | none=>rfl
 | some x =>
  have hm:b∈trk h H:=List.mem_filter.mpr ⟨List.mem_range.mpr (Heap.lt_size e'),by simp [q]⟩
  have z:(hidT h H).get? b=none:=PySem.W.hideAll_none (trk h H) hm
  rw [z] at e; cases e
def allNews (g h:Heap) (L:Addr):List (Addr×Obj):=(List.range h.objs.size).filterMap fun a=>if a=L∨(g.get? a).isSome=true then none else (h.get? a).map fun o=>(a,o)
def rest (g h:Heap) (L d:Addr):List (Addr×Obj):=(allNews g h L).filter fun p=>decide (p.1≠d)
structure Mod (K:FG_) (mg:MG_) (base:Heap):Prop where
 kin:K.In base
 glob:base.Ns mainGlobals mg
 blt:∃ mb,base.Ns builtinsNs mb∧∀ x:Str,x ≠ "__name__" → mb x=bootBuiltins x
 nolimit:base.NoLimit
structure Cx where
 prog:Program
 w:World
 K:PySem.W.Frag
 mg:Str→Option Value
 base:Heap
 A:Around
 N:List Str
 s₀:Shared
 H₀:Hp
 env:Env
 outer:List Env
 stack:List Env
 ex:List Addr
 fn:Str→Bool
 calm:Bool
 pn:List (Addr×Obj)
 xe:Value→Shared→Prop
def frs (l:List Env):List Addr:=l.filterMap (·.frame)
abbrev Cx.fs (X:Cx):List Addr:=frs X.outer
def Vis (sc:Scope) (x:Str):Prop:=sc.names.lookup x=some .local∨sc.names.lookup x=some .cell∨sc.names.lookup x=some .free
def Loc (sc:Scope) (x:Str):Prop:=sc.names.lookup x=some .local∨sc.names.lookup x=some .cell
def Look (env:Env) (h:Heap) (m:MG_) (x:Str) (u:Value):Prop :=
 (env.kindOf x=some .local∧m x=some u)∨((env.kindOf x=some .cell∨env.kindOf x=some .free)∧∃ c,env.cells.lookup x=some c∧h.IsCell c (some u))
structure Cx.Ok (X:Cx):Prop where
 mod:Mod X.K X.mg X.base
 kind:X.env.scope.kind=.function
 glob:X.env.globals=mainGlobals
 blt:X.env.builtins=builtinsNs
 above:X.s₀.heap.objs.size≤X.env.locals
 inj:∀ x y c,X.env.cells.lookup x=some c→X.env.cells.lookup y=some c→x=y
 has:∀ x,(X.env.kindOf x=some .cell∨X.env.kindOf x=some .free)→∃ c,X.env.cells.lookup x=some c
 cab:∀ x c,X.fn x=true→X.env.cells.lookup x=some c→X.s₀.heap.objs.size≤c
 hd:X.calm=true→X.A.handled=none
 frames:X.A.frames=some X.stack
 stk:X.stack=X.outer∨(X.stack=X.env :: X.outer∧X.env.frame=some X.env.locals)
 exf:∀ b∈X.ex,b≠X.env.locals∧∀ x c,X.env.cells.lookup x=some c→c≠b
 bs:∀ b o,X.base.get? b=some o→X.s₀.heap.get? b=some o∧X.H₀ b=none
 bsz:X.base.objs.size≤X.s₀.heap.objs.size
 noex:∀ b o,X.base.get? b=some o→b∉X.ex
 exfs:∀ b∈X.ex,b∉X.fs
 funs:X.s₀.heap.FunFrames X.base X.outer
 frf:∀ b∈X.fs,X.H₀ b=none
structure Inv (X:Cx) (pins:PN_) (σ:List (Option V)) (H:Hp) (s:Shared):Prop where
 ok:X.Ok
 os:s.os=X.s₀.os
 bare:AllBare s.gens
 base:Un X.fs X.ex X.H₀ H X.s₀.heap s.heap
 loc:∃ m,s.heap.Ns X.env.locals m∧∀ (i:Nat) (x:Str) (v:V),X.N[i]? = some x→σ[i]? = some (some v)→Vis X.env.scope x→∃ u,RelV v u∧Look X.env s.heap m x u
 cell:∀ x c,X.env.cells.lookup x=some c→∃ v,s.heap.IsCell c v
 free:H X.env.locals=none
 freeC:∀ x c,X.env.cells.lookup x=some c→H c=none
 pin:∀ p∈X.pn ++ pins,s.heap.get? p.1=some p.2∧H p.1=none∧p.1≠X.env.locals∧p.1∉X.fs∧∀ v,p.2.data ≠ .cell v
 hok:HOk X.prog X.w H s.heap
 len:σ.length=X.N.length
section
variable {X:Cx} {pins:PN_} {σ:List (Option V)} {H H':Hp} {s:Shared} {h':Heap}
theorem Cx.Ok.nofr (ok:X.Ok) {b:Addr} {o:Obj} (e:X.base.get? b=some o):b∉X.fs:=fun hb=>by
 have:=(ok.funs.mem hb).1
 rw [e] at this; cases this
theorem Inv.bs (I:Inv X pins σ H s):∀ b o,X.base.get? b=some o→s.heap.get? b=some o∧H b=none:=fun b o e =>
 ⟨I.base.keep b o (I.ok.bs b o e).1 (I.ok.bs b o e).2 (I.ok.nofr e) (I.ok.noex b o e),I.base.free b o (I.ok.bs b o e).1 (I.ok.bs b o e).2 (I.ok.noex b o e)⟩
theorem Inv.bk (I:Inv X pins σ H s):∀ b o,X.base.get? b=some o→s.heap.get? b=some o:=fun b o e=>(I.bs b o e).1
theorem Inv.mod (I:Inv X pins σ H s):Mod X.K X.mg X.base:=I.ok.mod
theorem Inv.kIn (I:Inv X pins σ H s):X.K.In s.heap:=I.ok.mod.kin.keeps I.bk
theorem Inv.fr (I:Inv X pins σ H s):∃ m,Fr X.base X.env.locals s.heap m :=
 let ⟨m,hn,_⟩:=I.loc
 ⟨m,hn,I.bk,Nat.le_trans I.ok.bsz I.ok.above⟩
theorem Inv.lt (I:Inv X pins σ H s):X.env.locals < s.heap.objs.size:=let ⟨_,hn,_⟩:=I.loc; hn.lt
theorem Inv.sz (I:Inv X pins σ H s):X.s₀.heap.objs.size≤s.heap.objs.size:=Nat.le_trans I.ok.above (Nat.le_of_lt I.lt)
theorem Inv.nofs (I:Inv X pins σ H s) {a:Addr} (h:s.heap.objs.size≤a):a∉X.fs:=fun hb=>by
 obtain ⟨_,o,ho,_⟩:=I.ok.funs.mem hb
 exact absurd (Nat.lt_of_lt_of_le (Heap.lt_size ho) (Nat.le_trans I.sz h)) (Nat.lt_irrefl _)
theorem Inv.cne (I:Inv X pins σ H s):∀ x c,X.env.cells.lookup x=some c→c≠X.env.locals:=fun x c e z=>by
 obtain ⟨v,o,ho,hd⟩:=I.cell x c e
 obtain ⟨m,⟨o',es,ep,ho',hd',_⟩,_⟩:=I.loc
 rw [z,ho'] at ho; cases ho; rw [hd'] at hd; cases hd
theorem Inv.funs (I:Inv X pins σ H s):s.heap.FunFrames X.base X.outer:=by
 have all:∀ (l:List Env),(∀ b∈frs l,b∈X.fs)→X.s₀.heap.FunFrames X.base l→s.heap.FunFrames X.base l:=by
  intro l
  induction l with
  | nil=>intro _ _; trivial
  | cons env r ih =>
   intro hs hl
   obtain ⟨hk,⟨L,o,hf,hn,ho,hd⟩,hr⟩:=hl
   have hL:L∈X.fs:=hs L (by unfold frs; rw [List.filterMap_cons,hf]; exact List.mem_cons_self)
   obtain ⟨sl,e⟩:=I.base.slot L o ho (I.ok.frf L hL) hL fun z=>I.ok.exfs L z hL
   exact ⟨hk,⟨L,_,hf,hn,e,hd⟩,ih (fun b hb=>hs b (by unfold frs; rw [List.filterMap_cons,hf]; exact List.mem_cons_of_mem _ hb)) hr⟩
 exact all X.outer (fun _ hb=>hb) I.ok.funs
theorem Inv.stack (I:Inv X pins σ H s):s.heap.FunFrames X.base X.stack:=by
 rcases I.ok.stk with e | ⟨e,hf⟩
 ·rw [e]; exact I.funs
 ·rw [e]
  obtain ⟨m,hn,_⟩:=I.loc
  refine .cons (by rw [I.ok.kind]; decide) hf hn ?_ I.funs
  exact Heap.get?_none_of_le (Nat.le_trans I.ok.bsz I.ok.above)
theorem Inv.stkSub (I:Inv X pins σ H s):∀ b∈frs X.stack,b∈X.env.locals :: X.fs:=fun b hb=>by
 rcases I.ok.stk with e | ⟨e,hf⟩
 ·rw [e] at hb; exact List.mem_cons_of_mem _ hb
 ·rw [e] at hb
  unfold frs at hb
  rw [List.filterMap_cons,hf] at hb
  exact hb
theorem Inv.stkFree (I:Inv X pins σ H s):∀ b∈frs X.stack,H b=none:=fun b hb=>by
 rcases List.mem_cons.mp (I.stkSub b hb) with e | hb
 ·rw [e]; exact I.free
 ·obtain ⟨_,o,ho,_⟩:=I.ok.funs.mem hb
  exact I.base.free b o ho (I.ok.frf b hb) fun z=>I.ok.exfs b z hb
theorem Inv.step {g':Array GenState} {t':Nat} {d':Drawn} {ch:List Addr} (I:Inv X pins σ H s)
  (hch:∀ b∈ch,(b∈X.ex∨X.s₀.heap.objs.size≤b)∧b≠X.env.locals∧(∀ x c,X.env.cells.lookup x=some c→c≠b)∧∀ p∈X.pn ++ pins,p.1≠b)
  (keep:∀ b o,b≠X.env.locals→b∉X.fs→b∉ch→s.heap.get? b=some o→H b=none→h'.get? b=some o)
  (slot:∀ b o,b≠X.env.locals→b∈X.fs→b∉ch→s.heap.get? b=some o→H b=none→∃ sl,h'.get? b=some { o with slots:=sl }) (free:∀ b o,b∉ch→s.heap.get? b=some o→H b=none→H' b=none)
  (there:∀ b o,b∉ch→s.heap.get? b=some o→∃ o',h'.get? b=some o')
  (tups:∀ b xs,H b=some (.tup xs)→H' b=some (.tup xs)) (frzs:∀ b o u,H b=some (.frz o u)→H' b=some (.frz o u)) (tbls:∀ b ps,H b=some (.tbl ps)→∃ more,H' b=some (.tbl (ps ++ more)))
  (ns:∀ m,s.heap.Ns X.env.locals m→h'.Ns X.env.locals m) (hok:HOk X.prog X.w H' h') (hg:AllBare g') :
  Inv X pins σ H' { s with heap:=h',gens:=g',drawn:=d',toks:=t' }:=by
 have neL:∀ b o,X.s₀.heap.get? b=some o→b≠X.env.locals:=fun b o e=>Nat.ne_of_lt (Nat.lt_of_lt_of_le (Heap.lt_size e) I.ok.above)
 have neC:∀ b o,X.s₀.heap.get? b=some o→b∉X.ex→b∉ch:=fun b o e hx hb=>by
  rcases (hch b hb).1 with z | z
  ·exact hx z
  ·exact absurd (Nat.lt_of_lt_of_le (Heap.lt_size e) z) (Nat.lt_irrefl _)
 have cellK:∀ x c,X.env.cells.lookup x=some c→∀ v,s.heap.IsCell c v→h'.IsCell c v:=fun x c e v ⟨o,ho,hd⟩=>by
  have nch:c∉ch:=fun z=>(hch c z).2.2.1 x c e rfl
  by_cases hc:c∈X.fs
  ·obtain ⟨sl,q⟩:=slot c o (I.cne x c e) hc nch ho (I.freeC x c e)
   exact ⟨_,q,hd⟩
  ·exact ⟨o,keep c o (I.cne x c e) hc nch ho (I.freeC x c e),hd⟩
 refine ⟨I.ok,I.os,hg,⟨fun b o e n hb hx => ?_,fun b o e n hb hx => ?_,fun b o e n hx => ?_,fun b o e hx => ?_,fun b xs e=>tups b xs (I.base.tups b xs e),fun b o xs e=>frzs b o xs (I.base.frzs b o xs e),fun b ps e => ?_⟩,?_,fun x c e => ?_,?_,fun x c e => ?_,fun p hp => ?_,hok,I.len⟩
 ·exact keep b o (neL b o e) hb (neC b o e hx) (I.base.keep b o e n hb hx) (I.base.free b o e n hx)
 ·obtain ⟨sl,e1⟩:=I.base.slot b o e n hb hx
  obtain ⟨sl',e2⟩:=slot b _ (neL b o e) hb (neC b o e hx) e1 (I.base.free b o e n hx)
  exact ⟨sl',e2⟩
 ·obtain ⟨o',e1⟩:=I.base.there b o e hx
  exact free b o' (neC b o e hx) e1 (I.base.free b o e n hx)
 ·obtain ⟨o',e1⟩:=I.base.there b o e hx
  exact there b o' (neC b o e hx) e1
 ·obtain ⟨m1,e1⟩:=I.base.tbls b ps e
  obtain ⟨m2,e2⟩:=tbls b _ e1
  exact ⟨m1 ++ m2,by rw [e2,Array.append_assoc]⟩
 ·obtain ⟨m,hn,hl⟩:=I.loc
  refine ⟨m,ns m hn,fun i x v e1 e2 e3 => ?_⟩
  obtain ⟨u,r,l⟩:=hl i x v e1 e2 e3
  refine ⟨u,r,?_⟩
  rcases l with l | ⟨k,c,e,z⟩
  ·exact .inl l
  ·exact .inr ⟨k,c,e,cellK x c e _ z⟩
 ·obtain ⟨v,z⟩:=I.cell x c e
  exact ⟨v,cellK x c e v z⟩
 ·obtain ⟨m,⟨o,_,_,ho,_⟩,_⟩:=I.loc
  exact free _ o (fun z=>(hch _ z).2.1 rfl) ho I.free
 ·obtain ⟨v,o,ho,hd⟩:=I.cell x c e
  exact free c o (fun z=>(hch c z).2.2.1 x c e rfl) ho (I.freeC x c e)
 ·obtain ⟨e,n,ne,nf,d⟩:=I.pin p hp
  have nch:p.1∉ch:=fun z=>(hch p.1 z).2.2.2 p hp rfl
  exact ⟨keep p.1 p.2 ne nf nch e n,free p.1 p.2 nch e n,ne,nf,d⟩
theorem Inv.un {t':Nat} (I:Inv X pins σ H s) (u:Un X.fs [] H H' s.heap h') (hok:HOk X.prog X.w H' h'):Inv X pins σ H' { s with heap:=h',toks:=t' }:=by
 obtain ⟨m,⟨o,es,ep,ho,r⟩,_⟩:=id I.loc
 obtain ⟨sl,hL⟩:=u.any ho I.free (by simp)
 exact I.step (g':=s.gens) (d':=s.drawn) (ch:=[]) (fun _ z=>nomatch z) (fun b o _ hb _ e n=>u.keep b o e n hb (by simp)) (fun b o _ hb _ e n=>u.slot b o e n hb (by simp)) (fun b o _ e n=>u.free b o e n (by simp)) (fun b o _ e=>u.there b o e (by simp)) u.tups u.frzs u.tbls (fun m' hm=>by
  obtain ⟨o',es',ep',ho',r'⟩:=hm
  rw [ho] at ho'; cases ho'
  exact ⟨_,es',ep',hL,r'⟩) hok I.bare
theorem Inv.call {g':Array GenState} {t':Nat} {d':Drawn} {ch:List Addr} (I:Inv X pins σ H s) (u:Un (frs X.stack) ch H H' s.heap h') (hok:HOk X.prog X.w H' h') (hg:AllBare g')
  (hch:∀ b∈ch,(b∈X.ex∨X.s₀.heap.objs.size≤b)∧b≠X.env.locals∧(∀ x c,X.env.cells.lookup x=some c→c≠b)∧∀ p∈X.pn ++ pins,p.1≠b) :
  Inv X pins σ H' { s with heap:=h',gens:=g',drawn:=d',toks:=t' }:=by
 obtain ⟨m,⟨o,es,ep,ho,r⟩,_⟩:=id I.loc
 obtain ⟨sl,hL⟩:=u.any ho I.free fun z=>(hch _ z).2.1 rfl
 exact I.step (ch:=ch) hch (fun b o hL hb hc e n=>u.keep b o e n (fun z=>(List.mem_cons.mp (I.stkSub b z)).elim hL hb) hc) (fun b o _ _ hc e n=>u.any e n hc) (fun b o hc e n=>u.free b o e n hc) (fun b o hc e=>u.there b o e hc) u.tups u.frzs u.tbls (fun m' hm=>by
  obtain ⟨o',es',ep',ho',r'⟩:=hm
  rw [ho] at ho'; cases ho'
  exact ⟨_,es',ep',hL,r'⟩) hok hg
theorem Inv.turned {t':Nat} {it:Addr} (I:Inv X pins σ H s) (k:∀ b o,b≠it→s.heap.get? b=some o→h'.get? b=some o) (hn:H it=none) (hL:it≠X.env.locals)
  (h1:it∈X.ex∨X.s₀.heap.objs.size≤it) (h2:∀ x c,X.env.cells.lookup x=some c→c≠it) (h3:∀ p∈X.pn ++ pins,p.1≠it):Inv X pins σ H { s with heap:=h',toks:=t' }:=by
 have nit:∀ b u,H b=some u→b≠it:=fun b u e z=>by rw [z,hn] at e; cases e
 refine I.step (g':=s.gens) (d':=s.drawn) (ch:=[it]) (fun b hb => ?_) (fun b o _ _ hc e _=>k b o (fun z=>hc (by simp [z])) e) (fun b o _ _ hc e _=>⟨o.slots,k b o (fun z=>hc (by simp [z])) e⟩) (fun _ _ _ _ n=>n)
  (fun b o hc e=>⟨o,k b o (fun z=>hc (by simp [z])) e⟩) (fun _ _ e=>e) (fun _ _ _ e=>e) (fun b ps e=>⟨#[],by rw [e]; simp⟩) (fun m hm => ?_) (fun b u e => ?_) I.bare
 ·have e:b=it:=by simpa using hb
  subst e
  exact ⟨h1,hL,h2,h3⟩
 ·obtain ⟨o,es,ep,ho,r⟩:=hm
  exact ⟨o,es,ep,k _ o (Ne.symm hL) ho,r⟩
 ·refine (I.hok b u e).stay (fun c v hc q=>k c v ?_ q) (fun _ q=>q) fun _ _ q=>q
  rcases hc with z | z
  ·rw [z]; exact nit b u e
  ·exact nit c _ z
theorem Inv.tok (I:Inv X pins σ H s) (t:Nat):Inv X pins σ H { s with toks:=t }:=I.un (h':=s.heap) (t':=t) Un.refl I.hok
theorem Inv.kept {t':Nat} (I:Inv X pins σ H s) (k:∀ b u,s.heap.get? b=some u→h'.get? b=some u):Inv X pins σ H { s with heap:=h',toks:=t' }:=I.un (Un.kept k) (I.hok.kept k)
theorem Inv.laid {a:Addr} {o:HO} {t':Nat} (I:Inv X pins σ H s) (k:∀ b u,s.heap.get? b=some u→h'.get? b=some u) (hp:s.heap.objs.size≤a) (new:ObjOk X.prog X.w (upd H a o) h' a o) :
  Inv X pins σ (upd H a o) { s with heap:=h',toks:=t' }:=I.un (Un.laid k hp (I.hok.fresh hp)) (I.hok.laid k hp new)
theorem Inv.write {x e:Addr} {o:HO} {t':Nat} (I:Inv X pins σ H s) (mu:Mut (H x)) (he:e=x∨H e=some (.own x)) (k:∀ b u,b≠e→s.heap.get? b=some u→h'.get? b=some u) (heo:∃ u,h'.get? e=some u)
  (new:ObjOk X.prog X.w (upd H x o) h' x o):Inv X pins σ (upd H x o) { s with heap:=h',toks:=t' }:=I.un (Un.write mu he k heo) (I.hok.write mu he k heo new)
theorem Inv.weak {σ':List (Option V)} (I:Inv X pins σ H s) (hl:σ'.length=σ.length) (w:∀ (i:Nat) v,σ'[i]? = some (some v)→σ[i]? = some (some v)):Inv X pins σ' H s :=
 ⟨I.ok,I.os,I.bare,I.base,let ⟨m,hn,hl'⟩:=I.loc; ⟨m,hn,fun i x v e1 e2 e3=>hl' i x v e1 (w i v e2) e3⟩,I.cell,I.free,I.freeC,I.pin,I.hok,hl.trans I.len⟩
theorem Inv.pins_of {pins':PN_} (I:Inv X pins σ H s) (h:∀ p∈pins',s.heap.get? p.1=some p.2∧H p.1=none∧p.1≠X.env.locals∧p.1∉X.fs∧∀ v,p.2.data ≠ .cell v):Inv X pins' σ H s :=
 ⟨I.ok,I.os,I.bare,I.base,I.loc,I.cell,I.free,I.freeC,fun p hp=>(List.mem_append.mp hp).elim (fun z=>I.pin p (List.mem_append_left _ z)) (h p),I.hok,I.len⟩
theorem nodup_ix {N:List Str} (hN:N.Nodup) {i j:Nat} {x:Str} (a:N[i]? = some x) (b:N[j]? = some x):i=j:=by
 obtain ⟨h1,e1⟩:=List.getElem?_eq_some_iff.mp a
 obtain ⟨h2,e2⟩:=List.getElem?_eq_some_iff.mp b
 exact (List.getElem_inj hN).mp (e1.trans e2.symm)
theorem store_ok2 {M:Model} {A:Around} {E:SV_} {i:Nat} {x:Str} {v:V} {u:Value} {Q:Unit→Shared→Prop} (I:Inv X pins σ H s) (hN:X.N.Nodup) (hi:X.N[i]? = some x) (hx:Loc X.env.scope x) (r:RelV v u)
  (h:∀ s',Inv X pins (σ.set i (some v)) H s'→(∃ a,Heap.SameBut a s.heap s'.heap∧(a=X.env.locals∨X.env.cells.lookup x=some a))→Q () s') (hf:X.fn x=true∨X.env.scope.names.lookup x=some .local:=by first | exact .inl rfl | exact .inr rfl | assumption):wpAny M A (storeName X.env x u) Q E s:=by
 obtain ⟨m,hn,hl⟩:=id I.loc
 have hcls:(X.env.scope.kind == .class || (X.env.scope.kind == .module && X.env.locals != X.env.globals))=false:=by rw [I.ok.kind]; rfl
 have hiσ:i < σ.length:=by rw [I.len]; exact (List.getElem?_eq_some_iff.mp hi).1
 have cne:=I.cne
 have tracked:∀ {a:Addr} {h':Heap},(∃ o,s.heap.get? a=some o∧H a=none)→Heap.SameBut a s.heap h'→HOk X.prog X.w H h':=fun {a h'} ha hs b ob e=>by
  obtain ⟨_,_,hfree⟩:=ha
  refine (I.hok b ob e).stay (fun c w' hc q=>(hs.2 c ?_).trans q) (fun _ q=>q) fun _ _ q=>q
  rintro rfl
  rcases hc with rfl | hc
  ·rw [hfree] at e; cases e
  ·rw [hfree] at hc; cases hc
 rcases hx with hk | hk
 ·refine wpAny_storeName_local hk hn (fun h' hn' hs => ?_) hcls
  obtain ⟨oL,_,_,hoL,_⟩:=id hn
  refine h _ ⟨I.ok,I.os,I.bare,⟨fun b o e n hb hx => ?_,fun b o e n hb hx => ?_,I.base.free,fun b o e hx => ?_,I.base.tups,I.base.frzs,I.base.tbls⟩,⟨_,hn',fun j y v' e1 e2 e3 => ?_⟩,fun y c e => ?_,I.free,I.freeC,fun p hp => ?_,tracked ⟨oL,hoL,I.free⟩ hs,by simpa using I.len⟩ ⟨_,hs,.inl rfl⟩
  ·exact (hs.2 b (Nat.ne_of_lt (Nat.lt_of_lt_of_le (Heap.lt_size e) I.ok.above))).trans (I.base.keep b o e n hb hx)
  ·obtain ⟨sl,e1⟩:=I.base.slot b o e n hb hx
   exact ⟨sl,(hs.2 b (Nat.ne_of_lt (Nat.lt_of_lt_of_le (Heap.lt_size e) I.ok.above))).trans e1⟩
  ·obtain ⟨o',e1⟩:=I.base.there b o e hx
   exact ⟨o',(hs.2 b (Nat.ne_of_lt (Nat.lt_of_lt_of_le (Heap.lt_size e) I.ok.above))).trans e1⟩
  ·by_cases hj:j=i
   ·subst hj
    rw [hi] at e1; cases e1
    rw [List.getElem?_set_self hiσ] at e2
    cases e2
    exact ⟨u,r,.inl ⟨hk,by simp⟩⟩
   ·rw [List.getElem?_set_ne (Ne.symm hj)] at e2
    obtain ⟨u',r',q⟩:=hl j y v' e1 e2 e3
    refine ⟨u',r',?_⟩
    rcases q with ⟨k,e⟩ | ⟨k,c,e,z⟩
    ·refine .inl ⟨k,?_⟩
     have:y≠x:=fun e=>hj (nodup_ix hN e1 (e ▸ hi))
     simp [this,e]
    ·exact .inr ⟨k,c,e,z.sameBut hs (cne y c e)⟩
  ·obtain ⟨w',z⟩:=I.cell y c e
   exact ⟨w',z.sameBut hs (cne y c e)⟩
  ·obtain ⟨e,n,ne,nf,d⟩:=I.pin p hp
   exact ⟨(hs.2 p.1 ne).trans e,n,ne,nf,d⟩
 ·have hfn:X.fn x=true:=by
   rcases hf with z | z
   ·exact z
   ·rw [z] at hk; cases hk
  obtain ⟨c,hc⟩:=I.ok.has x (.inl hk)
  obtain ⟨w',z⟩:=I.cell x c hc
  refine wpAny_storeName_cell I.ok.kind hk hc z (fun h' hc' hs => ?_)
  obtain ⟨oc,hoc,hocd⟩:=id z
  refine h { s with heap:=h' } ⟨I.ok,I.os,I.bare,⟨fun b o e n hb hx => ?_,fun b o e n hb hx => ?_,I.base.free,fun b o e hx => ?_,I.base.tups,I.base.frzs,I.base.tbls⟩,⟨m,hn.sameBut hs (Ne.symm (cne x c hc)),fun j y v' e1 e2 e3 => ?_⟩,fun y c' e => ?_,I.free,I.freeC,fun p hp => ?_,tracked ⟨oc,hoc,I.freeC x c hc⟩ hs,by simpa using I.len⟩ ⟨c,hs,.inr hc⟩
  ·exact (hs.2 b (Nat.ne_of_lt (Nat.lt_of_lt_of_le (Heap.lt_size e) (I.ok.cab x c hfn hc)))).trans (I.base.keep b o e n hb hx)
  ·obtain ⟨sl,e1⟩:=I.base.slot b o e n hb hx
   exact ⟨sl,(hs.2 b (Nat.ne_of_lt (Nat.lt_of_lt_of_le (Heap.lt_size e) (I.ok.cab x c hfn hc)))).trans e1⟩
  ·obtain ⟨o',e1⟩:=I.base.there b o e hx
   exact ⟨o',(hs.2 b (Nat.ne_of_lt (Nat.lt_of_lt_of_le (Heap.lt_size e) (I.ok.cab x c hfn hc)))).trans e1⟩
  ·by_cases hj:j=i
   ·subst hj
    rw [hi] at e1; cases e1
    rw [List.getElem?_set_self hiσ] at e2
    cases e2
    exact ⟨u,r,.inr ⟨.inl hk,c,hc,hc'⟩⟩
   ·rw [List.getElem?_set_ne (Ne.symm hj)] at e2
    obtain ⟨u',r',q⟩:=hl j y v' e1 e2 e3
    refine ⟨u',r',?_⟩
    rcases q with q | ⟨k,c',e,z'⟩
    ·exact .inl q
    ·refine .inr ⟨k,c',e,z'.sameBut hs ?_⟩
     rintro rfl
     exact hj (nodup_ix hN e1 (I.ok.inj _ _ _ e hc ▸ hi))
  ·by_cases hcc:c'=c
   ·subst hcc; exact ⟨_,hc'⟩
   ·obtain ⟨w2,z2⟩:=I.cell y c' e
    exact ⟨w2,z2.sameBut hs hcc⟩
  ·obtain ⟨e,n,ne,nf,d⟩:=I.pin p hp
   refine ⟨(hs.2 p.1 ?_).trans e,n,ne,nf,d⟩
   intro q
   rw [q,hoc] at e
   have q':oc=p.2:=Option.some.inj e
   exact d w' (by rw [← q']; exact hocd)
theorem store_ok {M:Model} {A:Around} {E:SV_} {i:Nat} {x:Str} {v:V} {u:Value} {Q:Unit→Shared→Prop} (I:Inv X pins σ H s) (hN:X.N.Nodup) (hi:X.N[i]? = some x) (hx:Loc X.env.scope x) (r:RelV v u)
  (h:∀ s',Inv X pins (σ.set i (some v)) H s'→Q () s') (hf:X.fn x=true∨X.env.scope.names.lookup x=some .local:=by first | exact .inl rfl | exact .inr rfl | assumption):wpAny M A (storeName X.env x u) Q E s :=
 store_ok2 I hN hi hx r (fun s' I' _=>h s' I') hf
theorem Inv.call' {s':Shared} {ch:List Addr} (I:Inv X pins σ H s) (ho:s'.os=s.os) (u:Un (frs X.stack) ch H H' s.heap s'.heap) (hok:HOk X.prog X.w H' s'.heap) (hg:AllBare s'.gens)
  (hch:∀ b∈ch,(b∈X.ex∨X.s₀.heap.objs.size≤b)∧b≠X.env.locals∧(∀ x c,X.env.cells.lookup x=some c→c≠b)∧∀ p∈X.pn ++ pins,p.1≠b):Inv X pins σ H' s':=by
 obtain ⟨h',g',d',t',o'⟩:=s'
 have e:o'=s.os:=ho
 subst e
 exact I.call (g':=g') (t':=t') (d':=d') u hok hg hch
end
abbrev XK:=Value→Option Addr→Hp→Prop
abbrev St:=List (Option V)
abbrev VK:=V→Hp→Prop
abbrev TE:=St→Hp→VK→Prop
abbrev TT:=St→Hp→(Bool→Hp→Prop)→Prop
abbrev TA:=St→Hp→(List V→Hp→Prop)→Prop
structure Ends where
 nx:St→Hp→Prop
 rt:VK
 bk:St→Hp→Prop:=fun _ _=>False
 ct:St→Hp→Prop:=fun _ _=>False
abbrev TS:=Ends→St→Hp→Prop
def EP (X:Cx) (pins:PN_) (σ:St) (Q:VK) (u:Value) (s':Shared):Prop := ∃ v H',Inv X pins σ H' s'∧RelV v u∧Q v H'
def TP (X:Cx) (pins:PN_) (σ:St) (Q:Bool→Hp→Prop) (b:Bool) (s':Shared):Prop := ∃ H',Inv X pins σ H' s'∧Q b H'
def AP (X:Cx) (pins:PN_) (σ:St) (Q:List V→Hp→Prop) (us:List Value) (s':Shared):Prop := ∃ vs H',Inv X pins σ H' s'∧Vals vs us∧Q vs H'
def SP (X:Cx) (pins:PN_) (D:Ends) (f:Flow) (s':Shared):Prop :=
 match f with
 | .next => ∃ σ' H',Inv X pins σ' H' s'∧D.nx σ' H'
 | .brk => ∃ σ' H',Inv X pins σ' H' s'∧D.bk σ' H'
 | .cont => ∃ σ' H',Inv X pins σ' H' s'∧D.ct σ' H'
 | .ret u => ∃ v σ' H',Inv X pins σ' H' s'∧RelV v u∧D.rt v H'
def PE (X:Cx) (e:Expr) (t:TE):Prop :=
 ∀ (pins:PN_) (s:Shared) (σ:St) (H:Hp) (Q:VK),Inv X pins σ H s→t σ H Q→wpAny (model X.prog X.w) X.A (eval e X.env) (EP X pins σ Q) X.xe s
def PT (X:Cx) (e:Expr) (t:TT):Prop :=
 ∀ (pins:PN_) (s:Shared) (σ:St) (H:Hp) (Q:Bool→Hp→Prop),Inv X pins σ H s→t σ H Q→wpAny (model X.prog X.w) X.A (isTrue e X.env (eval e X.env)) (TP X pins σ Q) X.xe s
def PW (X:Cx) (e:Expr) (t:TT):Prop :=
 ∀ (whole:Sem Value) (pins:PN_) (s:Shared) (σ:St) (H:Hp) (Q:Bool→Hp→Prop),Inv X pins σ H s→t σ H Q→wpAny (model X.prog X.w) X.A (isTrue e X.env whole) (TP X pins σ Q) X.xe s
theorem PW.pt {X:Cx} {e:Expr} {t:TT} (h:PW X e t):PT X e t:=h _
def PA (X:Cx) (es:List Expr) (t:TA):Prop :=
 ∀ (pos:Pos) (pins:PN_) (s:Shared) (σ:St) (H:Hp) (Q:List V→Hp→Prop),Inv X pins σ H s→t σ H Q→wpAny (model X.prog X.w) X.A (spliced (backTo pos (starEach es X.env))) (AP X pins σ Q) X.xe s
def PS (X:Cx) (st:Stmt) (t:TS):Prop :=
 ∀ (pins:PN_) (s:Shared) (σ:St) (H:Hp) (D:Ends),Inv X pins σ H s→t D σ H→wpAny (model X.prog X.w) X.A (exec st X.env) (SP X pins D) X.xe s
def PSs (X:Cx) (st:List Stmt) (t:TS):Prop :=
 ∀ (pins:PN_) (s:Shared) (σ:St) (H:Hp) (D:Ends),Inv X pins σ H s→t D σ H→wpAny (model X.prog X.w) X.A (execs st X.env) (SP X pins D) X.xe s
theorem thn {α:Type} {t:Sem α} {Q Q':α→Shared→Prop} {M:Model} {A:Around} {E:SV_} {s:Shared} (h:wpAny M A t Q E s) (hQ:∀ a s,Q a s→Q' a s):wpAny M A t Q' E s:=wpAny_mono h hQ fun _ _ x=>x
section
variable {X:Cx}
def tVar (i:Nat):TE:=fun σ H Q => ∃ v,σ[i]? = some (some v)∧Q v H
def tC (v:V):TE:=fun _ H Q=>Q v H
theorem pe_var {i:Nat} {x:Str} {pos:Pos} (hN:X.N[i]? = some x) (hv:Vis X.env.scope x) (hd:(x == ("__debug__" : Str))=false:=by decide) (hcd:(x == ("__classdict__" : Str))=false:=by decide):PE X (.Name x pos) (tVar i):=by
 intro pins s σ H Q I h
 obtain ⟨v,e,h⟩:=h
 obtain ⟨m,hn,hl⟩:=I.loc
 obtain ⟨u,r,l⟩:=hl i x v hN e hv
 have fin:EP X pins σ Q u s:=⟨v,H,I,r,h⟩
 rcases l with ⟨hk,hm⟩ | ⟨hk,c,hc,hcell⟩
 ·exact wpAny_Name (wpAny_loadName_local I.ok.kind hk hn hm fin) hd
 ·rcases hk with hk | hk
  ·exact wpAny_Name (wpAny_loadName_cell I.ok.kind hk hc hcell fin) hd
  ·exact wpAny_Name (wpAny_loadName_free I.ok.kind hk hc hcell fin hcd) hd
theorem pe_int {i j pos}:PE X (.Constant (.int i) j pos) (tC (.int i)):=fun _ _ _ H _ I h=>wpAny_Constant_int ⟨.int i,H,I.tok _,⟨_,rfl⟩,h⟩
theorem pe_bl {b j pos}:PE X (.Constant (.bool b) j pos) (tC (.bl b)):=fun _ _ _ H _ I h=>Constant_bool ⟨.bl b,H,I,rfl,h⟩
theorem pe_str {x j pos}:PE X (.Constant (.str x) j pos) (tC (.str x)):=fun _ _ _ H _ I h=>Calls.Constant_str ⟨.str x,H,I.tok _,⟨_,rfl⟩,h⟩
def Gl (X:Cx) (x:Str):Prop:=X.env.kindOf x=some .globalImplicit
theorem ld_glob {E:SV_} {pins:PN_} {s:Shared} {σ:St} {H:Hp} {x:Str} {u:Value} {pos:Pos} {Q:SV_} (I:Inv X pins σ H s) (hg:Gl X x) (hm:X.mg x=some u) (h:Q u s)
  (hd:(x == ("__debug__" : Str))=false:=by decide):wpAny (model X.prog X.w) X.A (eval (.Name x pos) X.env) Q E s :=
 Calls.Name_function_global I.ok.kind hg (Calls.loadGlobal_global (by rw [I.ok.glob]; exact I.mod.glob.keeps I.bk) hm h) hd
theorem ld_blt {E:SV_} {pins:PN_} {s:Shared} {σ:St} {H:Hp} {x:Str} {u:Value} {pos:Pos} {Q:SV_} (I:Inv X pins σ H s) (hg:Gl X x) (hm:X.mg x=none) (hv:bootBuiltins x=some u) (h:Q u s)
  (hn:x ≠ "__name__" := by decide) (hd:(x == ("__debug__" : Str))=false:=by decide):wpAny (model X.prog X.w) X.A (eval (.Name x pos) X.env) Q E s:=by
 obtain ⟨mb,h1,h2⟩:=I.mod.blt
 exact Calls.Name_function_global I.ok.kind hg (Calls.loadGlobal_builtin (by rw [I.ok.glob]; exact I.mod.glob.keeps I.bk) hm (by rw [I.ok.blt]; exact h1.keeps I.bk) ((h2 x hn).trans hv) h) hd
theorem pe_glob {x:Str} {v:V} {u:Value} {pos:Pos} (hg:Gl X x) (hm:X.mg x=some u) (r:RelV v u) (hd:(x == ("__debug__" : Str))=false:=by decide):PE X (.Name x pos) (tC v) :=
 fun _ _ _ H _ I h=>ld_glob I hg hm ⟨v,H,I,r,h⟩ hd
theorem bd_ {x:Str} {v:V} {u:Value} {pos:Pos} (hg:Gl X x) (hm:X.mg x=none) (hv:bootBuiltins x=some u) (r:RelV v u) (hn:x ≠ "__name__" := by decide) (hd:(x == ("__debug__" : Str))=false:=by decide):PE X (.Name x pos) (tC v) :=
 fun _ _ _ H _ I h=>ld_blt I hg hm hv ⟨v,H,I,r,h⟩ hn hd
variable {a b:Expr} {ta tb:TE} {pos:Pos}
def PC (X:Cx) (op:CmpOp) (a b:Expr) (t:TE):Prop :=
 ∀ (pins:PN_) (s:Shared) (σ:St) (H:Hp) (Q:VK),Inv X pins σ H s→t σ H Q →
  wpAny (model X.prog X.w) X.A (eval a X.env) (fun v s₁=>wpAny (model X.prog X.w) X.A (eval b X.env) (fun u s₂=>wpAny (model X.prog X.w) X.A (compareOp op v u) (EP X pins σ Q) X.xe s₂) X.xe s₁) X.xe s
theorem nobehind (b:Expr) {op:CmpOp} (h:op ≠ .In) (h2:op ≠ .NotIn):behindInMarks op b=false:=by
 have e1:(op == CmpOp.In)=false:=by cases op <;> first | rfl | exact absurd rfl h
 have e2:(op == CmpOp.NotIn)=false:=by cases op <;> first | rfl | exact absurd rfl h2
 cases b <;> simp [behindInMarks,e1,e2]
def tB (t:TE):TT:=fun σ H Q=>t σ H fun x H1 => ∃ c,x=.bl c∧Q c H1
theorem pe_cmp {op:CmpOp} {t:TE} (h:PC X op a b t) (h1:behindInMarks op b=false:=by first | exact nobehind _ (by decide) (by decide) | rfl):PE X (.Compare a [op] [b] pos) t:=fun pins s σ H Q I hw=>wpAny_Compare1 (h pins s σ H Q I hw) h1
theorem pt_cmp {op:CmpOp} {t:TE} (h:PC X op a b t) (h1:behindInMarks op b=false:=by first | exact nobehind _ (by decide) (by decide) | rfl):PT X (.Compare a [op] [b] pos) (tB t):=by
 intro pins s σ H Q I hw
 refine wpAny_isTrue_Compare1 (thn (h pins s σ H _ I hw) fun v s1 h1=>thn h1 fun u s2 h2=>thn h2 fun c s3 ⟨x,H1,I1,r1,q1⟩ => ?_) h1
 obtain ⟨d,rfl,q⟩:=q1
 cases r1
 exact wpAny_truthy_bool ⟨H1,I1,q⟩
theorem pt_val {e:Expr} {t:TE} (h:PE X e t) (he:∀ whole,isTrue e X.env whole=(do let v ← whole; standAt e.pos; holding [v] (truthy v)):=by intro _; rfl):PT X e (tB t):=by
 intro pins s σ H Q I hw
 refine isTrue_plain (thn (h pins s σ H _ I hw) fun v s1 ⟨x,H1,I1,r1,q1⟩ => ?_) (he _)
 obtain ⟨d,rfl,q⟩:=q1
 cases r1
 exact wpAny_truthy_bool ⟨H1,I1,q⟩
variable {tA tB':TT} {rest:List Expr}
def tAnd (t u:TT):TT:=fun σ H Q=>t σ H fun c H1=>if c=true then u σ H1 Q else Q false H1
def tOr (t u:TT):TT:=fun σ H Q=>t σ H fun c H1=>if c=true then Q true H1 else u σ H1 Q
def tNot (t:TT):TT:=fun σ H Q=>t σ H fun c H1=>Q (!c) H1
theorem pw_and1 (ha:PT X a tA):PW X (.BoolOp .And [a] pos) tA:=by
 intro wh pins s σ H Q I h
 refine isTrue_and (thn (ha pins s σ H Q I h) fun c s1 e => ?_)
 cases c with
 | true=>exact isTrue_and_nil e
 | false=>exact e
theorem pw_or1 (ha:PT X a tA):PW X (.BoolOp .Or [a] pos) tA:=by
 intro wh pins s σ H Q I h
 refine isTrue_or (thn (ha pins s σ H Q I h) fun c s1 e => ?_)
 cases c with
 | false=>exact isTrue_or_nil e
 | true=>exact e
theorem pw_and (ha:PT X a tA) (hb:PW X (.BoolOp .And (b :: rest) pos) tB'):PW X (.BoolOp .And (a :: b :: rest) pos) (tAnd tA tB'):=by
 intro wh pins s σ H Q I h
 refine isTrue_and (thn (ha pins s σ H _ I h) fun c s1 ⟨H1,I1,q1⟩ => ?_)
 cases c with
 | true=>exact hb wh pins s1 σ H1 Q I1 q1
 | false=>exact ⟨H1,I1,q1⟩
theorem pw_or (ha:PT X a tA) (hb:PW X (.BoolOp .Or (b :: rest) pos) tB'):PW X (.BoolOp .Or (a :: b :: rest) pos) (tOr tA tB'):=by
 intro wh pins s σ H Q I h
 refine isTrue_or (thn (ha pins s σ H _ I h) fun c s1 ⟨H1,I1,q1⟩ => ?_)
 cases c with
 | true=>exact ⟨H1,I1,q1⟩
 | false=>exact hb wh pins s1 σ H1 Q I1 q1
theorem pt_not (ha:PT X a tA):PT X (.UnaryOp .Not a pos) (tNot tA):=by
 intro pins s σ H Q I h
 exact isTrue_not (ha pins s σ H (fun c H1=>Q (!c) H1) I h)
def tAndV (ta tb:TE):TE:=fun σ H Q=>ta σ H fun x H1 => ∃ c,x=.bl c∧if c=true then tb σ H1 Q else Q (.bl false) H1
def tOrV (ta tb:TE):TE:=fun σ H Q=>ta σ H fun x H1 => ∃ c,x=.bl c∧if c=true then Q (.bl true) H1 else tb σ H1 Q
def tNotV (ta:TE):TE:=fun σ H Q=>ta σ H fun x H1 => ∃ c,x=.bl c∧Q (.bl (!c)) H1
theorem pe_one {op} {t:TE} (h:PE X a t):PE X (.BoolOp op [a] pos) t:=fun pins s σ H Q I hw=>BoolOp_one (h pins s σ H Q I hw)
theorem pe_and (ha:PE X a ta) (hb:PE X (.BoolOp .And (b :: rest) pos) tb):PE X (.BoolOp .And (a :: b :: rest) pos) (tAndV ta tb):=by
 intro pins s σ H Q I h
 refine BoolOp_and (thn (ha pins s σ H _ I h) fun v s1 ⟨x,H1,I1,r1,q1⟩ => ?_)
 obtain ⟨c,rfl,q1⟩:=q1
 cases r1
 refine wpAny_truthy_bool ?_
 cases c with
 | true=>exact hb pins s1 σ H1 Q I1 q1
 | false=>exact ⟨.bl false,H1,I1,rfl,q1⟩
theorem pe_or (ha:PE X a ta) (hb:PE X (.BoolOp .Or (b :: rest) pos) tb):PE X (.BoolOp .Or (a :: b :: rest) pos) (tOrV ta tb):=by
 intro pins s σ H Q I h
 refine BoolOp_or (thn (ha pins s σ H _ I h) fun v s1 ⟨x,H1,I1,r1,q1⟩ => ?_)
 obtain ⟨c,rfl,q1⟩:=q1
 cases r1
 refine wpAny_truthy_bool ?_
 cases c with
 | false=>exact hb pins s1 σ H1 Q I1 q1
 | true=>exact ⟨.bl true,H1,I1,rfl,q1⟩
theorem pe_not (ha:PE X a ta):PE X (.UnaryOp .Not a pos) (tNotV ta):=by
 intro pins s σ H Q I h
 refine UnaryOp_ (thn (ha pins s σ H _ I h) fun v s1 ⟨x,H1,I1,r1,q1⟩ => ?_)
 obtain ⟨c,rfl,q1⟩:=q1
 cases r1
 exact not_of (wpAny_truthy_bool ⟨.bl (!c),H1,I1,rfl,q1⟩)
def tIf (t:TT) (ta tb:TE):TE:=fun σ H Q=>t σ H fun c H1=>if c=true then ta σ H1 Q else tb σ H1 Q
theorem pe_ifExp {c:Expr} (hc:PT X c tA) (ha:PE X a ta) (hb:PE X b tb):PE X (.IfExp c a b pos) (tIf tA ta tb):=by
 intro pins s σ H Q I h
 refine wpAny_IfExp (thn (hc pins s σ H _ I h) fun d s1 ⟨H1,I1,q1⟩ => ?_)
 cases d with
 | true=>exact ha pins s1 σ H1 Q I1 q1
 | false=>exact hb pins s1 σ H1 Q I1 q1
end
def SqL (K:FG_) (H:Hp) (a:Addr) (xs:List V):Prop :=
 Rd H a (.lst xs) ∨
  ∃ (o:Obj) (its:Array Value) (n:Nat),K.lookup a=some o∧o.cls=.type "list" ∧ o.dict=none∧o.data=.seq its n∧its.size≤sizeLine∧Vals xs its.toList
def SqT (K:FG_) (H:Hp) (a:Addr) (xs:List V):Prop :=
 Rd H a (.tup xs) ∨
  ∃ (o:Obj) (its:Array Value) (n:Nat),K.lookup a=some o∧o.cls=.type "tuple" ∧ o.data=.seq its n∧its.size≤sizeLine∧Vals xs its.toList
def absV:Value→Option V
 | .none=>some .non
 | .bool b=>some (.bl b)
 | .int i _=>some (.int i)
 | .str x _=>some (.str x)
 | .bytes b _=>some (.byt b)
 | .float b _=>some (.flt b)
 | .ref a=>some (.ref a)
 | .type n=>some (.ty n)
 | _=>none
theorem RelV.abs {x:V} {u:Value} (r:RelV x u):absV u=some x:=by
 cases x with
 | non=>cases r; rfl
 | bl _=>cases r; rfl
 | int _=>obtain ⟨t,rfl⟩:=r; rfl
 | str _=>obtain ⟨t,rfl⟩:=r; rfl
 | byt _=>obtain ⟨t,rfl⟩:=r; rfl
 | flt _=>obtain ⟨t,rfl⟩:=r; rfl
 | ref _=>cases r; rfl
 | ty _=>cases r; rfl
theorem RelV.inj {x y:V} {u:Value} (r:RelV x u) (q:RelV y u):x=y:=Option.some.inj (r.abs.symm.trans q.abs)
theorem Vals.inj:∀ {xs ys:List V} {us:List Value},Vals xs us→Vals ys us→xs=ys
 | _,_,_,.nil,.nil=>rfl
 | _,_,_,.cons r t,.cons r' t'=>by rw [r.inj r',Vals.inj t t']
section
variable {X:Cx} {pins:PN_} {σ:St} {H:Hp} {s:Shared} {a:Addr} {xs ys:List V}
theorem SqL.of {K:FG_} (h:H a=some (.lst xs)):SqL K H a xs:=.inl (.inl h)
theorem SqT.of {K:FG_} (h:H a=some (.tup xs)):SqT K H a xs:=.inl (.inl h)
theorem Inv.list (I:Inv X pins σ H s) (h:SqL X.K H a xs):∃ its:List Value,Vals xs its∧PlainL s.heap a its.toArray∧xs.length≤sizeLine:=by
 rcases h with h | ⟨o,its,n,hk,hc,hd,hs,hz,r⟩
 ·obtain ⟨z,its,n,r,e⟩:=h.ok I.hok
  exact ⟨its,r,⟨_,n,e,rfl,rfl,rfl⟩,z⟩
 ·refine ⟨its.toList,r,⟨o,n,I.kIn a o hk,hc,hd,by simpa using hs⟩,?_⟩
  have e:=r.length
  simp only [Array.length_toList] at e
  omega
theorem Inv.tuple (I:Inv X pins σ H s) (h:SqT X.K H a xs):∃ its:List Value,Vals xs its∧IsTup s.heap a its.toArray∧xs.length≤sizeLine:=by
 rcases h with h | ⟨o,its,n,hk,hc,hs,hz,r⟩
 ·obtain ⟨z,its,r,p⟩:=h.ok I.hok
  exact ⟨its,r,p,z⟩
 ·refine ⟨its.toList,r,⟨o,I.kIn a o hk,hc,n,by simpa using hs⟩,?_⟩
  have e:=r.length
  simp only [Array.length_toList] at e
  omega
theorem Inv.list_inj (I:Inv X pins σ H s) (h:SqL X.K H a xs) (h':SqL X.K H a ys):xs=ys:=by
 obtain ⟨its,r,⟨o,n,e,_,_,d⟩,_⟩:=I.list h
 obtain ⟨its',r',⟨o',n',e',_,_,d'⟩,_⟩:=I.list h'
 rw [e] at e'; cases e'
 rw [d] at d'
 injection d' with d1 _
 have:its=its':=by simpa using congrArg Array.toList d1
 subst this
 exact r.inj r'
theorem Inv.tuple_inj (I:Inv X pins σ H s) (h:SqT X.K H a xs) (h':SqT X.K H a ys):xs=ys:=by
 obtain ⟨its,r,⟨o,e,_,n,d⟩,_⟩:=I.tuple h
 obtain ⟨its',r',⟨o',e',_,n',d'⟩,_⟩:=I.tuple h'
 rw [e] at e'; cases e'
 rw [d] at d'
 injection d' with d1 _
 have:its=its':=by simpa using congrArg Array.toList d1
 subst this
 exact r.inj r'
end
abbrev Cx.wish (X:Cx) (E:SV_):Cx:={ X with xe:=E }
abbrev Cx.nox (X:Cx):Cx:=X.wish fun _ _=>False
theorem Cx.Ok.wish {X:Cx} (ok:X.Ok) (E:SV_):(X.wish E).Ok :=
 ⟨ok.mod,ok.kind,ok.glob,ok.blt,ok.above,ok.inj,ok.has,ok.cab,ok.hd,ok.frames,ok.stk,ok.exf,ok.bs,ok.bsz,ok.noex,ok.exfs,ok.funs,ok.frf⟩
theorem Cx.Ok.unwish {X:Cx} {E:SV_} (ok:(X.wish E).Ok):X.Ok :=
 ⟨ok.mod,ok.kind,ok.glob,ok.blt,ok.above,ok.inj,ok.has,ok.cab,ok.hd,ok.frames,ok.stk,ok.exf,ok.bs,ok.bsz,ok.noex,ok.exfs,ok.funs,ok.frf⟩
section
variable {X:Cx} {pins:PN_} {σ:St} {H:Hp} {s:Shared} {E:SV_}
theorem Inv.wish (I:Inv X pins σ H s) (E:SV_):Inv (X.wish E) pins σ H s:=⟨I.ok.wish E,I.os,I.bare,I.base,I.loc,I.cell,I.free,I.freeC,I.pin,I.hok,I.len⟩
theorem Inv.unwish (I:Inv (X.wish E) pins σ H s):Inv X pins σ H s:=⟨I.ok.unwish,I.os,I.bare,I.base,I.loc,I.cell,I.free,I.freeC,I.pin,I.hok,I.len⟩
theorem SP.unwish {D:Ends} {f:Flow} {s':Shared} (h:SP (X.wish E) pins D f s'):SP X pins D f s':=by
 cases f with
 | next=>obtain ⟨σ',H',I,q⟩:=h; exact ⟨σ',H',I.unwish,q⟩
 | brk=>obtain ⟨σ',H',I,q⟩:=h; exact ⟨σ',H',I.unwish,q⟩
 | cont=>obtain ⟨σ',H',I,q⟩:=h; exact ⟨σ',H',I.unwish,q⟩
 | ret u=>obtain ⟨v,σ',H',I,r,q⟩:=h; exact ⟨v,σ',H',I.unwish,r,q⟩
theorem PSs.nox {st:List Stmt} {t:TS} (h:PSs X.nox st t):PSs X st t:=fun pins s σ H D I hw =>
 wpAny_mono (h pins s σ H D (I.wish _) hw) (fun _ _ q=>q.unwish) fun _ _ z=>False.elim z
end
section
variable {X:Cx} {st:Stmt} {rest:List Stmt} {t u:TS} {e:Expr} {te:TE} {pos:Pos}
def tNext:TS:=fun D σ H=>D.nx σ H
def tSeq (t u:TS):TS:=fun D σ H=>t { D with nx:=u D } σ H
theorem pss_nil:PSs X [] tNext:=fun _ _ σ H _ I h=>wpAny_execs_nil ⟨σ,H,I,h⟩
theorem cs_ (h1:PS X st t) (h2:PSs X rest u):PSs X (st :: rest) (tSeq t u):=by
 intro pins s σ H D I h
 refine wpAny_execs_cons (thn (h1 pins s σ H { D with nx:=u D } I h) fun f s1 q => ?_)
 cases f with
 | next =>
  obtain ⟨σ',H',I',q⟩:=q
  exact h2 pins s1 σ' H' D I' q
 | ret v=>exact q
 | brk=>exact q
 | cont=>exact q
theorem ed_ (h1:PS X st t):PSs X [st] t:=by
 intro pins s σ H D I h
 refine wpAny_execs_cons (thn (h1 pins s σ H D I h) fun f s1 q => ?_)
 cases f with
 | next=>exact wpAny_execs_nil q
 | ret v=>exact q
 | brk=>exact q
 | cont=>exact q
theorem Inv.quiet {pins:PN_} {σ:St} {H:Hp} {s:Shared} (I:Inv X pins σ H s):interactive X.env=false:=by simp [interactive,I.ok.kind]
def tDrop (te:TE):TS:=fun D σ H=>te σ H fun _ H1=>D.nx σ H1
theorem ht_ (he:PE X e te) (hs:swapsWith e none pos.line X.env=pure false:=by rfl):PS X (.Expr e pos) (tDrop te):=by
 intro pins s σ H D I h
 exact wpAny_Expr_any (thn (he pins s σ H _ I h) fun v s1 ⟨x,H1,I1,r1,q1⟩=>⟨σ,H1,I1,q1⟩) I.quiet hs
def tRet (te:TE):TS:=fun D σ H=>te σ H D.rt
theorem ps_ret (he:PE X e te):PS X (.Return (some e) pos) (tRet te):=by
 intro pins s σ H D I h
 exact wpAny_Return_some (thn (he pins s σ H _ I h) fun v s1 ⟨x,H1,I1,r1,q1⟩=>⟨x,σ,H1,I1,r1,q1⟩)
def tIfS (c:TT) (t u:TS):TS:=fun D σ H=>c σ H fun b H1=>if b=true then t D σ H1 else u D σ H1
theorem ps_if {c:Expr} {a b:List Stmt} {tc:TT} (hc:PT X c tc) (ha:PSs X a t) (hb:PSs X b u):PS X (.If c a b pos) (tIfS tc t u):=by
 intro pins s σ H D I h
 refine wpAny_If (thn (hc pins s σ H _ I h) fun d s1 ⟨H1,I1,q1⟩ => ?_)
 cases d with
 | true=>exact ha pins s1 σ H1 D I1 q1
 | false=>exact hb pins s1 σ H1 D I1 q1
def tNever:TS:=fun _ _ _=>False
theorem ps_never:PS X st tNever:=fun _ _ _ _ _ _ h=>h.elim
theorem pss_never {sts:List Stmt}:PSs X sts tNever:=fun _ _ _ _ _ _ h=>h.elim
end
abbrev TG:=V→St→Hp→(St→Hp→Prop)→Prop
abbrev TGs:=List V→St→Hp→(St→Hp→Prop)→Prop
def PG (X:Cx) (target:Expr) (t:TG):Prop :=
 ∀ (pins:PN_) (s:Shared) (σ:St) (H:Hp) (v:V) (u:Value) (Q:St→Hp→Prop),Inv X pins σ H s→RelV v u→t v σ H Q →
  wpAny (model X.prog X.w) X.A (assign target X.env u) (fun _ s' => ∃ σ' H',Inv X pins σ' H' s'∧Q σ' H') X.xe s
def PGs (X:Cx) (ts:List Expr) (t:TGs):Prop :=
 ∀ (pins:PN_) (s:Shared) (σ:St) (H:Hp) (vs:List V) (us:List Value) (Q:St→Hp→Prop),Inv X pins σ H s→Vals vs us→t vs σ H Q →
  wpAny (model X.prog X.w) X.A (assignInOrder ((assignEach ts X.env).map (·.2)) us) (fun _ s' => ∃ σ' H',Inv X pins σ' H' s'∧Q σ' H') X.xe s
section
variable {X:Cx} {pos:Pos}
def gName (i:Nat):TG:=fun v σ H Q=>Q (σ.set i (some v)) H
theorem aq_ {i:Nat} {x:Str} (hN:X.N.Nodup) (hi:X.N[i]? = some x) (hx:Loc X.env.scope x) (hf:X.fn x=true∨X.env.scope.names.lookup x=some .local:=by first | exact .inl rfl | exact .inr rfl | assumption):PG X (.Name x pos) (gName i):=by
 intro pins s σ H v u Q I r h
 exact wpAny_assign_Name (store_ok I hN hi hx r (fun s' I'=>⟨_,H,I',h⟩) hf)
def gNil:TGs:=fun vs σ H Q=>vs=[]∧Q σ H
def gCons (t:TG) (u:TGs):TGs:=fun vs σ H Q => ∃ v r,vs=v :: r∧t v σ H fun σ' H'=>u r σ' H' Q
theorem ga_:PGs X [] gNil:=by
 intro pins s σ H vs us Q I r h
 obtain ⟨e,h⟩:=h
 subst e
 cases r
 exact assignInOrder_nil ⟨σ,H,I,h⟩
theorem bx_ {e:Expr} {es:List Expr} {t:TG} {u:TGs} (h1:PG X e t) (h2:PGs X es u)
  (hs:(assignEach (e :: es) X.env).map (·.2)=assign e X.env :: (assignEach es X.env).map (·.2):=by rfl):PGs X (e :: es) (gCons t u):=by
 intro pins s σ H vs us Q I r h
 obtain ⟨v,vr,e1,h⟩:=h
 subst e1
 cases r with
 | cons r rr =>
  rw [hs]
  refine assignInOrder_cons (thn (h1 pins s σ H _ _ _ I r h) fun _ s1 ⟨σ1,H1,I1,q1⟩ => ?_)
  exact h2 pins s1 σ1 H1 _ _ Q I1 rr q1
def gTup (K:FG_) (n:Nat) (t:TGs):TG:=fun v σ H Q => ∃ a xs,v=.ref a∧SqT K H a xs∧xs.length=n∧t xs σ H Q
theorem pg_tup {es:List Expr} {k:Nat} {t:TGs} {n:Nat} (hc:X.calm=true) (h:PGs X es t)
  (hn:(assignEach es X.env).length=n:=by rfl) (hst:(assignEach es X.env).findIdx? (·.1)=none:=by rfl):PG X (.Tuple es k pos) (gTup X.K n t):=by
 intro pins s σ H v u Q I r hw
 obtain ⟨a,xs,e1,hq,hl,hw⟩:=hw
 subst e1
 cases r
 obtain ⟨its,rv,ht,hz⟩:=I.tuple hq
 refine assign_Tuple_tuple (I.ok.hd hc) ht (by simp [hn,← hl,rv.length]) hst fun h' hx => ?_
 have I1:Inv X pins σ H { s with heap:=h' }:=I.kept (t':=s.toks) fun b o e=>hx b o (Nat.ne_of_lt (Heap.lt_size e)) e
 exact h pins _ σ H xs _ Q I1 (by simpa using rv) hw
def tAsg (te:TE) (g:TG):TS:=fun D σ H=>te σ H fun x H1=>g x σ H1 D.nx
theorem ps_asg {tg e:Expr} {te:TE} {g:TG} (he:PE X e te) (hg:PG X tg g) (hs:swapsWithSole [tg] e pos.line X.env=pure false:=by rfl) (hw:swappedStores [tg] e X.env=pure none:=by rfl)
  (h1:(assignEach [tg] X.env).map (·.2)=[assign tg X.env]:=by rfl):PS X (.Assign [tg] e pos) (tAsg te g):=by
 intro pins s σ H D I h
 refine wpAny_Assign_stores (thn (he pins s σ H _ I h) fun v s1 ⟨x,H1,I1,r1,q1⟩ => ?_) hs hw
 rw [h1]
 exact thn (hg pins s1 σ H1 x v _ I1 r1 q1) fun _ s2 q=>q
theorem aw_ {i:Nat} {x:Str} {e:Expr} {te:TE} {pos':Pos} (hN:X.N.Nodup) (hi:X.N[i]? = some x) (hx:Loc X.env.scope x) (he:PE X e te) (hs:swapsWith e (some (.Name x pos')) pos.line X.env=pure false:=by rfl) (hf:X.fn x=true∨X.env.scope.names.lookup x=some .local:=by first | exact .inl rfl | exact .inr rfl | assumption) :
  PS X (.Assign [.Name x pos'] e pos) (tAsg te (gName i)):=by
 intro pins s σ H D I h
 refine wpAny_Assign_Name (thn (he pins s σ H _ I h) fun v s1 ⟨y,H1,I1,r1,q1⟩ => ?_) hs
 exact store_ok I1 hN hi hx r1 (fun s2 I2=>⟨_,H1,I2,q1⟩) hf
end
section
variable {X:Cx} {pos:Pos}
def tWhile (c:TT) (tb:TS):TS:=fun D σ H => ∃ W:Nat→St→Hp→Prop,(∃ m,W m σ H)∧∀ m σ H,W m σ H →
 c σ H fun b H1=>if b=true then ∃ N:St→Hp→Prop,(∀ σ' H',N σ' H'→∃ m',m' < m∧W m' σ' H')∧tb { D with nx:=N,ct:=N,bk:=D.nx } σ H1 else D.nx σ H1
theorem ps_while {c:Expr} {body:List Stmt} {tc:TT} {tb:TS} (hp:PassesOwn (model X.prog X.w) X.A X.env X.xe) (hc:PT X c tc) (hb:PSs X body tb):PS X (.While c body [] pos) (tWhile tc tb):=by
 intro pins s σ H D I h
 obtain ⟨W,⟨m0,w0⟩,turn⟩:=h
 refine wpAny_While (codeAny_whileLoop (fun n s' => ∃ σ' H',Inv X pins σ' H' s'∧W n σ' H') ?_ m0 ⟨σ,H,I,w0⟩)
 rintro n s1 ⟨σ1,H1,I1,w1⟩
 refine wpAny_passesOwn hp (thn (hc pins s1 σ1 H1 _ I1 (turn n σ1 H1 w1)) fun b s2 ⟨H2,I2,q2⟩ => ?_)
 cases b with
 | true =>
  obtain ⟨N,hN,q2⟩:=q2
  rw [if_pos rfl]
  refine wpAny_passesOwn hp (thn (hb pins s2 σ1 H2 _ I2 q2) fun f s3 q3 => ?_)
  cases f with
  | next =>
   obtain ⟨σ3,H3,I3,n3⟩:=q3
   obtain ⟨m',hm,w3⟩:=hN σ3 H3 n3
   exact ⟨m',hm,σ3,H3,I3,w3⟩
  | cont =>
   obtain ⟨σ3,H3,I3,n3⟩:=q3
   obtain ⟨m',hm,w3⟩:=hN σ3 H3 n3
   exact ⟨m',hm,σ3,H3,I3,w3⟩
  | brk=>exact q3
  | ret v=>exact q3
 | false =>
  rw [if_neg Bool.false_ne_true]
  exact wpAny_execs_nil ⟨σ1,H2,I2,q2⟩
end
structure It where
 go:Nat→Hp→Prop
 yld:Nat→Hp→V→Hp→Prop
 stop:Nat→Hp→Prop
def FpOk (X:Cx) (pins:PN_) (H:Hp) (b:Addr):Prop :=
 H b=none∧b≠X.env.locals∧b∉X.fs∧(b∈X.ex∨X.s₀.heap.objs.size≤b)∧(∀ x c,X.env.cells.lookup x=some c→c≠b)∧∀ p∈X.pn ++ pins,p.1≠b
theorem Inv.fpOk {X:Cx} {pins:PN_} {σ:St} {H H':Hp} {s:Shared} {b:Addr} (I:Inv X pins σ H s) (hb:s.heap.objs.size≤b) (hn:H' b=none):FpOk X pins H' b:=by
 refine ⟨hn,Nat.ne_of_gt (Nat.lt_of_lt_of_le I.lt hb),I.nofs hb,.inr (Nat.le_trans I.sz hb),fun x c e z => ?_,fun p hp z => ?_⟩
 ·obtain ⟨v,q⟩:=I.cell x c e
  exact absurd (Nat.lt_of_lt_of_le q.lt (by rw [z]; exact hb)) (Nat.lt_irrefl _)
 ·exact absurd (Nat.lt_of_lt_of_le (Heap.lt_size (I.pin p hp).1) (by rw [z]; exact hb)) (Nat.lt_irrefl _)
structure Turn (P:Program) (w:World) (K:FG_) (tg:Expr) (J:It) (fp:List Addr) (it:Addr) (tn:Nat→Heap→Prop):Prop where
 mem:it∈fp
 obj:∀ i h,tn i h→∀ b∈fp,∃ o,h.get? b=some o∧∀ v,o.data ≠ .cell v
 keep:∀ i h h',tn i h→(∀ b∈fp,∀ o,h.get? b=some o→h'.get? b=some o)→tn i h'
 item:∀ (X:Cx),X.prog=P→X.w=w→X.K=K→X.calm=true→∀ (i:Nat) (pins:PN_) (s:Shared) (σ:St) (H:Hp) (E:SV_),Inv X pins σ H s→(∀ b∈fp,FpOk X pins H b)→tn i s.heap→J.go i H →
  wpAny (model P w) X.A (pyNext (.ref it)) (fun r s1 => ∃ u,r=some u ∧
   wpAny (model P w) X.A (letOwnedTupleGo tg (.ref it) u) (fun _ s2 => ∃ x H',Inv X pins σ H' s2∧RelV x u∧J.yld i H x H'∧tn (i + 1) s2.heap∧∀ b∈fp,H' b=none) E s1) E s
 done:∀ (X:Cx),X.prog=P→X.w=w→X.K=K→X.calm=true→∀ (i:Nat) (pins:PN_) (s:Shared) (σ:St) (H:Hp) (E:SV_),Inv X pins σ H s→(∀ b∈fp,FpOk X pins H b)→tn i s.heap→J.stop i H →
  wpAny (model P w) X.A (pyNext (.ref it)) (fun r s1=>r=none∧Inv X pins σ H s1) E s
 self:∀ (A:Around) (i:Nat) (s:Shared) (Q:SV_) (E:SV_),tn i s.heap→Q (.ref it) s→wpAny (model P w) A (pyIter (.ref it)) Q E s
abbrev TI:=St→Hp→(It→Hp→Prop)→Prop
def PIE (X:Cx) (pins:PN_) (σ:St) (tg:Expr) (R:It→Hp→Prop) (itv:Value) (s2:Shared):Prop :=
 ∃ (it:Addr) (fp:List Addr) (tn:Nat→Heap→Prop) (J:It) (H':Hp),itv=.ref it∧Inv X pins σ H' s2∧Turn X.prog X.w X.K tg J fp it tn∧tn 0 s2.heap∧(∀ b∈fp,FpOk X pins H' b)∧R J H'
def PI (X:Cx) (tg iter:Expr) (wi:TI):Prop :=
 ∀ (pins:PN_) (s:Shared) (σ:St) (H:Hp) (R:It→Hp→Prop),Inv X pins σ H s→wi σ H R →
  wpAny (model X.prog X.w) X.A (eval iter X.env) (fun v s1=>wpAny (model X.prog X.w) X.A (pyIter v) (PIE X pins σ tg R) X.xe s1) X.xe s
theorem go_of {M:Model} {A:Around} {E:SV_} {s:Shared} {tg:Expr} {it:Addr} {u:Value} {o:Obj} {n:String} {vs:Array Value} {Q:Unit→Shared→Prop} (ho:s.heap.get? it=some o) (hc:o.cls=.type n) (hd:o.data=.fields vs)
    (hn:["enumerate", "zip", "dict_itemiterator", "dict_reverseitemiterator", "odict_iterator", "itertools.zip_longest", "itertools.pairwise"].contains n=false) (hQ:Q () s):wpAny M A (letOwnedTupleGo tg (.ref it) u) Q E s:=by
  unfold letOwnedTupleGo
  cases tg <;> first
    | exact wpAny_pure hQ
    | (cases u <;> first
        | exact wpAny_pure hQ
        | (refine wpAny_bind (wpAny_load ho ?_)
           rw [hc,hd]
           show wpAny M A (if (["enumerate", "zip", "dict_itemiterator", "dict_reverseitemiterator", "odict_iterator", "itertools.zip_longest", "itertools.pairwise"].contains n && vs[0]? == some (rawInt _))=true then _ else _) Q E s
           rw [if_neg (by intro h; rw [hn,Bool.false_and] at h; cases h)]
           exact wpAny_pure hQ))
def Itl (K:FG_) (a:Addr):It :=
 ⟨fun i H => ∃ xs x,SqL K H a xs∧xs[i]? = some x,fun i H x H'=>H'=H∧∀ xs,SqL K H a xs→xs[i]? = some x,fun i H => ∃ xs,SqL K H a xs∧xs.length≤i⟩
def Itt (K:FG_) (a:Addr):It :=
 ⟨fun i H => ∃ xs x,SqT K H a xs∧xs[i]? = some x,fun i H x H'=>H'=H∧∀ xs,SqT K H a xs→xs[i]? = some x,fun i H => ∃ xs,SqT K H a xs∧xs.length≤i⟩
def Itr (lo:Int) (n:Nat):It:=⟨fun i _=>i < n,fun i H x H'=>H'=H∧x=.int (lo + i),fun i _=>n≤i⟩
theorem turn_list {P:Program} {w:World} {K:FG_} {tg:Expr} (a it:Addr):Turn P w K tg (Itl K a) [it] it (fun i h=>h.IsListIter it a i) where
 mem:=by simp
 obj:=fun i h st b hb=>by
  have e:b=it:=by simpa using hb
  subst e
  obtain ⟨o,e,c,d⟩:=st
  exact ⟨o,e,fun v z=>by rw [d] at z; cases z⟩
 keep:=fun i h h' st k=>st.at fun o e=>k it (by simp) o e
 item:=by
  intro X hP hw hK hc i pins s σ H E I hf st hg
  subst hP hw hK
  obtain ⟨xs,x,hq,hx⟩:=hg
  obtain ⟨its,rv,p,hz⟩:=I.list hq
  obtain ⟨u,hu,ru⟩:=rv.get hx
  obtain ⟨f0,f1,f2,f3,f4,f5⟩:=hf it (by simp)
  refine wpAny_pyNext_list_item st p.isList (x:=u) (by simpa using hu) fun h' st' sb => ?_
  have I1:Inv X pins σ H { s with heap:=h' }:=I.turned (t':=s.toks) (fun b o hb e=>(sb.2 b hb).trans e) f0 f1 f3 f4 f5
  obtain ⟨o,e,c,d⟩:=id st'
  exact ⟨u,rfl,go_of (s:={ s with heap:=h' }) e c d (by decide) ⟨x,H,I1,ru,⟨rfl,fun ys hy=>by rw [I.list_inj hy hq]; exact hx⟩,st',fun b hb=>(hf b hb).1⟩⟩
 done:=by
  intro X hP hw hK hc i pins s σ H E I hf st hg
  subst hP hw hK
  obtain ⟨xs,hq,hx⟩:=hg
  obtain ⟨its,rv,p,hz⟩:=I.list hq
  obtain ⟨f0,f1,f2,f3,f4,f5⟩:=hf it (by simp)
  have hl:=rv.length
  exact wpAny_pyNext_list_end (I.ok.hd hc) st p.isList (by simp; omega) fun h' eb=>⟨rfl,I.turned (t':=s.toks) (fun b o hb e=>eb b o hb e) f0 f1 f3 f4 f5⟩
 self:=fun _ _ _ _ _ st h=>wpAny_pyIter_listiter st h
theorem turn_tuple {P:Program} {w:World} {K:FG_} {tg:Expr} (a it:Addr):Turn P w K tg (Itt K a) [it] it (fun i h=>h.IsTupleIter it a i) where
 mem:=by simp
 obj:=fun i h st b hb=>by
  have e:b=it:=by simpa using hb
  subst e
  obtain ⟨o,e,c,d⟩:=st
  exact ⟨o,e,fun v z=>by rw [d] at z; cases z⟩
 keep:=fun i h h' st k=>st.at fun o e=>k it (by simp) o e
 item:=by
  intro X hP hw hK hc i pins s σ H E I hf st hg
  subst hP hw hK
  obtain ⟨xs,x,hq,hx⟩:=hg
  obtain ⟨its,rv,p,hz⟩:=I.tuple hq
  obtain ⟨u,hu,ru⟩:=rv.get hx
  obtain ⟨f0,f1,f2,f3,f4,f5⟩:=hf it (by simp)
  refine wpAny_pyNext_tuple_item st (show s.heap.IsTuple a its.toArray from p) (x:=u) (by simpa using hu) fun h' st' sb => ?_
  have I1:Inv X pins σ H { s with heap:=h' }:=I.turned (t':=s.toks) (fun b o hb e=>(sb.2 b hb).trans e) f0 f1 f3 f4 f5
  obtain ⟨o,e,c,d⟩:=id st'
  exact ⟨u,rfl,go_of (s:={ s with heap:=h' }) e c d (by decide) ⟨x,H,I1,ru,⟨rfl,fun ys hy=>by rw [I.tuple_inj hy hq]; exact hx⟩,st',fun b hb=>(hf b hb).1⟩⟩
 done:=by
  intro X hP hw hK hc i pins s σ H E I hf st hg
  subst hP hw hK
  obtain ⟨xs,hq,hx⟩:=hg
  obtain ⟨its,rv,p,hz⟩:=I.tuple hq
  obtain ⟨f0,f1,f2,f3,f4,f5⟩:=hf it (by simp)
  have hl:=rv.length
  exact wpAny_pyNext_tuple_end (I.ok.hd hc) st (show s.heap.IsTuple a its.toArray from p) (by simp; omega) fun h' eb=>⟨rfl,I.turned (t':=s.toks) (fun b o hb e=>eb b o hb e) f0 f1 f3 f4 f5⟩
 self:=fun _ _ _ _ _ st h=>wpAny_pyIter_tupleiter st h
theorem turn_range {P:Program} {w:World} {K:FG_} {tg:Expr} (it:Addr) (lo:Int) (n:Nat):Turn P w K tg (Itr lo n) [it] it (fun i h=>IsRangeIter h it (lo + (i:Nat) * 1) ((n:Int) - (i:Nat)) 1) where
 mem:=by simp
 obj:=fun i h st b hb=>by
  have e:b=it:=by simpa using hb
  subst e
  exact ⟨_,st,fun v z=>by
   have z':Data.fields _=Data.cell v:=z
   cases z'⟩
 keep:=fun i h h' st k=>k it (by simp) _ st
 item:=by
  intro X hP hw hK hc i pins s σ H E I hf st hg
  subst hP hw hK
  obtain ⟨f0,f1,f2,f3,f4,f5⟩:=hf it (by simp)
  have W:=Walks.range (prog:=X.prog) (w:=X.w) (I.ok.hd hc) it lo 1 n
  refine W.item i s _ _ hg st fun v h' tk hv st' kk => ?_
  obtain ⟨t,rfl⟩:=hv
  have I1:Inv X pins σ H { s with heap:=h',toks:=tk }:=I.turned (fun b o hb e=>kk b o (by simpa using hb) e) f0 f1 f3 f4 f5
  refine ⟨_,rfl,go_of (s:={ s with heap:=h',toks:=tk }) (n := "range_iterator") st' rfl rfl (by decide) ⟨.int (lo + i),H,I1,⟨t,?_⟩,⟨rfl,rfl⟩,st',fun b hb=>(hf b hb).1⟩⟩
  rw [Int.mul_one]
 done:=by
  intro X hP hw hK hc i pins s σ H E I hf st hg
  subst hP hw hK
  obtain ⟨f0,f1,f2,f3,f4,f5⟩:=hf it (by simp)
  exact wpAny_pyNext_range_end (I.ok.hd hc) st (by have:n≤i:=hg; omega) fun h' eb=>⟨rfl,I.turned (t':=s.toks) (fun b o hb e=>eb b o hb e) f0 f1 f3 f4 f5⟩
 self:=fun _ _ _ _ _ st h=>wpAny_pyIter_rangeiter st h
section
variable {X:Cx} {tg:Expr}
def iList (K:FG_) (tl:TE):TI:=fun σ H R=>tl σ H fun x H1 => ∃ a,x=.ref a∧(∃ xs,SqL K H1 a xs)∧R (Itl K a) H1
def iTup (K:FG_) (tl:TE):TI:=fun σ H R=>tl σ H fun x H1 => ∃ a,x=.ref a∧(∃ xs,SqT K H1 a xs)∧R (Itt K a) H1
theorem pi_list {l:Expr} {tl:TE} (hl:PE X l tl):PI X tg l (iList X.K tl):=by
 intro pins s σ H R I h
 refine thn (hl pins s σ H _ I h) fun v s1 ⟨x,H1,I1,r1,q1⟩ => ?_
 obtain ⟨a,e,⟨xs,hq⟩,q⟩:=q1
 subst e
 cases r1
 obtain ⟨its,rv,p,hz⟩:=I1.list hq
 refine wpAny_pyIter_list p.isList ?_
 refine ⟨s1.heap.objs.size,[s1.heap.objs.size],_,_,H1,rfl,I1.kept (t':=s1.toks) fun b o e=>Heap.get?_push_of_some _ e,turn_list a _,⟨_,Heap.get?_push_size _ rfl,rfl,rfl⟩,fun b hb => ?_,q⟩
 have e:b=s1.heap.objs.size:=by simpa using hb
 subst e
 exact I1.fpOk (Nat.le_refl _) (I1.hok.fresh (Nat.le_refl _))
theorem pi_tup {l:Expr} {tl:TE} (hl:PE X l tl):PI X tg l (iTup X.K tl):=by
 intro pins s σ H R I h
 refine thn (hl pins s σ H _ I h) fun v s1 ⟨x,H1,I1,r1,q1⟩ => ?_
 obtain ⟨a,e,⟨xs,hq⟩,q⟩:=q1
 subst e
 cases r1
 obtain ⟨its,rv,p,hz⟩:=I1.tuple hq
 refine wpAny_pyIter_tuple (show s1.heap.IsTuple a its.toArray from p) ?_
 refine ⟨s1.heap.objs.size,[s1.heap.objs.size],_,_,H1,rfl,I1.kept (t':=s1.toks) fun b o e=>Heap.get?_push_of_some _ e,turn_tuple a _,⟨_,Heap.get?_push_size _ rfl,rfl,rfl⟩,fun b hb => ?_,q⟩
 have e:b=s1.heap.objs.size:=by simpa using hb
 subst e
 exact I1.fpOk (Nat.le_refl _) (I1.hok.fresh (Nat.le_refl _))
theorem range_it {pins:PN_} {σ:St} {H:Hp} {s:Shared} {R:It→Hp→Prop} {E:SV_} {lo hi:Int} {t u v:Tok} {tk:Nat} (I:Inv X pins σ H s) (h1 : -(2 ^ 62)≤lo) (h2:lo < 2 ^ 62) (h3 : -(2 ^ 62)≤hi) (h4:hi < 2 ^ 62)
  (q:R (Itr lo (hi - lo).toNat) H):wpAny (model X.prog X.w) X.A (pyIter (.ref s.heap.objs.size)) (PIE X pins σ tg R) E { s with heap:=s.heap.push { cls:=.type "range",data:=.fields #[.int lo t,.int hi u,.int 1 v] },toks:=tk }:=by
 refine wpAny_pyIter_range (IsRange.new ..) (small_one h1 h2 h3 h4) ?_
 have I1:Inv X pins σ H { s with heap:=s.heap.push { cls:=.type "range",data:=.fields #[.int lo t,.int hi u,.int 1 v] },toks:=tk }:=I.kept fun b o e=>Heap.get?_push_of_some _ e
 refine ⟨(s.heap.push { cls:=.type "range",data:=.fields #[.int lo t,.int hi u,.int 1 v] }).objs.size,[(s.heap.push { cls:=.type "range",data:=.fields #[.int lo t,.int hi u,.int 1 v] }).objs.size],_,_,H,rfl,
  I1.kept (t':=tk) fun b o e=>Heap.get?_push_of_some _ e,turn_range _ lo (hi - lo).toNat,?_,fun b hb => ?_,q⟩
 ·have e1:lo + ((0:Nat):Int) * 1=lo:=by simp
  have e2:(((hi - lo).toNat:Nat):Int) - ((0:Nat):Int)=Builtin.Range.rangeSize lo hi 1:=by rw [rangeSize_one]; split <;> omega
  show IsRangeIter _ _ (lo + ((0:Nat):Int) * 1) ((((hi - lo).toNat:Nat):Int) - ((0:Nat):Int)) 1
  rw [e1,e2]
  exact Heap.get?_push_size _ rfl
 ·have e:b=(s.heap.push { cls:=.type "range",data:=.fields #[.int lo t,.int hi u,.int 1 v] }).objs.size:=by simpa using hb
  subst e
  exact I1.fpOk (Nat.le_refl _) (I1.hok.fresh (Nat.le_refl _))
def iRng1 (ta:TA):TI:=fun σ H R=>ta σ H fun vs H1 => ∃ j:Int,vs=[.int j] ∧ -(2 ^ 62)≤j∧j < 2 ^ 62∧R (Itr 0 j.toNat) H1
theorem hv_ {a:Expr} {ta:TA} {p pos:Pos} (hg:Gl X "range") (hm:X.mg "range" = none) (ha:PA X [a] ta) (hs:starEach [a] X.env=[(false,eval a X.env)]:=by rfl):PI X tg (.Call (.Name "range" p) [a] [] pos) (iRng1 ta):=by
 intro pins s σ H R I h
 refine Call_ (ld_blt I hg hm boot_range (PyProof.Rows.callWith_type1 (thn (ha pos pins s σ H _ I h) fun us s1 ⟨vs,H1,I1,r1,q1⟩ => ?_) hs rfl))
 obtain ⟨j,e,q1,q2,q⟩:=q1
 subst e
 cases r1 with
 | cons r rr =>
  cases rr
  obtain ⟨t,rfl⟩:=r
  exact call_range_1 (range_it I1 (by omega) (by omega) q1 q2 (by simpa using q))
def tFor (wi:TI) (g:TG) (tb:TS):TS:=fun D σ H=>wi σ H fun J H1 => ∃ W:Nat→Nat→St→Hp→Prop,(∃ m,W 0 m σ H1)∧∀ i m σ H,W i m σ H →
 (J.stop i H∧D.nx σ H)∨(J.go i H∧∃ N:St→Hp→Prop,(∀ σ' H',N σ' H'→∃ m',m' < m∧W (i + 1) m' σ' H')∧∀ x H',J.yld i H x H'→g x σ H' fun σ2 H2=>tb { D with nx:=N,ct:=N,bk:=D.nx } σ2 H2)
def pinsAt (fp:List Addr) (h:Heap):List (Addr×Obj):=fp.filterMap fun b=>(h.get? b).map fun o=>(b,o)
theorem fi_ {fp:List Addr} {h:Heap} {b:Addr} {o:Obj} (hb:b∈fp) (e:h.get? b=some o):(b,o)∈pinsAt fp h:=List.mem_filterMap.mpr ⟨b,hb,by rw [e]; rfl⟩
theorem of_pinsAt {fp:List Addr} {h:Heap} {p:Addr×Obj} (hp:p∈pinsAt fp h):p.1∈fp∧h.get? p.1=some p.2:=by
 obtain ⟨b,hb,e⟩:=List.mem_filterMap.mp hp
 cases q:h.get? b with
 | none=>rw [q] at e; cases e
 | some o =>
  rw [q] at e
  have e':(b,o)=p:=Option.some.inj e
  subst e'
  exact ⟨hb,q⟩
theorem Inv.pinned {pins:PN_} {σ:St} {H:Hp} {s:Shared} {fp:List Addr} (I:Inv X pins σ H s) (hf:∀ b∈fp,FpOk X pins H b) (ho:∀ b∈fp,∃ o,s.heap.get? b=some o∧∀ v,o.data ≠ .cell v):Inv X (pins ++ pinsAt fp s.heap) σ H s :=
 I.pins_of fun p hp=>(List.mem_append.mp hp).elim (fun z=>I.pin p (List.mem_append_right _ z)) fun z=>by
  obtain ⟨hb,e⟩:=of_pinsAt z
  obtain ⟨f0,f1,f2,_⟩:=hf p.1 hb
  obtain ⟨o,e',d⟩:=ho p.1 hb
  rw [e] at e'; cases e'
  exact ⟨e,f0,f1,f2,d⟩
theorem Inv.unpinned {pins pl:PN_} {σ:St} {H:Hp} {s:Shared} (I:Inv X (pins ++ pl) σ H s):Inv X pins σ H s:=I.pins_of fun p hp=>I.pin p (List.mem_append_right _ (List.mem_append_left _ hp))
theorem ps_for {iter:Expr} {body:List Stmt} {wi:TI} {g:TG} {tb:TS} {pos:Pos} (hp:PassesOwn (model X.prog X.w) X.A X.env X.xe) (hc:X.calm=true) (hi:PI X tg iter wi) (hg:PG X tg g) (hb:PSs X body tb)
  (hs:∀ x,foldedSetIterable iter X.env x=pure x:=by intro _; rfl):PS X (.For tg iter body [] pos) (tFor wi g tb):=by
 intro pins s σ H D I h
 refine wpAny_For (thn (hi pins s σ H _ I h) fun v s1 h1=>thn h1 fun itv s2 h2 => ?_) hs
 obtain ⟨it,fp,tn,J,H2,e,I2,T,st2,f2,W,⟨m0,w0⟩,turn⟩:=h2
 subst e
 have stat:∀ {H':Hp},(∀ b∈fp,H' b=none)→∀ b∈fp,FpOk X pins H' b:=fun hn b hb=>⟨hn b hb,(f2 b hb).2⟩
 refine codeAny_forLoop_any (fun n s' => ∃ i σ' H',Inv X pins σ' H' s'∧tn i s'.heap∧(∀ b∈fp,H' b=none)∧W i n σ' H') ?_ m0 ⟨0,σ,H2,I2,st2,fun b hb=>(f2 b hb).1,w0⟩
 rintro n s3 ⟨i,σ3,H3,I3,st3,fr3,w3⟩
 rcases turn i n σ3 H3 w3 with ⟨stop,qn⟩ | ⟨go,N,hN,step⟩
 ·refine wpAny_passesOwn hp (thn (T.done X rfl rfl rfl hc i pins s3 σ3 H3 X.xe I3 (stat fr3) st3 stop) fun r s4 ⟨hr,I4⟩ => ?_)
  subst hr
  exact wpAny_execs_nil ⟨σ3,H3,I4,qn⟩
 ·refine wpAny_passesOwn hp (thn (T.item X rfl rfl rfl hc i pins s3 σ3 H3 X.xe I3 (stat fr3) st3 go) fun r s4 ⟨u,hr,h4⟩ => ?_)
  subst hr
  refine wpAny_passesOwn hp (thn h4 fun _ s5 ⟨x,H5,I5,r5,y5,st5,fr5⟩ => ?_)
  have I5':=I5.pinned (stat fr5) (T.obj _ _ st5)
  refine wpAny_passesOwn hp (thn (hg _ s5 σ3 H5 x u _ I5' r5 (step x H5 y5)) fun _ s6 ⟨σ6,H6,I6,q6⟩ => ?_)
  refine wpAny_passesOwn hp (thn (hb _ s6 σ6 H6 _ I6 q6) fun f s7 q7 => ?_)
  have again:∀ {σ7:St} {H7:Hp},Inv X (pins ++ pinsAt fp s5.heap) σ7 H7 s7→N σ7 H7→∃ m,m < n∧∃ i σ' H',Inv X pins σ' H' s7∧tn i s7.heap∧(∀ b∈fp,H' b=none)∧W i m σ' H':=fun {σ7 H7} I7 n7=>by
   obtain ⟨m',hm,w7⟩:=hN σ7 H7 n7
   refine ⟨m',hm,i + 1,σ7,H7,I7.unpinned,T.keep _ _ _ st5 fun b hb o e=>(I7.pin (b,o) (List.mem_append_right _ (List.mem_append_right _ (fi_ hb e)))).1,fun b hb => ?_,w7⟩
   obtain ⟨o,e,d⟩:=T.obj _ _ st5 b hb
   exact (I7.pin (b,o) (List.mem_append_right _ (List.mem_append_right _ (fi_ hb e)))).2.1
  cases f with
  | next=>obtain ⟨σ7,H7,I7,n7⟩:=q7; exact again I7 n7
  | cont=>obtain ⟨σ7,H7,I7,n7⟩:=q7; exact again I7 n7
  | brk=>obtain ⟨σ7,H7,I7,q7⟩:=q7; exact ⟨σ7,H7,I7.unpinned,q7⟩
  | ret v=>obtain ⟨x7,σ7,H7,I7,r7,q7⟩:=q7; exact ⟨x7,σ7,H7,I7.unpinned,r7,q7⟩
end
theorem for_list {K:FG_} {a:Addr} {xs:List V} {g:TG} {tb:TS} {D:Ends} {σ:St} {H:Hp} (Pv:Nat→St→Hp→Prop) (h0:Pv 0 σ H) (hl:∀ i σ H,i≤xs.length→Pv i σ H→SqL K H a xs)
  (hs:∀ i x σ H,xs[i]? = some x→Pv i σ H→g x σ H fun σ2 H2=>tb { D with nx:=Pv (i + 1),ct:=Pv (i + 1),bk:=D.nx } σ2 H2) (hd:∀ σ H,Pv xs.length σ H→D.nx σ H) :
  ∃ W:Nat→Nat→St→Hp→Prop,(∃ m,W 0 m σ H)∧∀ i m σ H,W i m σ H →
   ((Itl K a).stop i H∧D.nx σ H)∨((Itl K a).go i H∧∃ N:St→Hp→Prop,(∀ σ' H',N σ' H'→∃ m',m' < m∧W (i + 1) m' σ' H')∧∀ x H',(Itl K a).yld i H x H'→g x σ H' fun σ2 H2=>tb { D with nx:=N,ct:=N,bk:=D.nx } σ2 H2):=by
 refine ⟨fun i m σ H=>m=xs.length - i∧i≤xs.length∧Pv i σ H,⟨xs.length,by simp,Nat.zero_le _,h0⟩,?_⟩
 rintro i m σ H ⟨rfl,hi,p⟩
 have q:=hl i σ H hi p
 by_cases hlt:i < xs.length
 ·refine .inr ⟨⟨xs,xs[i],q,by simp [hlt]⟩,Pv (i + 1),fun σ' H' p'=>⟨xs.length - (i + 1),by omega,rfl,hlt,p'⟩,fun x H' y => ?_⟩
  obtain ⟨e,y⟩:=y
  subst e
  exact hs i x σ _ (y xs q) p
 ·have e:i=xs.length:=by omega
  subst e
  exact .inl ⟨⟨xs,q,Nat.le_refl _⟩,hd σ H p⟩
theorem for_range {lo:Int} {n:Nat} {g:TG} {tb:TS} {D:Ends} {σ:St} {H:Hp} (Pv:Nat→St→Hp→Prop) (h0:Pv 0 σ H)
  (hs:∀ i σ H,i < n→Pv i σ H→g (.int (lo + i)) σ H fun σ2 H2=>tb { D with nx:=Pv (i + 1),ct:=Pv (i + 1),bk:=D.nx } σ2 H2) (hd:∀ σ H,Pv n σ H→D.nx σ H) :
  ∃ W:Nat→Nat→St→Hp→Prop,(∃ m,W 0 m σ H)∧∀ i m σ H,W i m σ H →
   ((Itr lo n).stop i H∧D.nx σ H)∨((Itr lo n).go i H∧∃ N:St→Hp→Prop,(∀ σ' H',N σ' H'→∃ m',m' < m∧W (i + 1) m' σ' H')∧∀ x H',(Itr lo n).yld i H x H'→g x σ H' fun σ2 H2=>tb { D with nx:=N,ct:=N,bk:=D.nx } σ2 H2):=by
 refine ⟨fun i m σ H=>m=n - i∧i≤n∧Pv i σ H,⟨n,by simp,Nat.zero_le _,h0⟩,?_⟩
 rintro i m σ H ⟨rfl,hi,p⟩
 by_cases hlt:i < n
 ·refine .inr ⟨hlt,Pv (i + 1),fun σ' H' p'=>⟨n - (i + 1),by omega,rfl,hlt,p'⟩,fun x H' y => ?_⟩
  obtain ⟨e,y⟩:=y
  subst e y
  exact hs i σ _ hlt p
 ·have e:i=n:=by omega
  subst e
  exact .inl ⟨Nat.le_refl _,hd σ H p⟩
abbrev R2:=V→V→Hp→VK→Prop
def OpR (X:Cx) (f:Value→Value→Sem Value) (r:R2):Prop :=
 ∀ (pins:PN_) (s:Shared) (σ:St) (H:Hp) (x y:V) (v u:Value) (Q:VK),Inv X pins σ H s→RelV x v→RelV y u→r x y H Q →
  wpAny (model X.prog X.w) X.A (f v u) (EP X pins σ Q) X.xe s
def UnR (X:Cx) (f:Value→Sem Value) (r:V→Hp→VK→Prop):Prop :=
 ∀ (pins:PN_) (s:Shared) (σ:St) (H:Hp) (x:V) (v:Value) (Q:VK),Inv X pins σ H s→RelV x v→r x H Q →
  wpAny (model X.prog X.w) X.A (f v) (EP X pins σ Q) X.xe s
def CallR (X:Cx) (f:Value) (r:List V→Hp→VK→Prop):Prop :=
 ∀ (pins:PN_) (s:Shared) (σ:St) (H:Hp) (xs:List V) (us:List Value) (Q:VK),Inv X pins σ H s→Vals xs us→r xs H Q →
  wpAny (model X.prog X.w) X.A (call f us) (EP X pins σ Q) X.xe s
def tOp (r:R2) (ta tb:TE):TE:=fun σ H Q=>ta σ H fun x H1=>tb σ H1 fun y H2=>r x y H2 Q
def tUn (r:V→Hp→VK→Prop) (ta:TE):TE:=fun σ H Q=>ta σ H fun x H1=>r x H1 Q
def rI (C:Int→Int→Prop) (g:Int→Int→V):R2:=fun x y H Q => ∃ i j,x=.int i∧y=.int j∧C i j∧Q (g i j) H
def rI0 (g:Int→Int→V):R2:=fun x y H Q => ∃ i j,x=.int i∧y=.int j∧Q (g i j) H
def rU (g:Int→V):V→Hp→VK→Prop:=fun x H Q => ∃ i,x=.int i∧Q (g i) H
section
variable {X:Cx} {a b c:Expr} {ta tb tc:TE} {pos:Pos}
theorem binT (ha:PE X a ta) (hb:PE X b tb) {pins:PN_} {s:Shared} {σ:St} {H:Hp} {R:V→V→Hp→Prop} (I:Inv X pins σ H s)
  (h:ta σ H fun x H1=>tb σ H1 fun y H2=>R x y H2) {Q:SV_} {f:Value→Value→Sem Value}
  (hf:∀ v u s2 x y H2,Inv X pins σ H2 s2→RelV x v→RelV y u→R x y H2→wpAny (model X.prog X.w) X.A (f v u) Q X.xe s2) :
  wpAny (model X.prog X.w) X.A (eval a X.env) (fun v s₁=>wpAny (model X.prog X.w) X.A (eval b X.env) (fun u s₂=>wpAny (model X.prog X.w) X.A (f v u) Q X.xe s₂) X.xe s₁) X.xe s:=by
 refine thn (ha pins s σ H _ I h) fun v s1 ⟨x,H1,I1,r1,q1⟩ => ?_
 refine thn (hb pins s1 σ H1 _ I1 q1) fun u s2 ⟨y,H2,I2,r2,q2⟩ => ?_
 exact hf v u s2 x y H2 I2 r1 r2 q2
theorem pe_op {op:Operator} {r:R2} (ho:OpR X (binaryOp op) r) (ha:PE X a ta) (hb:PE X b tb):PE X (.BinOp a op b pos) (tOp r ta tb):=by
 intro pins s σ H Q I h
 exact wpAny_BinOp (binT ha hb I h fun v u s2 x y H2 I2 rx ry q=>ho pins s2 σ H2 x y v u Q I2 rx ry q)
theorem pe_un {op:UnaryOp} {r:V→Hp→VK→Prop} (ho:UnR X (unaryOp op) r) (ha:PE X a ta):PE X (.UnaryOp op a pos) (tUn r ta):=by
 intro pins s σ H Q I h
 exact UnaryOp_ (thn (ha pins s σ H _ I h) fun v s1 ⟨x,H1,I1,r1,q1⟩=>ho pins s1 σ H1 x v Q I1 r1 q1)
theorem opI {f:Value→Value→Sem Value} {C:Int→Int→Prop} {g:Int→Int→Int}
  (rule:∀ (i j:Int) (t u:Tok) (s:Shared) (Q:SV_) (E:SV_),C i j→Q (.int (g i j) s.toks) { s with toks:=s.toks + 1 }→wpAny (model X.prog X.w) X.A (f (.int i t) (.int j u)) Q E s) :
  OpR X f (rI C fun i j=>.int (g i j)):=by
 intro pins s σ H x y v u Q I rx ry h
 obtain ⟨i,j,rfl,rfl,hc,q⟩:=h
 obtain ⟨t,rfl⟩:=rx
 obtain ⟨t',rfl⟩:=ry
 exact rule i j t t' s _ _ hc ⟨.int (g i j),H,I.tok _,⟨_,rfl⟩,q⟩
theorem opI0 {f:Value→Value→Sem Value} {g:Int→Int→Int}
  (rule:∀ (i j:Int) (t u:Tok) (s:Shared) (Q:SV_) (E:SV_),Q (.int (g i j) s.toks) { s with toks:=s.toks + 1 }→wpAny (model X.prog X.w) X.A (f (.int i t) (.int j u)) Q E s) :
  OpR X f (rI0 fun i j=>.int (g i j)):=by
 intro pins s σ H x y v u Q I rx ry h
 obtain ⟨i,j,rfl,rfl,q⟩:=h
 obtain ⟨t,rfl⟩:=rx
 obtain ⟨t',rfl⟩:=ry
 exact rule i j t t' s _ _ ⟨.int (g i j),H,I.tok _,⟨_,rfl⟩,q⟩
theorem opB0 {f:Value→Value→Sem Value} {g:Int→Int→Bool}
  (rule:∀ (i j:Int) (t u:Tok) (s:Shared) (Q:SV_) (E:SV_),Q (.bool (g i j)) s→wpAny (model X.prog X.w) X.A (f (.int i t) (.int j u)) Q E s) :
  OpR X f (rI0 fun i j=>.bl (g i j)):=by
 intro pins s σ H x y v u Q I rx ry h
 obtain ⟨i,j,rfl,rfl,q⟩:=h
 obtain ⟨t,rfl⟩:=rx
 obtain ⟨t',rfl⟩:=ry
 exact rule i j t t' s _ _ ⟨.bl (g i j),H,I,rfl,q⟩
def CPow (i j:Int):Prop:=0≤j∧j≤1000000∧i.natAbs < 2 ^ 64
def CMul (i j:Int):Prop:=(-(2 ^ 64) < i∧i < 2 ^ 64)∨(-(2 ^ 64) < j∧j < 2 ^ 64)
theorem CMul.ok {i j:Int} (h:CMul i j):IntMulOk i j:=by
 rcases h with ⟨h1,h2⟩ | ⟨h1,h2⟩
 ·exact .of_left (intBits_le_64 h1 h2)
 ·exact .of_right (intBits_le_64 h1 h2)
theorem op_add:OpR X (binaryOp .Add) (rI0 fun i j=>.int (i + j)):=opI0 fun _ _ _ _ _ _ _ q=>add_int q
theorem op_sub:OpR X (binaryOp .Sub) (rI0 fun i j=>.int (i - j)):=opI0 fun _ _ _ _ _ _ _ q=>sub_int q
theorem op_mod:OpR X (binaryOp .Mod) (rI (fun _ j=>0 < j) fun i j=>.int (i % j)):=opI fun i j _ _ _ _ _ hc q=>by
 have h1:(0:Int) < j:=hc
 exact mod_int' (by omega) (by rw [Int.fmod_eq_emod_of_nonneg i (by omega)]; exact q)
theorem op_pow:OpR X (binaryOp .Pow) (rI CPow fun i j=>.int (i ^ j.toNat)):=opI fun _ _ _ _ _ _ _ hc q=>pow_int_small hc.1 hc.2.1 hc.2.2 q
theorem unI {f:Value→Sem Value} {g:Int→Int}
  (rule:∀ (i:Int) (t:Tok) (s:Shared) (Q:SV_) (E:SV_),Q (.int (g i) s.toks) { s with toks:=s.toks + 1 }→wpAny (model X.prog X.w) X.A (f (.int i t)) Q E s) :
  UnR X f (rU fun i=>.int (g i)):=by
 intro pins s σ H x v Q I rx h
 obtain ⟨i,rfl,q⟩:=h
 obtain ⟨t,rfl⟩:=rx
 exact rule i t s _ _ ⟨.int (g i),H,I.tok _,⟨_,rfl⟩,q⟩
theorem un_neg:UnR X (unaryOp .USub) (rU fun i=>.int (-i)):=unI fun _ _ _ _ _ q=>neg_int q
end
def scal:V→V→Bool
 | .non,.non=>true | .non,.int _=>true | .int _,.non=>true | .non,.bl _=>true | .bl _,.non=>true | .non,.str _=>true | .str _,.non=>true
 | .int _,.int _=>true | .bl _,.bl _=>true | .str _,.str _=>true | .byt _,.byt _=>true
 | .int _,.str _=>true | .str _,.int _=>true | .bl _,.str _=>true | .str _,.bl _=>true
 | _,_=>false
def rEq:R2:=fun x y H Q=>scal x y=true∧Q (.bl (decide (x=y))) H
def rNe:R2:=fun x y H Q=>scal x y=true∧Q (.bl (!decide (x=y))) H
theorem dec_int {i j:Int}:decide (V.int i=V.int j)=(i == j):=by
 rw [Bool.eq_iff_iff]
 simp
theorem dec_bl {i j:Bool}:decide (V.bl i=V.bl j)=(i == j):=by
 rw [Bool.eq_iff_iff]
 simp
theorem dec_str {i j:Str}:decide (V.str i=V.str j)=(i == j):=by
 rw [Bool.eq_iff_iff]
 simp
theorem dec_byt {i j:Array UInt8}:decide (V.byt i=V.byt j)=(i.toList == j.toList):=by
 rw [Bool.eq_iff_iff]
 cases i
 cases j
 simp
section
variable {X:Cx} {a b c:Expr} {ta tb tc:TE} {pos:Pos}
theorem bn_ {pins:PN_} {σ:St} {H:Hp} {s:Shared} {Q:VK} {k k':Bool} (I:Inv X pins σ H s) (q:Q (.bl k) H) (e:k=k'):EP X pins σ Q (.bool k') s:=by
 subst e
 exact ⟨.bl k,H,I,rfl,q⟩
theorem op_eq:OpR X (compareOp .Eq) rEq:=by
 intro pins s σ H x y v u Q I rx ry h
 obtain ⟨hs,q⟩:=h
 cases x with
 | non =>
  cases rx
  cases y with
  | non=>cases ry; exact PySem.EqNone.eq_none_none (bn_ I q (by simp))
  | bl j=>cases ry; exact PySem.EqNone.eq_none_bool (bn_ I q (by simp))
  | int j=>obtain ⟨t',rfl⟩:=ry; exact PySem.EqNone.eq_none_int (bn_ I q (by simp))
  | str j=>obtain ⟨t',rfl⟩:=ry; exact PySem.EqNone.eq_none_str (bn_ I q (by simp))
  | _=>exact absurd (show false=true from hs) Bool.false_ne_true
 | bl i =>
  cases rx
  cases y with
  | non=>cases ry; exact PySem.EqNone.eq_bool_none (bn_ I q (by simp))
  | bl j=>cases ry; exact eq_bool (bn_ I q dec_bl)
  | str j=>obtain ⟨t',rfl⟩:=ry; exact PySem.EqMixed.eq_bool_str (bn_ I q (by simp))
  | _=>exact absurd (show false=true from hs) Bool.false_ne_true
 | int i =>
  obtain ⟨t,rfl⟩:=rx
  cases y with
  | non=>cases ry; exact PySem.EqNone.eq_int_none (bn_ I q (by simp))
  | int j=>obtain ⟨t',rfl⟩:=ry; exact eq_int (bn_ I q dec_int)
  | str j=>obtain ⟨t',rfl⟩:=ry; exact PySem.EqMixed.eq_int_str (bn_ I q (by simp))
  | _=>exact absurd (show false=true from hs) Bool.false_ne_true
 | str i =>
  obtain ⟨t,rfl⟩:=rx
  cases y with
  | non=>cases ry; exact PySem.EqNone.eq_str_none (bn_ I q (by simp))
  | bl j=>cases ry; exact PySem.EqMixed.eq_str_bool (bn_ I q (by simp))
  | int j=>obtain ⟨t',rfl⟩:=ry; exact PySem.EqMixed.eq_str_int (bn_ I q (by simp))
  | str j=>obtain ⟨t',rfl⟩:=ry; exact eq_str (bn_ I q dec_str)
  | _=>exact absurd (show false=true from hs) Bool.false_ne_true
 | byt i =>
  obtain ⟨t,rfl⟩:=rx
  cases y with
  | byt j=>obtain ⟨t',rfl⟩:=ry; exact PySem.W.eq_bytes (bn_ I q dec_byt)
  | _=>exact absurd (show false=true from hs) Bool.false_ne_true
 | _=>cases y <;> exact absurd (show false=true from hs) Bool.false_ne_true
theorem op_ne:OpR X (compareOp .NotEq) rNe:=by
 intro pins s σ H x y v u Q I rx ry h
 obtain ⟨hs,q⟩:=h
 cases x with
 | non =>
  cases rx
  cases y with
  | non=>cases ry; exact PySem.EqNone.ne_none_none (bn_ I q (by simp))
  | bl j=>cases ry; exact PySem.EqNone.ne_none_bool (bn_ I q (by simp))
  | int j=>obtain ⟨t',rfl⟩:=ry; exact PySem.EqNone.ne_none_int (bn_ I q (by simp))
  | str j=>obtain ⟨t',rfl⟩:=ry; exact PySem.EqNone.ne_none_str (bn_ I q (by simp))
  | _=>exact absurd (show false=true from hs) Bool.false_ne_true
 | bl i =>
  cases rx
  cases y with
  | non=>cases ry; exact PySem.EqNone.ne_bool_none (bn_ I q (by simp))
  | bl j=>cases ry; exact ne_bool (bn_ I q (congrArg not dec_bl))
  | str j=>obtain ⟨t',rfl⟩:=ry; exact PySem.EqMixed.ne_bool_str (bn_ I q (by simp))
  | _=>exact absurd (show false=true from hs) Bool.false_ne_true
 | int i =>
  obtain ⟨t,rfl⟩:=rx
  cases y with
  | non=>cases ry; exact PySem.EqNone.ne_int_none (bn_ I q (by simp))
  | int j=>obtain ⟨t',rfl⟩:=ry; exact ne_int (bn_ I q (congrArg not dec_int))
  | str j=>obtain ⟨t',rfl⟩:=ry; exact PySem.EqMixed.ne_int_str (bn_ I q (by simp))
  | _=>exact absurd (show false=true from hs) Bool.false_ne_true
 | str i =>
  obtain ⟨t,rfl⟩:=rx
  cases y with
  | non=>cases ry; exact PySem.EqNone.ne_str_none (bn_ I q (by simp))
  | bl j=>cases ry; exact PySem.EqMixed.ne_str_bool (bn_ I q (by simp))
  | int j=>obtain ⟨t',rfl⟩:=ry; exact PySem.EqMixed.ne_str_int (bn_ I q (by simp))
  | str j=>obtain ⟨t',rfl⟩:=ry; exact ne_str (bn_ I q (congrArg not dec_str))
  | _=>exact absurd (show false=true from hs) Bool.false_ne_true
 | byt i =>
  obtain ⟨t,rfl⟩:=rx
  cases y with
  | byt j=>obtain ⟨t',rfl⟩:=ry; exact PySem.W.ne_bytes (bn_ I q (congrArg not dec_byt))
  | _=>exact absurd (show false=true from hs) Bool.false_ne_true
 | _=>cases y <;> exact absurd (show false=true from hs) Bool.false_ne_true
theorem op_lt:OpR X (compareOp .Lt) (rI0 fun i j=>.bl (decide (i < j))):=opB0 fun _ _ _ _ _ _ _ q=>lt_int q
theorem op_le:OpR X (compareOp .LtE) (rI0 fun i j=>.bl (decide (i≤j))):=opB0 fun _ _ _ _ _ _ _ q=>le_int q
theorem op_gt:OpR X (compareOp .Gt) (rI0 fun i j=>.bl (decide (j < i))):=opB0 fun _ _ _ _ _ _ _ q=>gt_int q
theorem op_ge:OpR X (compareOp .GtE) (rI0 fun i j=>.bl (decide (j≤i))):=opB0 fun _ _ _ _ _ _ _ q=>ge_int q
theorem op_in_str:OpR X (compareOp .In) (fun x y H Q => ∃ i j,x=.str i∧y=.str j∧Q (.bl (!(Builtin.Str.occurrences j i 0 j.length 1).isEmpty)) H):=by
 intro pins s σ H x y v u Q I rx ry h
 obtain ⟨i,j,rfl,rfl,q⟩:=h
 obtain ⟨t,rfl⟩:=rx
 obtain ⟨t',rfl⟩:=ry
 exact in_str (bn_ I q rfl)
theorem OpR.or {f:Value→Value→Sem Value} {r r':R2} (h:OpR X f r) (h':OpR X f r'):OpR X f (fun x y H Q=>r x y H Q∨r' x y H Q):=by
 intro pins s σ H x y v u Q I rx ry q
 rcases q with q | q
 ·exact h pins s σ H x y v u Q I rx ry q
 ·exact h' pins s σ H x y v u Q I rx ry q
theorem nomark (b:Expr) {op:CmpOp} (h:op ≠ .In:=by decide) (h2:op ≠ .NotIn:=by decide):behindInMarks op b=false:=by
 have e1:(op == CmpOp.In)=false:=by cases op <;> first | rfl | exact absurd rfl h
 have e2:(op == CmpOp.NotIn)=false:=by cases op <;> first | rfl | exact absurd rfl h2
 cases b <;> simp [behindInMarks,e1,e2]
theorem pe_cmpR {op:CmpOp} {r:R2} (ho:OpR X (compareOp op) r) (ha:PE X a ta) (hb:PE X b tb) (hm:behindInMarks op b=false):PE X (.Compare a [op] [b] pos) (tOp r ta tb):=by
 intro pins s σ H Q I h
 exact wpAny_Compare1 (binT ha hb I h fun v u s2 x y H2 I2 rx ry q=>ho pins s2 σ H2 x y v u Q I2 rx ry q) hm
def tTest (t:TE):TT:=fun σ H Q=>t σ H fun x H' => ∃ k,x=.bl k∧Q k H'
theorem pt_cmpR {op:CmpOp} {r:R2} (ho:OpR X (compareOp op) r) (ha:PE X a ta) (hb:PE X b tb) (hm:behindInMarks op b=false):PT X (.Compare a [op] [b] pos) (tTest (tOp r ta tb)):=by
 intro pins s σ H Q I h
 refine wpAny_isTrue_Compare1 (thn (ha pins s σ H _ I h) fun v s1 ⟨x,H1,I1,r1,q1⟩=>thn (hb pins s1 σ H1 _ I1 q1) fun u s2 ⟨y,H2,I2,r2,q2⟩ =>
  thn (ho pins s2 σ H2 x y v u _ I2 r1 r2 q2) fun c s3 ⟨z,H3,I3,r3,k,e,q3⟩ => ?_) hm
 subst e
 cases r3
 exact wpAny_truthy_bool ⟨H3,I3,q3⟩
def tChain (r r':R2) (ta tb tc:TE):TE:=fun σ H Q=>ta σ H fun x H1=>tb σ H1 fun y H2=>r x y H2 fun z H3 => ∃ k,z=.bl k ∧
 (if k=true then tc σ H3 fun w' H4=>r' y w' H4 Q else Q (.bl false) H3)
theorem pt_chain {op op':CmpOp} {r r':R2} (ho:OpR X (compareOp op) r) (ho':OpR X (compareOp op') r') (ha:PE X a ta) (hb:PE X b tb) (hc:PE X c tc)
  (hm:lastMarks [op,op'] [b,c]=false:=by with_unfolding_all rfl):PT X (.Compare a [op,op'] [b,c] pos) (tTest (tChain r r' ta tb tc)):=by
 intro pins s σ H Q I h
 refine isTrue_chain (thn (ha pins s σ H _ I h) fun v s1 ⟨x,H1,I1,r1,q1⟩=>test_link (thn (hb pins s1 σ H1 _ I1 q1) fun u s2 ⟨y,H2,I2,r2,q2⟩ =>
  thn (ho pins s2 σ H2 x y v u _ I2 r1 r2 q2) fun d s3 ⟨z,H3,I3,r3,k,e,q3⟩ => ?_)) hm
 subst e
 cases r3
 refine wpAny_truthy_bool ?_
 cases k with
 | false =>
  obtain ⟨k',e',q'⟩:=q3
  cases e'
  exact ite_ff ⟨H3,I3,q'⟩
 | true =>
  refine ite_tt (test_last (thn (hc pins s3 σ H3 _ I3 q3) fun w' s4 ⟨z',H4,I4,r4,q4⟩=>thn (ho' pins s4 σ H4 y z' u w' _ I4 r2 r4 q4) fun d' s5 ⟨z2,H5,I5,r5,k2,e2,q5⟩ => ?_))
  subst e2
  cases r5
  exact wpAny_truthy_bool ⟨H5,I5,q5⟩
theorem line63:(sizeLine:Nat) < 2 ^ 63:=by rw [sizeLine_eq]; decide
theorem op_add_str:OpR X (binaryOp .Add) (fun x y H Q => ∃ i j,x=.str i∧y=.str j∧i.length + j.length≤sizeLine∧Q (.str (i ++ j)) H):=by
 intro pins s σ H x y v u Q I rx ry h
 obtain ⟨i,j,rfl,rfl,hz,q⟩:=h
 obtain ⟨t,rfl⟩:=rx
 obtain ⟨t',rfl⟩:=ry
 exact add_str (fun t' tk=>⟨.str (i ++ j),H,I.tok _,⟨_,rfl⟩,q⟩) hz
theorem vals1 {x:V} {us:List Value} (r:Vals [x] us):∃ u,us=[u]∧RelV x u:=by
 cases r with
 | cons r1 r2=>cases r2; exact ⟨_,rfl,r1⟩
theorem vals2 {x y:V} {us:List Value} (r:Vals [x,y] us):∃ u w',us=[u,w']∧RelV x u∧RelV y w':=by
 cases r with
 | cons r1 r2 =>
  cases r2 with
  | cons r3 r4=>cases r4; exact ⟨_,_,rfl,r1,r3⟩
theorem call_max2 (hc:X.calm=true):CallR X (.builtin "max") (fun xs H Q => ∃ i j,xs=[.int i,.int j]∧Q (.int (if j > i then j else i)) H):=by
 intro pins s σ H xs us Q I r h
 obtain ⟨i,j,rfl,q⟩:=h
 obtain ⟨u,w',rfl,⟨t,rfl⟩,⟨t',rfl⟩⟩:=vals2 r
 refine max_two_ints (I.ok.hd hc) fun h' tk k=>⟨_,H,I.kept k,?_,q⟩
 by_cases hj:j > i
 ·rw [if_pos hj,if_pos hj]; exact ⟨_,rfl⟩
 ·rw [if_neg hj,if_neg hj]; exact ⟨_,rfl⟩
theorem call_min2 (hc:X.calm=true):CallR X (.builtin "min") (fun xs H Q => ∃ i j,xs=[.int i,.int j]∧Q (.int (if j < i then j else i)) H):=by
 intro pins s σ H xs us Q I r h
 obtain ⟨i,j,rfl,q⟩:=h
 obtain ⟨u,w',rfl,⟨t,rfl⟩,⟨t',rfl⟩⟩:=vals2 r
 refine min_two_ints (I.ok.hd hc) fun h' tk k=>⟨_,H,I.kept k,?_,q⟩
 by_cases hj:j < i
 ·rw [if_pos hj,if_pos hj]; exact ⟨_,rfl⟩
 ·rw [if_neg hj,if_neg hj]; exact ⟨_,rfl⟩
theorem call_int1:CallR X (.type "int") (fun xs H Q=>(∃ i,xs=[.int i]∧Q (.int i) H)∨∃ k,xs=[.bl k]∧Q (.int (if k then 1 else 0)) H):=by
 intro pins s σ H xs us Q I r h
 rcases h with ⟨i,rfl,q⟩ | ⟨k,rfl,q⟩
 ·obtain ⟨u,rfl,t,rfl⟩:=vals1 r
  exact call_int_int ⟨.int i,H,I,⟨_,rfl⟩,q⟩
 ·obtain ⟨u,rfl,r1⟩:=vals1 r
  cases r1
  exact call_int_bool ⟨.int (if k then 1 else 0),H,I.tok _,⟨_,rfl⟩,q⟩
end
structure ObjM (h:Heap) (x dx C:Addr) (mA:MG_):Prop where
 obj:h.get? x=some (PySem.W.instObj C dx)
 ns:h.Ns1 dx mA
 ne:dx≠x
theorem lookIn_ns {h:Heap} {dx:Addr} {mA:MG_} (n:h.Ns1 dx mA):∃ od,h.get? dx=some od∧∀ name,PySem.W.lookIn name od=some (mA name):=by
 obtain ⟨o,es,ep,ho,hd,hk,_,hm⟩:=n
 refine ⟨o,ho,fun name => ?_⟩
 have e:=hm name
 unfold nsFind findBy at e
 rw [← Array.find?_toList] at e
 unfold PySem.W.lookIn
 rw [hd]
 dsimp only
 split
 ·rename_i y q
  rw [q] at e
  exact congrArg some e
 ·rename_i q
  rw [q] at e
  have a:es.toList.any (·.refKey)=false:=by
   rw [List.any_eq_false]
   intro y hy
   obtain ⟨z,t,hkey⟩:=hk y (Array.mem_toList_iff.mp hy)
   simp [DictEntry.refKey,hkey]
  have a':¬ es.toList.any (·.refKey)=true:=by rw [a]; exact Bool.false_ne_true
  rw [if_neg a']
  exact congrArg some e
theorem ObjM.look {h:Heap} {x dx C:Addr} {mA:MG_} (I:ObjM h x dx C mA):∃ od,PySem.W.InstAt h x (PySem.W.instObj C dx) C (some od)∧∀ name,PySem.W.lookIn name od=some (mA name) :=
 let ⟨od,ho,hl⟩:=lookIn_ns I.ns
 ⟨od,⟨I.obj,rfl,rfl,ho⟩,hl⟩
section
variable {prog:Program} {w:World} {A:Around} {E:SV_} {s:Shared} {K:FG_} {x dx C f:Addr} {mA:MG_} {name:Str} {v:Value}
theorem get_map {expr:Bool} {Q:SV_} (X:K.In s.heap) (I:ObjM s.heap x dx C mA) (hg:PySem.W.plainGet K C name=true) (hh:PySem.W.hasDictIn K C=true)
  (ha:PySem.W.findIn K (.ref C) name=some none) (hv:mA name=some v) (hv':PySem.W.handedIn v=true) (h:Q v { s with toks:=s.toks + 1 }) :
  wpAny (model prog w) A (getAttr (.ref x) name expr) Q E s:=by
 obtain ⟨od,J,hl⟩:=I.look
 exact PySem.W.get_value X J (PySem.W.plainGet_of hg).1 (PySem.W.findObj_own hh ha rfl (by rw [hl,hv])) hv' h
theorem get_meth {pl:Sem Bool} {Q:Value×List Value→Shared→Prop} (X:K.In s.heap) (I:ObjM s.heap x dx C mA) (hg:PySem.W.plainGet K C name=true)
  (hf:PySem.W.findIn K (.ref C) name=some (some (.ref f))) (ht:PySem.W.isFn K (.ref f)=true) (hv:mA name=none) (h:Q (.ref f,[.ref x]) s) :
  wpAny (model prog w) A (getMethod (.ref x) name pl) Q E s:=by
 obtain ⟨od,J,hl⟩:=I.look
 exact PySem.W.method_fn X J (PySem.W.plainGet_of hg).1 (PySem.W.plainGet_of hg).2 hf (beq_iff_eq.mp ht) (by show (PySem.W.lookIn name od).map (·.isSome)=some false; rw [hl,hv]; rfl) h
theorem set_map {ns:List Str} {Q:Unit→Shared→Prop} (X:K.In s.heap) (I:ObjM s.heap x dx C mA)
  (hs:PySem.W.findIn K (.ref C) "__setattr__" = some (some (.builtin "object.__setattr__"))) (hp:PySem.W.plainOver K C=true) (ht:PySem.W.takerIn K C name=some none) (hh:PySem.W.hasDictIn K C=true)
  (hw:PySem.Within mA ns) (hsz:ns.length≤sizeLine)
  (h:∀ h',ObjM h' x dx C (fun y=>if y=name then some v else mA y)→Heap.SameBut dx s.heap h'→Q () { s with heap:=h',toks:=s.toks + 2 }) :
  wpAny (model prog w) A (setAttr (.ref x) name v) Q E s:=by
 obtain ⟨od,J,hl⟩:=I.look
 refine PySem.W.set_plain X J hs (PySem.W.osa_open (s:={ s with toks:=s.toks + 1 }) (r:=none) X J hp ht fun b => ?_)
 obtain ⟨cd,hc,hd'⟩:=PySem.W.any_some hh
 have hx:s.heap.get? x=some ⟨.ref C,some dx,.plain,#[]⟩:=I.obj
 refine wpAny_bind (wpAny_pure (wpAny_bind (wpAny_bind (wpAny_loadPart hx (wpAny_bind (PySem.W.Looks.here (s:={ s with toks:=s.toks + 1 }) (PySem.W.looks_clsIn X hc) ?_))))))
 rw [hd']
 refine wpAny_pure (a:=some dx) (wpAny_bind (wpAny_pure (wpAny_bind ?_)))
 refine wpAny_nsSet1 (s:={ s with toks:=s.toks + 1 }) I.ns fun h' hn2 hs2 => ?_
 obtain ⟨oD,esD,epD,hoD,hdD,hcD⟩:=hn2.count (PySem.Within.cons name v hw)
 refine wpAny_bind (wpAny_lookBehind hoD (by rw [hdD]; exact pastItsLine_dict (Nat.le_trans hcD (by rw [List.length_cons]; omega))) ?_)
 exact wpAny_pure (h _ ⟨(hs2.2 _ (Ne.symm I.ne)).trans I.obj,hn2,I.ne⟩ hs2)
theorem make_map {R:Result→Shared→Prop} {vs:List Value} {kw:List (Str×Value)} (X:K.In s.heap) (hm:PySem.W.makesIn K C=true)
  (hi:PySem.W.findIn K (.ref C) "__init__" = some (some (.ref f))) (hf:PySem.W.typeIn K (.ref f)=some (.type "function"))
  (h:codeAny (model prog w) (A.under (.builtin "type.__call__" ⟨.ref C :: vs,kw⟩)) (.call (.ref f) ⟨.ref (s.heap.objs.size + 1) :: vs,kw⟩) (PySem.W.InitBack (s.heap.objs.size + 1) R)
   { s with heap:=(s.heap.push PySem.W.emptyDict).push (PySem.W.instObj C s.heap.objs.size) }) :
  codeAny (model prog w) A (.call (.ref C) ⟨vs,kw⟩) R s:=by
 obtain ⟨hh,g,d,t,os⟩:=s
 exact PySem.W.make_core (PySem.W.makes_of X hm) (PySem.W.looks_findIn X hi) (fun self=>PySem.W.bind_fn X self hf) (.inl rfl) h
end
def putF (f:Str) (v:V):List (Str×V)→List (Str×V)
 | []=>[(f,v)]
 | (g,x) :: r=>if g=f then (g,v) :: r else (g,x) :: putF f v r
theorem id_ (f g:Str) (v:V):∀ fs:List (Str×V),(putF f v fs).lookup g=if g=f then some v else fs.lookup g
 | []=>by
  show List.lookup g [(f,v)]=_
  by_cases h:g=f
  ·have hb:(g == f)=true:=beq_iff_eq.mpr h
   simp only [List.lookup,hb,if_pos h]
  ·have hb:(g == f)=false:=beq_eq_false_iff_ne.mpr h
   simp only [List.lookup,hb,if_neg h]
 | (k,x) :: r=>by
  have ih:=id_ f g v r
  rw [show putF f v ((k,x) :: r)=(if k=f then (k,v) :: r else (k,x) :: putF f v r) from rfl]
  by_cases hk:k=f
  ·rw [if_pos hk]
   by_cases h:g=k
   ·have hb:(g == k)=true:=beq_iff_eq.mpr h
    simp only [List.lookup,hb,if_pos (h.trans hk)]
   ·have hb:(g == k)=false:=beq_eq_false_iff_ne.mpr h
    simp only [List.lookup,hb,if_neg (fun e:g=f=>h (e.trans hk.symm))]
  ·rw [if_neg hk]
   by_cases h:g=k
   ·have hb:(g == k)=true:=beq_iff_eq.mpr h
    simp only [List.lookup,hb,if_neg (fun e:g=f=>hk (h.symm.trans e))]
   ·have hb:(g == k)=false:=beq_eq_false_iff_ne.mpr h
    simp only [List.lookup,hb]
    exact ih
theorem ig_ (f:Str) (v:V):∀ fs:List (Str×V),f∈(putF f v fs).map (·.1)∧∀ g,g∈fs.map (·.1)→g∈(putF f v fs).map (·.1)
 | []=>⟨by simp [putF],fun g h=>by simp at h⟩
 | (k,x) :: r=>by
  obtain ⟨i1,i2⟩:=ig_ f v r
  rw [show putF f v ((k,x) :: r)=(if k=f then (k,v) :: r else (k,x) :: putF f v r) from rfl]
  by_cases hk:k=f
  ·rw [if_pos hk]
   subst hk
   exact ⟨by simp,fun g h=>by simpa using h⟩
  ·rw [if_neg hk]
   refine ⟨?_,fun g h => ?_⟩
   ·rw [List.map_cons]
    exact List.mem_cons_of_mem _ i1
   ·rw [List.map_cons] at h ⊢
    rcases List.mem_cons.mp h with e | e
    ·exact List.mem_cons.mpr (.inl e)
    ·exact List.mem_cons_of_mem _ (i2 g e)
theorem if_ (f:Str) (v:V):∀ fs:List (Str×V),(putF f v fs).length≤fs.length + 1
 | []=>by simp [putF]
 | (k,x) :: r=>by
  have ih:=if_ f v r
  rw [show putF f v ((k,x) :: r)=(if k=f then (k,v) :: r else (k,x) :: putF f v r) from rfl]
  by_cases hk:k=f
  ·rw [if_pos hk,List.length_cons,List.length_cons]; omega
  ·rw [if_neg hk,List.length_cons,List.length_cons]; omega
theorem RelO.some_of {v:V} {o:Option Value} (r:RelO (some v) o):∃ u,o=some u∧RelV v u:=by
 cases o with
 | none=>exact (show False from r).elim
 | some u=>exact ⟨u,rfl,r⟩
theorem RelO.none_of {o:Option Value} (r:RelO none o):o=none:=by
 cases o with
 | none=>rfl
 | some u=>exact (show False from r).elim
theorem handed_of {v:V} {u:Value} (r:RelV v u):PySem.W.handedIn u=true:=by
 cases v with
 | non=>cases (show u=Value.none from r); rfl
 | bl b=>cases (show u=Value.bool b from r); rfl
 | int i=>obtain ⟨t,e⟩:=(show ∃ t,u=Value.int i t from r); cases e; rfl
 | str x=>obtain ⟨t,e⟩:=(show ∃ t,u=Value.str x t from r); cases e; rfl
 | byt b=>obtain ⟨t,e⟩:=(show ∃ t,u=Value.bytes b t from r); cases e; rfl
 | flt b=>obtain ⟨t,e⟩:=(show ∃ t,u=Value.float b t from r); cases e; rfl
 | ref a=>cases (show u=Value.ref a from r); rfl
 | ty n=>cases (show u=Value.type n from r); rfl
section
variable {P:Program} {w:World} {H H':Hp} {h h':Heap} {a C dx:Addr} {fs fs':List (Str×V)}
theorem ins_get (hok:HOk P w H h) (e:H a=some (.ins C dx fs)):∃ mA,ObjM h a dx C mA∧(∀ f,RelO (fs.lookup f) (mA f))∧PySem.Within mA (fs.map (·.1))∧fs.length≤1000∧H dx=some (.own a):=by
 obtain ⟨d,z,ne,ob,mA,n,r,q⟩:=(show ObjOk P w H h a (.ins C dx fs) from hok a _ e)
 exact ⟨mA,⟨ob,n,ne⟩,r,q,z,d⟩
end
structure Cls (K:FG_) (C:Addr):Prop where
 pg:PySem.W.plainGet K C Str.empty=true
 hd:PySem.W.hasDictIn K C=true
 po:PySem.W.plainOver K C=true
 sa:PySem.W.findIn K (.ref C) "__setattr__" = some (some (.builtin "object.__setattr__"))
theorem Cls.get {K:FG_} {C:Addr} (c:Cls K C) (f:Str):PySem.W.plainGet K C f=true:=c.pg
def NoAttr (K:FG_) (C:Addr) (f:Str):Prop:=PySem.W.findIn K (.ref C) f=some none
theorem NoAttr.taker {K:FG_} {C:Addr} {f:Str} (n:NoAttr K C f):PySem.W.takerIn K C f=some none:=by
 unfold PySem.W.takerIn
 rw [show PySem.W.findIn K (.ref C) f=some none from n]
 rfl
structure Meth (K:FG_) (C:Addr) (m:Str) (f:Addr):Prop where
 at_:PySem.W.findIn K (.ref C) m=some (some (.ref f))
 fn:PySem.W.isFn K (.ref f)=true
 kp:PySem.W.keepIn K (.ref f)=true
section
variable {X:Cx} {pins:PN_} {σ:St} {H:Hp} {s:Shared} {a C dx:Addr} {fs:List (Str×V)} {f:Str} {v:V} {A:Around} {E:SV_}
theorem getattr_ok {b:Bool} {Q:SV_} (I:Inv X pins σ H s) (e:H a=some (.ins C dx fs)) (c:Cls X.K C) (n:NoAttr X.K C f) (l:fs.lookup f=some v)
  (h:∀ u s',Inv X pins σ H s'→RelV v u→Q u s'):wpAny (model X.prog X.w) A (getAttr (.ref a) f b) Q E s:=by
 obtain ⟨mA,O,r,_,_,_⟩:=ins_get I.hok e
 obtain ⟨u,hu,ru⟩:=RelO.some_of (v:=v) (o:=mA f) (by rw [← l]; exact r f)
 exact get_map I.kIn O (c.get f) c.hd n hu (handed_of ru) (h u _ (I.tok _) ru)
theorem getmeth_ok {m:Str} {g:Addr} {pl:Sem Bool} {Q:Value×List Value→Shared→Prop} (I:Inv X pins σ H s) (e:H a=some (.ins C dx fs)) (c:Cls X.K C) (k:Meth X.K C m g) (l:fs.lookup m=none)
  (h:Q (.ref g,[.ref a]) s):wpAny (model X.prog X.w) A (getMethod (.ref a) m pl) Q E s:=by
 obtain ⟨mA,O,r,_,_,_⟩:=ins_get I.hok e
 have hn:mA m=none:=RelO.none_of (by rw [← l]; exact r m)
 exact get_meth I.kIn O (c.get m) k.at_ k.fn hn h
theorem setattr_ok {y:V} {u:Value} {Q:Unit→Shared→Prop} (I:Inv X pins σ H s) (e:H a=some (.ins C dx fs)) (c:Cls X.K C) (n:NoAttr X.K C f) (hl:fs.length < 1000) (ry:RelV y u)
  (h:∀ s',Inv X pins σ (upd H a (.ins C dx (putF f y fs))) s'→Q () s'):wpAny (model X.prog X.w) A (setAttr (.ref a) f u) Q E s:=by
 obtain ⟨mA,O,r,wi,_,ho⟩:=ins_get I.hok e
 have hz:(fs.map (·.1)).length≤sizeLine:=by rw [List.length_map,sizeLine_eq]; omega
 refine set_map I.kIn O c.sa c.po n.taker c.hd wi hz fun h' O' sb=>h _ ?_
 have hd:∃ o,h'.get? dx=some o:=let ⟨o,_,_,e',_⟩:=O'.ns; ⟨o,e'⟩
 refine I.write (x:=a) (e:=dx) (by rw [e]; exact True.intro) (.inr ho) (fun b q hb z=>(sb.2 b hb).trans z) hd ?_
 refine ⟨by rw [ag_ O.ne]; exact ho,?_,O.ne,O'.obj,_,O'.ns,fun g => ?_,fun g hg => ?_⟩
 ·have:=if_ f y fs; omega
 ·show RelO ((putF f y fs).lookup g) (if g=f then some u else mA g)
  rw [id_]
  by_cases q:g=f
  ·rw [if_pos q,if_pos q]; exact ry
  ·rw [if_neg q,if_neg q]; exact r g
 ·by_cases q:g=f
  ·rw [q]; exact (ig_ f y fs).1
  ·refine (ig_ f y fs).2 g (wi g fun z=>hg ?_)
   show (if g=f then some u else mA g)=none
   rw [if_neg q]; exact z
theorem Inv.made (I:Inv X pins σ H s):Inv X pins σ (upd (upd H s.heap.objs.size (.own (s.heap.objs.size + 1))) (s.heap.objs.size + 1) (.ins C s.heap.objs.size []))
  { s with heap:=(s.heap.push PySem.W.emptyDict).push (PySem.W.instObj C s.heap.objs.size) }:=by
 have e1:(s.heap.push PySem.W.emptyDict).get? s.heap.objs.size=some PySem.W.emptyDict:=Heap.get?_push_size s.heap rfl
 have e2:((s.heap.push PySem.W.emptyDict).push (PySem.W.instObj C s.heap.objs.size)).get? (s.heap.objs.size + 1)=some (PySem.W.instObj C s.heap.objs.size):=by
  have:=Heap.get?_push_size (s.heap.push PySem.W.emptyDict) (o:=PySem.W.instObj C s.heap.objs.size) rfl
  rwa [Heap.size_push] at this
 have e3:(s.heap.push PySem.W.emptyDict).Ns s.heap.objs.size (fun _=>none):=⟨PySem.W.emptyDict,#[],_,e1,rfl,(fun e he=>absurd he (by simp)),fun _=>rfl⟩
 have I1:=I.laid (a:=s.heap.objs.size) (o:=.own (s.heap.objs.size + 1)) (h':=s.heap.push PySem.W.emptyDict) (t':=s.toks) (fun b u q=>Heap.get?_push_of_some _ q) (Nat.le_refl _) ⟨_,e1⟩
 refine I1.laid (a:=s.heap.objs.size + 1) (o:=.ins C s.heap.objs.size []) (t':=s.toks) (fun b u q=>Heap.get?_push_of_some _ q) (Nat.le_of_eq (Heap.size_push _ _)) ?_
 have ne:s.heap.objs.size≠s.heap.objs.size + 1:=Nat.ne_of_lt (Nat.lt_succ_self _)
 refine ⟨by rw [ag_ ne,upd_same],Nat.zero_le _,ne,e2,fun _=>none,(Heap.Ns1.of_empty e3).at fun o q=>Heap.get?_push_of_some _ q,fun _=>True.intro,fun y hy=>absurd rfl hy⟩
theorem attr_of {prog:Program} {w:World} {env:Env} {e:Expr} {f:Str} {pos:Pos} {s:Shared} {Q:SV_} (hb:attributeBase e f env (eval e env)=eval e env)
  (h:wpAny (model prog w) A (eval e env) (fun o s₁=>wpAny (model prog w) A (getAttr o f true) Q E s₁) E s):wpAny (model prog w) A (eval (.Attribute e f pos) env) Q E s :=
 Attribute_any_ h (by rw [arm_eval_Attribute,hb])
end
def tFld (K:FG_) (ta:TE) (f:Str):TE:=fun σ H Q=>ta σ H fun x H1 => ∃ a C dx fs v,x=.ref a∧H1 a=some (.ins C dx fs)∧Cls K C∧NoAttr K C f∧fs.lookup f=some v∧Q v H1
def sFld (K:FG_) (ta tv:TE) (f:Str):TS:=fun D σ H=>tv σ H fun y H1=>ta σ H1 fun x H2 => ∃ a C dx fs,x=.ref a∧H2 a=some (.ins C dx fs)∧Cls K C∧NoAttr K C f∧fs.length < 1000 ∧
 D.nx σ (upd H2 a (.ins C dx (putF f y fs)))
section
variable {X:Cx} {o e value:Expr} {f:Str} {pos pos' tpos:Pos} {ta tv:TE}
theorem pe_fld (he:PE X e ta) (hb:attributeBase e f X.env (eval e X.env)=eval e X.env):PE X (.Attribute e f pos) (tFld X.K ta f):=by
 intro pins s σ H Q I h
 refine attr_of hb (thn (he pins s σ H _ I h) fun u s1 ⟨x,H1,I1,rx,a,C,dx,fs,v,ex,ea,c,n,l,q⟩ => ?_)
 subst ex
 obtain rfl:u=Value.ref a:=rx
 exact getattr_ok I1 ea c n l fun u' s2 I2 ru=>⟨v,H1,I2,ru,q⟩
theorem ps_fld (ha:PE X o ta) (hv:PE X value tv) (hs:swapsWith value (some (.Attribute o f pos')) pos.line X.env=pure false):PS X (.Assign [.Attribute o f pos'] value pos) (sFld X.K ta tv f):=by
 intro pins s σ H D I h
 refine plainObj_wpAny_Assign_Attribute (thn (hv pins s σ H _ I h) fun u s1 ⟨y,H1,I1,ry,q⟩=>thn (ha pins s1 σ H1 _ I1 q) fun ov s2 ⟨x,H2,I2,rx,a,C,dx,fs,ex,ea,c,n,l,q2⟩ => ?_) hs
 subst ex
 obtain rfl:ov=Value.ref a:=rx
 exact setattr_ok I2 ea c n l ry fun s3 I3=>⟨σ,_,I3,q2⟩
end
section
variable {X:Cx} {pins:PN_} {σ:St} {H:Hp} {s:Shared} {A:Around} {E:SV_} {Q:SV_} {c:Value} {b:Bool}
inductive TyOf (K:FG_) (H:Hp):V→Value→Prop where
 | non:TyOf K H .non (.type "NoneType")
 | bl (x:Bool):TyOf K H (.bl x) (.type "bool")
 | int (i:Int):TyOf K H (.int i) (.type "int")
 | str (x:Str):TyOf K H (.str x) (.type "str")
 | flt (x:UInt64):TyOf K H (.flt x) (.type "float")
 | lst {a:Addr} {xs:List V} (e:H a=some (.lst xs)):TyOf K H (.ref a) (.type "list")
 | frz {a:Addr} {o:Obj} {xs:List V} (e:H a=some (.frz o (.lst xs))):TyOf K H (.ref a) (.type "list")
 | tup {a:Addr} {xs:List V} (e:H a=some (.tup xs)):TyOf K H (.ref a) (.type "tuple")
 | dK {a:Addr} {kvs:List (Key×V)} (e:H a=some (.dK kvs)):TyOf K H (.ref a) (.type "dict")
 | dT {a:Addr} {kvs:List (List Key×V)} (e:H a=some (.dT kvs)):TyOf K H (.ref a) (.type "dict")
 | ins {a C dx : Addr} {fs : List (Str × V)} (e : H a = some (.ins C dx fs)) (cl : Cls K C) (ha : PySem.W.findIn K (.ref C) "__class__" = some (some (.builtin "object.__class__")))
   (hn:PySem.W.specialIn K (.builtin "object.__class__") "__get__" = some (some (.builtin "getset_descriptor.__get__"))) (htk:PySem.W.takesIn K (.builtin "object.__class__")=some true)
   (hm:PySem.W.mroIn K C (.type "object")=some true):TyOf K H (.ref a) (.ref C)
theorem df_ {x:V} {u t:Value} (I:Inv X pins σ H s) (rx:RelV x u) (ty:TyOf X.K H x t) (e:PySem.W.kitOne X.K t c=some b) (h:∀ tk,Q (.bool b) { s with toks:=tk }) :
  wpAny (model X.prog X.w) A (call (.builtin "isinstance") [u,c]) Q E s:=by
 cases ty with
 | non=>cases (show u=Value.none from rx); exact PySem.W.kia_one PySem.W.kitx_none I.kIn True.intro e (fun z=>nomatch z) h
 | bl y=>cases (show u=Value.bool y from rx); exact PySem.W.kia_one PySem.W.kitx_bool I.kIn True.intro e (fun z=>nomatch z) h
 | int i=>obtain ⟨t,q⟩:=(show ∃ t,u=Value.int i t from rx); cases q; exact PySem.W.kia_one PySem.W.kitx_int I.kIn True.intro e (fun z=>nomatch z) h
 | str y=>obtain ⟨t,q⟩:=(show ∃ t,u=Value.str y t from rx); cases q; exact PySem.W.kia_one PySem.W.kitx_str I.kIn True.intro e (fun z=>nomatch z) h
 | flt y=>obtain ⟨t,q⟩:=(show ∃ t,u=Value.float y t from rx); cases q; exact PySem.W.kia_one PySem.W.kitx_float I.kIn True.intro e (fun z=>nomatch z) h
 | @lst a xs ea =>
  cases (show u=Value.ref a from rx)
  obtain ⟨_,_,n,_,h1⟩:=(show ObjOk X.prog X.w H s.heap a (.lst xs) from I.hok a _ ea)
  exact PySem.W.kia_one PySem.W.kitx_list I.kIn ⟨_,h1,rfl⟩ e (fun z=>nomatch z) h
 | @frz a ob xs ea =>
  cases (show u=Value.ref a from rx)
  obtain ⟨_,_,_,n,_,h1⟩:=(show ObjOk X.prog X.w H s.heap a (.frz ob (.lst xs)) from I.hok a _ ea)
  exact PySem.W.kia_one PySem.W.kitx_list I.kIn ⟨_,h1,rfl⟩ e (fun z=>nomatch z) h
 | @tup a xs ea =>
  cases (show u=Value.ref a from rx)
  obtain ⟨_,_,_,p⟩:=(show ObjOk X.prog X.w H s.heap a (.tup xs) from I.hok a _ ea)
  obtain ⟨o,h1,h2,_⟩:=p
  exact PySem.W.kia_one PySem.W.kitx_tuple I.kIn ⟨o,h1,h2⟩ e (fun z=>nomatch z) h
 | @dK a kvs ea =>
  cases (show u=Value.ref a from rx)
  obtain ⟨_,_,vs,_,p⟩:=(show ObjOk X.prog X.w H s.heap a (.dK kvs) from I.hok a _ ea)
  obtain ⟨o,es,ep,h1,h2,_⟩:=p
  exact PySem.W.kia_one PySem.W.kitx_dict I.kIn ⟨o,h1,h2.1⟩ e (fun z=>nomatch z) h
 | @dT a kvs ea =>
  cases (show u=Value.ref a from rx)
  obtain ⟨_,_,xs,_,o,es,ep,h1,h2,_⟩:=(show ObjOk X.prog X.w H s.heap a (.dT kvs) from I.hok a _ ea)
  exact PySem.W.kia_one PySem.W.kitx_dict I.kIn ⟨o,h1,h2.1⟩ e (fun z=>nomatch z) h
 | @ins a C dx fs ea cl ha hn htk hm =>
  cases (show u=Value.ref a from rx)
  obtain ⟨mA,O,_⟩:=ins_get I.hok ea
  obtain ⟨od,J,_⟩:=O.look
  exact PySem.W.kia_one (PySem.W.kitx_own (cl.get _) cl.hd ha hn htk hm) I.kIn J e (fun z=>nomatch z) h
end
structure Room (k:Nat) (A:Around):Prop where
 hd:A.handled=none
 dp:A.depth + 3 * k + 5 < recursionLimit
 un:A.units + 16 * k + 200 < cLine
theorem Room.mono {j k:Nat} {A:Around} (r:Room k A) (h:j≤k):Room j A:=⟨r.hd,by have:=r.dp; omega,by have:=r.un; omega⟩
theorem Room.deeper {k:Nat} {A:Around} (r:Room (k + 1) A) (env:Env):Room k (A.deeper env) :=
 ⟨r.hd,by have:=r.dp; show A.depth + 1 + 3 * k + 5 < _; omega,by have:=r.un; show A.units + 3 + 16 * k + 200 < _; omega⟩
theorem make_depth {A:Around} {C:Addr} {us:List Value} {kw:List (Str×Value)}:(A.under (.builtin "type.__call__" ⟨.ref C :: us,kw⟩)).depth=A.depth + 1:=by
 first | rfl | simp [Around.under,Code.weight,Code.isCreation,Code.isGuard,Code.isCaller,Code.frames,Code.isFrame,guardIds]
theorem make_units {A:Around} {C:Addr} {us:List Value} {kw:List (Str×Value)}:(A.under (.builtin "type.__call__" ⟨.ref C :: us,kw⟩)).units=A.units + 1:=by
 first | rfl | simp [Around.under,Code.cUnits,Code.frames,Code.isFrame]
theorem Room.make {k:Nat} {A:Around} (r:Room (k + 1) A) (C:Addr) (us:List Value) (kw:List (Str×Value)):Room k (A.under (.builtin "type.__call__" ⟨.ref C :: us,kw⟩)) :=
 ⟨r.hd,by have:=r.dp; rw [make_depth]; omega,by have:=r.un; rw [make_units]; omega⟩
theorem Room.depth {k:Nat} {A:Around} (r:Room k A):A.depth < recursionLimit:=by have:=r.dp; omega
theorem Room.units {k:Nat} {A:Around} (r:Room k A):A.units + 64 < cLine:=by have:=r.un; omega
def tNil:TA:=fun _ H Q=>Q [] H
def tCons (ta:TE) (tr:TA):TA:=fun σ H Q=>ta σ H fun x H1=>tr σ H1 fun xs H2=>Q (x :: xs) H2
section
variable {X:Cx} {e:Expr} {es:List Expr} {te:TE} {t:TA} {pos:Pos}
theorem bi_:PA X [] tNil:=fun _ _ _ _ H Q I h=>Calls.spliced_nil ⟨[],H,I,.nil,h⟩
theorem ar_ (ha:PE X e te) (hr:PA X es t) (hs:starEach (e :: es) X.env=(false,eval e X.env) :: starEach es X.env:=by rfl):PA X (e :: es) (tCons te t):=by
 intro pos pins s σ H Q I h
 rw [hs]
 show wpAny _ _ (spliced ((false,eval e X.env) :: backTo pos (starEach es X.env))) _ _ s
 refine Calls.spliced_cons (thn (ha pins s σ H _ I h) fun u s1 ⟨x,H1,I1,r1,q1⟩ => ?_)
 exact thn (hr pos pins s1 σ H1 _ I1 q1) fun us s2 ⟨xs,H2,I2,r2,q2⟩=>⟨x :: xs,H2,I2,.cons r1 r2,q2⟩
def tTup (t:TA):TE:=fun σ H Q=>t σ H fun xs H1=>xs.length≤sizeLine∧∀ p,H1 p=none→Q (.ref p) (upd H1 p (.tup xs))
def tLst (t:TA):TE:=fun σ H Q=>t σ H fun xs H1=>xs.length≤sizeLine∧∀ p,H1 p=none→Q (.ref p) (upd H1 p (.lst xs))
theorem pe_tup {x1} (h:PA X es t):PE X (.Tuple es x1 pos) (tTup t):=by
 intro pins s σ H Q I hq
 refine wpAny_Tuple_spliced (thn (h pos pins s σ H _ I hq) fun us s1 ⟨xs,H1,I1,r,z,q⟩=>⟨by rw [← r.length]; exact z,?_⟩)
 have hf:H1 s1.heap.objs.size=none:=I1.hok.fresh (Nat.le_refl _)
 refine ⟨.ref s1.heap.objs.size,upd H1 s1.heap.objs.size (.tup xs),I1.laid (t':=s1.toks) (fun b u e=>Heap.get?_push_of_some _ e) (Nat.le_refl _) ?_,rfl,q _ hf⟩
 exact ⟨z,us,r,⟨_,Heap.get?_push_size _ rfl,rfl,_,rfl⟩⟩
theorem hw_ (h:PA X es t):PE X (.List es pos) (tLst t):=by
 intro pins s σ H Q I hq
 refine wpAny_List_spliced (thn (h pos pins s σ H _ I hq) fun us s1 ⟨xs,H1,I1,r,z,q⟩=>⟨by rw [← r.length]; exact z,?_⟩)
 have hf:H1 s1.heap.objs.size=none:=I1.hok.fresh (Nat.le_refl _)
 refine ⟨.ref s1.heap.objs.size,upd H1 s1.heap.objs.size (.lst xs),I1.laid (t':=s1.toks) (fun b u e=>Heap.get?_push_of_some _ e) (Nat.le_refl _) ?_,rfl,q _ hf⟩
 exact ⟨z,us,0,r,Heap.get?_push_size _ rfl⟩
end
abbrev Sp:=List V→Hp→VK→XK→Prop
abbrev CXT:=List Env→Hp→Shared→XK→Value→Shared→Prop
structure Env0 (P:Program) (w:World) (K:FG_) (mg:MG_) (base:Heap) (A:Around) (outer:List Env) (s:Shared) (H:Hp):Prop where
 frames:A.frames=some outer
 mod:Mod K mg base
 bs:∀ b o,base.get? b=some o→s.heap.get? b=some o∧H b=none
 bsz:base.objs.size≤s.heap.objs.size
 funs:s.heap.FunFrames base outer
 frf:∀ b∈frs outer,H b=none
 hok:HOk P w H s.heap
 bare:AllBare s.gens
def CE (outer:List Env) (P:Program) (w:World) (H:Hp) (s:Shared) (Q:VK) (u:Value) (s':Shared):Prop :=
 ∃ v H',s'.os=s.os∧AllBare s'.gens∧Un (frs outer) [] H H' s.heap s'.heap∧HOk P w H' s'.heap∧RelV v u∧Q v H'
def CR (CX:CXT) (outer:List Env) (P:Program) (w:World) (H:Hp) (s:Shared) (Q:VK) (E:XK) (r:Result) (s':Shared):Prop :=
 match r with
 | .ok (.ret u)=>CE outer P w H s Q u s'
 | .ok _=>False
 | .error e=>CX outer H s E e s'
structure FnOk (P:Program) (w:World) (K:FG_) (mg:MG_) (base:Heap) (CX:CXT) (k:Nat) (f:Addr) (fd:FuncData) (ps:List Str) (sp:Sp):Prop where
 len:∀ vs H Q E,sp vs H Q E→vs.length=ps.length
 run:∀ (A:Around) (outer:List Env) (s:Shared) (H:Hp) (args:Args) (us:List Value) (vs:List V) (Q:VK) (E:XK),Room k A→Env0 P w K mg base A outer s H→BindsTo s fd args (ps.zip us)→Vals vs us→sp vs H Q E →
  codeAny (model P w) A (.call (.ref f) args) (CR CX outer P w H s Q E) s
theorem FnOk.mono {P:Program} {w:World} {K:FG_} {mg:MG_} {base:Heap} {CX:CXT} {j k:Nat} {f:Addr} {fd:FuncData} {ps:List Str} {sp:Sp} (F:FnOk P w K mg base CX j f fd ps sp) (h:j≤k) :
  FnOk P w K mg base CX k f fd ps sp:=⟨F.len,fun A outer s H args us vs Q E hr=>F.run A outer s H args us vs Q E (hr.mono h)⟩
theorem FnOk.imp {P:Program} {w:World} {K:FG_} {mg:MG_} {base:Heap} {CX:CXT} {k:Nat} {f:Addr} {fd:FuncData} {ps:List Str} {sp sp':Sp} (F:FnOk P w K mg base CX k f fd ps sp)
  (h:∀ vs H Q E,sp' vs H Q E→sp vs H Q E):FnOk P w K mg base CX k f fd ps sp' :=
 ⟨fun vs H Q E q=>F.len vs H Q E (h _ _ _ _ q),fun A outer s H args us vs Q E hr he hb hv hs=>F.run A outer s H args us vs Q E hr he hb hv (h _ _ _ _ hs)⟩
theorem Env0.make {P:Program} {w:World} {K:FG_} {mg:MG_} {base:Heap} {A:Around} {outer:List Env} {s:Shared} {H:Hp} (e:Env0 P w K mg base A outer s H) (C:Addr) (us:List Value) (kw:List (Str×Value)) :
  Env0 P w K mg base (A.under (.builtin "type.__call__" ⟨.ref C :: us,kw⟩)) outer s H:=⟨by first | exact e.frames | (simpa [Around.under,Code.envs,Code.isFrame,pushEnvs] using e.frames),e.mod,e.bs,e.bsz,e.funs,e.frf,e.hok,e.bare⟩
section
variable {X:Cx} {pins:PN_} {σ:St} {H:Hp} {s s':Shared}
theorem Inv.env0 (I:Inv X pins σ H s):Env0 X.prog X.w X.K X.mg X.base X.A X.stack s H :=
 ⟨I.ok.frames,I.ok.mod,I.bs,Nat.le_trans I.ok.bsz I.sz,I.stack,I.stkFree,I.hok,I.bare⟩
theorem Inv.after {Q:VK} {u:Value} (I:Inv X pins σ H s) (h:CE X.stack X.prog X.w H s Q u s'):EP X pins σ Q u s':=by
 obtain ⟨v,H',os,bare,un,hok,r,q⟩:=h
 obtain ⟨hh,g,d,t,os'⟩:=s'
 obtain rfl:os'=s.os:=os
 exact ⟨v,H',I.call (h':=hh) (g':=g) (d':=d) (t':=t) (ch:=[]) un hok bare (fun b z=>absurd z (by simp)),r,q⟩
end
def tCall (sp:Sp) (dvs:List V) (E:XK) (t:TA):TE:=fun σ H Q=>t σ H fun vs H1=>sp (vs ++ dvs) H1 Q E
def tMeth (C:Addr) (m:Str) (sp:Sp) (dvs:List V) (E:XK) (ta:TE) (t:TA):TE:=fun σ H Q=>ta σ H fun x H1 => ∃ a dx fs,x=.ref a∧H1 a=some (.ins C dx fs)∧fs.lookup m=none ∧
 t σ H1 fun vs H2=>sp (x :: (vs ++ dvs)) H2 Q E
def tMake (C:Addr) (sp:Sp) (dvs:List V) (E:XK) (t:TA):TE:=fun σ H Q=>t σ H fun vs H1 => ∀ x dx,H1 x=none→H1 dx=none→dx≠x →
 sp (.ref x :: (vs ++ dvs)) (upd (upd H1 dx (.own x)) x (.ins C dx [])) (fun v H2=>v=.non∧Q (.ref x) H2) E
def Binds (K:FG_) (fd:FuncData) (ps:List Str) (ds:List Value):Prop :=
 ∀ (s:Shared) (us:List Value),K.In s.heap→(us ++ ds).length=ps.length→BindsTo s fd ⟨us,[]⟩ (ps.zip (us ++ ds))
theorem Binds.all {K:FG_} {fd:FuncData} {ps:List Str} (h:∀ us:List Value,us.length=ps.length→bindArgs fd ⟨us,[]⟩=pure (ps.zip us)):Binds K fd ps []:=fun s us _ hl=>by
 rw [List.append_nil] at hl ⊢
 exact .of_eq (h us hl)
def Passes (CX:CXT) (X:Cx) (E:XK):Prop := ∀ (pins:PN_) (σ:St) (H:Hp) (s:Shared) (e:Value) (s':Shared),Inv X pins σ H s→CX X.stack H s E e s'→X.xe e s'
section
variable {X:Cx} {CX:CXT} {k:Nat} {f C:Addr} {fd:FuncData} {ps:List Str} {sp:Sp} {dvs:List V} {ds:List Value} {E:XK} {x m:Str} {p pos apos:Pos} {e o:Expr} {es:List Expr} {ta:TE} {t:TA}
theorem run_fn {pins:PN_} {σ:St} {H:Hp} {s:Shared} {Q:VK} {us:List Value} {vs:List V} (F:FnOk X.prog X.w X.K X.mg X.base CX k f fd ps sp) (hr:Room k X.A) (hb:Binds X.K fd ps ds) (hd:Vals dvs ds) (hx:Passes CX X E)
  (I:Inv X pins σ H s) (r:Vals vs us) (h:sp (vs ++ dvs) H Q E):wpAny (model X.prog X.w) X.A (call (.ref f) us) (EP X pins σ Q) X.xe s:=by
 have r2:Vals (vs ++ dvs) (us ++ ds):=r.append hd
 have hl:(us ++ ds).length=ps.length:=by rw [← r2.length]; exact F.len _ _ _ _ h
 refine wpAny_call (codeAny_mono (F.run X.A X.stack s H ⟨us,[]⟩ (us ++ ds) (vs ++ dvs) Q E hr I.env0 (hb s us I.kIn hl) r2 h) fun r s' hq => ?_)
 cases r with
 | error e=>exact hx pins σ H s e s' I hq
 | ok fl =>
  cases fl with
  | ret u=>exact I.after hq
  | next=>exact False.elim hq
  | brk=>exact False.elim hq
  | cont=>exact False.elim hq
theorem pe_call (F:FnOk X.prog X.w X.K X.mg X.base CX k f fd ps sp) (hr:Room k X.A) (hg:Gl X x) (hm:X.mg x=some (.ref f)) (hk:PySem.W.keepIn X.K (.ref f)=true) (hb:Binds X.K fd ps ds) (hd:Vals dvs ds) (hx:Passes CX X E)
  (ha:PA X (e :: es) t) (hdb:(x == ("__debug__" : Str))=false:=by decide) (he:starEach (e :: es) X.env=(false,eval e X.env) :: starEach es X.env:=by rfl) (hpl:(backTo pos (starEach es X.env)).any (·.1)=false:=by rfl) :
  PE X (.Call (.Name x p) (e :: es) [] pos) (tCall sp dvs E t):=by
 intro pins s σ H Q I h
 refine wpAny_Call_Name_kw (ld_glob I hg hm ?_ hdb)
 refine PySem.W.callWith_K (h₀:=X.base) I.ok.mod.kin hk (thn (ha pos pins s σ H _ I h) fun us s1 ⟨vs,H1,I1,r,q⟩=>⟨I1.kIn,?_⟩) he hpl
 exact run_fn F hr hb hd hx I1 r q
theorem pe_meth {pl:Sem Bool} (he:PE X o ta) (c:Cls X.K C) (hm:Meth X.K C m f) (F:FnOk X.prog X.w X.K X.mg X.base CX k f fd ps sp) (hr:Room k X.A) (hb:Binds X.K fd ps ds) (hd:Vals dvs ds) (hx:Passes CX X E) (ha:PA X (e :: es) t)
  (hst:starEach (e :: es) X.env=(false,eval e X.env) :: starEach es X.env:=by rfl) (hpl:(backTo pos (starEach es X.env)).any (·.1)=false:=by rfl)
  (ht:eval (.Call (.Attribute o m apos) (e :: es) [] pos) X.env=(do
   let ov ← eval o X.env
   standAt apos.atName
   let (f,first) ← holding [ov] (getMethod ov m pl)
   callWith pos f first (backTo pos (starEach (e :: es) X.env)) (backToKw pos (keywordEach [] X.env))):=by rfl) :
  PE X (.Call (.Attribute o m apos) (e :: es) [] pos) (tMeth C m sp dvs E ta t):=by
 intro pins s σ H Q I h
 refine PySem.W.methodCall_KW (pl:=pl) (thn (he pins s σ H _ I h) fun u s1 ⟨x,H1,I1,rx,a,dx,fs,ex,ea,l,q⟩ => ?_) ht
 subst ex
 obtain rfl:u=Value.ref a:=rx
 refine getmeth_ok I1 ea c hm l ?_
 refine PySem.W.callWith_K (first:=[.ref a]) (h₀:=X.base) I.ok.mod.kin hm.kp (thn (ha pos pins s1 σ H1 _ I1 q) fun us s2 ⟨vs,H2,I2,r,q2⟩=>⟨I2.kIn,?_⟩) hst hpl
 exact run_fn (us:=.ref a :: us) (vs:=.ref a :: vs) F hr hb hd hx I2 (.cons rfl r) q2
theorem pe_meth0 {pl:Sem Bool} (he:PE X o ta) (c:Cls X.K C) (hm:Meth X.K C m f) (F:FnOk X.prog X.w X.K X.mg X.base CX k f fd ps sp) (hr:Room k X.A) (hb:Binds X.K fd ps ds) (hd:Vals dvs ds) (hx:Passes CX X E)
  (ht:eval (.Call (.Attribute o m apos) [] [] pos) X.env=(do
   let ov ← eval o X.env
   standAt apos.atName
   let (f,first) ← holding [ov] (getMethod ov m pl)
   callWith pos f first (backTo pos (starEach [] X.env)) (backToKw pos (keywordEach [] X.env))):=by rfl) :
  PE X (.Call (.Attribute o m apos) [] [] pos) (tMeth C m sp dvs E ta tNil):=by
 intro pins s σ H Q I h
 refine PySem.W.methodCall_KW (pl:=pl) (thn (he pins s σ H _ I h) fun u s1 ⟨x,H1,I1,rx,a,dx,fs,ex,ea,l,q⟩ => ?_) ht
 subst ex
 obtain rfl:u=Value.ref a:=rx
 refine getmeth_ok I1 ea c hm l ?_
 exact PySem.W.callWith_K0 (first:=[.ref a]) I1.kIn hm.kp (run_fn (us:=[.ref a]) (vs:=[.ref a]) F hr hb hd hx I1 (.cons rfl .nil) q)
structure Mk (K:FG_) (C f:Addr):Prop where
 makes:PySem.W.makesIn K C=true
 init:PySem.W.findIn K (.ref C) "__init__" = some (some (.ref f))
 fn:PySem.W.isFn K (.ref f)=true
 kp:PySem.W.keepIn K (.ref C)=true
theorem run_make {pins:PN_} {σ:St} {H:Hp} {s:Shared} {Q:VK} {us:List Value} {vs:List V} (M:Mk X.K C f) (F:FnOk X.prog X.w X.K X.mg X.base CX k f fd ps sp) (hr:Room (k + 1) X.A) (hb:Binds X.K fd ps ds) (hd:Vals dvs ds)
  (hx:Passes CX X E) (I:Inv X pins σ H s) (r:Vals vs us)
  (h:∀ x dx,H x=none→H dx=none→dx≠x→sp (.ref x :: (vs ++ dvs)) (upd (upd H dx (.own x)) x (.ins C dx [])) (fun v H2=>v=.non∧Q (.ref x) H2) E) :
  wpAny (model X.prog X.w) X.A (call (.ref C) us) (EP X pins σ Q) X.xe s:=by
 have hq:=h (s.heap.objs.size + 1) s.heap.objs.size (I.hok.fresh (Nat.le_succ _)) (I.hok.fresh (Nat.le_refl _)) (Nat.ne_of_lt (Nat.lt_succ_self _))
 have I2:=Inv.made (C:=C) I
 have r2:Vals (V.ref (s.heap.objs.size + 1) :: (vs ++ dvs)) (Value.ref (s.heap.objs.size + 1) :: (us ++ ds)):=.cons rfl (r.append hd)
 have hl:(Value.ref (s.heap.objs.size + 1) :: us ++ ds).length=ps.length:=by
  have e:=r2.length
  rw [F.len _ _ _ _ hq] at e
  exact e.symm
 refine wpAny_call (make_map (f:=f) I.kIn M.makes M.init (beq_iff_eq.mp M.fn) (codeAny_mono (F.run _ X.stack _ _ ⟨Value.ref (s.heap.objs.size + 1) :: us,[]⟩ (Value.ref (s.heap.objs.size + 1) :: (us ++ ds)) _ _ E (hr.make C us [])
  (I2.env0.make C us []) (hb _ (Value.ref (s.heap.objs.size + 1) :: us) I2.kIn hl) r2 hq) fun r s' hq' => ?_))
 cases r with
 | error e=>exact hx pins σ _ _ e s' I2 hq'
 | ok fl =>
  cases fl with
  | ret u =>
   obtain ⟨v,H',I3,rv,ev,q3⟩:=I2.after hq'
   subst ev
   exact ⟨rv,⟨V.ref (s.heap.objs.size + 1),H',I3,rfl,q3⟩⟩
  | next=>exact False.elim hq'
  | brk=>exact False.elim hq'
  | cont=>exact False.elim hq'
theorem pe_make (M:Mk X.K C f) (F:FnOk X.prog X.w X.K X.mg X.base CX k f fd ps sp) (hr:Room (k + 1) X.A) (hg:Gl X x) (hm:X.mg x=some (.ref C)) (hb:Binds X.K fd ps ds) (hd:Vals dvs ds) (hx:Passes CX X E)
  (ha:PA X (e :: es) t) (hdb:(x == ("__debug__" : Str))=false:=by decide) (he:starEach (e :: es) X.env=(false,eval e X.env) :: starEach es X.env:=by rfl) (hpl:(backTo pos (starEach es X.env)).any (·.1)=false:=by rfl) :
  PE X (.Call (.Name x p) (e :: es) [] pos) (tMake C sp dvs E t):=by
 intro pins s σ H Q I h
 refine wpAny_Call_Name_kw (ld_glob I hg hm ?_ hdb)
 refine PySem.W.callWith_K (h₀:=X.base) I.ok.mod.kin M.kp (thn (ha pos pins s σ H _ I h) fun us s1 ⟨vs,H1,I1,r,q⟩=>⟨I1.kIn,?_⟩) he hpl
 exact run_make M F hr hb hd hx I1 r q
end
structure FnScope (N P:List Str) (sc:Scope):Prop where
 kind:sc.kind=.function
 co:sc.isCoroutine=false
 gen:sc.isGenerator=false
 nd:N.Nodup
 pre:N.take P.length=P
 par:∀ x∈P,sc.names.lookup x=some .local∨sc.names.lookup x=some .cell
 nofree:∀ y∈sc.names,y.2 ≠ .free
theorem bindL_out {kindOf:Str→Option NameKind} {x:Str}:∀ {binds:List (Str×Value)} {m:MG_},(∀ v,(x,v)∉binds)→bindL kindOf binds m x=m x
 | [],_,_=>rfl
 | (n,v) :: r,m,h=>by
  unfold bindL
  rw [bindL_out fun w hw=>h w (List.mem_cons_of_mem _ hw)]
  split
  ·have:x≠n:=by rintro rfl; exact h v List.mem_cons_self
   simp [this]
  ·rfl
theorem bindC_out {kindOf:Str→Option NameKind} {x:Str}:∀ {binds:List (Str×Value)} {m:MG_},(∀ v,(x,v)∉binds)→bindC kindOf binds m x=m x
 | [],_,_=>rfl
 | (n,v) :: r,m,h=>by
  unfold bindC
  rw [bindC_out fun w hw=>h w (List.mem_cons_of_mem _ hw)]
  split
  ·rfl
  ·have:x≠n:=by rintro rfl; exact h v List.mem_cons_self
   simp [this]
theorem bindL_get {kindOf:Str→Option NameKind} {x:Str} {v:Value}:∀ {P:List Str} {vs:List Value} {i:Nat} {m:MG_},P.Nodup→P[i]? = some x→vs[i]? = some v→kindOf x=some .local →
  bindL kindOf (P.zip vs) m x=some v
 | [],_,_,_,_,h,_,_=>by simp at h
 | _ :: _,[],_,_,_,_,h,_=>by simp at h
 | p :: P,w :: vs,0,m,nd,h1,h2,hk=>by
  simp at h1 h2; subst h1; subst h2
  show bindL kindOf ((p,w) :: P.zip vs) m p=_
  unfold bindL
  rw [bindL_out fun v hv=>(List.nodup_cons.mp nd).1 (List.of_mem_zip hv).1,if_pos hk]
  simp
 | p :: P,w :: vs,i + 1,m,nd,h1,h2,hk=>by
  show bindL kindOf ((p,w) :: P.zip vs) m x=_
  unfold bindL
  exact bindL_get (i:=i) (List.nodup_cons.mp nd).2 (by simpa using h1) (by simpa using h2) hk
theorem bindC_get {kindOf:Str→Option NameKind} {x:Str} {v:Value}:∀ {P:List Str} {vs:List Value} {i:Nat} {m:MG_},P.Nodup→P[i]? = some x→vs[i]? = some v→kindOf x≠some .local →
  bindC kindOf (P.zip vs) m x=some v
 | [],_,_,_,_,h,_,_=>by simp at h
 | _ :: _,[],_,_,_,_,h,_=>by simp at h
 | p :: P,w :: vs,0,m,nd,h1,h2,hk=>by
  simp at h1 h2; subst h1; subst h2
  show bindC kindOf ((p,w) :: P.zip vs) m p=_
  unfold bindC
  rw [bindC_out fun v hv=>(List.nodup_cons.mp nd).1 (List.of_mem_zip hv).1,if_neg hk]
  simp
 | p :: P,w :: vs,i + 1,m,nd,h1,h2,hk=>by
  show bindC kindOf ((p,w) :: P.zip vs) m x=_
  unfold bindC
  exact bindC_get (i:=i) (List.nodup_cons.mp nd).2 (by simpa using h1) (by simpa using h2) hk
def start (N:List Str) (vs:List V):St:=vs.map some ++ List.replicate (N.length - vs.length) none
def cxOf (CX:CXT) (P:Program) (w:World) (K:FG_) (mg:MG_) (base:Heap) (N:List Str) (qual:Str) (scope:Scope) (f:Addr) (cd:Value) (A:Around) (outer:List Env) (s:Shared) (H:Hp) (E:XK):Cx where
 prog:=P
 w:=w
 K:=K
 mg:=mg
 base:=base
 A:=A.deeper (envOfC qual scope s.heap.objs.size f cd)
 N:=N
 s₀:=s
 H₀:=H
 env:=envOfC qual scope s.heap.objs.size f cd
 outer:=outer
 stack:=envOfC qual scope s.heap.objs.size f cd :: outer
 ex:=[]
 calm:=true
 fn:=fun _=>true
 pn:=[]
 xe:=fun e s'=>wpAny (model P w) (A.deeper (envOfC qual scope s.heap.objs.size f cd)) (leaving (envOfC qual scope s.heap.objs.size f cd) e) (fun _ s''=>CX outer H s E e s'') (fun e' s''=>CX outer H s E e' s'') s'
theorem cell_has {sc:Scope} {n:Nat} {x:Str} (h:sc.names.lookup x=some .cell):∃ c,(cellsFrom n sc.names []).lookup x=some c:=by
 have q:=PySem.W.cellsFrom_some sc.names n [] (.inl h)
 exact Option.isSome_iff_exists.mp q
theorem inv_start {CX:CXT} {P:Program} {w:World} {K:FG_} {mg:MG_} {base:Heap} {N ps:List Str} {qual:Str} {scope:Scope} {f:Addr} {cd:Value} {A:Around} {outer:List Env} {s s1:Shared} {H:Hp} {E:XK} {us:List Value} {vs:List V}
  (S:FnScope N ps scope) (hd:A.handled=none) (e0:Env0 P w K mg base A outer s H) (hl:vs.length=ps.length) (r:Vals vs us)
  (x:InCallC s s.heap.objs.size (bindL (envOfC qual scope s.heap.objs.size f cd).kindOf (ps.zip us) fun _=>none) (cellsFrom (s.heap.objs.size + 1) scope.names []) (bindC (envOfC qual scope s.heap.objs.size f cd).kindOf (ps.zip us) fun _=>none) s1) :
  Inv (cxOf CX P w K mg base N qual scope f cd A outer s H E) [] (start N vs) H s1:=by
 have hpl:ps.length≤N.length:=by have:=congrArg List.length S.pre; rw [List.length_take] at this; omega
 obtain ⟨h1,tk,rfl,hk⟩:=x.done
 have noA:∀ b:Addr,b∉(cxOf CX P w K mg base N qual scope f cd A outer s H E).ex:=fun b z=>absurd (show b∈([]:List Addr) from z) (by simp)
 refine ⟨⟨e0.mod,S.kind,rfl,rfl,Nat.le_refl _,fun y z c h1 h2 => ?_,fun y hy => ?_,fun y c _ h => ?_,fun _=>hd,Around.frames_deeper e0.frames,.inr ⟨rfl,rfl⟩,fun b z=>absurd z (noA b),e0.bs,e0.bsz,fun b _ _=>noA b,fun b z=>absurd z (noA b),e0.funs,e0.frf⟩,
  rfl,e0.bare,Un.kept hk,⟨_,x.toInCall.ns,fun i y v h1 h2 h3 => ?_⟩,fun y c h=>⟨_,x.cell y c h⟩,e0.hok.fresh (Nat.le_refl _),fun y c h => ?_,fun p hp=>absurd (show p∈([]:PN_) from hp) (by simp),e0.hok.kept hk,?_⟩
 ·exact name_of_addr x.apart (PySem.mem_of_lookup h1) (PySem.mem_of_lookup h2)
 ·have hy:scope.names.lookup y=some .cell∨scope.names.lookup y=some .free:=hy
  rcases hy with hy | hy
  ·exact cell_has hy
  ·exact absurd rfl (S.nofree _ (PySem.mem_of_lookup hy))
 ·exact Nat.le_of_lt (x.above y c (PySem.mem_of_lookup h))
 ·have hi:i < vs.length:=by
   unfold start at h2
   by_cases hi:i < vs.length
   ·exact hi
   ·rw [List.getElem?_append_right (by simpa using hi)] at h2
    rw [List.getElem?_replicate] at h2
    split at h2 <;> cases h2
  have ha:vs[i]? = some v:=by
   unfold start at h2
   rw [List.getElem?_append_left (by simpa using hi),List.getElem?_map] at h2
   cases e:vs[i]? with
   | none=>rw [e] at h2; cases h2
   | some a=>rw [e] at h2; cases h2; rfl
  obtain ⟨u,hu,rv⟩:=r.get ha
  have hp:ps[i]? = some y:=by
   rw [← S.pre,List.getElem?_take_of_lt (by omega)]; exact h1
  have ndP:ps.Nodup:=by rw [← S.pre]; exact S.nd.sublist (List.take_sublist _ _)
  refine ⟨u,rv,?_⟩
  rcases S.par y (List.mem_of_getElem? hp) with k | k
  ·exact .inl ⟨k,bindL_get ndP hp hu k⟩
  ·obtain ⟨c,e⟩:=cell_has (n:=s.heap.objs.size + 1) k
   refine .inr ⟨.inl k,c,e,?_⟩
   have q:=x.cell y c e
   rw [bindC_get ndP hp hu (by show scope.names.lookup y≠_; rw [k]; decide)] at q
   exact q
 ·exact e0.hok.fresh (Nat.le_of_lt (x.above y c (PySem.mem_of_lookup h)))
 ·unfold start
  show _=N.length
  rw [List.length_append,List.length_map,List.length_replicate]
  omega
theorem fn_of {CX:CXT} {P:Program} {w:World} {K:FG_} {mg:MG_} {base:Heap} {k:Nat} {f:Addr} {name qual:Str} {params:Arguments} {body:List Stmt} {scope:Scope} {dV kV doc pm cdv ct oc:Value} {an od:Option Addr}
  {osl:Array (Option Value)} {N ps:List Str} {sp:Sp} (lk:K.lookup f=some ⟨oc,od,.func (PySem.W.fnOf name qual params body scope dV kV doc pm an cdv ct),osl⟩) (hcd:PySem.W.codeIn K cdv qual=true) (S:FnScope N ps scope)
  (len:∀ vs H Q E,sp vs H Q E→vs.length=ps.length)
  (hbody:∀ (A:Around) (outer:List Env) (s:Shared) (H:Hp) (vs:List V) (Q:VK) (E:XK),Room k (A.deeper (envOfC qual scope s.heap.objs.size f cdv))→sp vs H Q E →
   ∃ t,PSs (cxOf CX P w K mg base N qual scope f cdv A outer s H E) body t∧t { nx:=fun _ H'=>Q .non H',rt:=Q } (start N vs) H) :
  FnOk P w K mg base CX (k + 1) f (PySem.W.fnOf name qual params body scope dV kV doc pm an cdv ct) ps sp:=by
 refine ⟨len,fun A outer s H args us vs Q E hr e0 hb r hsp => ?_⟩
 have hl:=len _ _ _ _ hsp
 have KX:K.In s.heap:=e0.mod.kin.keeps fun b o e=>(e0.bs b o e).1
 have lim:s.heap.NoLimit:=e0.mod.nolimit.keeps fun b o e=>(e0.bs b o e).1
 have hkind:∀ y∈ps.zip us,scope.names.lookup y.1=some .local∨(scope.names.lookup y.1=some .cell∧((cellsFrom (s.heap.objs.size + 1) scope.names []).lookup y.1).isSome=true):=fun ⟨n,v⟩ hy=>by
  rcases S.par n (List.of_mem_zip hy).1 with q | q
  ·exact .inl q
  ·exact .inr ⟨q,PySem.W.cellsFrom_some _ _ _ (.inl q)⟩
 refine codeAny_call_function hr.depth (KX _ _ lk) rfl S.co S.gen rfl (PySem.W.codeRec_of KX hcd) (hb _ _ _ _ ?_)
 refine wpAny_newFunctionEnv_cells S.kind hkind fun env he s1 x => ?_
 subst he
 refine ⟨lim.keeps x.toInCall.keep,codeAny_func ?_⟩
 obtain ⟨t,ht,hq⟩:=hbody A outer s H vs Q E (hr.deeper _) hsp
 have I:Inv (cxOf CX P w K mg base N qual scope f cdv A outer s H E) [] (start N vs) H s1:=inv_start S hr.hd e0 hl r x
 refine wpAny_mono (ht [] s1 (start N vs) H _ I hq) (fun fl s' hs => ?_) fun e s' hs=>hs
 have fin:∀ {σ':St} {H':Hp} {v:V} {u:Value},Inv (cxOf CX P w K mg base N qual scope f cdv A outer s H E) [] σ' H' s'→RelV v u→Q v H'→CE outer P w H s Q u s' :=
  fun {σ' H' v u} J rv q=>⟨v,H',J.os,J.bare,J.base,J.hok,rv,q⟩
 cases fl with
 | ret u =>
  obtain ⟨v,σ',H',J,rv,q⟩:=hs
  exact fin J rv q
 | next =>
  obtain ⟨σ',H',J,q⟩:=hs
  exact fin (v:=V.non) (u:=Value.none) J rfl q
 | brk =>
  obtain ⟨_,_,_,q⟩:=hs
  exact False.elim q
 | cont =>
  obtain ⟨_,_,_,q⟩:=hs
  exact False.elim q
section
variable {X:Cx} {x:Str} {p pos:Pos} {e:Expr} {es:List Expr} {t:TA} {id T:String} {r:List V→Hp→VK→Prop}
def tCB (r:List V→Hp→VK→Prop) (t:TA):TE:=fun σ H Q=>t σ H fun vs H1=>r vs H1 Q
theorem ch_ (hc:CallR X (.builtin id) r) (hg:Gl X x) (hm:X.mg x=none) (hv:bootBuiltins x=some (.builtin id)) (ha:PA X (e :: es) t) (hn:x ≠ "__name__" := by decide) (hdb:(x == ("__debug__" : Str))=false:=by decide)
  (he:starEach (e :: es) X.env=(false,eval e X.env) :: starEach es X.env:=by rfl) (hpl:(backTo pos (starEach es X.env)).any (·.1)=false:=by rfl):PE X (.Call (.Name x p) (e :: es) [] pos) (tCB r t):=by
 intro pins s σ H Q I h
 refine wpAny_Call_Name_kw (ld_blt I hg hm hv ?_ hn hdb)
 exact PyProof.Rows.callWith_builtin1 (thn (ha pos pins s σ H _ I h) fun us s1 ⟨vs,H1,I1,r1,q1⟩=>hc pins s1 σ H1 vs us Q I1 r1 q1) he hpl
theorem hy_ (hc:CallR X (.type T) r) (hg:Gl X x) (hm:X.mg x=none) (hv:bootBuiltins x=some (.type T)) (ha:PA X (e :: es) t) (hn:x ≠ "__name__" := by decide) (hdb:(x == ("__debug__" : Str))=false:=by decide)
  (he:starEach (e :: es) X.env=(false,eval e X.env) :: starEach es X.env:=by rfl) (hpl:(backTo pos (starEach es X.env)).any (·.1)=false:=by rfl):PE X (.Call (.Name x p) (e :: es) [] pos) (tCB r t):=by
 intro pins s σ H Q I h
 refine wpAny_Call_Name_kw (ld_blt I hg hm hv ?_ hn hdb)
 exact PyProof.Rows.callWith_type1 (thn (ha pos pins s σ H _ I h) fun us s1 ⟨vs,H1,I1,r1,q1⟩=>hc pins s1 σ H1 vs us Q I1 r1 q1) he hpl
end
end L2
namespace HT
open PySem PyProof.Rows
section
open PySem.SeqAt
open PySem.AutoSeq1 (wpAny_loadPart')
open PySem.MeetsSeq PySem.MeetsSeq2 PySem.MeetsSeq3
end
section
variable {prog:Program} {w:World} {A:Around} {E:SV_} {s:Shared}
def sIx (n d:Nat):Option Int→Nat
 | none=>d
 | some v=>if v < 0 then (v + (n:Int)).toNat else min v.toNat n
end
end HT
namespace L2
open PySem PySem.Spec PyProof.Rows
abbrev TO:=St→Hp→(Option Int→Hp→Prop)→Prop
def PO (X:Cx) (e:Option Expr) (t:TO):Prop :=
 ∀ (pins:PN_) (s:Shared) (σ:St) (H:Hp) (Q:Option Int→Hp→Prop),Inv X pins σ H s→t σ H Q →
  wpAny (model X.prog X.w) X.A (evalPart e X.env) (fun u s' => ∃ o H',Inv X pins σ H' s'∧IsPart u o∧Q o H') X.xe s
def tNoPart:TO:=fun _ H Q=>Q none H
def tPart (t:TE):TO:=fun σ H Q=>t σ H fun x H1 => ∃ i,x=.int i∧Q (some i) H1
theorem intsAre_of {ns:List Int}:∀ {us:List Value},Vals (ns.map V.int) us→IntsAre us ns:=by
 induction ns with
 | nil=>intro us r; rw [List.map_nil] at r; cases r; exact .nil
 | cons n ns ih =>
  intro us r
  rw [List.map_cons] at r
  cases r with
  | cons r1 r2 =>
   obtain ⟨t,e⟩:=r1
   subst e
   exact .cons n t (ih r2)
section
variable {X:Cx} {e:Expr} {te:TE} {lo hi:Option Expr} {tl th:TO} {pos p2:Pos}
theorem po_none:PO X none tNoPart:=by
 intro pins s σ H Q I h
 rw [evalPart_none]
 exact wpAny_pure ⟨none,H,I,.none,h⟩
theorem po_some (h:PE X e te):PO X (some e) (tPart te):=by
 intro pins s σ H Q I hw
 rw [evalPart_some]
 refine thn (h pins s σ H _ I hw) fun u s1 ⟨x,H1,I1,r1,q1⟩ => ?_
 obtain ⟨i,rfl,q⟩:=q1
 obtain ⟨t,rfl⟩:=r1
 exact ⟨some i,H1,I1,.int i t,q⟩
def SlR (X:Cx) (r:V→Option Int→Option Int→Hp→VK→Prop):Prop :=
 ∀ (pins:PN_) (s:Shared) (σ:St) (H:Hp) (x:V) (v vl vu:Value) (lo hi:Option Int) (sl:Addr) (Q:VK),Inv X pins σ H s→RelV x v→s.heap.IsSliceOf sl vl vu .none→IsPart vl lo→IsPart vu hi→r x lo hi H Q →
  ∃ T id,typeLookup (.type T) "__getitem__" = pure (some (.builtin id))∧s.TypeIs v T∧wpAny (model X.prog X.w) X.A (getItem v (.ref sl)) (EP X pins σ Q) X.xe s
theorem SlR.or {r r':V→Option Int→Option Int→Hp→VK→Prop} (h:SlR X r) (h':SlR X r'):SlR X (fun x lo hi H Q=>r x lo hi H Q∨r' x lo hi H Q):=by
 intro pins s σ H x v vl vu lo hi sl Q I rx hs pl pu q
 rcases q with q | q
 ·exact h pins s σ H x v vl vu lo hi sl Q I rx hs pl pu q
 ·exact h' pins s σ H x v vl vu lo hi sl Q I rx hs pl pu q
def tSl (r:V→Option Int→Option Int→Hp→VK→Prop) (te:TE) (tl th:TO):TE:=fun σ H Q=>te σ H fun x H1=>tl σ H1 fun l H2=>th σ H2 fun u H3=>r x l u H3 Q
theorem pe_slice {r:V→Option Int→Option Int→Hp→VK→Prop} (hr:SlR X r) (he:PE X e te) (hl:PO X lo tl) (hu:PO X hi th):PE X (.Subscript e (.Slice lo hi none p2) pos) (tSl r te tl th):=by
 intro pins s σ H Q I h
 refine Subscript_ (thn (he pins s σ H _ I h) fun v s1 ⟨x,H1,I1,r1,q1⟩ => ?_)
 refine wpAny_Slice (thn (hl pins s1 σ H1 _ I1 q1) fun vl s2 ⟨l,H2,I2,pl,q2⟩=>thn (hu pins s2 σ H2 _ I2 q2) fun vu s3 ⟨u,H3,I3,pu,q3⟩ => ?_)
 rw [evalPart_none]
 refine wpAny_pure ?_
 have I4:Inv X pins σ H3 { s3 with heap:=s3.heap.push { cls:=.type "slice",data:=.fields #[vl,vu,.none] } }:=I3.kept (t':=s3.toks) fun b ob q=>Heap.get?_push_of_some _ q
 obtain ⟨T,id,hT,ht,hg⟩:=hr pins { s3 with heap:=s3.heap.push { cls:=.type "slice",data:=.fields #[vl,vu,.none] } } σ H3 x v vl vu l u s3.heap.objs.size Q I4 r1 (Heap.IsSliceOf.new ..) pl pu q3
 show wpAny (model X.prog X.w) X.A (subscriptTail e (.Slice lo hi none p2) v (.ref s3.heap.objs.size)) (EP X pins σ Q) X.xe { s3 with heap:=s3.heap.push { cls:=.type "slice",data:=.fields #[vl,vu,.none] } }
 exact tail_any (ops:=[.ref s3.heap.objs.size,v]) ht hT hg (by with_unfolding_all rfl)
def cutV (xs:List V) (lo hi:Option Int):List V:=(xs.drop (HT.sIx xs.length 0 lo)).take (HT.sIx xs.length xs.length hi - HT.sIx xs.length 0 lo)
theorem cutV_length (xs:List V) (lo hi:Option Int):(cutV xs lo hi).length≤xs.length:=by
 unfold cutV
 rw [List.length_take,List.length_drop]
 omega
end
def ixN (n:Nat) (i:Int):Option Nat:=if 0≤i then (if i < n then some i.toNat else none) else if -(n:Int)≤i then some (i + n).toNat else none
def atI {α:Type} (xs:List α) (i:Int):Option α:=(ixN xs.length i).bind fun j=>xs[j]?
theorem ixN_seq {n:Nat} {i:Int} {j:Nat} (h:ixN n i=some j):seqIndex? i n=some j∧j < n ∧ -(n:Int)≤i∧i < n:=by
 unfold ixN at h
 by_cases h0:0≤i
 ·rw [if_pos h0] at h
  by_cases h1:i < n
  ·rw [if_pos h1] at h
   have e:i.toNat=j:=Option.some.inj h
   exact ⟨by rw [seqIndex_of h0 h1,e],by omega,by omega,h1⟩
  ·rw [if_neg h1] at h; cases h
 ·rw [if_neg h0] at h
  by_cases h1 : -(n:Int)≤i
  ·rw [if_pos h1] at h
   have e:(i + n).toNat=j:=Option.some.inj h
   exact ⟨by rw [seqIndex_neg (by omega) h1,e],by omega,h1,by omega⟩
  ·rw [if_neg h1] at h; cases h
theorem atI_get {α:Type} {xs:List α} {i:Int} {v:α} (h:atI xs i=some v):∃ j,seqIndex? i xs.length=some j∧xs[j]? = some v∧j < xs.length ∧ -(xs.length:Int)≤i∧i < xs.length:=by
 unfold atI at h
 cases e:ixN xs.length i with
 | none=>rw [e] at h; cases h
 | some j =>
  rw [e] at h
  obtain ⟨h1,h2,h3,h4⟩:=ixN_seq e
  exact ⟨j,h1,h,h2,h3,h4⟩
theorem ck_ {α:Type} {xs:List α} {j:Nat} {v:α} (h:xs[j]? = some v):atI xs (j:Int)=some v:=by
 have hj:j < xs.length:=(List.getElem?_eq_some_iff.mp h).1
 have e:ixN xs.length (j:Int)=some j:=by
  unfold ixN
  rw [if_pos (by omega),if_pos (by omega)]; simp
 unfold atI; rw [e]; exact h
def PlainIx (b:Expr):Prop := ∀ o i,subscripted b false o i=operate [o,i] (getItem o i)
def IxR (X:Cx) (r:R2):Prop :=
 ∀ (value slice:Expr) (pins:PN_) (s:Shared) (σ:St) (H:Hp) (x y:V) (v u:Value) (Q:VK),Inv X pins σ H s→RelV x v→RelV y u→r x y H Q →
  subscripted slice false v u=operate [v,u] (getItem v u)→wpAny (model X.prog X.w) X.A (subscriptTail value slice v u) (EP X pins σ Q) X.xe s
def MtR (X:Cx) (id:String) (r:V→List V→Hp→VK→Prop):Prop :=
 ∀ (pins:PN_) (s:Shared) (σ:St) (H:Hp) (x:V) (xs:List V) (v:Value) (us:List Value) (Q:VK),Inv X pins σ H s→RelV x v→Vals xs us→r x xs H Q →
  wpAny (model X.prog X.w) X.A (call (.builtin id) (v :: us)) (EP X pins σ Q) X.xe s
section
variable {X:Cx} {a b:Expr} {ta tb:TE} {pos:Pos}
theorem IxR.or {r r':R2} (h:IxR X r) (h':IxR X r'):IxR X (fun x y H Q=>r x y H Q∨r' x y H Q):=by
 intro value slice pins s σ H x y v u Q I rx ry q hs
 rcases q with q | q
 ·exact h value slice pins s σ H x y v u Q I rx ry q hs
 ·exact h' value slice pins s σ H x y v u Q I rx ry q hs
theorem pe_ix {r:R2} (hr:IxR X r) (ha:PE X a ta) (hb:PE X b tb) (hs:PlainIx b):PE X (.Subscript a b pos) (tOp r ta tb):=by
 intro pins s σ H Q I h
 exact Subscript_ (binT ha hb I h fun v u s2 x y H2 I2 rx ry q=>hr a b pins s2 σ H2 x y v u Q I2 rx ry q (hs _ _))
def rIxL (K:FG_):R2:=fun x y H Q => ∃ p xs i v,x=.ref p∧y=.int i∧SqL K H p xs∧atI xs i=some v∧Q v H
def rIxT (K:FG_):R2:=fun x y H Q => ∃ p xs i v,x=.ref p∧y=.int i∧SqT K H p xs∧atI xs i=some v∧Q v H
def rIxS:R2:=fun x y H Q => ∃ z i c,x=.str z∧y=.int i∧z.length≤sizeLine∧atI z.cps.toList i=some c∧Q (.str ⟨#[c]⟩) H
theorem ix_list:IxR X (rIxL X.K):=by
 intro value slice pins s σ H x y v u Q I rx ry h hs
 obtain ⟨p,xs,i,z,rfl,rfl,hq,he,q⟩:=h
 cases rx
 obtain ⟨t,rfl⟩:=ry
 obtain ⟨its,r,pl,hz⟩:=I.list hq
 obtain ⟨j,h1,h2,h3,h4,h5⟩:=atI_get he
 obtain ⟨w,ew,rw'⟩:=r.get h2
 have hl:=r.length
 have hn:=line63
 have fin:EP X pins σ Q w s:=⟨z,H,I,rw',q⟩
 by_cases h0:0≤i
 ·have hj:i.toNat=j:=by
   rw [seqIndex_of h0 h5] at h1
   exact Option.some.inj h1
  exact item_listR pl.isList h0 (by omega) (by rw [hj]; simpa using ew) fin hs
 ·have hj:(i + (its.toArray.size:Int)).toNat=j:=by
   rw [seqIndex_neg (by omega) h4] at h1
   rw [List.size_toArray,← hl]
   exact Option.some.inj h1
  exact subscriptTail_builtinR (x:=w) pl.isList.typeIs slot_list_getitem.lookup
   (wpAny_getItem_list_neg (Q:=fun r s'=>r=w∧EP X pins σ Q r s') pl.isList (by omega) (by rw [List.size_toArray] <;> omega) (by omega) (by rw [hj]; simpa using ew) ⟨rfl,fin⟩) hs
theorem ix_tup:IxR X (rIxT X.K):=by
 intro value slice pins s σ H x y v u Q I rx ry h hs
 obtain ⟨p,xs,i,z,rfl,rfl,hq,he,q⟩:=h
 cases rx
 obtain ⟨t,rfl⟩:=ry
 obtain ⟨its,r,pl,hz⟩:=I.tuple hq
 obtain ⟨j,h1,h2,h3,h4,h5⟩:=atI_get he
 obtain ⟨w,ew,rw'⟩:=r.get h2
 have hl:=r.length
 have hn:=line63
 have fin:EP X pins σ Q w s:=⟨z,H,I,rw',q⟩
 exact subscriptTail_builtinR (x:=w) pl.typeIs slot_tuple_getitem.lookup
  (getItem_tuple (j:=j) (Q:=fun r s'=>r=w∧EP X pins σ Q r s') pl (by omega) (by omega) (by rw [List.size_toArray,← hl]; exact h1) (by simpa using ew) ⟨rfl,fin⟩) hs
theorem ix_str:IxR X rIxS:=by
 intro value slice pins s σ H x y v u Q I rx ry h hs
 obtain ⟨z,i,c,rfl,rfl,hz,he,q⟩:=h
 obtain ⟨t,rfl⟩:=rx
 obtain ⟨t',rfl⟩:=ry
 obtain ⟨j,h1,h2,h3,h4,h5⟩:=atI_get he
 have hl:z.cps.toList.length=z.length:=by simp [Str.length]
 rw [hl] at h1 h4 h5
 have hn:=line63
 exact tail_any (typeIs_str s z t) slot_str_getitem.lookup (getItem_str (c:=c) (by
  have e1:decide (i < -(2 ^ 63:Int))=false:=decide_eq_false (by omega)
  have e2:decide (i≥2 ^ 63)=false:=decide_eq_false (by omega)
  rw [e1,e2,Bool.or_false]) (by rw [h1]; simpa using h2) ⟨.str ⟨#[c]⟩,H,I.tok _,⟨_,rfl⟩,q⟩) hs
theorem Inv.lst {pins:PN_} {σ:St} {H:Hp} {s:Shared} {p:Addr} {xs:List V} (I:Inv X pins σ H s) (h:H p=some (.lst xs)) :
  ∃ (its:List Value) (n:Nat),Vals xs its∧s.heap.get? p=some { cls:=.type "list",data:=.seq its.toArray n }∧xs.length≤sizeLine:=by
 obtain ⟨z,its,n,r,e⟩:=I.hok p _ h
 exact ⟨its,n,r,e,z⟩
theorem slice_bounds (lo hi:Option Int) (n:Nat):(sliceBounds lo hi none n).1=((HT.sIx n 0 lo:Nat):Int)∧(sliceBounds lo hi none n).2.1=((HT.sIx n n hi:Nat):Int)∧(sliceBounds lo hi none n).2.2=1:=by
 refine ⟨?_,?_,rfl⟩
 ·cases lo with
  | none=>simp [sliceBounds,HT.sIx]
  | some i =>
   simp only [sliceBounds,HT.sIx,Option.getD_none,show (1:Int) > 0 by decide,if_true]
   by_cases h:i < 0
   ·simp only [h,if_true] <;> omega
   ·simp only [h,if_false] <;> omega
 ·cases hi with
  | none=>simp [sliceBounds,HT.sIx]
  | some i =>
   simp only [sliceBounds,HT.sIx,Option.getD_none,show (1:Int) > 0 by decide,if_true]
   by_cases h:i < 0
   ·simp only [h,if_true] <;> omega
   ·simp only [h,if_false] <;> omega
theorem slicePick_cut (its:List Value) (lo hi:Option Int):slicePick its.toArray lo hi none=((its.drop (HT.sIx its.length 0 lo)).take (HT.sIx its.length its.length hi - HT.sIx its.length 0 lo)).toArray:=by
 obtain ⟨h1,h2,h3⟩:=slice_bounds lo hi its.toArray.size
 unfold slicePick
 rw [h1,h2,h3]
 simp only [sliceRange_one,pick_run,List.size_toArray] <;> rfl
def rSlL (K:FG_):V→Option Int→Option Int→Hp→VK→Prop:=fun x lo hi H Q => ∃ a xs,x=.ref a∧SqL K H a xs∧∀ p,H p=none→Q (.ref p) (upd H p (.lst (cutV xs lo hi)))
theorem sl_list:SlR X (rSlL X.K):=by
 intro pins s σ H x v vl vu lo hi sl Q I rx hs pl pu h
 obtain ⟨a,xs,rfl,hx,q⟩:=h
 cases rx
 obtain ⟨its,r,ht,hz⟩:=I.list hx
 have hlen:=r.length
 refine ⟨"list",_,slot_list_getitem.lookup,ht.isList.typeIs,?_⟩
 refine wpAny_getItem_list_slice ht.isList hs pl pu .none (by simp) ?_ (by rw [List.size_toArray] <;> omega)
 rw [slicePick_cut,← hlen]
 refine ⟨.ref s.heap.objs.size,_,I.laid (t':=s.toks) (o:=.lst (cutV xs lo hi)) (fun b ob q=>Heap.get?_push_of_some _ q) (Nat.le_refl _) ?_,rfl,q _ (I.hok.fresh (Nat.le_refl _))⟩
 exact ⟨Nat.le_trans (cutV_length xs lo hi) hz,_,0,(r.drop (HT.sIx xs.length 0 lo)).take (HT.sIx xs.length xs.length hi - HT.sIx xs.length 0 lo),Heap.get?_push_size _ rfl⟩
theorem call_len_seq:CallR X (.builtin "len") (fun xs H Q => ∃ p ys,xs=[.ref p]∧(SqL X.K H p ys∨SqT X.K H p ys)∧Q (.int ys.length) H):=by
 intro pins s σ H xs us Q I r h
 obtain ⟨p,ys,rfl,hq,q⟩:=h
 obtain ⟨u,rfl,rx⟩:=vals1 r
 cases rx
 have hn:=line63
 rcases hq with hq | hq
 ·obtain ⟨its,r',pl,hz⟩:=I.list hq
  have hlen:=r'.length
  exact Calls.call_len_list pl.isList (by simp only [List.size_toArray] <;> omega) ⟨.int ys.length,H,I.tok _,⟨s.toks + 1,by rw [List.size_toArray,hlen]⟩,q⟩
 ·obtain ⟨its,r',pl,hz⟩:=I.tuple hq
  have hlen:=r'.length
  exact len_tuple pl (by simp only [List.size_toArray] <;> omega) ⟨.int ys.length,H,I.tok _,⟨s.toks + 1,by rw [List.size_toArray,hlen]⟩,q⟩
theorem call_len_str:CallR X (.builtin "len") (fun xs H Q => ∃ z,xs=[.str z]∧z.length≤sizeLine∧Q (.int z.length) H):=by
 intro pins s σ H xs us Q I r h
 obtain ⟨z,rfl,hz,q⟩:=h
 obtain ⟨u,rfl,t,rfl⟩:=vals1 r
 have hn:=line63
 exact len_str (by omega) ⟨.int z.length,H,I.tok _,⟨_,rfl⟩,q⟩
theorem CallR.or {f:Value} {r r':List V→Hp→VK→Prop} (h:CallR X f r) (h':CallR X f r'):CallR X f (fun xs H Q=>r xs H Q∨r' xs H Q):=by
 intro pins s σ H xs us Q I rs q
 rcases q with q | q
 ·exact h pins s σ H xs us Q I rs q
 ·exact h' pins s σ H xs us Q I rs q
theorem call_list_of:CallR X (.type "list") (fun xs H Q => ∃ p ys,xs=[.ref p]∧(SqL X.K H p ys∨SqT X.K H p ys)∧∀ l,H l=none→Q (.ref l) (upd H l (.lst ys))):=by
 intro pins s σ H xs us Q I r h
 obtain ⟨p,ys,rfl,hq,q⟩:=h
 obtain ⟨u,rfl,rx⟩:=vals1 r
 cases rx
 have fin:∀ (its:List Value),Vals ys its→ys.length≤sizeLine→∀ (h':Heap) (c':Nat),(∀ b o',s.heap.get? b=some o'→h'.get? b=some o') →
   h'.get? s.heap.objs.size=some { cls:=.type "list",dict:=none,data:=.seq its.toArray c',slots := #[] }→EP X pins σ Q (.ref s.heap.objs.size) { s with heap:=h' }:=fun its r' hz h' c' kp e =>
  ⟨.ref s.heap.objs.size,_,I.laid (t':=s.toks) kp (Nat.le_refl _) (show ObjOk X.prog X.w _ h' _ (.lst ys) from ⟨hz,its,c',r',e⟩),rfl,q _ (I.hok.fresh (Nat.le_refl _))⟩
 rcases hq with hq | hq
 ·obtain ⟨its,r',pl,hz⟩:=I.list hq
  have hlen:=r'.length
  obtain ⟨o,ho,hc,n,hd⟩:=pl.isList
  exact call_list_seq p (.inl rfl) ho hc hd (fun h' c' kp e=>fin its r' hz h' c' kp e) (by simp only [List.size_toArray] <;> omega)
 ·obtain ⟨its,r',pl,hz⟩:=I.tuple hq
  have hlen:=r'.length
  obtain ⟨o,ho,hc,n,hd⟩:=pl
  exact call_list_seq p (.inr rfl) ho hc hd (fun h' c' kp e=>fin its r' hz h' c' kp e) (by simp only [List.size_toArray] <;> omega)
theorem call_tuple_of:CallR X (.type "tuple") (fun xs H Q => ∃ p ys,xs=[.ref p]∧((SqL X.K H p ys∧∀ l,H l=none→Q (.ref l) (upd H l (.tup ys)))∨(SqT X.K H p ys∧Q (.ref p) H))):=by
 intro pins s σ H xs us Q I r h
 obtain ⟨p,ys,rfl,h⟩:=h
 obtain ⟨u,rfl,rx⟩:=vals1 r
 cases rx
 rcases h with ⟨hq,q⟩ | ⟨hq,q⟩
 ·obtain ⟨its,r',pl,hz⟩:=I.list hq
  have hlen:=r'.length
  refine call_tuple_list pl.isList (fun h' kp => ?_) (by simp only [List.size_toArray] <;> omega)
  have I1:Inv X pins σ H { s with heap:=h' }:=I.kept (t':=s.toks) kp
  have I2:Inv X pins σ (upd H h'.objs.size (.tup ys)) { s with heap:=h'.push { cls:=.type "tuple",data:=.seq its.toArray } } :=
   I1.laid (t':=s.toks) (fun b o e=>Heap.get?_push_of_some _ e) (Nat.le_refl _) (show ObjOk X.prog X.w _ _ _ (.tup ys) from ⟨hz,its,r',IsTup.new _ _⟩)
  exact ⟨.ref h'.objs.size,_,I2,rfl,q _ (I1.hok.fresh (Nat.le_refl _))⟩
 ·obtain ⟨its,r',pl,hz⟩:=I.tuple hq
  exact call_tuple_same pl ⟨.ref p,H,I,rfl,q⟩
def tyV (K:FG_) (T:String) (x:V) (H:Hp):Prop:=match x with
 | .str _=>T = "str"
 | .int _=>T = "int"
 | .ref p => (T = "list" ∧ ∃ xs, SqL K H p xs) ∨ (T = "tuple" ∧ ∃ o, K.lookup p = some o ∧ o.cls = .type "tuple" ∧ o.dict = none) ∨
   (T = "dict" ∧ ((∃ kvs,H p=some (.dK kvs))∨∃ kvs,H p=some (.dT kvs)))∨(T = "set" ∧ ∃ S n,H p=some (.set S n))
 | _=>False
theorem tyV_is {pins:PN_} {σ:St} {H:Hp} {s:Shared} {T:String} {x:V} {v:Value} (I:Inv X pins σ H s) (r:RelV x v) (ty:tyV X.K T x H) :
  s.TypeIs v T∧∀ a,v=.ref a→∃ ob,s.heap.get? a=some ob∧ob.dict=none:=by
 cases x with
 | str z =>
  obtain ⟨t,rfl⟩:=r
  cases (show T = "str" from ty)
  exact ⟨typeIs_str s z t,fun _ e=>nomatch e⟩
 | int i =>
  obtain ⟨t,rfl⟩:=r
  cases (show T = "int" from ty)
  exact ⟨typeIs_int s i t,fun _ e=>nomatch e⟩
 | ref p =>
  cases r
  rcases ty with ⟨rfl,xs,hq⟩ | ⟨rfl,o,hk,hc,hd⟩ | ⟨rfl,hk⟩ | ⟨rfl,S,n,hk⟩
  ·obtain ⟨its,_,pl,_⟩:=I.list hq
   refine ⟨pl.isList.typeIs,fun a e => ?_⟩
   cases e
   obtain ⟨o,n,e,c,hd,_⟩:=pl
   exact ⟨o,e,hd⟩
  ·refine ⟨⟨o,I.kIn p o hk,hc⟩,fun a e => ?_⟩
   cases e
   exact ⟨o,I.kIn _ o hk,hd⟩
  ·have z:∃ o,s.heap.get? p=some o∧o.ExactDict:=by
    rcases hk with ⟨kvs,hk⟩ | ⟨kvs,hk⟩
    ·obtain ⟨_,_,_,_,o,_,_,e,ex,_⟩:=I.hok p _ hk
     exact ⟨o,e,ex⟩
    ·obtain ⟨_,_,_,_,o,_,_,e,ex,_⟩:=I.hok p _ hk
     exact ⟨o,e,ex⟩
   obtain ⟨o,e,ex⟩:=z
   refine ⟨⟨o,e,ex.1⟩,fun a e2 => ?_⟩
   cases e2
   exact ⟨o,e,ex.2.1⟩
  ·obtain ⟨o,_,_,_,e,ex,_⟩:=I.hok p _ hk
   refine ⟨⟨o,e,ex.1⟩,fun a e2 => ?_⟩
   cases e2
   exact ⟨o,e,ex.2.1⟩
 | _=>exact False.elim ty
def tBM0 (K:FG_) (T:String) (r:V→List V→Hp→VK→Prop) (to:TE):TE:=fun σ H Q=>to σ H fun x H1=>tyV K T x H1∧r x [] H1 Q
def tBM (K:FG_) (T:String) (r:V→List V→Hp→VK→Prop) (to:TE) (t:TA):TE:=fun σ H Q=>to σ H fun x H1=>tyV K T x H1∧t σ H1 fun xs H2=>r x xs H2 Q
variable {o e:Expr} {es:List Expr} {to:TE} {t:TA} {name:Str} {apos cpos:Pos} {T id:String} {r:V→List V→Hp→VK→Prop}
theorem pe_bm0 (pa:PlainAttrs T) (slot:Slot T name id) (hty:typeOf (.builtin id)=pure (.type "method_descriptor")) (hm:MtR X id r) (ho:PE X o to)
  (hbase:attributeBase o name X.env (eval o X.env)=eval o X.env:=by rfl) (hline:(apos.endLine == cpos.line)=true:=by rfl):PE X (.Call (.Attribute o name apos) [] [] cpos) (tBM0 X.K T r to):=by
 intro pins s σ H Q I h
 refine wpAny_Call_method0_late hbase hline (thn (ho pins s σ H _ I h) fun v s1 ⟨x,H1,I1,r1,ty,q1⟩ => ?_)
 obtain ⟨h1,h2⟩:=tyV_is I1 r1 ty
 exact ⟨T,id,pa,slot,hty,h1,h2,Calls.callWith_builtin rfl (PySem.evalArgs_none (hm pins s1 σ H1 x [] v [] Q I1 r1 .nil q1))⟩
theorem pe_bm (pa:PlainAttrs T) (slot:Slot T name id) (hty:typeOf (.builtin id)=pure (.type "method_descriptor")) (hm:MtR X id r) (ho:PE X o to) (ha:PA X (e :: es) t)
  (hbase:attributeBase o name X.env (eval o X.env)=eval o X.env:=by rfl)
  (hfew:((backTo cpos (starEach (e :: es) X.env)).all (fun x => !x.1) && (backToKw cpos (keywordEach [] X.env)).all (fun x=>x.1.isSome)
   && decide ((e :: es).length + ([]:List Keyword).length + (if ([]:List Keyword).isEmpty then 0 else 1) < 30))=true:=by rfl)
  (hline:(apos.endLine == cpos.line)=true:=by rfl) (hs:starEach (e :: es) X.env=(false,eval e X.env) :: starEach es X.env:=by rfl) (hplain:(backTo cpos (starEach es X.env)).any (·.1)=false:=by rfl) :
  PE X (.Call (.Attribute o name apos) (e :: es) [] cpos) (tBM X.K T r to t):=by
 intro pins s σ H Q I h
 refine wpAny_Call_method_late hbase hfew hline rfl (thn (ho pins s σ H _ I h) fun v s1 ⟨x,H1,I1,r1,ty,q1⟩ => ?_)
 obtain ⟨h1,h2⟩:=tyV_is I1 r1 ty
 refine ⟨T,id,pa,slot,hty,h1,h2,?_⟩
 have hA:=ha cpos pins s1 σ H1 _ I1 q1
 rw [hs] at hA ⊢
 refine Calls.callWith_builtin (by show (false || (backTo cpos (starEach es X.env)).any (·.1))=false; rw [hplain] <;> rfl) (Calls.evalArgs_plain ?_)
 exact thn hA fun us s2 ⟨vs,H2,I2,r2,q2⟩=>hm pins s2 σ H2 x vs v us Q I2 r1 r2 q2
end
def MtM (X:Cx) (id:String) (r:V→List V→Hp→VK→Prop):Prop :=
 ∀ (pins:PN_) (s:Shared) (σ:St) (H:Hp) (x:V) (xs:List V) (v:Value) (us:List Value) (Q:VK),Inv X pins σ H s→RelV x v→Vals xs us→r x xs H Q →
  wpAny (model X.prog X.w) X.A (call (.builtin id) (v :: us)) (EP X pins σ Q) X.xe s
theorem Vals.one:∀ {x:V} {us:List Value},Vals [x] us→∃ u,us=[u]∧RelV x u
 | _,_,.cons r .nil=>⟨_,rfl,r⟩
theorem Vals.zero:∀ {us:List Value},Vals [] us→us=[]
 | _,.nil=>rfl
theorem Vals.dropLast {xs:List V} {us:List Value} (h:Vals xs us):Vals xs.dropLast us.dropLast:=by
 induction h with
 | nil=>exact .nil
 | cons r t ih =>
  cases t with
  | nil=>exact .nil
  | cons q t'=>exact .cons r ih
theorem Vals.reverse {xs:List V} {us:List Value} (h:Vals xs us):Vals xs.reverse us.reverse:=by
 induction h with
 | nil=>exact .nil
 | cons r t ih=>rw [List.reverse_cons,List.reverse_cons]; exact Vals.append ih (.cons r .nil)
theorem Vals.rep {xs:List V} {us:List Value} (h:Vals xs us):∀ k:Nat,Vals (List.replicate k xs).flatten (List.replicate k us).flatten
 | 0=>.nil
 | k + 1=>by
  rw [List.replicate_succ,List.replicate_succ,List.flatten_cons,List.flatten_cons]
  exact Vals.append h (Vals.rep h k)
theorem erase_last {α:Type} (l:List α):l.eraseIdx (l.length - 1)=l.dropLast:=by
 induction l with
 | nil=>rfl
 | cons a r ih =>
  cases r with
  | nil=>rfl
  | cons b r =>
   have e:(a :: b :: r).length - 1=((b :: r).length - 1) + 1:=by
    have h1:(a :: b :: r).length=r.length + 2:=rfl
    have h2:(b :: r).length=r.length + 1:=rfl
    omega
   rw [e,List.eraseIdx_cons_succ,ih]
   all_goals rfl
theorem foldl_rep (its:List Value):∀ (k:Nat) (acc:List Value),
  List.foldl (fun x1 x2=>x1 ++ x2) acc.toArray (List.replicate k its.toArray)=(acc ++ (List.replicate k its).flatten).toArray
 | 0,acc=>by simp
 | k + 1,acc=>by
  have e:acc.toArray ++ its.toArray=(acc ++ its).toArray:=by simp
  have e2:(acc ++ its) ++ (List.replicate k its).flatten=acc ++ (List.replicate (k + 1) its).flatten:=by
   rw [List.replicate_succ,List.flatten_cons,List.append_assoc]
  rw [← e2,← foldl_rep its k (acc ++ its),← e,List.replicate_succ,List.foldl_cons]
section
variable {X:Cx} {pins:PN_} {σ:St} {H:Hp} {s:Shared} {l b:Addr} {xs ys zs:List V}
theorem Inv.lset {its its':List Value} {n:Nat} {f:Array Value→Array Value} {t':Nat} (I:Inv X pins σ H s) (hH:H l=some (.lst xs))
  (e:s.heap.get? l=some { cls:=.type "list",data:=.seq its.toArray n }) (hf:f its.toArray=its'.toArray) (hv:Vals ys its') (hz:ys.length≤sizeLine) :
  Inv X pins σ (upd H l (.lst ys)) { s with heap:=s.heap.update l (Obj.mapSeq f),toks:=t' }:=by
 have q:=PySem.IsL.update e f
 rw [hf] at q
 refine I.write (x:=l) (e:=l) (by rw [hH]; exact trivial) (.inl rfl) (fun b' u hb hu=>(Heap.get?_update_other s.heap (Obj.mapSeq f) (Ne.symm hb)).trans hu) ⟨_,q⟩ ?_
 exact ⟨hz,its',_,hv,q⟩
theorem Inv.lnew {its:List Value} {t':Nat} (I:Inv X pins σ H s) (hv:Vals ys its) (hz:ys.length≤sizeLine) :
  Inv X pins σ (upd H s.heap.objs.size (.lst ys)) { s with heap:=s.heap.push { cls:=.type "list",data:=.seq its.toArray },toks:=t' } :=
 I.laid (fun _ _ q=>Heap.get?_push_of_some _ q) (Nat.le_refl _) ⟨hz,its,0,hv,Heap.get?_push_size _ rfl⟩
theorem Inv.fresh (I:Inv X pins σ H s):H s.heap.objs.size=none:=I.hok.fresh (Nat.le_refl _)
theorem Inv.lstM (I:Inv X pins σ H s) (hH:H l=some (.lst xs)):xs.length≤sizeLine∧∃ (its:List Value) (n:Nat),Vals xs its∧xs.length=its.length∧s.heap.get? l=some { cls:=.type "list",data:=.seq its.toArray n }:=by
 obtain ⟨z,its,n,r,e⟩:=I.hok l _ hH
 exact ⟨z,its,n,r,r.length,e⟩
theorem notLongL {n:Nat} (h:n≤sizeLine):Builtin.List.listTooLong n=false:=by
 unfold Builtin.List.listTooLong
 exact decide_eq_false (by omega)
end
section
variable {X:Cx}
def rAppend:V→List V→Hp→VK→Prop:=fun x vs H Q => ∃ l xs y,x=.ref l∧vs=[y]∧H l=some (.lst xs)∧xs.length < sizeLine∧Q .non (upd H l (.lst (xs ++ [y])))
theorem gj_:MtM X "list.append" rAppend:=by
 intro pins s σ H x vs v us Q I rx rv h
 obtain ⟨l,xs,y,rfl,rfl,hH,hz,q⟩:=h
 cases rx
 obtain ⟨u,rfl,ru⟩:=rv.one
 obtain ⟨z,its,n,r,hl,e⟩:=I.lstM hH
 refine call_meets F.slot_list_append ⟨_,e,rfl⟩ F.entry_list_append (F.args_list_append_2 _ _) (PySem.list_append l its.toArray n u (by rw [List.size_toArray]; omega)) ⟨e,?_⟩
 refine ⟨.non,_,I.lset (its':=its ++ [u]) hH e (by simp) (r.append (.cons ru .nil)) ?_,rfl,q⟩
 rw [List.length_append,List.length_singleton]
 omega
def rPop:V→List V→Hp→VK→Prop:=fun x vs H Q => ∃ l xs y,x=.ref l∧vs=[]∧H l=some (.lst xs)∧xs[xs.length - 1]? = some y∧Q y (upd H l (.lst xs.dropLast))
theorem mt_pop:MtM X "list.pop" rPop:=by
 intro pins s σ H x vs v us Q I rx rv h
 obtain ⟨l,xs,y,rfl,rfl,hH,hy,q⟩:=h
 cases rx
 have hus:=rv.zero
 subst hus
 obtain ⟨z,its,n,r,hl,e⟩:=I.lstM hH
 obtain ⟨u,hu,ru⟩:=r.get hy
 have hy':its.toArray[its.toArray.size - 1]? = some u:=by
  show its.toArray[its.length - 1]? = some u
  rw [← Array.getElem?_toList,← hl]
  exact hu
 refine call_meets F.slot_list_pop ⟨_,e,rfl⟩ F.entry_list_pop (F.args_list_pop_1 _) (MeetsSeq.list_pop_last l its.toArray n u hy' (by rw [List.size_toArray]; omega)) ⟨e,?_⟩
 refine ⟨y,_,I.lset (its':=its.dropLast) hH e ?_ r.dropLast ?_,ru,q⟩
 ·show its.toArray.eraseIdxIfInBounds (its.toArray.size - 1)=its.dropLast.toArray
  rw [List.size_toArray,List.eraseIdxIfInBounds_toArray,erase_last]
 ·rw [List.length_dropLast]
  omega
def rCat:R2:=fun x y H Q => ∃ l b xs zs,x=.ref l∧y=.ref b∧H l=some (.lst xs)∧H b=some (.lst zs)∧xs.length + zs.length≤sizeLine∧∀ p,H p=none→Q (.ref p) (upd H p (.lst (xs ++ zs)))
theorem op_cat:OpR X (binaryOp .Add) rCat:=by
 intro pins s σ H x y v u Q I rx ry h
 obtain ⟨l,b,xs,zs,rfl,rfl,hH,hB,hz,q⟩:=h
 cases rx
 cases ry
 obtain ⟨z,its,n,r,hl,e⟩:=I.lstM hH
 obtain ⟨z2,its2,n2,r2,hl2,e2⟩:=I.lstM hB
 refine PySem.P.add_list e e2 ?_ (by rw [List.size_toArray,List.size_toArray]; omega)
 have ea:its.toArray ++ its2.toArray=(its ++ its2).toArray:=by simp
 rw [ea]
 exact ⟨.ref _,_,I.lnew (t':=s.toks) (r.append r2) (by rw [List.length_append]; omega),rfl,q _ I.fresh⟩
def rRep:R2:=fun x y H Q => ∃ l k xs,x=.ref l∧y=.int k∧H l=some (.lst xs) ∧ -(2 ^ 63)≤k∧k < 2 ^ 63∧xs.length * k.toNat≤sizeLine ∧
 ∀ p,H p=none→Q (.ref p) (upd H p (.lst (List.replicate k.toNat xs).flatten))
theorem len_rep {α:Type} (xs:List α) (k:Nat):(List.replicate k xs).flatten.length=k * xs.length:=by
 induction k with
 | zero=>simp
 | succ k ih=>rw [List.replicate_succ,List.flatten_cons,List.length_append,ih,Nat.succ_mul,Nat.add_comm]
theorem op_rep:OpR X (binaryOp .Mult) rRep:=by
 intro pins s σ H x y v u Q I rx ry h
 obtain ⟨l,k,xs,rfl,rfl,hH,h1,h2,hz,q⟩:=h
 cases rx
 obtain ⟨t,rfl⟩:=ry
 obtain ⟨z,its,n,r,hl,e⟩:=I.lstM hH
 have hlen:its.toArray.size * k.toNat≤sizeLine:=by rw [List.size_toArray,← hl]; exact hz
 have hcap:¬ its.toArray.size * k.toNat > (2 ^ 63 - 1) / 8:=by
  have:(sizeLine:Nat)≤(2 ^ 63 - 1) / 8:=by decide
  omega
 have hfit:¬ (!Builtin.List.listFitsIndex k)=true:=by
  rw [fitsIndex_both h1 h2]
  exact Bool.false_ne_true
 have hlong:¬ Builtin.List.listTooLong (its.toArray.size * k.toNat)=true:=by
  rw [notLongL hlen]
  exact Bool.false_ne_true
 have hnew:List.foldl (fun x1 x2=>x1 ++ x2) #[] (List.replicate (if its.toArray.isEmpty=true then 0 else k.toNat) its.toArray)=(List.replicate k.toNat its).flatten.toArray:=by
  have f0:∀ m:Nat,List.foldl (fun x1 x2=>x1 ++ x2) #[] (List.replicate m its.toArray)=(List.replicate m its).flatten.toArray:=fun m=>by
   have:=foldl_rep its m []
   rw [List.nil_append] at this
   exact this
  rw [f0]
  cases its with
  | nil=>simp
  | cons a r'=>rw [if_neg (by simp)]
 refine wpAny_binaryOp_repeat_ref (T := "list") (U := "int") (by decide) ⟨_,e,rfl⟩ (fun s'=>typeIs_int s' k t) noFill_list_mul F.fills_int_mul F.slot_int_rmul repeat_list F.slot_int_index.lookup
  (call_meets F.slot_int_rmul (typeIs_int s k t) F.entry_int_rmul (F.args_int_rmul_2 _ _) (int___rmul___int_list k t l its.toArray n)
   ⟨e,rfl,⟨_,e,rfl⟩,call_meets F.slot_list_mul ⟨_,e,rfl⟩ F.entry_list_mul (F.args_list_mul_2 _ _) (AutoListH.list___mul___list_int_3 l its.toArray n k t hfit hcap hlong) ⟨e,?_⟩⟩)
 rw [hnew]
 exact ⟨.ref _,_,I.lnew (t':=s.toks) (r.rep k.toNat) (by rw [len_rep,Nat.mul_comm]; exact hz),rfl,q _ I.fresh⟩
end
end L2
namespace Att
open PySem PySem.W PySem.Calls PyProof.Rows
theorem ii_ {P:Params} {h:Heap}:∀ (ns:List Int) (vs:List Value),WellAll P h vs (ns.map WData.int)→IntsAre vs ns:=by
 intro ns
 induction ns with
 | nil =>
  intro vs w
  rw [List.map_nil] at w
  cases w
  exact .nil
 | cons n ns ih =>
  intro vs w
  rw [List.map_cons] at w
  cases w with
  | cons a b =>
   cases a
   exact .cons _ _ (ih _ b)
theorem script_of {l:OpenLaw} {n:Nat} (hn:l.most=some n) {P:Params} {h:Heap} {args:List WData} {vals:List Value}
  (hpre:l.row.toRowW.claim.pre args=true) (hwl:WellAll P h vals args) :
  ∃ a vs ns,vals=[Value.ref a]∧args=[WData.list (ns.map WData.int)]∧h.get? a=some { cls:=.type "list",data:=.seq vs.toArray }∧IntsAre vs ns∧ns.length≤n:=by
 have hsh:WShape.hasAll [] args [.list .int]=true:=(pre_splitW hpre).1
 have hc:l.pre.holds [] { args:=args }=true:=(pre_splitW hpre).2
 obtain ⟨d,r,rfl,h1,h2⟩:=hasAllW_cons hsh
 obtain rfl:=hasAllW_nil h2
 obtain ⟨xs,rfl,h3⟩:=hasW_list h1
 obtain ⟨ns,rfl⟩:=items_int h3
 have hlen:ns.length≤n:=by
  unfold OpenLaw.pre at hc
  have h4:(WTm.not (.lt (.lit (.int (n:Int))) (.len (.arg 0)))).holds [] { args:=[.list (ns.map .int)] }=true:=by
   have h4:=(holds_andW hc).1
   rw [hn] at h4
   exact h4
  have h5:=condW_of h4 (w_not (w_lt w_lit (w_len_list (w_arg rfl))))
  rw [List.length_map] at h5
  refine Nat.le_of_not_lt fun q => ?_
  have q':(n:Int) < ((ns.length:Nat):Int):=by omega
  first
   | (rw [decide_eq_true q'] at h5; exact absurd h5 (by decide))
   | (simp at h5; omega)
 cases hwl with
 | cons w1 w2 =>
  cases w2
  cases w1 with
  | list ho hall=>exact ⟨_,_,ns,rfl,rfl,ho,ii_ ns _ hall,hlen⟩
theorem post_true (l:OpenLaw) (args:List WData):l.row.toRowW.claim.post args (.bool true) args=true :=
 postW_of (r:=l.row.toRowW) (X:=(true == true))
  (show WShape.has [] (.bool true) .bool=true by first | rfl | decide | simp [WShape.has,WShape.arms,WShape.armsAll])
  (show (WTm.eq .res (.lit (.bool true))).value [] { args:=args,res:=some (.bool true),after:=args }=some (.bool (true == true)) from w_eq_bool (w_res rfl) w_lit) rfl
theorem attach_call {l:OpenLaw} {n:Nat} {q:Program} {loose:List Str} {XP:(Str→Option Value)→Heap→Prop} {YP:World→Heap→Prop} {d:DefRec}
  (hn:l.most=some n) (hdf:d.params.defaults=[])
  (call:∀ (w:World) (s₀ s₁:Shared) (mg mb:MG_) (fa:Addr) (o:Obj) (pm cd doc:Value) (a:Addr) (vs:List Value) (ns:List Int),
   Ground q loose [] XP w s₀ mg mb s₁.heap→YP w s₁.heap →
   s₁.heap.get? fa=some o→o.data=.func (docDef d.name d.params d.body d.scope pm cd doc)→s₁.heap.CodeRec cd d.name→mg d.name=some (.ref fa) →
   s₁.heap.get? a=some { cls:=.type "list",data:=.seq vs.toArray }→IntsAre vs ns→ns.length≤n→s₁.gens = #[] →
   codeAny (model l.prog w) callerA (.call (.ref fa) ⟨[.ref a],[]⟩) (fun r s'=>r=.ok (.ret (.bool true))∧OldK s₁.heap s'.heap∧s'.os=s₁.os∧AllBare s'.gens) s₁) :
  WalkO q loose XP YP l.row.toRowW d [] (fun f vs=>PySem.call f vs):=by
 intro w s₀ s₁ mg mb G Y fa o pm cd doc dV kV ho hd hcd hD hmg hg args vals as hpre hlay hrd hwl hlo
 obtain rfl:dV=.none:=Dflts.none hD hdf
 obtain rfl:kV=.none:=Dflts.noKw hD
 obtain ⟨a,vs,ns,rfl,rfl,hobj,hints,hlen⟩:=script_of hn hpre hwl
 refine enter_call (codeAny_mono (call w s₀ s₁ mg mb fa o pm cd doc a vs ns G Y ho (fd_plain hd) hcd hmg hobj hints hlen hg) fun r s' hq => ?_)
 obtain ⟨rfl,h2,h3,h4⟩:=hq
 exact ⟨.inl ⟨.bool true,.bool true,[],rfl,fun _=>rfl,.bool true,post_true l _,fun _=>⟨List.Pairwise.nil,fun _ hm=>(nomatch hm)⟩⟩,h2,h3,h4⟩
end Att
namespace L2
open PySem PySem.Spec PyProof.Rows
theorem vals_ints:∀ {vs:List Value} {ns:List Int},IntsAre vs ns→Vals (ns.map V.int) vs
 | _,_,.nil=>.nil
 | _,_,.cons n t h=>.cons ⟨t,rfl⟩ (vals_ints h)
def Only (H:Hp):Prop := ∀ b,H b=none∨∃ o xs,H b=some (.frz o (.lst xs))
theorem law_call {P:Program} {w:World} {K:FG_} {mg mb:MG_} {CX:CXT} {k:Nat} {fa a:Addr} {fd:FuncData} {x:Str} {sp:Sp} {s₁:Shared} {vs:List Value} {ns:List Int}
  (KX:K.In s₁.heap) (hns:s₁.heap.Ns mainGlobals mg) (hb:s₁.heap.Ns builtinsNs mb) (hbb:∀ x:Str,x ≠ "__name__" → mb x=bootBuiltins x) (hlim:s₁.heap.NoLimit) (hg:s₁.gens = #[])
  (ha:s₁.heap.get? a=some { cls:=.type "list",data:=.seq vs.toArray }) (hi:IntsAre vs ns) (hl:ns.length≤sizeLine) (hr:Room k callerA)
  (F:∀ base:Heap,K.In base→base.Ns mainGlobals mg→FnOk P w K mg base CX k fa fd [x] sp) (hbind:∀ (s:Shared) (u:Value),BindsTo s fd ⟨[u],[]⟩ [(x,u)])
  (hsp:∀ H:Hp,Only H→SqL K H a (ns.map V.int)→sp [.ref a] H (fun v _=>v=.bl true) fun _ _ _=>False)
  (hCX:∀ H e s',CX [] H s₁ (fun _ _ _=>False) e s'→False) :
  codeAny (model P w) callerA (.call (.ref fa) ⟨[.ref a],[]⟩) (fun r s'=>r=.ok (.ret (.bool true))∧OldK s₁.heap s'.heap∧s'.os=s₁.os∧AllBare s'.gens) s₁:=by
 have rv:=vals_ints hi
 have lenV:=hi.length
 have core:∀ H:Hp,Only H→SqL K H a (ns.map V.int)→HOk P w H s₁.heap→(∀ b,H b≠none→b=a)→(H a≠none→K.lookup a=none) →
   codeAny (model P w) callerA (.call (.ref fa) ⟨[.ref a],[]⟩) (fun r s'=>r=.ok (.ret (.bool true))∧OldK s₁.heap s'.heap∧s'.os=s₁.os∧AllBare s'.gens) s₁:=by
  intro H hO hS hok hA hK
  have base_of:∀ {b:Addr} {o:Obj},s₁.heap.get? b=some o→H b=none→(hidT s₁.heap H).get? b=some o:=fun e n=>hidT_get e n
  have noA:∀ {b:Addr} {o:Obj} {es:Array DictEntry} {ep:Nat},s₁.heap.get? b=some o→o.data=.dict es ep→H b=none:=fun {b o es ep} e d=>by
   cases q:H b with
   | none=>rfl
   | some u =>
    have e':b=a:=hA b (by rw [q]; simp)
    subst e'
    rw [ha] at e; cases e
    have d':Data.seq vs.toArray _=Data.dict es ep:=d
    cases d'
  have nsK:∀ {b:Addr} {m:MG_},s₁.heap.Ns b m→(hidT s₁.heap H).Ns b m:=fun {b m} ⟨o,es,ep,e,d,r⟩=>⟨o,es,ep,base_of e (noA e d),d,r⟩
  have hKb:K.In (hidT s₁.heap H):=fun b o e=>base_of (KX b o e) (by
   cases q:H b with
   | none=>rfl
   | some u =>
    have e':b=a:=hA b (by rw [q]; simp)
    subst e'
    rw [hK (by rw [q]; simp)] at e; cases e)
  have hM:Mod K mg (hidT s₁.heap H):=⟨hKb,nsK hns,⟨mb,nsK hb,hbb⟩,let ⟨mc,h1,h2⟩:=hlim; ⟨mc,nsK h1,h2⟩⟩
  have e0:Env0 P w K mg (hidT s₁.heap H) callerA [] s₁ H:=⟨rfl,hM,fun b o e=>of_hidT e,Nat.le_of_eq (hidT_size _ _),trivial,fun b hb=>absurd (show b∈([]:List Addr) from hb) (by simp),hok,.of_eq hg⟩
  refine codeAny_mono ((F _ hKb (nsK hns)).run callerA [] s₁ H ⟨[.ref a],[]⟩ [.ref a] [.ref a] _ _ hr e0 (hbind s₁ (.ref a)) (.cons rfl .nil) (hsp H hO hS)) fun r s' h => ?_
  cases r with
  | error e=>exact (hCX H e s' h).elim
  | ok fl =>
   cases fl with
   | next=>exact False.elim h
   | brk=>exact False.elim h
   | cont=>exact False.elim h
   | ret u =>
    obtain ⟨v,H',os,bare,un,hok',r',q⟩:=h
    have q':v=.bl true:=q
    subst q'
    obtain rfl:u=Value.bool true:=r'
    refine ⟨rfl,OldK.of_keep fun b o e => ?_,os,bare⟩
    cases q:H b with
    | none=>exact un.keep b o e q (by intro z; exact absurd (show b∈([]:List Addr) from z) (by simp)) (by simp)
    | some u =>
     rcases hO b with z | ⟨ob,xs,z⟩
     ·rw [q] at z; cases z
     ·have z2:=un.frzs b ob _ z
      obtain ⟨e1,_⟩:=hok b _ z
      obtain ⟨e2,_⟩:=hok' b _ z2
      rw [e] at e1; cases e1
      exact e2
 cases hk:K.lookup a with
 | some o =>
  have e:=KX a o hk
  rw [ha] at e
  cases e
  refine core (fun _=>none) (fun _=>.inl rfl) (.inr ⟨_,vs.toArray,_,hk,rfl,rfl,rfl,by rw [List.size_toArray,lenV]; exact hl,by simpa using rv⟩) (fun b u z=>by have z':(none:Option HO)=some u:=z; cases z') (fun b z=>absurd rfl z) fun z=>absurd rfl z
 | none =>
  refine core (fun b=>if b=a then some (.frz { cls:=.type "list",data:=.seq vs.toArray } (.lst (ns.map V.int))) else none) (fun b => ?_) (.inl (.inr ⟨{ cls:=.type "list",data:=.seq vs.toArray },if_pos rfl⟩)) (fun b u z => ?_) (fun b z => ?_) fun _=>hk
  ·by_cases hb:b=a
   ·exact .inr ⟨_,_,if_pos hb⟩
   ·exact .inl (if_neg hb)
  ·by_cases hb:b=a
   ·have z':=(if_pos hb).symm.trans z
    cases z'
    subst hb
    exact ⟨ha,by rw [List.length_map]; exact hl,vs,_,rv,ha⟩
   ·have z':=(if_neg hb).symm.trans z
    cases z'
  ·by_cases hb:b=a
   ·exact hb
   ·exact absurd (if_neg hb) z
def inClass (s:Stmt) (j:Nat):Stmt:=match s with
 | .ClassDef _ _ _ body _ _ _ _ _ _ _=>body.getD j (.Pass ⟨0,0,0,0⟩)
 | _=>.Pass ⟨0,0,0,0⟩
def defArgs (s:Stmt):Arguments:=match s with
 | .FunctionDef _ a _ _ _ _ _ _ _ _=>a
 | _=>{ posonlyargs:=[],args:=[],vararg:=none,kwonlyargs:=[],kw_defaults:=[],kwarg:=none,defaults:=[] }
def defBody (s:Stmt):List Stmt:=match s with
 | .FunctionDef _ _ b _ _ _ _ _ _ _=>b
 | _=>[]
def defScope (s:Stmt):Scope:=match s with
 | .FunctionDef _ _ _ _ _ _ sc _ _ _=>sc
 | _=>{ kind:=.function,names:=[],isGenerator:=false,isCoroutine:=false }
abbrev CX0:CXT:=fun _ _ _ _ _ _=>False
abbrev E0:XK:=fun _ _ _=>False
theorem pass0 {X:Cx}:Passes CX0 X E0:=fun _ _ _ _ _ _ _ h=>h.elim
structure Fun (K:FG_) (x qual:Str) (st:Stmt) (f:Addr) (fd:FuncData):Prop where
 ex:∃ (oc:Value) (od:Option Addr) (kV doc pm:Value) (an:Option Addr) (cdv ct:Value) (osl:Array (Option Value)),
  fd=PySem.W.fnOf x qual (defArgs st) (defBody st) (defScope st) .none kV doc pm an cdv ct∧K.lookup f=some ⟨oc,od,.func fd,osl⟩∧PySem.W.codeIn K cdv qual=true
 kp:PySem.W.keepIn K (.ref f)=true
section
variable {P:Program} {w:World} {K:FG_} {mg:MG_} {base:Heap}
theorem Fun.ok {x qual:Str} {st:Stmt} {f:Addr} {fd:FuncData} {N ps:List Str} {k:Nat} {sp:Sp} (F:Fun K x qual st f fd) (S:FnScope N ps (defScope st)) (len:∀ vs H Q E,sp vs H Q E→vs.length=ps.length)
  (hbody:∀ (cdv:Value) (A:Around) (outer:List Env) (s:Shared) (H:Hp) (vs:List V) (Q:VK) (E:XK),Room k (A.deeper (envOfC qual (defScope st) s.heap.objs.size f cdv))→sp vs H Q E →
   ∃ t,PSs (cxOf CX0 P w K mg base N qual (defScope st) f cdv A outer s H E).nox (defBody st) t∧t { nx:=fun _ H'=>Q .non H',rt:=Q } (start N vs) H):FnOk P w K mg base CX0 (k + 1) f fd ps sp:=by
 obtain ⟨oc,od,kV,doc,pm,an,cdv,ct,osl,rfl,lk,hcd⟩:=F.ex
 refine fn_of lk hcd S len fun A outer s H vs Q E hr hsp => ?_
 obtain ⟨t,h,q⟩:=hbody cdv A outer s H vs Q E hr hsp
 exact ⟨t,h.nox,q⟩
theorem Fun.binds {x qual:Str} {st:Stmt} {f:Addr} {fd:FuncData} {ps:List Str} (F:Fun K x qual st f fd)
  (h:∀ (kV doc pm:Value) (an:Option Addr) (cdv ct:Value) (us:List Value),us.length=ps.length→bindArgs (PySem.W.fnOf x qual (defArgs st) (defBody st) (defScope st) .none kV doc pm an cdv ct) ⟨us,[]⟩=pure (ps.zip us)):Binds K fd ps []:=by
 obtain ⟨oc,od,kV,doc,pm,an,cdv,ct,osl,rfl,lk,hcd⟩:=F.ex
 exact .all (h kV doc pm an cdv ct)
end
theorem bv_ {A:Around} {k:Nat} (hr:Room k A):A.units + 1 < cLine:=Nat.lt_of_le_of_lt (Nat.add_le_add_left (by decide:1≤64) _) hr.units
section
variable {X:Cx}
theorem pv (i:Nat) {x:Str} {pos:Pos} (hN:X.N[i]? = some x:=by rfl) (hv:Vis X.env.scope x:=by first | exact Or.inl rfl | exact Or.inr (Or.inl rfl) | exact Or.inr (Or.inr rfl)) (hd:(x == ("__debug__" : Str))=false:=by decide)
  (hcd:(x == ("__classdict__" : Str))=false:=by decide):PE X (.Name x pos) (tVar i):=pe_var hN hv hd hcd
end
theorem iteF {A B:Prop} (h:B):if false=true then A else B:=by
 rw [if_neg Bool.false_ne_true]
 exact h
theorem iteT {A B:Prop} (h:A):if true=true then A else B:=by
 rw [if_pos rfl]
 exact h
theorem ite2 {c A B:Prop} [Decidable c] (h1:c→A) (h2:¬ c→B):if c then A else B:=by
 by_cases h:c
 ·rw [if_pos h]
  exact h1 h
 ·rw [if_neg h]
  exact h2 h
def Same (H H':Hp):Prop := ∀ b o,H b=some o→H' b=some o
theorem Same.refl (H:Hp):Same H H:=fun _ _ h=>h
theorem Same.seq {K:FG_} {H H':Hp} {a:Addr} {xs:List V} (e:Same H H') (h:SqL K H a xs):SqL K H' a xs:=by
 rcases h with (h | ⟨o,h⟩) | h
 ·exact .inl (.inl (e _ _ h))
 ·exact .inl (.inr ⟨o,e _ _ h⟩)
 ·exact .inr h
section
variable {X:Cx}
def CDivB (_ j:Int):Prop:=0 < j∧j < 2 ^ 250
theorem log2_big {j:Int} (h1:0 < j) (h2:j < 2 ^ 250):j.natAbs.log2 < 9000:=by
 have h0:j.natAbs≠0:=by omega
 have h3:j.natAbs < 2 ^ 250:=by omega
 exact Nat.lt_trans ((Nat.log2_lt h0).mpr h3) (by decide)
theorem op_fdivB:OpR X (binaryOp .FloorDiv) (rI CDivB fun i j=>.int (i / j)):=opI fun i j _ _ _ _ _ hc q=>by
 have h1:(0:Int) < j:=hc.1
 exact floordiv_int (by omega) (by rw [Int.fdiv_eq_ediv_of_nonneg i (by omega)]; exact q) (.inl (PyProof.noPylong_of_log2 (log2_big hc.1 hc.2)))
def CMulB (i j:Int):Prop:=i.natAbs < 2 ^ 250∧j.natAbs < 2 ^ 250
theorem CMulB.ok {i j:Int} (h:CMulB i j):IntMulOk i j:=by
 have a:Builtin.Int.intBits i≤250:=intBits_le h.1
 have b:Builtin.Int.intBits j≤250:=intBits_le h.2
 unfold IntMulOk Builtin.Int.intTooBig
 intro z
 rw [Bool.and_eq_true] at z
 have c:=of_decide_eq_true z.2
 rw [bitsLine_eq] at c
 omega
theorem op_mulB:OpR X (binaryOp .Mult) (rI CMulB fun i j=>.int (i * j)):=opI fun _ _ _ _ _ _ _ hc q=>mul_int q hc.ok
theorem call_isinst:CallR X (.builtin "isinstance") (fun xs H Q => ∃ x n t b,xs=[x,.ty n]∧TyOf X.K H x t∧PySem.W.kitOne X.K t (.type n)=some b∧Q (.bl b) H):=by
 intro pins s σ H xs us Q I r h
 obtain ⟨x,n,t,b,rfl,ty,e,q⟩:=h
 obtain ⟨u,w',rfl,r1,r2⟩:=vals2 r
 cases (show w'=Value.type n from r2)
 exact df_ I r1 ty e (fun tk=>⟨.bl b,H,I.tok _,rfl,q⟩)
end
section
variable {K:FG_}
theorem fk_ (T:String):PySem.W.kitOne K (.type T) (.type T)=some true:=by
 unfold PySem.W.kitOne
 rw [if_pos (beq_self_eq_true _)]
theorem et_ {T S:String} {b:Bool} (h1:(Value.type T == Value.type S)=false) (h2:PySem.W.kitMeta S=true) (h3:(fastBuiltinMro T).map (·.contains (Value.type S))=some b):PySem.W.kitOne K (.type T) (.type S)=some b:=by
 unfold PySem.W.kitOne
 rw [if_neg (by rw [h1]; exact Bool.false_ne_true)]
 show (if PySem.W.kitMeta S=true then PySem.W.subIn K (.type T) (.type S) else none)=some b
 rw [if_pos h2]
 exact h3
theorem ci_:bootBuiltins "isinstance" = some (.builtin "isinstance"):=by decide +kernel
theorem bt_max:bootBuiltins "max" = some (.builtin "max"):=by decide +kernel
theorem bt_min:bootBuiltins "min" = some (.builtin "min"):=by decide +kernel
theorem bt_int:bootBuiltins "int" = some (.type "int"):=by decide +kernel
theorem bt_bool:bootBuiltins "bool" = some (.type "bool"):=by decide +kernel
theorem fv_:bootBuiltins "str" = some (.type "str"):=by decide +kernel
theorem ee_:bootBuiltins "list" = some (.type "list"):=by decide +kernel
theorem eb_:bootBuiltins "tuple" = some (.type "tuple"):=by decide +kernel
theorem gw_:bootBuiltins "dict" = some (.type "dict"):=by decide +kernel
end
theorem closure_of {scope:Scope} {env:Env} (h:∀ y∈scope.names,y.2=.free→∃ c,env.cells.lookup y.1=some c) :
  ∃ cl,closureFor scope env=pure cl∧(∀ x c,cl.lookup x=some c→env.cells.lookup x=some c)∧(∀ y∈scope.names,y.2=.free→∃ c,cl.lookup y.1=some c):=by
 have key:∀ (ns:List (Str×NameKind)) (cs:List (Str×Addr)),(∀ y∈ns,y.2=.free→∃ c,env.cells.lookup y.1=some c)→(∀ x c,cs.lookup x=some c→env.cells.lookup x=some c) →
   ∃ cl,(forIn ns cs fun (x:Str×NameKind) (cs:List (Str×Addr))=>(if x.2 == .free then do let c ← cellOf env x.1; pure (ForInStep.yield ((x.1,c) :: cs)) else pure (ForInStep.yield cs):Sem _))=pure cl ∧
    (∀ x c,cl.lookup x=some c→env.cells.lookup x=some c)∧(∀ x c,cs.lookup x=some c→∃ c,cl.lookup x=some c)∧(∀ y∈ns,y.2=.free→∃ c,cl.lookup y.1=some c):=by
  intro ns
  induction ns with
  | nil=>intro cs _ hc; exact ⟨cs,rfl,hc,fun x c e=>⟨c,e⟩,fun y hy=>nomatch hy⟩
  | cons y r ih =>
   intro cs hn hc
   obtain ⟨n,k⟩:=y
   by_cases hk:k=.free
   ·subst hk
    obtain ⟨c,e⟩:=hn (n,.free) List.mem_cons_self rfl
    obtain ⟨cl,e1,e2,e3,e4⟩:=ih ((n,c) :: cs) (fun y hy=>hn y (List.mem_cons_of_mem _ hy)) (fun x c' q=>by
     rw [List.lookup_cons] at q
     cases hx:x == n with
     | true =>
      rw [hx] at q
      cases q
      have:x=n:=by simpa using hx
      rw [this]
      exact e
     | false =>
      rw [hx] at q
      exact hc x c' q)
    refine ⟨cl,?_,e2,fun x c' q => ?_,fun y hy hyk => ?_⟩
    ·rw [List.forIn_cons]
     have e':env.cells.lookup n=some c:=e
     simp only [beq_self_eq_true,if_true,cellOf,e']
     exact e1
    ·cases hx:x == n with
     | true=>exact e3 x c (by rw [List.lookup_cons,hx])
     | false=>exact e3 x c' (by rw [List.lookup_cons,hx]; exact q)
    ·rcases List.mem_cons.mp hy with rfl | hy
     ·exact e3 n c (by rw [List.lookup_cons]; simp)
     ·exact e4 y hy hyk
   ·obtain ⟨cl,e1,e2,e3,e4⟩:=ih cs (fun y hy=>hn y (List.mem_cons_of_mem _ hy)) hc
    refine ⟨cl,?_,e2,e3,fun y hy hyk => ?_⟩
    ·rw [List.forIn_cons]
     have hb:(k == NameKind.free)=false:=by simpa using hk
     simp only [hb,Bool.false_eq_true,if_false]
     exact e1
    ·rcases List.mem_cons.mp hy with rfl | hy
     ·exact absurd hyk hk
     ·exact e4 y hy hyk
 obtain ⟨cl,e1,e2,_,e4⟩:=key scope.names [] h (fun x c e=>by simp at e)
 refine ⟨cl,?_,e2,e4⟩
 simp only [closureFor]
 rw [show (forIn scope.names ([]:List (Str×Addr)) fun (x:Str×NameKind) (cs:List (Str×Addr))=>(if x.2 == .free then do let c ← cellOf env x.1; pure (ForInStep.yield ((x.1,c) :: cs)) else pure (ForInStep.yield cs):Sem _))=pure cl from e1]
 rfl
theorem hs_ {scope:Scope} {env:Env} {x:Str} {k:NameKind} (h:(relabel scope env).names.lookup x=some k):∃ k0,scope.names.lookup x=some k0∧(k0=k∨(k0=.free∧k=.cell)):=by
 unfold relabel at h
 dsimp only at h
 revert h
 generalize scope.names=ns
 induction ns with
 | nil=>intro h; simp at h
 | cons y r ih =>
  obtain ⟨n,k'⟩:=y
  intro h
  rw [List.map_cons] at h
  cases hx:x == n with
  | true =>
   rw [List.lookup_cons,hx]
   refine ⟨k',rfl,?_⟩
   dsimp only at h
   split at h
   ·rename_i hc
    rw [List.lookup_cons,hx] at h
    cases h
    rw [Bool.and_eq_true,Bool.and_eq_true] at hc
    exact .inr ⟨by simpa using hc.1.1,rfl⟩
   ·rw [List.lookup_cons,hx] at h
    cases h
    exact .inl rfl
  | false =>
   rw [List.lookup_cons,hx]
   dsimp only at h
   apply ih
   split at h
   ·rw [List.lookup_cons,hx] at h; exact h
   ·rw [List.lookup_cons,hx] at h; exact h
theorem relabel_free {scope:Scope} {env:Env} {x:Str} (h:scope.names.lookup x=some .free) (hk:env.scope.kind=.function) (hc:env.kindOf x=some .cell):(relabel scope env).names.lookup x=some .cell:=by
 unfold relabel
 dsimp only
 revert h
 generalize scope.names=ns
 induction ns with
 | nil=>intro h; simp at h
 | cons y r ih =>
  obtain ⟨n,k'⟩:=y
  intro h
  rw [List.map_cons]
  cases hx:x == n with
  | true =>
   rw [List.lookup_cons,hx] at h
   cases h
   have:x=n:=by simpa using hx
   subst this
   dsimp only
   rw [if_pos (by rw [hk,hc]; rfl),List.lookup_cons,hx]
  | false =>
   rw [List.lookup_cons,hx] at h
   dsimp only
   split
   ·rw [List.lookup_cons,hx]; exact ih h
   ·rw [List.lookup_cons,hx]; exact ih h
section
variable {prog:Program} {w:World} {A:Around} {R:Result→Shared→Prop} {s:Shared}
theorem compLoop_any {elt target iter:Expr} {ifs:List Expr} {scope:Scope} {pos:Pos} {it acc:Value} {env:Env} (I:Nat→Shared→Prop)
  (turn:∀ n s,I n s→wpAny (model prog w) A (pyNext it) (fun r s₁=>match r with
   | none=>R (.ok .next) s₁
   | some v => wpAny (model prog w) A (letOwnedTupleGo target it v) (fun _ s₀ => wpAny (model prog w) A (assign target env v) (fun _ s₂ =>
     wpAny (model prog w) A (forIn ifs true fun c r=>if r=true then do let ok ← isTrue c env (eval c env); pure (ForInStep.yield ok) else pure (ForInStep.yield r)) (fun ok s₃ =>
      if ok=true then wpAny (model prog w) A (eval elt env) (fun x s₄ =>
       wpAny (model prog w) A (call (.builtin "list.append") [acc,x]) (fun _ s₅ => ∃ m,m < n∧I m s₅) (fun _ _=>False) s₄) (fun _ _=>False) s₃
      else ∃ m,m < n∧I m s₃) (fun _ _=>False) s₂) (fun _ _=>False) s₀) (fun _ _=>False) s₁) (fun _ _=>False) s)
  (n:Nat) (h:I n s) :
  codeAny (model prog w) A (.compLoop (.ListComp elt [⟨target,iter,ifs,0⟩] scope pos) 0 it acc env) R s:=by
 refine codeAny_loop rfl I (fun n s hI => ?_) n h
 show wpAny _ A ((compTurn (.ListComp elt [⟨target,iter,ifs,0⟩] scope pos) 0 it acc env).onRaise (fun x=>do noteFrame x env; theTreesLotGoes x)) _ _ s
 refine wpAny_noted ?_
 rw [compTurn_list]
 refine wpAny_bind (wpAny_standAt (wpAny_bind (wpAny_mono (turn n s hI) (fun r s₁ h₁ => ?_) fun _ _ h'=>h'.elim)))
 cases r with
 | none=>exact wpAny_pure h₁
 | some v =>
  refine wpAny_bind (wpAny_mono h₁ (fun _ s₀ h₀ => ?_) fun _ _ h'=>h'.elim)
  refine wpAny_bind (wpAny_mono h₀ (fun _ s₂ h₂=>wpAny_bind (wpAny_mono h₂ (fun ok s₃ h₃ => ?_) fun _ _ h'=>h'.elim)) fun _ _ h'=>h'.elim)
  cases ok with
  | false=>exact wpAny_pure ⟨rfl,h₃⟩
  | true =>
   exact wpAny_bind (wpAny_bind (wpAny_mono h₃ (fun x s₄ h₄=>wpAny_bind (wpAny_mono h₄ (fun _ s₅ h₅=>wpAny_pure (wpAny_pure ⟨rfl,h₅⟩)) fun _ _ h'=>h'.elim)) fun _ _ h'=>h'.elim))
end
section
variable {X:Cx} {pins:PN_} {σ:St} {H:Hp} {s:Shared}
def PCs (X:Cx) (ifs:List Expr) (t:TT):Prop :=
 ∀ (pins:PN_) (s:Shared) (σ:St) (H:Hp) (Q:Bool→Hp→Prop),Inv X pins σ H s→t σ H Q →
  wpAny (model X.prog X.w) X.A (forIn ifs true fun c r=>if r=true then do let ok ← isTrue c X.env (eval c X.env); pure (ForInStep.yield ok) else pure (ForInStep.yield r)) (TP X pins σ Q) X.xe s
def tYes:TT:=fun _ H Q=>Q true H
theorem yesT {σ:St} {H:Hp} {A B:Hp→Prop} (h:A H):tYes σ H (fun b H3=>if b=true then A H3 else B H3):=by
 show (if true=true then A H else B H)
 exact iteT h
theorem pcs_nil:PCs X [] tYes:=fun pins s σ H Q I h=>wpAny_tests_nil ⟨H,I,h⟩
theorem pcs_one {c:Expr} {t:TT} (h:PT X c t):PCs X [c] t:=fun pins s σ H Q I q=>wpAny_tests_one (h pins s σ H Q I q)
end
def pick (n:Nat) (outs:List Nat) (σ:St):St:=List.replicate n none ++ outs.map fun j=>(σ[j]?).join
theorem pick_len (n:Nat) (outs:List Nat) (σ:St):(pick n outs σ).length=n + outs.length:=by
 unfold pick
 rw [List.length_append,List.length_replicate,List.length_map]
def cxComp (X:Cx) (N':List Str) (scope:Scope) (cl:List (Str×Addr)) (C:Addr) (s:Shared) (H:Hp) (ex:List Addr):Cx where
 prog:=X.prog
 w:=X.w
 K:=X.K
 mg:=X.mg
 base:=X.base
 A:=X.A
 N:=N'
 s₀:=s
 H₀:=H
 env:=compEnvC scope cl C X.env
 outer:=X.stack
 stack:=X.stack
 ex:=ex
 fn:=fun _=>false
 calm:=X.calm
 pn:=[]
 xe:=fun _ _=>False
structure CompScope (dsc scope:Scope) (N tgs:List Str) (outs:List Nat) (N':List Str):Prop where
 kind:scope.kind=.function
 names:∀ x∈scope.names,x.2=.local→scope.names.lookup x.1=some .local
 nocell:∀ y∈scope.names,y.2 ≠ .cell
 free:∀ y∈scope.names,y.2=.free→dsc.names.lookup y.1=some .cell
 isN:N'=tgs ++ outs.map (fun j=>N.getD j "")
 lts:∀ j∈outs,j < N.length
 outF:∀ j∈outs,scope.names.lookup (N.getD j "")=some .free
 nd:N'.Nodup
def Tgt (n:Nat) (g:TG):Prop := ∀ x σ H Q,g x σ H Q→g x σ H (fun σ2 H2=>Q σ2 H2∧σ2.length=σ.length∧∀ i,n≤i→σ2[i]? = σ[i]?)
theorem bk_ {n i:Nat} (h:i < n):Tgt n (gName i):=fun x σ H Q q=>⟨q,by rw [List.length_set],fun j hj=>List.getElem?_set_ne (by omega)⟩
def Tgts (n:Nat) (g:TGs):Prop := ∀ xs σ H Q,g xs σ H Q→g xs σ H (fun σ2 H2=>Q σ2 H2∧σ2.length=σ.length∧∀ i,n≤i→σ2[i]? = σ[i]?)
theorem tgts_nil {n:Nat}:Tgts n gNil:=fun xs σ H Q ⟨e,q⟩=>⟨e,q,rfl,fun _ _=>rfl⟩
def TMono (g:TGs):Prop := ∀ xs σ H Q Q',(∀ σ2 H2,Q σ2 H2→Q' σ2 H2)→g xs σ H Q→g xs σ H Q'
theorem eh_ {n i:Nat} {u:TGs} (h:i < n) (hu:Tgts n u) (mu:TMono u):Tgts n (gCons (gName i) u):=fun xs σ H Q ⟨v,r,e,q⟩=>by
 refine ⟨v,r,e,?_⟩
 have z:=hu r (σ.set i (some v)) H Q q
 refine mu r _ H _ _ (fun σ2 H2 ⟨a,b,c⟩=>⟨a,?_,fun j hj => ?_⟩) z
 ·rw [b,List.length_set]
 ·rw [c j hj,List.getElem?_set_ne (by omega)]
theorem eg_:TMono gNil:=fun xs σ H Q Q' h ⟨e,q⟩=>⟨e,h _ _ q⟩
theorem gp_ {i:Nat} {u:TGs} (mu:TMono u):TMono (gCons (gName i) u):=fun xs σ H Q Q' h ⟨v,r,e,q⟩=>⟨v,r,e,mu r _ H _ _ h q⟩
theorem tgt_tup {K:FG_} {n k:Nat} {t:TGs} (h:Tgts n t):Tgt n (gTup K k t):=fun x σ H Q ⟨a,xs,e,hq,hl,q⟩=>⟨a,xs,e,hq,hl,h xs σ H Q q⟩
def tComp (n:Nat) (outs:List Nat) (wi:TI) (g:TG) (tc:TT) (te:TE):TE:=fun σ H Q=>wi σ H fun J H1 =>
 ∃ W:Nat→Nat→List V→Hp→Prop,(∃ m,W 0 m [] H1)∧∀ i m acc H,W i m acc H →
  (J.stop i H∧acc.length≤sizeLine∧∀ l,H l=none→Q (.ref l) (upd H l (.lst acc))) ∨
  (J.go i H∧acc.length < sizeLine∧∃ N:List V→Hp→Prop,(∀ acc' H',N acc' H'→∃ m',m' < m∧W (i + 1) m' acc' H')∧∀ x H',J.yld i H x H'→g x (pick n outs σ) H' fun σ2 H2=>tc σ2 H2 fun b H3 =>
   if b=true then te σ2 H3 fun y H4=>N (acc ++ [y]) H4 else N acc H3)
section
variable {X:Cx} {pins:PN_} {σ:St} {H2:Hp} {s2:Shared} {dsc scope:Scope} {tgs N':List Str} {outs:List Nat} {cl:List (Str×Addr)} {fp:List Addr} {C D:Addr} {h1:Heap} {tk:Nat} {mC:MG_}
theorem comp_start (S:CompScope dsc scope X.N tgs outs N') (hsc:X.env.scope=dsc) (I2:Inv X pins σ H2 s2) (f2:∀ b∈fp,FpOk X pins H2 b) (hfp:∀ b∈fp,b < s2.heap.objs.size)
  (hcl1:∀ x c,cl.lookup x=some c→X.env.cells.lookup x=some c) (hcl2:∀ y∈scope.names,y.2=.free→∃ c,cl.lookup y.1=some c)
  (hC:s2.heap.objs.size≤C) (kp:∀ b o,s2.heap.get? b=some o→h1.get? b=some o) (nC:h1.Ns C mC) :
  Inv (cxComp X N' scope cl C s2 H2 fp) [] (pick tgs.length outs σ) H2 { s2 with heap:=h1,toks:=tk }:=by
 have freeAt:∀ x,scope.names.lookup x=some .free→(relabel scope X.env).names.lookup x=some .cell:=fun x e =>
  relabel_free e I2.ok.kind (by show X.env.scope.names.lookup x=some .cell; rw [hsc]; exact S.free (x,.free) (PySem.mem_of_lookup e) rfl)
 refine ⟨⟨I2.ok.mod,?_,I2.ok.glob,I2.ok.blt,hC,fun x y c e1 e2=>I2.ok.inj x y c (hcl1 x c e1) (hcl1 y c e2),fun x hx => ?_,(fun x c h=>nomatch h),I2.ok.hd,I2.ok.frames,.inl rfl,fun b hb => ?_,I2.bs,Nat.le_trans I2.ok.bsz I2.sz,fun b o e hb => ?_,fun b hb => ?_,I2.stack,I2.stkFree⟩,
  rfl,I2.bare,Un.kept kp,⟨mC,nC,fun i x v e1 e2 e3 => ?_⟩,fun x c e => ?_,I2.hok.fresh hC,fun x c e=>I2.freeC x c (hcl1 x c e),fun p hp=>absurd (show p∈([]:PN_) from hp) (by simp),I2.hok.kept kp,?_⟩
 ·exact S.kind
 ·have hx':(relabel scope X.env).names.lookup x=some .cell∨(relabel scope X.env).names.lookup x=some .free:=hx
  have z:scope.names.lookup x=some .free:=by
   rcases hx' with hx' | hx'
   ·obtain ⟨k0,e,h | ⟨h,_⟩⟩:=hs_ hx'
    ·rw [h] at e
     exact absurd rfl (S.nocell _ (PySem.mem_of_lookup e))
    ·rw [h] at e; exact e
   ·obtain ⟨k0,e,h | ⟨h,_⟩⟩:=hs_ hx'
    ·rw [h] at e; exact e
    ·rw [h] at e; exact e
  exact hcl2 (x,.free) (PySem.mem_of_lookup z) rfl
 ·refine ⟨fun z => ?_,fun x c e=>(f2 b hb).2.2.2.2.1 x c (hcl1 x c e)⟩
  have z':b=C:=z
  exact absurd (Nat.lt_of_lt_of_le (hfp b hb) hC) (by rw [z']; exact Nat.lt_irrefl _)
 ·rcases (f2 b hb).2.2.2.1 with z | z
  ·exact I2.ok.noex b o e z
  ·exact absurd (Nat.lt_of_lt_of_le (Heap.lt_size e) (Nat.le_trans I2.ok.bsz z)) (Nat.lt_irrefl _)
 ·intro z
  rcases List.mem_cons.mp (I2.stkSub b z) with z | z
  ·exact (f2 b hb).2.1 z
  ·exact (f2 b hb).2.2.1 z
 ·have e2':(List.replicate tgs.length (none:Option V) ++ outs.map fun j=>(σ[j]?).join)[i]? = some (some v):=e2
  have e1':N'[i]? = some x:=e1
  by_cases hi:i < tgs.length
  ·rw [List.getElem?_append_left (by rw [List.length_replicate]; exact hi),List.getElem?_replicate,if_pos hi] at e2'
   cases e2'
  ·rw [List.getElem?_append_right (by rw [List.length_replicate]; omega),List.length_replicate,List.getElem?_map] at e2'
   rw [S.isN,List.getElem?_append_right (by omega),List.getElem?_map] at e1'
   cases ej:outs[i - tgs.length]? with
   | none=>rw [ej] at e2'; cases e2'
   | some j =>
    rw [ej] at e1' e2'
    have hj:j∈outs:=List.mem_of_getElem? ej
    have ex:X.N.getD j "" = x:=Option.some.inj e1'
    have ev:(σ[j]?).join=some v:=Option.some.inj e2'
    have ev':σ[j]? = some (some v):=by
     cases q:σ[j]? with
     | none=>rw [q] at ev; cases ev
     | some o=>rw [q] at ev; exact congrArg some ev
    have eN:X.N[j]? = some x:=by
     have hl:=S.lts j hj
     rw [← ex,List.getD_eq_getElem?_getD,List.getElem?_eq_getElem hl]
     rfl
    have fx:scope.names.lookup x=some .free:=by rw [← ex]; exact S.outF j hj
    have cx:X.env.scope.names.lookup x=some .cell:=by rw [hsc]; exact S.free (x,.free) (PySem.mem_of_lookup fx) rfl
    obtain ⟨m,hn,hl⟩:=I2.loc
    obtain ⟨u,ru,lk⟩:=hl j x v eN ev' (.inr (.inl cx))
    refine ⟨u,ru,?_⟩
    rcases lk with ⟨k,_⟩ | ⟨k,c,ec,⟨oc,hoc,hdc⟩⟩
    ·have k':X.env.scope.names.lookup x=some .local:=k
     rw [cx] at k'; cases k'
    ·obtain ⟨c',ec'⟩:=hcl2 (x,.free) (PySem.mem_of_lookup fx) rfl
     have ecc:=hcl1 x c' ec'
     rw [ec] at ecc
     cases ecc
     exact .inr ⟨.inl (freeAt x fx),c,ec',oc,kp _ _ hoc,hdc⟩
 ·obtain ⟨v,oc,hoc,hdc⟩:=I2.cell x c (hcl1 x c e)
  exact ⟨v,oc,kp _ _ hoc,hdc⟩
 ·show (pick tgs.length outs σ).length=N'.length
  rw [pick_len,S.isN,List.length_append,List.length_map]
theorem comp_end {σ5:St} {H5:Hp} {s5:Shared} {acc:List V} {its:List Value} {n:Nat} (I2:Inv X pins σ H2 s2) (I5:Inv (cxComp X N' scope cl C s2 H2 fp) [] σ5 H5 s5) (f2:∀ b∈fp,FpOk X pins H2 b)
  (hD:s2.heap.objs.size≤D) (eD:s5.heap.get? D=some { cls:=.type "list",data:=.seq its.toArray n }) (r:Vals acc its) (hz:acc.length≤sizeLine) (hn:H5 D=none):Inv X pins σ (upd H5 D (.lst acc)) s5:=by
 have ne:∀ b o,s2.heap.get? b=some o→b≠D:=fun b o e z=>absurd (Nat.lt_of_lt_of_le (Heap.lt_size e) (by rw [z]; exact hD)) (Nat.lt_irrefl _)
 refine I2.call' (ch:=fp) I5.os ⟨fun b o e nn hb hx => ?_,fun b o e nn hb hx => ?_,fun b o e nn hx => ?_,fun b o e hx => ?_,fun b xs e => ?_,fun b o u e => ?_,fun b ps e => ?_⟩ (fun b u e => ?_) I5.bare fun b hb=>⟨(f2 b hb).2.2.2.1,(f2 b hb).2.1,(f2 b hb).2.2.2.2.1,(f2 b hb).2.2.2.2.2⟩
 ·exact I5.base.keep b o e nn hb hx
 ·exact I5.base.slot b o e nn hb hx
 ·rw [ag_ (ne b o e)]
  exact I5.base.free b o e nn hx
 ·exact I5.base.there b o e hx
 ·have q:=I5.base.tups b xs e
  rw [ag_ (bs_ q hn)]
  exact q
 ·have q:=I5.base.frzs b o u e
  rw [ag_ (bs_ q hn)]
  exact q
 ·obtain ⟨more,q⟩:=I5.base.tbls b ps e
  refine ⟨more,?_⟩
  rw [ag_ (bs_ q hn)]
  exact q
 ·by_cases hb:b=D
  ·subst hb
   rw [upd_same] at e
   cases e
   exact ⟨hz,its,n,r,eD⟩
  ·rw [ag_ hb] at e
   exact (I5.hok b u e).stay (fun c v _ q=>q) (fun c q=>by rw [ag_ (bs_ q hn)]; exact q) fun c xs q=>by rw [ag_ (bs_ q hn)]; exact q
end
theorem pick_weak {n:Nat} {outs:List Nat} {σ σ6:St} (k6:∀ i,n≤i→σ6[i]? = (pick n outs σ)[i]?):∀ (i:Nat) v,(pick n outs σ)[i]? = some (some v)→σ6[i]? = some (some v):=fun i v e=>by
 by_cases hi:n≤i
 ·rw [k6 i hi]; exact e
 ·unfold pick at e
  rw [List.getElem?_append_left (by rw [List.length_replicate]; omega),List.getElem?_replicate,if_pos (by omega)] at e
  cases e
section
variable {X:Cx} {tg elt iter:Expr} {ifs:List Expr} {dsc scope:Scope} {tgs N':List Str} {outs:List Nat} {wi:TI} {g:TG} {tc:TT} {te:TE} {pos:Pos}
theorem comp_block {pins:PN_} {σ:St} {H2:Hp} {s2:Shared} {cl:List (Str×Addr)} {it:Addr} {fp:List Addr} {tn:Nat→Heap→Prop} {J:It} (S:CompScope dsc scope X.N tgs outs N') (hsc:X.env.scope=dsc) (hc:X.calm=true)
  (hg:∀ cl C s H ex,PG (cxComp X N' scope cl C s H ex) tg g) (hgt:Tgt tgs.length g) (hcs:∀ cl C s H ex,PCs (cxComp X N' scope cl C s H ex) ifs tc) (he:∀ cl C s H ex,PE (cxComp X N' scope cl C s H ex) elt te)
  (hcl1:∀ x c,cl.lookup x=some c→X.env.cells.lookup x=some c) (hcl2:∀ y∈scope.names,y.2=.free→∃ c,cl.lookup y.1=some c)
  (I2:Inv X pins σ H2 s2) (T:Turn X.prog X.w X.K tg J fp it tn) (st2:tn 0 s2.heap) (f2:∀ b∈fp,FpOk X pins H2 b)
  {W:Nat→Nat→List V→Hp→Prop} {m0:Nat} (w0:W 0 m0 [] H2) {Qf:List V→Hp→Prop}
  (turn:∀ i m acc H,W i m acc H→(J.stop i H∧acc.length≤sizeLine∧Qf acc H)∨(J.go i H∧acc.length < sizeLine∧∃ N:List V→Hp→Prop,(∀ acc' H',N acc' H'→∃ m',m' < m∧W (i + 1) m' acc' H')∧∀ x H',J.yld i H x H'→g x (pick tgs.length outs σ) H' fun σ2 H2=>tc σ2 H2 fun b H3 =>
   if b=true then te σ2 H3 fun y H4=>N (acc ++ [y]) H4 else N acc H3))
  {E:SV_} {RR:Value→Addr→Result→Shared→Prop}
  (fin:∀ D C s5 mC acc H5,Inv X pins σ (upd H5 D (.lst acc)) s5→H5 D=none→Qf acc H5→s5.heap.Ns C mC→FpOk X pins (upd H5 D (.lst acc)) C→RR (.ref D) C (.ok .next) s5) :
  wpAny (model X.prog X.w) X.A (newList []) (fun acc s₃=>wpAny (model X.prog X.w) X.A (newFunctionEnv scope X.env.globals cl [] X.env.qual none .none (some X.env)) (fun cenv s₄ =>
   codeAny (model X.prog X.w) X.A (.compStart (.ListComp elt [⟨tg,iter,ifs,0⟩] scope pos) 0 (.ref it) acc { cenv with scope:=relabel scope X.env }) (RR acc cenv.locals) s₄) E s₃) E s2:=by
 have hfp:∀ b∈fp,b < s2.heap.objs.size:=fun b hb=>let ⟨o,e,_⟩:=T.obj 0 _ st2 b hb; Heap.lt_size e
 refine wpAny_newObj_type (wpAny_newFunctionEnv S.nocell (by intro y hy; simp at hy) (fun h₁ hns₁ hsb₁ => ?_) S.kind)
 dsimp only at hns₁ hsb₁ ⊢
 generalize hHH:s2.heap.push { cls:=.type "list",dict:=none,data:=.seq ([]:List Value).toArray }=HH at hns₁ hsb₁ ⊢
 have hC:HH.objs.size=s2.heap.objs.size + 1:=by rw [← hHH,Heap.size_push]
 have hDC:s2.heap.objs.size≠HH.objs.size:=by rw [hC]; exact Nat.ne_of_lt (Nat.lt_succ_self _)
 have hCle:s2.heap.objs.size≤HH.objs.size:=by rw [hC]; exact Nat.le_succ _
 have old:∀ b o,s2.heap.get? b=some o→h₁.get? b=some o:=fun b o e=>hsb₁.extBut b o (by rw [hC]; exact Nat.ne_of_lt (Nat.lt_succ_of_lt (Heap.lt_size e))) (Heap.get?_push_of_some _ (hHH ▸ Heap.get?_push_of_some _ e))
 have hacc:h₁.get? s2.heap.objs.size=some { cls:=.type "list",data:=.seq ([]:List Value).toArray 0 }:=hsb₁.extBut _ _ hDC (Heap.get?_push_of_some _ (hHH ▸ Heap.get?_push_size _ rfl))
 have hDfp:∀ b∈fp,s2.heap.objs.size≠b:=fun b hb=>Nat.ne_of_gt (hfp b hb)
 have fresh2:H2 s2.heap.objs.size=none:=I2.hok.fresh (Nat.le_refl _)
 have I4:=comp_start (tk:=s2.toks + ([]:List (Str×Value)).length) S hsc I2 f2 hfp hcl1 hcl2 hCle old hns₁
 have st1:tn 0 h₁:=T.keep 0 _ _ st2 fun b hb o e=>old b o e
 generalize hCC:HH.objs.size=C at *
 generalize hDD:s2.heap.objs.size=D at *
 have nofs:D∉(cxComp X N' scope cl C s2 H2 fp).fs:=fun z=>by
  obtain ⟨_,o,ho,_⟩:=I2.stack.mem (show D∈frs X.stack from z)
  have:=Heap.lt_size ho
  rw [hDD] at this
  exact Nat.lt_irrefl _ this
 have pinD:∀ {σ':St} {H':Hp} {s':Shared} {its:List Value} {n:Nat},Inv (cxComp X N' scope cl C s2 H2 fp) [] σ' H' s'→s'.heap.get? D=some { cls:=.type "list",data:=.seq its.toArray n }→H' D=none →
   Inv (cxComp X N' scope cl C s2 H2 fp) [(D,{ cls:=.type "list",data:=.seq its.toArray n })] σ' H' s':=fun {σ' H' s' its n} J e hn=>J.pins_of fun p hp=>by
  have ep:p=(D,{ cls:=.type "list",data:=.seq its.toArray n }):=by simpa using hp
  subst ep
  exact ⟨e,hn,hDC,nofs,fun v z=>by cases z⟩
 have stat:∀ {H':Hp} {o:Obj},(∀ b∈fp,H' b=none)→∀ b∈fp,FpOk (cxComp X N' scope cl C s2 H2 fp) [(D,o)] H' b:=fun {H' o} hn b hb=>by
  refine ⟨hn b hb,(I4.ok.exf b hb).1,I4.ok.exfs b hb,.inl hb,(I4.ok.exf b hb).2,fun p hp => ?_⟩
  have hp':p∈([]:PN_) ++ [(D,o)]:=hp
  have ep:p=(D,o):=by simpa using hp'
  subst ep
  exact hDfp b hb
 have loop:∀ s₃:Shared,s₃={ s2 with heap:=h₁,toks:=s2.toks + ([]:List (Str×Value)).length } →
   codeAny (model X.prog X.w) X.A (.compLoop (.ListComp elt [⟨tg,iter,ifs,0⟩] scope pos) 0 (.ref it) (.ref D) (compEnvC scope cl C X.env)) (RR (.ref D) C) s₃:=by
  rintro s₃ rfl
  refine compLoop_any (fun m s' => ∃ i acc H its n,Inv (cxComp X N' scope cl C s2 H2 fp) [(D,{ cls:=.type "list",data:=.seq its.toArray n })] (pick tgs.length outs σ) H s'∧tn i s'.heap∧(∀ b∈fp,H b=none)∧Vals acc its∧W i m acc H) ?_ m0
   ⟨0,[],H2,[],0,pinD I4 hacc fresh2,st1,fun b hb=>(f2 b hb).1,.nil,w0⟩
  rintro m s' ⟨i,acc,H,its,n,I',st',fr',rD,w'⟩
  rcases turn i m acc H w' with ⟨stop,hz,q⟩ | ⟨go,hz,N,hN,step⟩
  ·refine thn (T.done (cxComp X N' scope cl C s2 H2 fp) rfl rfl rfl hc i _ s' _ H _ I' (stat fr') st' stop) fun r s4 ⟨hr,J4⟩ => ?_
   subst hr
   obtain ⟨eD,nD,_⟩:=J4.pin (D,{ cls:=.type "list",data:=.seq its.toArray n }) (List.mem_append_right _ List.mem_cons_self)
   obtain ⟨mC,nsC,_⟩:=J4.loc
   have I5:Inv X pins σ (upd H D (.lst acc)) s4:=comp_end (D:=D) I2 (J4.pins_of (pins':=[]) (fun p hp=>nomatch hp)) f2 (by rw [hDD]; exact Nat.le_refl _) eD rD hz nD
   refine fin D C s4 mC acc H I5 nD q nsC (I2.fpOk (by rw [hDD]; exact hCle) ?_)
   rw [ag_ (Ne.symm hDC)]
   exact J4.free
  ·refine thn (T.item (cxComp X N' scope cl C s2 H2 fp) rfl rfl rfl hc i _ s' _ H _ I' (stat fr') st' go) fun r s4 ⟨u,hr,h4⟩ => ?_
   subst hr
   dsimp only
   refine thn h4 fun _ s5 ⟨x,H5,I5,r5,y5,st5,fr5⟩ => ?_
   have I5':=I5.pinned (stat fr5) (T.obj _ _ st5)
   refine thn (hg cl C s2 H2 fp _ s5 _ H5 x u _ I5' r5 (hgt x _ H5 _ (step x H5 y5))) fun _ s6 ⟨σ6,H6,I6,q6,l6,k6⟩ => ?_
   refine thn (hcs cl C s2 H2 fp _ s6 σ6 H6 _ I6 q6) fun b s7 ⟨H7,I7,q7⟩ => ?_
   have tail:∀ {H':Hp} {s':Shared},Inv (cxComp X N' scope cl C s2 H2 fp) ([(D,{ cls:=.type "list",data:=.seq its.toArray n })] ++ pinsAt fp s5.heap) σ6 H' s'→(∀ b∈fp,∀ o,s5.heap.get? b=some o→s'.heap.get? b=some o)∧∀ b∈fp,H' b=none:=fun {H' s'} J =>
    ⟨fun b hb o e=>(J.pin (b,o) (List.mem_append_right _ (List.mem_append_right _ (fi_ hb e)))).1,fun b hb=>by
     obtain ⟨o,e,d⟩:=T.obj _ _ st5 b hb
     exact (J.pin (b,o) (List.mem_append_right _ (List.mem_append_right _ (fi_ hb e)))).2.1⟩
   cases b with
   | false =>
    rw [if_neg Bool.false_ne_true] at q7 ⊢
    obtain ⟨m',hm,w7⟩:=hN _ _ q7
    obtain ⟨t1,t2⟩:=tail I7
    exact ⟨m',hm,i + 1,acc,H7,its,n,I7.unpinned.weak l6.symm (pick_weak k6),T.keep _ _ _ st5 t1,t2,rD,w7⟩
   | true =>
    rw [if_pos rfl] at q7 ⊢
    refine thn (he cl C s2 H2 fp _ s7 σ6 H7 _ I7 q7) fun v s8 ⟨y,H8,I8,r8,q8⟩ => ?_
    obtain ⟨m',hm,w8⟩:=hN _ _ q8
    obtain ⟨t1,t2⟩:=tail I8
    obtain ⟨eD,nD,_⟩:=I8.pin (D,{ cls:=.type "list",data:=.seq its.toArray n }) (List.mem_append_right _ (List.mem_append_left _ List.mem_cons_self))
    have hl:=rD.length
    refine call_meets F.slot_list_append ⟨_,eD,rfl⟩ F.entry_list_append (F.args_list_append_2 _ _) (PySem.list_append D its.toArray n v (by rw [List.size_toArray]; omega)) ⟨eD,?_⟩
    have q:=PySem.IsL.update eD (·.push v)
    have eA:its.toArray.push v=(its ++ [v]).toArray:=by simp
    rw [eA] at q
    refine ⟨m',hm,i + 1,acc ++ [y],H8,its ++ [v],_,pinD (Inv.weak (Inv.turned (it:=D) (I8.pins_of (pins':=[]) (fun p hp=>nomatch hp)) (fun b o hb e=>(Heap.get?_update_other _ _ (Ne.symm hb)).trans e) nD hDC (.inr (by show s2.heap.objs.size≤D; rw [hDD]; exact Nat.le_refl _)) (fun x c e z => ?_) (fun p hp=>nomatch hp)) l6.symm (pick_weak k6)) q nD,
     T.keep _ _ _ st5 (fun b hb o e=>(Heap.get?_update_other _ _ (hDfp b hb)).trans (t1 b hb o e)),t2,rD.append (.cons r8 .nil),w8⟩
    obtain ⟨v',oc,hoc,hdc⟩:=I8.cell x c e
    rw [z,eD] at hoc
    cases hoc
    cases hdc
 exact codeAny_compStart_list (loop _ rfl) (T.self X.A 0 _ _ _ st1 (loop _ rfl))
theorem hx_ {N:List Str} (S:CompScope dsc scope N tgs outs N') (hi:PI X tg iter wi) (hg:∀ cl C s H ex,PG (cxComp X N' scope cl C s H ex) tg g) (hgt:Tgt tgs.length g) (hcs:∀ cl C s H ex,PCs (cxComp X N' scope cl C s H ex) ifs tc)
  (he:∀ cl C s H ex,PE (cxComp X N' scope cl C s H ex) elt te) (hN0:X.N=N:=by rfl) (hsc:X.env.scope=dsc:=by rfl) (hc:X.calm=true:=by rfl) (hs:∀ x,foldedSetIterable iter X.env x=pure x:=by intro _; rfl) :
  PE X (.ListComp elt [⟨tg,iter,ifs,0⟩] scope pos) (tComp tgs.length outs wi g tc te):=by
 subst hN0
 intro pins s σ H Q I h
 obtain ⟨cl,e1,e2,e3⟩:=closure_of (scope:=scope) (env:=X.env) (fun y hy hk=>I.ok.has y.1 (.inl (by show X.env.scope.names.lookup y.1=_; rw [hsc]; exact S.free y hy hk)))
 rw [eval_ListComp]
 refine wpAny_comprehension_free (use:=none) rfl hs e1 S.kind S.names (wpAny_mono (hi pins s σ H _ I h) (fun xv s1 h1=>wpAny_mono h1 (fun itv s2 h2 => ?_) fun _ _ e=>e) fun _ _ e=>e)
 obtain ⟨it,fp,tn,J,H2,rfl,I2,T,st2,f2,W,⟨m0,w0⟩,turn⟩:=h2
 refine comp_block (RR:=fun acc C=>compPost (model X.prog X.w) X.A X.xe none (EP X pins σ Q) acc C) S hsc hc hg hgt hcs he e2 e3 I2 T st2 f2 w0 (Qf:=fun acc H => ∀ l,H l=none→Q (.ref l) (upd H l (.lst acc))) turn ?_
 intro D C s5 mC acc H5 I5 nD q nsC hf
 refine ⟨mC,nsC,fun h' hs'=>⟨.ref D,_,?_,rfl,q D nD⟩⟩
 exact I5.turned (it:=C) (t':=s5.toks) (fun b o hb e=>(hs'.2 b hb).trans e) hf.1 hf.2.1 hf.2.2.2.1 hf.2.2.2.2.1 hf.2.2.2.2.2
theorem ps_setC {N:List Str} {i:Nat} {x:Str} {px spos:Pos} (hN:X.N.Nodup) (hx:X.N[i]? = some x) (hl:X.env.scope.names.lookup x=some .local) (S:CompScope dsc scope N tgs outs N') (hi:PI X tg iter wi) (hg:∀ cl C s H ex,PG (cxComp X N' scope cl C s H ex) tg g) (hgt:Tgt tgs.length g)
  (hcs:∀ cl C s H ex,PCs (cxComp X N' scope cl C s H ex) ifs tc) (he:∀ cl C s H ex,PE (cxComp X N' scope cl C s H ex) elt te)
  (hsw:swapsWith (.ListComp elt [⟨tg,iter,ifs,0⟩] scope pos) (some (.Name x px)) spos.line X.env=pure true:=by rfl)
  (hN0:X.N=N:=by rfl) (hsc:X.env.scope=dsc:=by rfl) (hc:X.calm=true:=by rfl) (hs:∀ x,foldedSetIterable iter X.env x=pure x:=by intro _; rfl) :
  PS X (.Assign [.Name x px] (.ListComp elt [⟨tg,iter,ifs,0⟩] scope pos) spos) (tAsg (tComp tgs.length outs wi g tc te) (gName i)):=by
 subst hN0
 intro pins s σ H Dn I h
 obtain ⟨cl,e1,e2,e3⟩:=closure_of (scope:=scope) (env:=X.env) (fun y hy hk=>I.ok.has y.1 (.inl (by show X.env.scope.names.lookup y.1=_; rw [hsc]; exact S.free y hy hk)))
 rw [exec_Assign_Name_used _ _ _ _ hsw]
 refine wpAny_bind (wpAny_standAt (wpAny_bind ?_))
 show wpAny _ X.A (do let _ ← comprehension (.ListComp elt [⟨tg,iter,ifs,0⟩] scope pos) scope X.env _ (newList []) false (eval iter X.env) (some (assign (.Name x px) X.env))) _ _ s
 refine wpAny_bind (wpAny_mono (wpAny_comprehension_free (use:=some (assign (.Name x px) X.env)) (Q:=fun _ s'=>SP X pins Dn .next s') rfl hs e1 S.kind S.names
  (wpAny_mono (hi pins s σ H _ I h) (fun xv s1 h1=>wpAny_mono h1 (fun itv s2 h2 => ?_) fun _ _ e=>e) fun _ _ e=>e)) (fun _ s' hq=>wpAny_pure (wpAny_pure hq)) fun _ _ e=>e)
 obtain ⟨it,fp,tn,J,H2,rfl,I2,T,st2,f2,W,⟨m0,w0⟩,turn⟩:=h2
 refine comp_block (RR:=fun acc C=>compPost (model X.prog X.w) X.A X.xe (some (assign (.Name x px) X.env)) (fun _ s'=>SP X pins Dn .next s') acc C) S hsc hc hg hgt hcs he e2 e3 I2 T st2 f2 w0
  (Qf:=fun acc H => ∀ l,H l=none→Dn.nx (σ.set i (some (.ref l))) (upd H l (.lst acc))) turn ?_
 intro D C s5 mC acc H5 I5 nD q nsC hf
 show wpAny _ X.A (assign (.Name x px) X.env (.ref D)) _ _ _
 refine wpAny_assign_Name (store_ok2 I5 hN hx (.inl hl) (show RelV (.ref D) (.ref D) from rfl) (fun s' I' ⟨a,sb,ha⟩ => ?_) (.inr hl))
 have hCa:C≠a:=by
  rcases ha with ha | ha
  ·rw [ha]; exact hf.2.1
  ·exact Ne.symm (hf.2.2.2.2.1 x a ha)
 refine ⟨mC,nsC.sameBut sb hCa,fun h' hs'=>⟨_,_,I'.turned (it:=C) (t':=s'.toks) (fun b o hb e=>(hs'.2 b hb).trans e) hf.1 hf.2.1 hf.2.2.2.1 hf.2.2.2.2.1 hf.2.2.2.2.2,q D nD⟩⟩
end
theorem comp_list {K:FG_} {a:Addr} {xs:List V} {g:TG} {tc:TT} {te:TE} {σ':St} {H1:Hp} {Fin:List V→Hp→Prop} (Pv:Nat→List V→Hp→Prop) (hz:xs.length≤1000000) (h0:Pv 0 [] H1) (hl:∀ i acc H,i≤xs.length→Pv i acc H→SqL K H a xs∧acc.length≤i)
  (hs:∀ i x acc H,xs[i]? = some x→Pv i acc H→g x σ' H fun σ2 H2=>tc σ2 H2 fun b H3=>if b=true then te σ2 H3 fun y H4=>Pv (i + 1) (acc ++ [y]) H4 else Pv (i + 1) acc H3) (hd:∀ acc H,Pv xs.length acc H→Fin acc H) :
  ∃ W:Nat→Nat→List V→Hp→Prop,(∃ m,W 0 m [] H1)∧∀ i m acc H,W i m acc H→((Itl K a).stop i H∧acc.length≤sizeLine∧Fin acc H) ∨
   ((Itl K a).go i H∧acc.length < sizeLine∧∃ N:List V→Hp→Prop,(∀ acc' H',N acc' H'→∃ m',m' < m∧W (i + 1) m' acc' H')∧∀ x H',(Itl K a).yld i H x H'→g x σ' H' fun σ2 H2=>tc σ2 H2 fun b H3=>if b=true then te σ2 H3 fun y H4=>N (acc ++ [y]) H4 else N acc H3):=by
 have zl:(1000000:Nat) < sizeLine:=by rw [sizeLine_eq]; decide
 refine ⟨fun i m acc H=>m=xs.length - i∧i≤xs.length∧Pv i acc H,⟨xs.length,by simp,Nat.zero_le _,h0⟩,?_⟩
 rintro i m acc H ⟨rfl,hi,p⟩
 obtain ⟨q,al⟩:=hl i acc H hi p
 by_cases hlt:i < xs.length
 ·refine .inr ⟨⟨xs,xs[i],q,by simp [hlt]⟩,by omega,Pv (i + 1),fun acc' H' p'=>⟨xs.length - (i + 1),by omega,rfl,hlt,p'⟩,fun x H' y => ?_⟩
  obtain ⟨e,y⟩:=y
  subst e
  exact hs i x acc _ (y xs q) p
 ·have e:i=xs.length:=by omega
  subst e
  exact .inl ⟨⟨xs,q,Nat.le_refl _⟩,by omega,hd acc H p⟩
theorem comp_range {lo:Int} {n:Nat} {g:TG} {tc:TT} {te:TE} {σ':St} {H1:Hp} {Fin:List V→Hp→Prop} (Pv:Nat→List V→Hp→Prop) (hz:n≤1000000) (h0:Pv 0 [] H1) (hl:∀ i acc H,i≤n→Pv i acc H→acc.length≤i)
  (hs:∀ i acc H,i < n→Pv i acc H→g (.int (lo + i)) σ' H fun σ2 H2=>tc σ2 H2 fun b H3=>if b=true then te σ2 H3 fun y H4=>Pv (i + 1) (acc ++ [y]) H4 else Pv (i + 1) acc H3) (hd:∀ acc H,Pv n acc H→Fin acc H) :
  ∃ W:Nat→Nat→List V→Hp→Prop,(∃ m,W 0 m [] H1)∧∀ i m acc H,W i m acc H→((Itr lo n).stop i H∧acc.length≤sizeLine∧Fin acc H) ∨
   ((Itr lo n).go i H∧acc.length < sizeLine∧∃ N:List V→Hp→Prop,(∀ acc' H',N acc' H'→∃ m',m' < m∧W (i + 1) m' acc' H')∧∀ x H',(Itr lo n).yld i H x H'→g x σ' H' fun σ2 H2=>tc σ2 H2 fun b H3=>if b=true then te σ2 H3 fun y H4=>N (acc ++ [y]) H4 else N acc H3):=by
 have zl:(1000000:Nat) < sizeLine:=by rw [sizeLine_eq]; decide
 refine ⟨fun i m acc H=>m=n - i∧i≤n∧Pv i acc H,⟨n,by simp,Nat.zero_le _,h0⟩,?_⟩
 rintro i m acc H ⟨rfl,hi,p⟩
 have al:=hl i acc H hi p
 by_cases hlt:i < n
 ·refine .inr ⟨hlt,by omega,Pv (i + 1),fun acc' H' p'=>⟨n - (i + 1),by omega,rfl,hlt,p'⟩,fun x H' y => ?_⟩
  obtain ⟨e,y⟩:=y
  subst e y
  exact hs i acc _ hlt p
 ·have e:i=n:=by omega
  subst e
  exact .inl ⟨Nat.le_refl _,by omega,hd acc H p⟩
section
variable {X:Cx}
theorem call_maxL (hc:X.calm=true):CallR X (.builtin "max") (fun xs H Q => ∃ p ns,xs=[.ref p]∧SqL X.K H p (ns.map V.int)∧ns≠[]∧∀ M,M∈ns→(∀ a∈ns,a≤M)→Q (.int M) H):=by
 intro pins s σ H xs us Q I r h
 obtain ⟨p,ns,rfl,hq,hne,q⟩:=h
 obtain ⟨u,rfl,rx⟩:=vals1 r
 cases rx
 obtain ⟨its,r',pl,hz⟩:=I.list hq
 have hi:=intsAre_of r'
 obtain ⟨zs,e⟩:=hi.allInts.items
 have hns:ns=zs.toList.map (·.1):=by rw [← hi.numsOf,← nums_intItems,← e]
 have hsz:0 < zs.size:=by
  have h3:=List.length_pos_iff.mpr hne
  rw [hns,List.length_map,Array.length_toList] at h3
  exact h3
 have pl':=pl.isList
 rw [e] at pl'
 refine max_intList (I.ok.hd hc) pl' hsz fun v h' tk hv hk => ?_
 obtain ⟨t,rfl⟩:=intItems_at hv
 obtain ⟨h1,h2⟩:=argBest_gt (numAt zs) (zs.size - 1)
 refine ⟨.int _,H,I.kept hk,⟨t,rfl⟩,q _ ?_ fun a ha => ?_⟩
 ·rw [hns,numAt_eq]
  exact getD_mem (by rw [List.length_map,Array.length_toList]; omega)
 ·rw [hns] at ha
  obtain ⟨j,hj,rfl⟩:=mem_getD ha
  rw [List.length_map,Array.length_toList] at hj
  rw [← numAt_eq]
  exact h2 j (by omega)
theorem op_eqNil (hu:X.A.units < cLine):OpR X (compareOp .Eq) (fun x y H Q => ∃ p b xs,x=.ref p∧y=.ref b∧SqL X.K H p xs∧SqL X.K H b []∧Q (.bl xs.isEmpty) H):=by
 intro pins s σ H x y v u Q I rx ry h
 obtain ⟨p,b,xs,rfl,rfl,h1,h2,q⟩:=h
 cases rx
 cases ry
 obtain ⟨its,r1,p1,_⟩:=I.list h1
 obtain ⟨its2,r2,p2,_⟩:=I.list h2
 cases r2
 cases r1 with
 | nil=>exact PySem.SeqAt.eq_listAt (e:=fun _=>true) p1.isList p2.isList rfl hu (fun j a1=>absurd a1 (by simp)) ⟨.bl true,H,I,rfl,q⟩
 | cons ra rb=>exact PySem.SeqAt.eq_list_lengthsAt p1.isList p2.isList (by simp) hu ⟨.bl false,H,I,rfl,q⟩
theorem op_neNil (hu:X.A.units < cLine):OpR X (compareOp .NotEq) (fun x y H Q => ∃ p b xs,x=.ref p∧y=.ref b∧SqL X.K H p xs∧SqL X.K H b []∧Q (.bl (!xs.isEmpty)) H):=by
 intro pins s σ H x y v u Q I rx ry h
 obtain ⟨p,b,xs,rfl,rfl,h1,h2,q⟩:=h
 cases rx
 cases ry
 obtain ⟨its,r1,p1,_⟩:=I.list h1
 obtain ⟨its2,r2,p2,_⟩:=I.list h2
 cases r2
 cases r1 with
 | nil=>exact PySem.SeqAt.RcNeAt.lists (e:=fun _=>true) p1.isList p2.isList rfl hu (fun j a1=>absurd a1 (by simp)) _ _ _ _ ⟨.bl false,H,I,rfl,q⟩
 | cons ra rb=>exact PySem.SeqAt.RcNeAt.lists_lengths p1.isList p2.isList (by simp) hu _ _ _ _ ⟨.bl true,H,I,rfl,q⟩
theorem sl_str:SlR X (fun x lo hi H Q => ∃ z,x=.str z∧z.length≤sizeLine∧Q (.str (Txt.slice z lo hi)) H):=by
 intro pins s σ H x v vl vu lo hi sl Q I rx hs pl pu h
 obtain ⟨z,rfl,hz,q⟩:=h
 obtain ⟨t,rfl⟩:=rx
 refine ⟨"str",_,PySem.F.slot_str_getitem.lookup,typeIs_str _ _ _,?_⟩
 obtain ⟨o,h1,h2,h3⟩:=hs
 cases pl with
 | none =>
  cases pu with
  | none=>exact wpAny_getItem_str_slice (l:=none) (u:=none) (st:=none) ⟨o,h1,h2,h3⟩ rfl (post_val_or_str ⟨Nat.le_trans (Txt.slice_le z _ _) hz,fun t' k=>⟨.str _,H,I.tok _,⟨_,rfl⟩,q⟩⟩)
  | int j uj=>exact wpAny_getItem_str_slice (l:=none) (u:=some (j,uj)) (st:=none) ⟨o,h1,h2,h3⟩ rfl (post_val_or_str ⟨Nat.le_trans (Txt.slice_le z _ _) hz,fun t' k=>⟨.str _,H,I.tok _,⟨_,rfl⟩,q⟩⟩)
 | int i ui =>
  cases pu with
  | none=>exact wpAny_getItem_str_slice (l:=some (i,ui)) (u:=none) (st:=none) ⟨o,h1,h2,h3⟩ rfl (post_val_or_str ⟨Nat.le_trans (Txt.slice_le z _ _) hz,fun t' k=>⟨.str _,H,I.tok _,⟨_,rfl⟩,q⟩⟩)
  | int j uj=>exact wpAny_getItem_str_slice (l:=some (i,ui)) (u:=some (j,uj)) (st:=none) ⟨o,h1,h2,h3⟩ rfl (post_val_or_str ⟨Nat.le_trans (Txt.slice_le z _ _) hz,fun t' k=>⟨.str _,H,I.tok _,⟨_,rfl⟩,q⟩⟩)
theorem op_mul_str:OpR X (binaryOp .Mult) (fun x y H Q => ∃ z n,x=.str z∧y=.int n∧z.length≤1000∧0≤n∧n≤1000∧Q (.str (Txt.mul z n)) H):=by
 intro pins s σ H x y v u Q I rx ry h
 obtain ⟨z,n,rfl,rfl,hz,h0,h1,q⟩:=h
 obtain ⟨t,rfl⟩:=rx
 obtain ⟨t',rfl⟩:=ry
 exact SB.mul (mulOk_of 1000 1000 hz (by omega) (by omega) (by decide) (by decide)) fun t' k=>⟨.str _,H,I.tok _,⟨_,rfl⟩,q⟩
theorem strsAre_of {ys:List Str}:∀ {us:List Value},Vals (ys.map V.str) us→StrsAre us ys:=by
 induction ys with
 | nil=>intro us r; rw [List.map_nil] at r; cases r; exact .nil
 | cons n ns ih =>
  intro us r
  rw [List.map_cons] at r
  cases r with
  | cons r1 r2 =>
   obtain ⟨t,e⟩:=r1
   subst e
   exact .cons n t (ih r2)
theorem mt_join:MtR X "str.join" (fun x vs H Q => ∃ z p ys,x=.str z∧vs=[.ref p]∧SqL X.K H p (ys.map V.str)∧(ys.map (·.length)).sum + ys.length * z.length≤16777216∧Q (.str (Txt.join z ys)) H):=by
 intro pins s σ H x vs v us Q I rx rv h
 obtain ⟨z,p,ys,rfl,rfl,hq,hok,q⟩:=h
 obtain ⟨t,rfl⟩:=rx
 obtain ⟨u,rfl,ru⟩:=rv.one
 cases ru
 obtain ⟨its,r',pl,hz⟩:=I.list hq
 exact join_list pl.isList (by rw [List.toList_toArray]; exact strsAre_of r') hok fun t' k=>⟨.str _,H,I.tok _,⟨_,rfl⟩,q⟩
end
section
variable {X:Cx} (K:FG_) (h:X.K=K:=by rfl)
include h
theorem ix_tupK:IxR X (rIxT K):=h ▸ ix_tup
theorem hk_:IxR X (rIxL K):=h ▸ ix_list
theorem dh_:CallR X (.builtin "isinstance") (fun xs H Q => ∃ x n t b,xs=[x,.ty n]∧TyOf K H x t∧PySem.W.kitOne K t (.type n)=some b∧Q (.bl b) H):=h ▸ call_isinst
theorem sl_listK:SlR X (rSlL K):=h ▸ sl_list
theorem pg_tupK {pos:Pos} {es:List Expr} {k:Nat} {t:TGs} {n:Nat} (hc:X.calm=true) (hh:PGs X es t) (hn:(assignEach es X.env).length=n:=by rfl) (hst:(assignEach es X.env).findIdx? (·.1)=none:=by rfl):PG X (.Tuple es k pos) (gTup K n t):=h ▸ pg_tup hc hh hn hst
end
def rMaxL (K:FG_):List V→Hp→VK→Prop:=fun xs H Q => ∃ p ns,xs=[.ref p]∧SqL K H p (ns.map V.int)∧ns≠[]∧∀ M,M∈ns→(∀ a∈ns,a≤M)→Q (.int M) H
theorem call_maxR {X:Cx} (hc:X.calm=true):CallR X (.builtin "max") (rMaxL X.K):=call_maxL hc
section
variable {K:FG_}
theorem gz_:PySem.W.kitOne K (.type "int") (.type "list")=some false:=et_ (by decide +kernel) (by decide +kernel) (by decide +kernel)
theorem kit_int_tuple:PySem.W.kitOne K (.type "int") (.type "tuple")=some false:=et_ (by decide +kernel) (by decide +kernel) (by decide +kernel)
theorem kit_int_dict:PySem.W.kitOne K (.type "int") (.type "dict")=some false:=et_ (by decide +kernel) (by decide +kernel) (by decide +kernel)
theorem gy_:PySem.W.kitOne K (.type "str") (.type "list")=some false:=et_ (by decide +kernel) (by decide +kernel) (by decide +kernel)
theorem kit_str_tuple:PySem.W.kitOne K (.type "str") (.type "tuple")=some false:=et_ (by decide +kernel) (by decide +kernel) (by decide +kernel)
theorem kit_str_dict:PySem.W.kitOne K (.type "str") (.type "dict")=some false:=et_ (by decide +kernel) (by decide +kernel) (by decide +kernel)
theorem kit_list_dict:PySem.W.kitOne K (.type "list") (.type "dict")=some false:=et_ (by decide +kernel) (by decide +kernel) (by decide +kernel)
theorem fu_:PySem.W.kitOne K (.type "tuple") (.type "list")=some false:=et_ (by decide +kernel) (by decide +kernel) (by decide +kernel)
theorem kit_tuple_dict:PySem.W.kitOne K (.type "tuple") (.type "dict")=some false:=et_ (by decide +kernel) (by decide +kernel) (by decide +kernel)
end
end L2
namespace Lf
open PySem
inductive Kd where
 | num (w m:Int)
 | row (k:Kd) (n:Int)
 | rcd (fs:List (Str×Kd))
 | cho (ks:List Kd)
def up (n m:Int):Int:=(n + m - 1) / m * m
theorem up_eq {n m:Int} (hm:0 < m):up n m=n + m - 1 - (n + m - 1) % m:=by
 have:=Int.mul_ediv_add_emod (n + m - 1) m
 rw [Int.mul_comm] at this
 unfold up
 omega
theorem ew_ {n m:Int} (hm:0 < m):n≤up n m∧up n m < n + m:=by
 have a:=Int.emod_nonneg (n + m - 1) (Int.ne_of_gt hm)
 have b:=Int.emod_lt_of_pos (n + m - 1) hm
 rw [up_eq hm]
 omega
def maxL (d:Int) (l:List Int):Int:=l.foldr max d
def ends (e:Int):List (Int×Int)→List Int
 | []=>[]
 | r :: rs=>(up e r.2 + r.1) :: ends (up e r.2 + r.1) rs
def lastEnd (e:Int):List (Int×Int)→Int
 | []=>e
 | r :: rs=>lastEnd (up e r.2 + r.1) rs
def plcs (e:Int):List (Int×Int)→List Int
 | []=>[]
 | r :: rs=>up e r.2 :: plcs (up e r.2 + r.1) rs
def rcdRm (rs:List (Int×Int)):Int×Int:=(up (lastEnd 0 rs) (maxL 1 (rs.map (·.2))),maxL 1 (rs.map (·.2)))
def choRm (rs:List (Int×Int)):Int×Int:=(up (up 1 (maxL 1 (rs.map (·.2))) + maxL 0 (rs.map (·.1))) (maxL 1 (rs.map (·.2))),maxL 1 (rs.map (·.2)))
mutual
def Kd.rm:Kd→Int×Int
 | .num w m=>(w,m)
 | .row k n=>(n * up k.rm.1 k.rm.2,k.rm.2)
 | .rcd fs=>rcdRm (rmF fs)
 | .cho ks=>choRm (rmK ks)
def rmF:List (Str×Kd)→List (Int×Int)
 | []=>[]
 | f :: r=>f.2.rm :: rmF r
def rmK:List Kd→List (Int×Int)
 | []=>[]
 | k :: r=>k.rm :: rmK r
end
mutual
def Kd.deep:Kd→Nat
 | .num _ _=>1
 | .row k _=>k.deep + 1
 | .rcd fs=>deepF fs + 1
 | .cho ks=>deepK ks + 1
def deepF:List (Str×Kd)→Nat
 | []=>0
 | f :: r=>max f.2.deep (deepF r)
def deepK:List Kd→Nat
 | []=>0
 | k :: r=>max k.deep (deepK r)
end
mutual
def Kd.Ok:Kd→Prop
 | .num w m=>1≤w∧w≤8∧1≤m∧m≤8
 | .row k n=>k.Ok∧0≤n∧n≤100
 | .rcd fs=>okF fs∧fs.length≤10
 | .cho ks=>okK ks∧ks.length≤10
def okF:List (Str×Kd)→Prop
 | []=>True
 | f :: r=>f.2.Ok∧okF r
def okK:List Kd→Prop
 | []=>True
 | k :: r=>k.Ok∧okK r
end
theorem Kd.deep_pos:∀ k:Kd,1≤k.deep
 | .num _ _=>Nat.le_refl _
 | .row k _=>Nat.le_add_left 1 k.deep
 | .rcd fs=>Nat.le_add_left 1 (deepF fs)
 | .cho ks=>Nat.le_add_left 1 (deepK ks)
end Lf
namespace Lf
open PySem L2
theorem same_new {H:Hp} {p:Addr} (h:H p=none) (o:HO):Same H (upd H p o):=fun b u q=>by rw [ag_ (bs_ q h)]; exact q
def hide (p:Addr) (H:Hp):Hp:=fun b=>if b=p then none else H b
theorem gt_ {p b:Addr} {H:Hp} (h:b≠p):hide p H b=H b:=if_neg h
theorem hide_some {p b:Addr} {H:Hp} {o:HO} (h:hide p H b=some o):b≠p∧H b=some o:=by
 by_cases e:b=p
 ·subst e; rw [show hide b H b=none from if_pos rfl] at h; cases h
 ·rw [gt_ e] at h; exact ⟨e,h⟩
abbrev SameX (p:Addr) (H H':Hp):Prop:=Same (hide p H) (hide p H')
theorem SameX.upd (p:Addr) (H:Hp) (o:HO):SameX p H (L2.upd H p o):=fun b u h=>by
 obtain ⟨n,q⟩:=hide_some h
 rw [gt_ n,ag_ n]
 exact q
theorem SameX.get {p b:Addr} {H H':Hp} {o:HO} (e:SameX p H H') (n:b≠p) (h:H b=some o):H' b=some o:=by
 have:=e b o (by rw [gt_ n]; exact h)
 rw [gt_ n] at this
 exact this
end Lf
namespace L2
open PySem PySem.Spec PyProof.Rows
section
variable {κ:Type} [DecidableEq κ]
def valV (kvs:List (κ×V)) (k:κ):Option V:=(kvs.find? fun kv=>decide (kv.1=k)).map (·.2)
def putK (kvs:List (κ×V)) (k:κ) (v:V):List (κ×V) :=
 if (kvs.any fun kv=>decide (kv.1=k))=true then kvs.map (fun kv=>if kv.1=k then (kv.1,v) else kv) else kvs ++ [(k,v)]
theorem hd_ {p:κ×V} {r:List (κ×V)} {k:κ} (e:p.1=k):valV (p :: r) k=some p.2:=by simp [valV,List.find?_cons,e]
theorem he_ {p:κ×V} {r:List (κ×V)} {k:κ} (e:¬ p.1=k):valV (p :: r) k=valV r k:=by simp [valV,List.find?_cons,e]
theorem valV_any (k:κ):∀ kvs:List (κ×V),(kvs.any fun kv=>decide (kv.1=k))=(valV kvs k).isSome
 | []=>rfl
 | p :: r=>by
  rw [List.any_cons]
  by_cases e:p.1=k
  ·simp only [hd_ e,decide_eq_true e,Bool.true_or,Option.isSome_some]
  ·rw [he_ e,decide_eq_false e,Bool.false_or]; exact valV_any k r
theorem ie_ (kvs:List (κ×V)) (k:κ) (v:V):(putK kvs k v).length≤kvs.length + 1:=by
 unfold putK
 split
 ·rw [List.length_map]; omega
 ·rw [List.length_append,List.length_cons,List.length_nil]; omega
theorem RelO.isSome_eq {o:Option V} {u:Option Value} (r:RelO o u):o.isSome=u.isSome:=by
 cases o with
 | none=>cases u with
  | none=>rfl
  | some _=>exact (show False from r).elim
 | some _=>cases u with
  | none=>exact (show False from r).elim
  | some _=>rfl
theorem RelO.getD {o:Option V} {u:Option Value} {d:V} {d':Value} (r:RelO o u) (rd:RelV d d'):RelV (o.getD d) (u.getD d'):=by
 cases o with
 | none=>cases u with
  | none=>exact rd
  | some _=>exact (show False from r).elim
 | some _=>cases u with
  | none=>exact (show False from r).elim
  | some _=>exact r
theorem KV.val {kvs:List (κ×V)} {vs:List (κ×Value)} (r:KV kvs vs) (k:κ):RelO (valV kvs k) (valueAt vs k):=by
 unfold KV at r
 induction r with
 | nil=>exact True.intro
 | @cons p q ps qs h t ih =>
  obtain ⟨h1,h2⟩:=h
  by_cases e:p.1=k
  ·have e':q.1=k:=h1.symm.trans e
   have b:valueAt (q :: qs) k=some q.2:=by simp [valueAt,List.find?_cons,e']
   rw [hd_ e,b]; exact h2
  ·have e':¬ q.1=k:=fun z=>e (h1.trans z)
   have b:valueAt (q :: qs) k=valueAt qs k:=by simp [valueAt,List.find?_cons,e']
   rw [he_ e,b]; exact ih
theorem KV.any {kvs:List (κ×V)} {vs:List (κ×Value)} (r:KV kvs vs) (k:κ):(kvs.any fun kv=>decide (kv.1=k))=vs.any fun kv=>decide (kv.1=k):=by
 unfold KV at r
 induction r with
 | nil=>rfl
 | cons h t ih=>rw [List.any_cons,List.any_cons,ih,h.1]
theorem KV.repl {kvs:List (κ×V)} {vs:List (κ×Value)} (r:KV kvs vs) (k:κ) {y:V} {u:Value} (ry:RelV y u) :
  KV (kvs.map fun kv=>if kv.1=k then (kv.1,y) else kv) (vs.map fun kv=>if kv.1=k then (kv.1,u) else kv):=by
 unfold KV at r ⊢
 induction r with
 | nil=>exact .nil
 | @cons p q ps qs h t ih =>
  rw [List.map_cons,List.map_cons]
  refine .cons ?_ ih
  obtain ⟨h1,h2⟩:=h
  by_cases e:p.1=k
  ·rw [if_pos e,if_pos (h1.symm.trans e)]; exact ⟨h1,ry⟩
  ·rw [if_neg e,if_neg (fun z=>e (h1.trans z))]; exact ⟨h1,h2⟩
theorem KV.put {kvs:List (κ×V)} {vs:List (κ×Value)} (r:KV kvs vs) (k:κ) {y:V} {u:Value} (ry:RelV y u):KV (putK kvs k y) (stored vs k u):=by
 unfold putK stored
 rw [r.any k]
 by_cases e:(vs.any fun kv=>decide (kv.1=k))=true
 ·rw [if_pos e,if_pos e]; exact r.repl k ry
 ·rw [if_neg e,if_neg e]; exact Paired.snoc r ⟨rfl,ry⟩
theorem KV.length {kvs:List (κ×V)} {vs:List (κ×Value)} (r:KV kvs vs):kvs.length=vs.length:=Paired.length r
end
theorem kV_is {P:Program} {w:World} {k:Key} {u:Value} (r:RelV (kV k) u):(mixKind P w).is k u=true:=by
 cases k with
 | inl i=>obtain ⟨t,e⟩:=(show ∃ t,u=Value.int i t from r); subst e; exact mixKind_int P w i t
 | inr x=>obtain ⟨t,e⟩:=(show ∃ t,u=Value.str x t from r); subst e; exact mixKind_str P w x t
theorem items_are {P:Program} {w:World}:∀ {ks:List Key} {us:List Value},Vals (ks.map kV) us→ItemsAre (mixKind P w) ks us
 | [],_,r=>by rw [List.map_nil] at r; cases r; exact .nil
 | k :: ks,_,r=>by
  rw [List.map_cons] at r
  cases r with
  | cons h t=>exact .cons (kV_is h) (items_are t)
abbrev KT (H:Hp):List (List Key×V)→List (List Key×Addr×Value)→Prop:=Paired fun p q=>p.1=q.1∧H q.2.1=some (.tup (p.1.map kV))∧RelV p.2 q.2.2
theorem KT.val {H:Hp} {kvs:List (List Key×V)} {xs:List (List Key×Addr×Value)} (r:KT H kvs xs) (k:List Key):RelO (valV kvs k) ((atKey xs k).map (·.2)):=by
 induction r with
 | nil=>exact True.intro
 | @cons p q ps qs h t ih =>
  obtain ⟨h1,_,h2⟩:=h
  by_cases e:p.1=k
  ·have e':q.1=k:=h1.symm.trans e
   have b:atKey (q :: qs) k=some q.2:=by simp [atKey,List.find?_cons,e']
   rw [hd_ e,b]; exact h2
  ·have e':¬ q.1=k:=fun z=>e (h1.trans z)
   have b:atKey (q :: qs) k=atKey qs k:=by simp [atKey,List.find?_cons,e']
   rw [he_ e,b]; exact ih
theorem KT.repl {H:Hp} {kvs:List (List Key×V)} {xs:List (List Key×Addr×Value)} (r:KT H kvs xs) (k:List Key) {y:V} {u:Value} (ry:RelV y u) :
  KT H (kvs.map fun kv=>if kv.1=k then (kv.1,y) else kv) (xs.map (putAt k u)):=by
 induction r with
 | nil=>exact .nil
 | @cons p q ps qs h t ih =>
  rw [List.map_cons,List.map_cons]
  refine .cons ?_ ih
  obtain ⟨h1,h2,h3⟩:=h
  unfold putAt
  by_cases e:p.1=k
  ·rw [if_pos e,if_pos (h1.symm.trans e)]; exact ⟨h1,h2,ry⟩
  ·rw [if_neg e,if_neg (fun z=>e (h1.trans z))]; exact ⟨h1,h2,h3⟩
theorem KT.put {H:Hp} {kvs:List (List Key×V)} {xs:List (List Key×Addr×Value)} (r:KT H kvs xs) (k:List Key) {b:Addr} {y:V} {u:Value} (hb:H b=some (.tup (k.map kV))) (ry:RelV y u) :
  KT H (putK kvs k y) (storedH xs k b u):=by
 have e:(kvs.any fun kv=>decide (kv.1=k))=(atKey xs k).isSome:=by
  rw [valV_any,(r.val k).isSome_eq,Option.isSome_map]
 unfold putK storedH
 rw [e]
 by_cases q:(atKey xs k).isSome=true
 ·rw [if_pos q,if_pos q]; exact r.repl k ry
 ·rw [if_neg q,if_neg q]; exact Paired.snoc r ⟨rfl,hb,ry⟩
theorem KT.keeps {H H':Hp} {kvs:List (List Key×V)} {xs:List (List Key×Addr×Value)} (r:KT H kvs xs) (ht:∀ b ys,H b=some (.tup ys)→H' b=some (.tup ys)):KT H' kvs xs :=
 Paired.mapP r fun _ _ z=>⟨z.1,ht _ _ z.2.1,z.2.2⟩
section
variable {P:Program} {w:World} {H:Hp} {h:Heap} {a:Addr}
theorem rd_of {u:HO} (ok:HOk P w H h) (e:Rd H a u):ObjOk P w H h a u:=e.ok ok
theorem dk_rd {kvs:List (Key×V)} (ok:HOk P w H h) (e:Rd H a (.dK kvs)):kvs.length≤sizeLine∧(a == sysModules)=false∧∃ vs,KV kvs vs∧h.DictOf (mixKind P w) a vs :=
 show ObjOk P w H h a (.dK kvs) from rd_of ok e
theorem dk_of {kvs:List (Key×V)} (ok:HOk P w H h) (e:H a=some (.dK kvs)):kvs.length≤sizeLine∧(a == sysModules)=false∧∃ vs,KV kvs vs∧h.DictOf (mixKind P w) a vs:=dk_rd ok (.inl e)
theorem key_of {ks:List Key} (ok:HOk P w H h) (e:H a=some (.tup (ks.map kV))):(tupleKind (mixKind P w)).is h ks a:=by
 obtain ⟨_,its,r,o,h1,h2,n,h3⟩:=(show ObjOk P w H h a (.tup (ks.map kV)) from ok a _ e)
 exact ⟨o,its.toArray,n,h1,h2,h3,by simpa using items_are r⟩
theorem dt_rd {kvs:List (List Key×V)} (ok:HOk P w H h) (e:Rd H a (.dT kvs)):kvs.length≤sizeLine∧(a == sysModules)=false ∧
  ∃ xs,KT H kvs xs∧h.DictOfH (tupleKind (mixKind P w)) a xs:=by
 obtain ⟨z,y,xs,r,o,es,ep,h1,h2,h3,h4,h5⟩:=(show ObjOk P w H h a (.dT kvs) from rd_of ok e)
 refine ⟨z,y,xs,r,o,es,ep,h1,h2,h3,h4,fun x hx => ?_,h5⟩
 have all:∀ {l:List (List Key×V)} {m:List (List Key×Addr×Value)},KT H l m→∀ x∈m,(tupleKind (mixKind P w)).is h x.1 x.2.1:=by
  intro l m q
  induction q with
  | nil=>intro x hx; exact nomatch hx
  | @cons p q ps qs hq t ih =>
   intro x hx
   rcases List.mem_cons.mp hx with e | hx
   ·subst e
    exact key_of ok (by rw [← hq.1]; exact hq.2.1)
   ·exact ih x hx
 exact all r x hx
theorem dt_of {kvs:List (List Key×V)} (ok:HOk P w H h) (e:H a=some (.dT kvs)):kvs.length≤sizeLine∧(a == sysModules)=false ∧
  ∃ xs,KT H kvs xs∧h.DictOfH (tupleKind (mixKind P w)) a xs:=dt_rd ok (.inl e)
end
def DGet (H:Hp) (a:Addr) (y:V) (r:Option V):Prop :=
 (∃ kvs k,Rd H a (.dK kvs)∧y=kV k∧r=valV kvs k)∨∃ kvs k b,Rd H a (.dT kvs)∧y=.ref b∧H b=some (.tup (k.map kV))∧r=valV kvs k
def DPut (H:Hp) (a:Addr) (y v:V) (H':Hp):Prop :=
 (∃ kvs k,H a=some (.dK kvs)∧y=kV k∧kvs.length < sizeLine∧H'=upd H a (.dK (putK kvs k v))) ∨
 ∃ kvs k b,H a=some (.dT kvs)∧y=.ref b∧H b=some (.tup (k.map kV))∧kvs.length < sizeLine∧H'=upd H a (.dT (putK kvs k v))
theorem DGet.k {H:Hp} {a:Addr} {kvs:List (Key×V)} {k:Key} (e:H a=some (.dK kvs)):DGet H a (kV k) (valV kvs k):=.inl ⟨kvs,k,.inl e,rfl,rfl⟩
theorem DGet.t {H:Hp} {a b:Addr} {kvs:List (List Key×V)} {k:List Key} (e:H a=some (.dT kvs)) (eb:H b=some (.tup (k.map kV))):DGet H a (.ref b) (valV kvs k):=.inr ⟨kvs,k,b,.inl e,rfl,eb,rfl⟩
theorem DPut.k {H:Hp} {a:Addr} {kvs:List (Key×V)} {k:Key} {v:V} (e:H a=some (.dK kvs)) (hl:kvs.length < sizeLine):DPut H a (kV k) v (upd H a (.dK (putK kvs k v))):=.inl ⟨kvs,k,e,rfl,hl,rfl⟩
theorem DPut.t {H:Hp} {a b:Addr} {kvs:List (List Key×V)} {k:List Key} {v:V} (e:H a=some (.dT kvs)) (eb:H b=some (.tup (k.map kV))) (hl:kvs.length < sizeLine) :
  DPut H a (.ref b) v (upd H a (.dT (putK kvs k v))):=.inr ⟨kvs,k,b,e,rfl,eb,hl,rfl⟩
section
variable {X:Cx} {pins:PN_} {σ:St} {H:Hp} {s:Shared} {a:Addr} {y v:V} {u r:Value} {o:Option V} {A:Around} {E:SV_}
theorem Inv.big (I:Inv X pins σ H s):sysModules < s.heap.objs.size:=by
 have h:mainGlobals < s.heap.objs.size:=(I.mod.glob.keeps I.bk).lt
 exact Nat.lt_trans (by decide) h
theorem d_getItem {Q:SV_} (hu:A.units + 1 < cLine) (I:Inv X pins σ H s) (g:DGet H a y (some v)) (ry:RelV y u) (h:∀ w' s',Inv X pins σ H s'→RelV v w'→Q w' s') :
  wpAny (model X.prog X.w) A (getItem (.ref a) u) Q E s:=by
 rcases g with ⟨kvs,k,e,ey,l⟩ | ⟨kvs,k,b,e,ey,eb,l⟩
 ·subst ey
  obtain ⟨z,hd,vs,rel,dd⟩:=dk_rd I.hok e
  obtain ⟨w',hw,rw'⟩:=RelO.some_of (v:=v) (o:=valueAt vs k) (by rw [l]; exact rel.val k)
  exact wpAny_getItem_of (kV_is ry) dd.mapOf hw (h w' _ (I.tok _) rw')
 ·subst ey
  cases (show u=Value.ref b from ry)
  obtain ⟨z,hd,xs,rel,dd⟩:=dt_rd I.hok e
  obtain ⟨w',hw,rw'⟩:=RelO.some_of (v:=v) (o:=(atKey xs k).map (·.2)) (by rw [l]; exact rel.val k)
  obtain ⟨p,hp,hp2⟩:=Option.map_eq_some_iff.mp hw
  refine wpAny_getItem_heap (tupleKind_room_in1 hu) (key_of I.hok eb) dd hp ?_
  rw [hp2]
  exact h w' _ (I.tok _) rw'
theorem d_in {Q:SV_} (hu:A.units + 1 < cLine) (I:Inv X pins σ H s) (g:DGet H a y o) (ry:RelV y u) (h:∀ s',Inv X pins σ H s'→Q (.bool o.isSome) s') :
  wpAny (model X.prog X.w) A (compareOp .In u (.ref a)) Q E s:=by
 rcases g with ⟨kvs,k,e,ey,l⟩ | ⟨kvs,k,b,e,ey,eb,l⟩
 ·subst ey
  obtain ⟨z,hd,vs,rel,dd⟩:=dk_rd I.hok e
  refine wpAny_in_of (kV_is ry) hd dd.mapOf ?_
  rw [← (rel.val k).isSome_eq,← l]
  exact h _ (I.tok _)
 ·subst ey
  cases (show u=Value.ref b from ry)
  obtain ⟨z,hd,xs,rel,dd⟩:=dt_rd I.hok e
  refine wpAny_in_heap (tupleKind_room_in1 hu) (key_of I.hok eb) hd dd ?_
  have q:=(rel.val k).isSome_eq
  rw [Option.isSome_map] at q
  rw [← q,← l]
  exact h _ (I.tok _)
theorem d_notIn {Q:SV_} (hu:A.units + 1 < cLine) (I:Inv X pins σ H s) (g:DGet H a y o) (ry:RelV y u) (h:∀ s',Inv X pins σ H s'→Q (.bool (!o.isSome)) s') :
  wpAny (model X.prog X.w) A (compareOp .NotIn u (.ref a)) Q E s:=by
 rcases g with ⟨kvs,k,e,ey,l⟩ | ⟨kvs,k,b,e,ey,eb,l⟩
 ·subst ey
  obtain ⟨z,hd,vs,rel,dd⟩:=dk_rd I.hok e
  refine wpAny_notIn_of (kV_is ry) hd dd.mapOf ?_
  rw [← (rel.val k).isSome_eq,← l]
  exact h _ (I.tok _)
 ·subst ey
  cases (show u=Value.ref b from ry)
  obtain ⟨z,hd,xs,rel,dd⟩:=dt_rd I.hok e
  refine wpAny_notIn_heap (tupleKind_room_in1 hu) (key_of I.hok eb) hd dd ?_
  have q:=(rel.val k).isSome_eq
  rw [Option.isSome_map] at q
  rw [← q,← l]
  exact h _ (I.tok _)
theorem d_write {h':Heap} {t':Nat} {ob:HO} (I:Inv X pins σ H s) (mu:Mut (H a)) (hs:Heap.SameBut a s.heap h') (he:∃ q,h'.get? a=some q) (new:ObjOk X.prog X.w (upd H a ob) h' a ob) :
  Inv X pins σ (upd H a ob) { s with heap:=h',toks:=t' } :=
 I.write (x:=a) (e:=a) mu (.inl rfl) (fun b q hb z=>(hs.2 b hb).trans z) he new
theorem dk_new {P:Program} {w:World} {H':Hp} {h':Heap} {kvs:List (Key×V)} {vs:List (Key×Value)} (z:kvs.length≤sizeLine) (hd:(a == sysModules)=false) (rel:KV kvs vs) (dd:h'.DictOf (mixKind P w) a vs) :
  ObjOk P w H' h' a (.dK kvs):=⟨z,hd,vs,rel,dd⟩
theorem d_setItem {H':Hp} {Q:Unit→Shared→Prop} (hu:A.units + 1 < cLine) (I:Inv X pins σ H s) (g:DPut H a y v H') (ry:RelV y u) (rv:RelV v r) (h:∀ s',Inv X pins σ H' s'→Q () s') :
  wpAny (model X.prog X.w) A (setItem (.ref a) u r) Q E s:=by
 rcases g with ⟨kvs,k,e,ey,l,eH⟩ | ⟨kvs,k,b,e,ey,eb,l,eH⟩
 ·subst ey eH
  obtain ⟨z,hd,vs,rel,dd⟩:=dk_of I.hok e
  have hz:vs.length≤sizeLine:=by rw [← rel.length]; exact z
  have hl:(putK kvs k v).length≤sizeLine:=by have:=ie_ kvs k v; omega
  refine wpAny_setItem_pairs (hsz:=hz) (kV_is ry) dd fun h' dd' hs=>h _ ?_
  have he:∃ q,h'.get? a=some q:=let ⟨q,_,_,hq,_⟩:=dd'; ⟨q,hq⟩
  exact d_write I (by rw [e]; exact True.intro) hs he (dk_new hl hd (rel.put k rv) dd')
 ·subst ey eH
  cases (show u=Value.ref b from ry)
  obtain ⟨z,hd,xs,rel,dd⟩:=dt_of I.hok e
  have hz:xs.length≤sizeLine:=by rw [← Paired.length rel]; exact z
  have hl:(putK kvs k v).length≤sizeLine:=by have:=ie_ kvs k v; omega
  refine wpAny_setItem_heap (hsz:=hz) (tupleKind_room_in1 hu) (key_of I.hok eb) dd fun h' dd' hs=>h _ ?_
  obtain ⟨q,es,ep,hq,h2,h3,h4,_,h5⟩:=dd'
  refine d_write I (by rw [e]; exact True.intro) hs ⟨q,hq⟩ ⟨hl,hd,_,(rel.put k eb rv).keeps fun c ys ec => ?_,q,es,ep,hq,h2,h3,h4,h5⟩
  rw [ag_ (ne_of ec e (fun z=>nomatch z))]
  exact ec
end
section
variable {X:Cx} {pins:PN_} {σ:St} {H:Hp} {s:Shared} {a:Addr} {kvs:List (Key×V)} {k:Key} {u:Value} {A:Around} {E:SV_}
theorem d_len {Q:SV_} (I:Inv X pins σ H s) (e:Rd H a (.dK kvs)) (h:∀ t s',Inv X pins σ H s'→Q (.int kvs.length t) s'):wpAny (model X.prog X.w) A (call (.builtin "len") [.ref a]) Q E s:=by
 obtain ⟨z,hd,vs,rel,dd⟩:=dk_rd I.hok e
 refine call_len_dict hd dd (by rw [← rel.length]; rw [sizeLine_eq] at z; omega) ?_
 rw [← rel.length]
 exact h _ _ (I.tok _)
end
def NoSl (i:Expr):Prop := ∀ ov iv,subscripted i false ov iv=operate [ov,iv] (getItem ov iv)
theorem subD_of {prog:Program} {w:World} {A:Around} {E:SV_} {s:Shared} {env:Env} {value slice:Expr} {pos:Pos} {T id:String} {Q:SV_}
  (hl:typeLookup (.type T) "__getitem__" = pure (some (.builtin id))) (hs:NoSl slice)
  (h:wpAny (model prog w) A (eval value env) (fun o s₁=>wpAny (model prog w) A (eval slice env) (fun i s₂=>s₂.TypeIs o T∧wpAny (model prog w) A (getItem o i) Q E s₂) E s₁) E s) :
  wpAny (model prog w) A (eval (.Subscript value slice pos) env) Q E s:=by
 refine Subscript_ (wpAny_mono h (fun o s₁ h₁=>wpAny_mono h₁ (fun i s₂ h₂ => ?_) fun _ _ x=>x) fun _ _ x=>x)
 obtain ⟨hT,h₂⟩:=h₂
 unfold subscriptTail
 refine wpAny_bind ?_
 rw [getitemInPython_of_ne hT.not_modules]
 refine wpAny_bind (wpAny_specialOf hT hl ?_)
 have fin:wpAny (model prog w) A (subscripted slice false o i) (fun r s₃=>wpAny (model prog w) A (letTemporaryGo value o r >>= fun _=>pure r) Q E s₃) E s₂:=by
  rw [hs o i]
  exact wpAny_operating (wpAny_mono h₂ (fun r s₃ h₃=>wpAny_bind (wpAny_letTemporaryGo (wpAny_pure h₃))) fun _ _ x=>x)
 first
  | exact wpAny_pure (wpAny_bind fin)
  | exact wpAny_bind (wpAny_pure (wpAny_bind fin))
  | exact wpAny_bind fin
theorem dict_typeIs {X:Cx} {pins:PN_} {σ:St} {H:Hp} {s:Shared} {a:Addr} {y:V} {o:Option V} (I:Inv X pins σ H s) (g:DGet H a y o):s.TypeIs (.ref a) "dict" := by
 rcases g with ⟨kvs,k,e,_,_⟩ | ⟨kvs,k,b,e,_,_,_⟩
 ·obtain ⟨_,_,vs,_,dd⟩:=dk_rd I.hok e
  exact dd.typeIs
 ·obtain ⟨_,_,xs,_,dd⟩:=dt_rd I.hok e
  exact dd.typeIs
def tDGet (td ty:TE):TE:=fun σ H Q=>td σ H fun x H1=>ty σ H1 fun y H2 => ∃ a v,x=.ref a∧DGet H2 a y (some v)∧Q v H2
def tDIn (ty td:TE):TE:=fun σ H Q=>ty σ H fun y H1=>td σ H1 fun x H2 => ∃ a o,x=.ref a∧DGet H2 a y o∧Q (.bl o.isSome) H2
def tDNotIn (ty td:TE):TE:=fun σ H Q=>ty σ H fun y H1=>td σ H1 fun x H2 => ∃ a o,x=.ref a∧DGet H2 a y o∧Q (.bl (!o.isSome)) H2
def sDPut (td ty tv:TE):TS:=fun D σ H=>tv σ H fun v H1=>td σ H1 fun x H2=>ty σ H2 fun y H3 => ∃ a H4,x=.ref a∧DPut H3 a y v H4∧D.nx σ H4
section
variable {X:Cx} {o i e value:Expr} {pos pos' tpos:Pos} {td ty tv:TE}
theorem pe_dget (hu:X.A.units + 1 < cLine) (ho:PE X o td) (hi:PE X i ty) (hs:NoSl i):PE X (.Subscript o i pos) (tDGet td ty):=by
 intro pins s σ H Q I h
 refine subD_of PySem.F.slot_dict_getitem.lookup hs (thn (ho pins s σ H _ I h) fun u s1 ⟨x,H1,I1,rx,q1⟩=>thn (hi pins s1 σ H1 _ I1 q1) fun iv s2 ⟨y,H2,I2,ry,a,v,ex,g,q2⟩ => ?_)
 subst ex
 obtain rfl:u=Value.ref a:=rx
 exact ⟨dict_typeIs I2 g,d_getItem hu I2 g ry fun w' s3 I3 rw'=>⟨v,H2,I3,rw',q2⟩⟩
theorem pc_din (hu:X.A.units + 1 < cLine) (hi:PE X i ty) (ho:PE X o td):PC X .In i o (tDIn ty td):=by
 intro pins s σ H Q I h
 refine thn (hi pins s σ H _ I h) fun iv s1 ⟨y,H1,I1,ry,q1⟩=>thn (ho pins s1 σ H1 _ I1 q1) fun u s2 ⟨x,H2,I2,rx,a,ov,ex,g,q2⟩ => ?_
 subst ex
 obtain rfl:u=Value.ref a:=rx
 exact d_in hu I2 g ry fun s3 I3=>⟨.bl ov.isSome,H2,I3,rfl,q2⟩
theorem pc_dnotin (hu:X.A.units + 1 < cLine) (hi:PE X i ty) (ho:PE X o td):PC X .NotIn i o (tDNotIn ty td):=by
 intro pins s σ H Q I h
 refine thn (hi pins s σ H _ I h) fun iv s1 ⟨y,H1,I1,ry,q1⟩=>thn (ho pins s1 σ H1 _ I1 q1) fun u s2 ⟨x,H2,I2,rx,a,ov,ex,g,q2⟩ => ?_
 subst ex
 obtain rfl:u=Value.ref a:=rx
 exact d_notIn hu I2 g ry fun s3 I3=>⟨.bl (!ov.isSome),H2,I3,rfl,q2⟩
theorem hu_ (hu:X.A.units + 1 < cLine) (ho:PE X o td) (hi:PE X i ty) (hv:PE X value tv) (hs:swapsWith value (some (.Subscript o i pos')) pos.line X.env=pure false) :
  PS X (.Assign [.Subscript o i pos'] value pos) (sDPut td ty tv):=by
 intro pins s σ H D I h
 refine wpAny_Assign_Subscript (thn (hv pins s σ H _ I h) fun r s1 ⟨v,H1,I1,rv,q1⟩=>thn (ho pins s1 σ H1 _ I1 q1) fun u s2 ⟨x,H2,I2,rx,q2⟩=>thn (hi pins s2 σ H2 _ I2 q2) fun iv s3 ⟨y,H3,I3,ry,a,H4,ex,g,q3⟩ => ?_) hs
 subst ex
 obtain rfl:u=Value.ref a:=rx
 exact d_setItem hu I3 g ry rv fun s4 I4=>⟨σ,H4,I4,q3⟩
end
theorem dk_empty {P:Program} {w:World} {H:Hp} (h:Heap) (hb:sysModules < h.objs.size):ObjOk P w H (h.push { cls:=.type "dict",data:=.dict #[] }) h.objs.size (.dK []) :=
 ⟨Nat.zero_le _,beq_eq_false_iff_ne.mpr (Ne.symm (Nat.ne_of_lt hb)),[],.nil,Heap.DictOf.new h⟩
def tDNewK:TE:=fun _ H Q => ∀ p,H p=none→Q (.ref p) (upd H p (.dK []))
section
variable {X:Cx} {pos:Pos}
theorem pe_dnewK:PE X (.Dict [] [] pos) tDNewK:=fun pins s σ H Q I h =>
 wpAny_Dict_empty ⟨.ref s.heap.objs.size,_,I.laid (a:=s.heap.objs.size) (o:=.dK []) (t':=s.toks) (fun _ _ q=>Heap.get?_push_of_some _ q) (Nat.le_refl _) (dk_empty s.heap I.big),rfl,h _ (I.hok.fresh (Nat.le_refl _))⟩
end
theorem bt_all:bootBuiltins "all" = some (.builtin "all"):=by decide +kernel
theorem vals_bl:∀ {bs:List Bool} {us:List Value},Vals (bs.map V.bl) us→us=bs.map Value.bool
 | [],_,h=>by cases h; rfl
 | b :: bs,_,h=>by
  cases h with
  | cons ra rb =>
   cases ra
   rw [vals_bl rb]
   rfl
theorem range_all:∀ (bs:List Bool),(List.range bs.length).all (fun i=>bs[i]?.getD false)=bs.all id:=by
 intro bs
 rw [Bool.eq_iff_iff,List.all_eq_true,List.all_eq_true]
 constructor
 ·intro h b hb
  obtain ⟨i,hi,rfl⟩:=List.getElem_of_mem hb
  have:=h i (List.mem_range.mpr hi)
  rw [List.getElem?_eq_getElem hi] at this
  exact this
 ·intro h i hi
  have hi':=List.mem_range.mp hi
  rw [List.getElem?_eq_getElem hi']
  exact h _ (List.getElem_mem hi')
section
variable {X:Cx}
def rAllL (K:FG_):List V→Hp→VK→Prop:=fun xs H Q => ∃ (p:Addr) (bs:List Bool),xs=[.ref p]∧SqL K H p (bs.map V.bl)∧Q (.bl (bs.all id)) H
theorem call_allL (hc:X.calm=true):CallR X (.builtin "all") (rAllL X.K):=by
 intro pins s σ H xs us Q I r h
 obtain ⟨p,bs,rfl,hq,q⟩:=h
 obtain ⟨u,rfl,rx⟩:=vals1 r
 cases rx
 obtain ⟨its,r',pl,hz⟩:=I.list hq
 have hi:=vals_bl r'
 subst hi
 have hh:X.A.in1.handled=none:=I.ok.hd hc
 have lt:p < s.heap.objs.size:=by obtain ⟨_,e,_⟩:=pl.isList; exact Heap.lt_size e
 refine call_all_walk (wpAny_pyIter_list pl.isList ⟨_,_,_,_,_,_,fun i=>bs[i]?.getD false,rfl,Walks.list hh s.heap.objs.size p (Nat.ne_of_lt lt) (bs.map Value.bool).toArray,⟨⟨_,Heap.get?_push_size _ rfl,rfl,rfl⟩,?_⟩,?_,fun h' tk hk => ?_⟩)
 ·obtain ⟨o,e,r⟩:=pl.isList
  exact ⟨o,Heap.get?_push_of_some _ e,r⟩
 ·intro i v s' Q' E' hv hQ
  have hv':(bs.map Value.bool)[i]? = some v:=by simpa using hv
  rw [List.getElem?_map] at hv'
  cases hb:bs[i]? with
  | none=>rw [hb] at hv'; cases hv'
  | some b =>
   rw [hb] at hv'
   cases hv'
   have hQ':Q' (bs[i]?.getD false) s':=hQ
   rw [hb] at hQ'
   exact wpAny_truthy_bool hQ'
 ·have hk':∀ b o,s.heap.get? b=some o→h'.get? b=some o:=fun b o e=>hk b o (by simp; exact Nat.ne_of_lt (Heap.lt_size e)) (Heap.get?_push_of_some _ e)
  refine ⟨.bl _,H,I.kept hk',?_,q⟩
  show Value.bool _=Value.bool _
  rw [List.size_toArray,List.length_map,range_all]
end
def Its (x:Str):It:=⟨fun i H=>i < x.cps.size,fun i H v H'=>H'=H∧∃ c,x.cps[i]? = some c∧v=.str ⟨#[c]⟩,fun i H=>x.cps.size≤i⟩
theorem turn_strA {P:Program} {w:World} {K:FG_} {tg:Expr} (x:Str) (t:Tok) (it:Addr):Turn P w K tg (Its x) [it] it (fun i h=>h.IsStrIter it "str_ascii_iterator" x t i) where
 mem:=by simp
 obj:=fun i h st b hb=>by
  have e:b=it:=by simpa using hb
  subst e
  obtain ⟨o,e,c,d⟩:=st
  exact ⟨o,e,fun v z=>by rw [d] at z; cases z⟩
 keep:=fun i h h' st k=>let ⟨o,ho,r⟩:=st; ⟨o,k it (by simp) o ho,r⟩
 item:=by
  intro X hP hw hK hc i pins s σ H E I hf st hg
  subst hP hw hK
  obtain ⟨f0,f1,f2,f3,f4,f5⟩:=hf it (by simp)
  have hg':i < x.cps.size:=hg
  refine wpAny_pyNext_ascii_item st (c:=x.cps[i]) (by simp [hg']) fun h' st' sb => ?_
  have I1:Inv X pins σ H { s with heap:=h',toks:=s.toks + 1 }:=I.turned (t':=s.toks + 1) (fun b o hb e=>(sb.2 b hb).trans e) f0 f1 f3 f4 f5
  obtain ⟨o,e,c,d⟩:=id st'
  exact ⟨_,rfl,go_of (s:={ s with heap:=h',toks:=s.toks + 1 }) e c d (by decide) ⟨.str ⟨#[x.cps[i]]⟩,H,I1,⟨_,rfl⟩,⟨rfl,_,by simp [hg'],rfl⟩,st',fun b hb=>(hf b hb).1⟩⟩
 done:=by
  intro X hP hw hK hc i pins s σ H E I hf st hg
  subst hP hw hK
  obtain ⟨f0,f1,f2,f3,f4,f5⟩:=hf it (by simp)
  have hg':x.cps.size≤i:=hg
  exact wpAny_pyNext_ascii_end (I.ok.hd hc) st (by simp [hg']) fun h' eb=>⟨rfl,I.turned (t':=s.toks) (fun b o hb e=>eb b o hb e) f0 f1 f3 f4 f5⟩
 self:=fun _ _ _ _ _ st h=>wpAny_pyIter_striter_ascii st h
theorem turn_strW {P:Program} {w:World} {K:FG_} {tg:Expr} (x:Str) (t:Tok) (it:Addr):Turn P w K tg (Its x) [it] it (fun i h=>h.IsStrIter it "str_iterator" x t i) where
 mem:=by simp
 obj:=fun i h st b hb=>by
  have e:b=it:=by simpa using hb
  subst e
  obtain ⟨o,e,c,d⟩:=st
  exact ⟨o,e,fun v z=>by rw [d] at z; cases z⟩
 keep:=fun i h h' st k=>let ⟨o,ho,r⟩:=st; ⟨o,k it (by simp) o ho,r⟩
 item:=by
  intro X hP hw hK hc i pins s σ H E I hf st hg
  subst hP hw hK
  obtain ⟨f0,f1,f2,f3,f4,f5⟩:=hf it (by simp)
  have hg':i < x.cps.size:=hg
  refine wpAny_pyNext_wide_item st (c:=x.cps[i]) (by simp [hg']) fun h' st' sb => ?_
  have I1:Inv X pins σ H { s with heap:=h',toks:=s.toks + 1 }:=I.turned (t':=s.toks + 1) (fun b o hb e=>(sb.2 b hb).trans e) f0 f1 f3 f4 f5
  obtain ⟨o,e,c,d⟩:=id st'
  exact ⟨_,rfl,go_of (s:={ s with heap:=h',toks:=s.toks + 1 }) e c d (by decide) ⟨.str ⟨#[x.cps[i]]⟩,H,I1,⟨_,rfl⟩,⟨rfl,_,by simp [hg'],rfl⟩,st',fun b hb=>(hf b hb).1⟩⟩
 done:=by
  intro X hP hw hK hc i pins s σ H E I hf st hg
  subst hP hw hK
  obtain ⟨f0,f1,f2,f3,f4,f5⟩:=hf it (by simp)
  have hg':x.cps.size≤i:=hg
  exact wpAny_pyNext_wide_end (I.ok.hd hc) st (by simp [hg']) fun h' eb=>⟨rfl,I.turned (t':=s.toks) (fun b o hb e=>eb b o hb e) f0 f1 f3 f4 f5⟩
 self:=fun _ _ _ _ _ st h=>wpAny_pyIter_striter_wide st h
def iStr (tl:TE):TI:=fun σ H R=>tl σ H fun v H1 => ∃ x,v=.str x∧R (Its x) H1
theorem pi_str {X:Cx} {tg l:Expr} {tl:TE} (hl:PE X l tl):PI X tg l (iStr tl):=by
 intro pins s σ H R I h
 refine thn (hl pins s σ H _ I h) fun v s1 ⟨y,H1,I1,r1,q1⟩ => ?_
 obtain ⟨x,e,q⟩:=q1
 subst e
 obtain ⟨t,rfl⟩:=r1
 have fin:∀ (o:Obj) (tn:Nat→Heap→Prop),Turn X.prog X.w X.K tg (Its x) [s1.heap.objs.size] s1.heap.objs.size tn→tn 0 (s1.heap.push o)→PIE X pins σ tg R (.ref s1.heap.objs.size) { s1 with heap:=s1.heap.push o }:=fun o tn T st=>by
  refine ⟨s1.heap.objs.size,[s1.heap.objs.size],tn,_,H1,rfl,I1.kept (t':=s1.toks) fun b o e=>Heap.get?_push_of_some _ e,T,st,fun b hb => ?_,q⟩
  have e:b=s1.heap.objs.size:=by simpa using hb
  subst e
  exact I1.fpOk (Nat.le_refl _) (I1.hok.fresh (Nat.le_refl _))
 cases ha:x.cps.all (· < 128)
 ·exact wpAny_pyIter_wide ha (fin _ _ (turn_strW x t _) ⟨_,Heap.get?_push_size _ rfl,rfl,rfl⟩)
 ·exact wpAny_pyIter_ascii ha (fin _ _ (turn_strA x t _) ⟨_,Heap.get?_push_size _ rfl,rfl,rfl⟩)
section
variable {X:Cx}
def rRevL (K:FG_):V→Hp→VK→Prop:=fun x H Q => ∃ a xs,x=.ref a∧SqL K H a xs∧∀ p,H p=none→Q (.ref p) (upd H p (.lst xs.reverse))
def tRevL (K:FG_) (te:TE):TE:=fun σ H Q=>te σ H fun x H1=>rRevL K x H1 Q
theorem pe_revL {e:Expr} {te:TE} {k:Nat} {p1 p2 p3 pos:Pos} (he:PE X e te):PE X (.Subscript e (.Slice none none (some (.UnaryOp .USub (.Constant (.int 1) k p1) p2)) p3) pos) (tRevL X.K te):=by
 intro pins s σ H Q I h
 refine Subscript_ (thn (he pins s σ H _ I h) fun v s1 ⟨x,H1,I1,r1,q1⟩ => ?_)
 obtain ⟨a,xs,rfl,hx,q⟩:=q1
 cases r1
 refine wpAny_Slice ?_
 rw [evalPart_none]
 refine wpAny_pure (wpAny_pure ?_)
 rw [evalPart_some]
 refine thn ((pe_un un_neg pe_int:PE X (.UnaryOp .USub (.Constant (.int 1) k p1) p2) _) pins s1 σ H1 (fun x H'=>x=.int (-1)∧H'=H1) I1 ⟨_,rfl,rfl,rfl⟩) fun vs s2 ⟨y,H2,I2,r2,e2,e3⟩ => ?_
 subst e2 e3
 obtain ⟨t,rfl⟩:=r2
 have I3:Inv X pins σ H2 { s2 with heap:=s2.heap.push { cls:=.type "slice",data:=.fields #[.none,.none,.int (-1) t] } }:=I2.kept (t':=s2.toks) fun b ob q=>Heap.get?_push_of_some _ q
 obtain ⟨its,r,ht,hz⟩:=I3.list hx
 have hlen:=r.length
 refine tail_any (ops:=[.ref a,.ref s2.heap.objs.size]) ht.isList.typeIs slot_list_getitem.lookup ?_ (by with_unfolding_all rfl)
 refine wpAny_getItem_list_slice ht.isList (Heap.IsSliceOf.new ..) .none .none (.int _ _) (by simp) ?_ (by rw [List.size_toArray] <;> omega)
 rw [PySem.W.krv_pick]
 refine ⟨.ref _,_,I3.laid (t':=s2.toks) (o:=.lst xs.reverse) (fun b ob q=>Heap.get?_push_of_some _ q) (Nat.le_refl _) ?_,rfl,q _ (I3.hok.fresh (Nat.le_refl _))⟩
 exact ⟨by rw [List.length_reverse]; exact hz,its.reverse,0,r.reverse,Heap.get?_push_size _ rfl⟩
end
end L2
namespace Lf
open PySem L2
end Lf
namespace L2
open PySem PySem.Spec PyProof.Rows
section
variable {X:Cx}
theorem bt_sorted:bootBuiltins "sorted" = some (.builtin "sorted"):=by decide +kernel
end
end L2
namespace Lf
open PySem PySem.W PyProof.Rows
section
variable {lt:Nat→Nat→Bool}
structure Ord (lt:Nat→Nat→Bool):Prop where
 tr:∀ i j k,lt j i=false→lt k j=false→lt k i=false
 asy:∀ i j,lt i j=true→lt j i=false
theorem Ord.rf (o:Ord lt) (i:Nat):lt i i=false:=by
 cases h:lt i i with
 | false=>rfl
 | true=>have:=o.asy i i h; rw [h] at this; exact this
abbrev gk (p:Array Nat) (k:Nat):Nat:=p.getD k 0
def Srt (lt:Nat→Nat→Bool) (p:Array Nat) (n:Nat):Prop := ∀ i j,i≤j→j < n→lt (gk p j) (gk p i)=false
def Dec (lt:Nat→Nat→Bool) (p:Array Nat) (n:Nat):Prop := ∀ i j,i≤j→j < n→lt (gk p i) (gk p j)=false
theorem Srt.step (o:Ord lt) {p:Array Nat} {n:Nat} (h1:1≤n) (h:Srt lt p n) (hn:lt (gk p n) (gk p (n - 1))=false):Srt lt p (n + 1):=by
 intro i j hij hj
 by_cases c:j=n
 ·subst c
  by_cases d:i=j
  ·subst d; exact o.rf _
  ·exact o.tr _ _ _ (h i (j - 1) (by omega) (by omega)) hn
 ·exact h i j hij (by omega)
theorem Dec.step (o:Ord lt) {p:Array Nat} {n:Nat} (h1:1≤n) (h:Dec lt p n) (hn:lt (gk p (n - 1)) (gk p n)=false):Dec lt p (n + 1):=by
 intro i j hij hj
 by_cases c:j=n
 ·subst c
  by_cases d:i=j
  ·subst d; exact o.rf _
  ·exact o.tr _ _ _ hn (h i (j - 1) (by omega) (by omega))
 ·exact h i j hij (by omega)
def Blw (n:Nat) (p:Array Nat):Prop:=0 < n∧∀ x∈p.toList,x < n
theorem Blw.at {n:Nat} {p:Array Nat} (h:Blw n p) (k:Nat):p.getD k 0 < n:=by
 rw [Array.getD_eq_getD_getElem?]
 cases e:p[k]? with
 | none=>exact h.1
 | some x =>
  refine h.2 x ?_
  rw [← Array.getElem?_toList] at e
  exact List.mem_of_getElem? e
end
end Lf
namespace L2
open PySem PySem.Spec PyProof.Rows PySem.W
section
variable {prog:Program} {w:World} {A:Around} {E:SV_} {s:Shared}
abbrev TI2:=Addr×List Int
def t0:TI2:=(0,[])
end
end L2
namespace Lf
open PySem
def Pw (m:Int):Prop:=m=1∨m=2∨m=4∨m=8
theorem Pw.max {a b:Int} (ha:Pw a) (hb:Pw b):Pw (max a b):=by
 by_cases h:a≤b
 ·rw [Int.max_eq_right h]; exact hb
 ·rw [Int.max_eq_left (by omega)]; exact ha
theorem Pw.maxL {l:List Int} (h:∀ a∈l,Pw a):Pw (maxL 1 l):=by
 induction l with
 | nil=>exact .inl rfl
 | cons b r ih=>exact Pw.max (h b List.mem_cons_self) (ih fun a ha=>h a (List.mem_cons_of_mem _ ha))
end Lf
namespace Lf
end Lf
namespace Lf
open PySem
end Lf
namespace Lf
inductive Vd where
 | num (n:Int)
 | row (vs:List Vd)
 | rcd (vs:List Vd)
 | cho (k:Nat) (v:Vd)
def numB:Nat→Int→List Int
 | 0,_=>[]
 | w + 1,n=>n % 256 :: numB w (n / 256)
def lay (l:List Int) (p:Nat) (some:List Int):List Int:=l.mapIdx fun i b=>if p≤i∧i < p + some.length then some.getD (i - p) 0 else b
def layRow (f:Vd→List Int) (step:Nat):Nat→List Vd→List Int→List Int
 | _,[],l=>l
 | j,v :: r,l=>layRow f step (j + 1) r (lay l (j * step) (f v))
mutual
def Kd.byt:Kd→Vd→List Int
 | .num w _,.num n=>numB w.toNat n
 | .row k n,.row vs=>layRow k.byt (up k.rm.1 k.rm.2).toNat 0 vs (List.replicate (n * up k.rm.1 k.rm.2).toNat 0)
 | .rcd fs,.rcd vs=>bytF (plcs 0 (rmF fs)) fs vs (List.replicate (rcdRm (rmF fs)).1.toNat 0)
 | .cho ks,.cho k v=>lay ((List.replicate (choRm (rmK ks)).1.toNat (0:Int)).set 0 (k:Int)) (up 1 (choRm (rmK ks)).2).toNat (bytK ks k v)
 | _,_=>[]
def bytF:List Int→List (PySem.Str×Kd)→List Vd→List Int→List Int
 | p :: ps,f :: r,v :: vs,l=>bytF ps r vs (lay l p.toNat (f.2.byt v))
 | _,_,_,l=>l
def bytK:List Kd→Nat→Vd→List Int
 | [],_,_=>[]
 | k :: _,0,v=>k.byt v
 | _ :: r,j + 1,v=>bytK r j v
end
mutual
def Kd.Val:Kd→Vd→Prop
 | .num w _,.num n=>0≤n∧n < 256 ^ w.toNat
 | .row k n,.row vs=>(vs.length:Int)=n∧∀ v∈vs,k.Val v
 | .rcd fs,.rcd vs=>valF fs vs
 | .cho ks,.cho k v=>valK ks k v
 | _,_=>False
def valF:List (PySem.Str×Kd)→List Vd→Prop
 | [],[]=>True
 | f :: r,v :: vs=>f.2.Val v∧valF r vs
 | _,_=>False
def valK:List Kd→Nat→Vd→Prop
 | [],_,_=>False
 | k :: _,0,v=>k.Val v
 | _ :: r,j + 1,v=>valK r j v
end
end Lf
namespace Lf
end Lf
namespace Lf
end Lf
namespace Lf
end Lf
namespace L2
open PySem PySem.Spec PyProof.Rows
section
variable {X:Cx} {pins:PN_} {σ:St} {H:Hp} {s:Shared} {a:Addr}
theorem Inv.other {u u':HO} (I:Inv X pins σ H s) (e:H a=some u) (n1:∀ y,u ≠ .own y) (n2:∀ xs,u ≠ .tup xs) (n3:∀ ps,u ≠ .tbl ps) (n4:∀ o v,X.H₀ a≠some (.frz o v)) (hok:ObjOk X.prog X.w (upd H a u') s.heap a u'):Inv X pins σ (upd H a u') s:=by
 have ne:∀ {b:Addr},H b=none→b≠a:=fun h z=>by rw [z,e] at h; cases h
 refine ⟨I.ok,I.os,I.bare,⟨I.base.keep,I.base.slot,fun b o h1 h2 h3 => ?_,I.base.there,fun b xs h => ?_,fun b o v h => ?_,fun b ps h => ?_⟩,I.loc,I.cell,?_,fun x c h => ?_,fun p hp => ?_,fun b v h => ?_,I.len⟩
 ·have:=I.base.free b o h1 h2 h3
  rw [ag_ (ne this)]; exact this
 ·have:=I.base.tups b xs h
  rw [ag_ (fun z=>by rw [z,e] at this; exact n2 _ (Option.some.inj this))]; exact this
 ·have:=I.base.frzs b o v h
  rw [ag_ (fun z=>n4 o v (by rw [← z]; exact h))]; exact this
 ·obtain ⟨m,q⟩:=I.base.tbls b ps h
  exact ⟨m,by rw [ag_ (fun z=>by rw [z,e] at q; exact n3 _ (Option.some.inj q))]; exact q⟩
 ·rw [ag_ (ne I.free)]; exact I.free
 ·rw [ag_ (ne (I.freeC x c h))]; exact I.freeC x c h
 ·obtain ⟨p1,p2,p3⟩:=I.pin p hp
  exact ⟨p1,by rw [ag_ (ne p2)]; exact p2,p3⟩
 ·by_cases hb:b=a
  ·subst hb
   rw [upd_same] at h
   cases h
   exact hok
  ·rw [ag_ hb] at h
   refine (I.hok b v h).stay (fun _ _ _ q=>q) (fun c q => ?_) fun c xs q => ?_
   ·rw [ag_ (fun z=>by rw [z,e] at q; exact n1 _ (Option.some.inj q))]; exact q
   ·rw [ag_ (fun z=>by rw [z,e] at q; exact n2 _ (Option.some.inj q))]; exact q
theorem dk_upd {P:Program} {w:World} {H H':Hp} {h:Heap} {a:Addr} {kvs:List (Key×V)} (x:ObjOk P w H h a (.dK kvs)):ObjOk P w H' h a (.dK kvs):=x
theorem Inv.freeze {kvs:List (Key×V)} (I:Inv X pins σ H s) (e:H a=some (.dK kvs)):∃ o,Inv X pins σ (upd H a (.frz o (.dK kvs))) s:=by
 have x:=I.hok a _ e
 obtain ⟨_,_,vs,r,o,es,ep,h1,h2⟩:=id x
 refine ⟨o,I.other e (fun _ z=>by cases z) (fun _ z=>by cases z) (fun _ z=>by cases z) (fun o v z => ?_) ⟨h1,dk_upd x⟩⟩
 have:=I.base.frzs a o v z
 rw [e] at this; cases this
theorem Inv.thaw {o:Obj} {kvs:List (Key×V)} (I:Inv X pins σ H s) (e:H a=some (.frz o (.dK kvs))) (n:∀ o v,X.H₀ a≠some (.frz o v)):Inv X pins σ (upd H a (.dK kvs)) s :=
 I.other e (fun _ z=>by cases z) (fun _ z=>by cases z) (fun _ z=>by cases z) n (dk_upd (I.hok a _ e).2)
end
def tFrz (H0:Hp) (t:TE):TE:=fun σ H Q => ∃ a kvs,H a=some (.dK kvs)∧(∀ o v,H0 a≠some (.frz o v))∧∀ o,t σ (upd H a (.frz o (.dK kvs))) fun v H'=>H' a=some (.frz o (.dK kvs))∧Q v (upd H' a (.dK kvs))
theorem pe_frz {X:Cx} {e:Expr} {t:TE} (h:PE X e t):PE X e (tFrz X.H₀ t):=by
 intro pins s σ H Q I ⟨a,kvs,ha,hn,q⟩
 obtain ⟨o,I1⟩:=I.freeze ha
 refine thn (h pins s σ _ _ I1 (q o)) fun u s1 ⟨v,H1,I2,r,e1,q1⟩=>⟨v,_,I2.thaw e1 hn,r,q1⟩
def sFrz (H0:Hp) (t:TS):TS:=fun D σ H => ∃ a kvs,H a=some (.dK kvs)∧(∀ o v,H0 a≠some (.frz o v))∧∀ o,
 t ⟨fun σ' H'=>H' a=some (.frz o (.dK kvs))∧D.nx σ' (upd H' a (.dK kvs)),fun v H'=>H' a=some (.frz o (.dK kvs))∧D.rt v (upd H' a (.dK kvs)),fun σ' H'=>H' a=some (.frz o (.dK kvs))∧D.bk σ' (upd H' a (.dK kvs)),fun σ' H'=>H' a=some (.frz o (.dK kvs))∧D.ct σ' (upd H' a (.dK kvs))⟩ σ (upd H a (.frz o (.dK kvs)))
theorem ps_frz {X:Cx} {st:Stmt} {t:TS} (h:PS X st t):PS X st (sFrz X.H₀ t):=by
 intro pins s σ H D I ⟨a,kvs,ha,hn,q⟩
 obtain ⟨o,I1⟩:=I.freeze ha
 refine thn (h pins s σ _ _ I1 (q o)) fun f s1 h1 => ?_
 cases f with
 | next=>obtain ⟨σ',H',I2,e1,q1⟩:=h1; exact ⟨σ',_,I2.thaw e1 hn,q1⟩
 | brk=>obtain ⟨σ',H',I2,e1,q1⟩:=h1; exact ⟨σ',_,I2.thaw e1 hn,q1⟩
 | cont=>obtain ⟨σ',H',I2,e1,q1⟩:=h1; exact ⟨σ',_,I2.thaw e1 hn,q1⟩
 | ret u=>obtain ⟨v,σ',H',I2,r,e1,q1⟩:=h1; exact ⟨v,σ',_,I2.thaw e1 hn,r,q1⟩
def Itd (a:Addr) (o:Obj) (kvs:List (Key×V)):It :=
 ⟨fun i H=>H a=some (.frz o (.dK kvs))∧i < kvs.length,fun i H x H'=>H'=H∧∃ kv,kvs[i]? = some kv∧x=kV kv.1,fun i H=>H a=some (.frz o (.dK kvs))∧kvs.length≤i⟩
theorem is_kV {P:Program} {w:World} {k:Key} {u:Value} (h:(mixKind P w).is k u=true):RelV (kV k) u:=by
 cases k with
 | inl i=>exact Value.isInt_shape (k:=i) h
 | inr x=>exact Value.isStrOf_shape (x:=x) h
theorem KV.at' {kvs:List (Key×V)} {vs:List (Key×Value)} (r:KV kvs vs):∀ {i:Nat} {kv:Key×V},kvs[i]? = some kv→∃ u,vs[i]? = some (kv.1,u):=by
 induction r with
 | nil=>intro i kv h; simp at h
 | @cons p q ps qs hq t ih =>
  intro i kv h
  cases i with
  | zero=>simp at h; subst h; exact ⟨q.2,by simp [hq.1]⟩
  | succ i=>obtain ⟨u,e⟩:=ih (i:=i) (by simpa using h); exact ⟨u,by simpa using e⟩
theorem frz_dict {X:Cx} {pins:PN_} {σ:St} {H:Hp} {s:Shared} {a:Addr} {o:Obj} {kvs:List (Key×V)} {es:Array DictEntry} {ep:Nat} (I:Inv X pins σ H s) (e:H a=some (.frz o (.dK kvs))) (hd:o.data=.dict es ep) :
  (a == sysModules)=false∧∃ vs,KV kvs vs∧s.heap.DictAt (mixKind X.prog X.w) a vs ep:=by
 obtain ⟨h0,_,y,vs,r,o',es',ep',h1,h2,h3,h4⟩:=(show ObjOk X.prog X.w H s.heap a (.frz o (.dK kvs)) from I.hok a _ e)
 rw [h0] at h1
 cases h1
 rw [hd] at h3
 cases h3
 exact ⟨y,vs,r,o,es,h0,h2,hd,h4⟩
theorem turn_keys {P:Program} {w:World} {K:FG_} {tg:Expr} (a it:Addr) (hne:a≠it) (o:Obj) (kvs:List (Key×V)) (es:Array DictEntry) (ep:Nat) (hd:o.data=.dict es ep):Turn P w K tg (Itd a o kvs) [it] it (fun i h=>h.IsKeyIter it a i kvs.length ep) where
 mem:=by simp
 obj:=fun i h st b hb=>by
  have e:b=it:=by simpa using hb
  subst e
  obtain ⟨o,e,c,d⟩:=st
  exact ⟨o,e,fun v z=>by rw [d] at z; cases z⟩
 keep:=fun i h h' st k=>st.at fun o e=>k it (by simp) o e
 item:=by
  intro X hP hw hK hc i pins s σ H E I hf st hg
  subst hP hw hK
  obtain ⟨ha,hi⟩:=hg
  obtain ⟨y,vs,r,dd⟩:=frz_dict I ha hd
  obtain ⟨f0,f1,f2,f3,f4,f5⟩:=hf it (by simp)
  have hl:kvs.length=vs.length:=r.length
  obtain ⟨u,hu⟩:=r.at' (List.getElem?_eq_getElem hi)
  rw [hl] at st
  refine wpAny_pyNext_dict_item st dd hu fun key h' hk st' sb => ?_
  have I1:Inv X pins σ H { s with heap:=h' }:=I.turned (t':=s.toks) (fun b o hb e=>(sb.2 b hb).trans e) f0 f1 f3 f4 f5
  rw [← hl] at st'
  obtain ⟨o',e,c,d⟩:=id st'
  exact ⟨key,rfl,go_of (s:={ s with heap:=h' }) e c d (by decide) ⟨kV kvs[i].1,H,I1,is_kV hk,⟨rfl,_,List.getElem?_eq_getElem hi,rfl⟩,st',fun b hb=>(hf b hb).1⟩⟩
 done:=by
  intro X hP hw hK hc i pins s σ H E I hf st hg
  subst hP hw hK
  obtain ⟨ha,hi⟩:=hg
  obtain ⟨y,vs,r,dd⟩:=frz_dict I ha hd
  obtain ⟨f0,f1,f2,f3,f4,f5⟩:=hf it (by simp)
  have hl:kvs.length=vs.length:=r.length
  rw [hl] at st
  exact wpAny_pyNext_dict_end (I.ok.hd hc) st dd (by simp; omega) fun h' eb=>⟨rfl,I.turned (t':=s.toks) (fun b o hb e=>eb b o hb e) f0 f1 f3 f4 f5⟩
 self:=fun _ _ _ _ _ st h=>wpAny_pyIter_keyiter st h
def iKeys (tl:TE):TI:=fun σ H R=>tl σ H fun x H1 => ∃ a o kvs,x=.ref a∧H1 a=some (.frz o (.dK kvs))∧R (Itd a o kvs) H1
theorem pi_keys {X:Cx} {tg l:Expr} {tl:TE} (hl:PE X l tl):PI X tg l (iKeys tl):=by
 intro pins s σ H R I h
 refine thn (hl pins s σ H _ I h) fun v s1 ⟨x,H1,I1,r1,q1⟩ => ?_
 obtain ⟨a,o,kvs,e,ha,q⟩:=q1
 subst e
 cases r1
 obtain ⟨h0,_,y,vs,r,o',es,ep,h1,h2,h3,h4⟩:=(show ObjOk X.prog X.w H1 s1.heap a (.frz o (.dK kvs)) from I1.hok a _ ha)
 rw [h0] at h1
 cases h1
 have hl:kvs.length=vs.length:=r.length
 refine wpAny_pyIter_dict y (⟨o,es,h0,h2,h3,h4⟩ : s1.heap.DictAt (mixKind X.prog X.w) a vs ep) ?_
 refine ⟨s1.heap.objs.size,[s1.heap.objs.size],_,_,H1,rfl,I1.kept (t':=s1.toks) fun b o e=>Heap.get?_push_of_some _ e,turn_keys a _ (Nat.ne_of_lt (Heap.lt_size h0)) o kvs es ep h3,⟨_,Heap.get?_push_size _ rfl,rfl,by rw [hl]; rfl⟩,fun b hb => ?_,q⟩
 have e:b=s1.heap.objs.size:=by simpa using hb
 subst e
 exact I1.fpOk (Nat.le_refl _) (I1.hok.fresh (Nat.le_refl _))
section
variable {X:Cx}
theorem gl_ (a:Int) (t:Tok) {prog:Program} {w:World} {A:Around} {E:SV_} {s:Shared} {Q:SV_} (h:∀ t',Q (.int (Builtin.Int.intBits a) t') { s with toks:=s.toks + 1 }) :
  wpAny (model prog w) A (call (.builtin "int.bit_length") [.int a t]) Q E s:=by
 refine wpAny_call_entry F.slot_int_bit_length (typeIs_int s a t) F.entry_int_bit_length ?_ (F.args_int_bit_length_1 _)
 unfold Builtin.«int.bit_length»
 obtain ⟨hp,g,d,tk,os⟩:=s
 wp_walk
 exact ⟨_,rfl,h _⟩
def rBits:V→List V→Hp→VK→Prop:=fun x vs H Q => ∃ i:Int,x=.int i∧vs=[]∧Q (.int (Builtin.Int.intBits i)) H
theorem mt_bit_length:MtR X "int.bit_length" rBits:=by
 intro pins s σ H x vs v us Q I rx rv h
 obtain ⟨i,rfl,rfl,q⟩:=h
 obtain ⟨t,rfl⟩:=rx
 cases rv
 exact gl_ i t fun t'=>⟨.int _,H,I.tok _,⟨_,rfl⟩,q⟩
end
end L2
namespace L2
open PySem PySem.W PySem.Spec PyProof.Rows PySem.Calls
def allF (h:Heap):Frag:=(List.range h.objs.size).filterMap fun a=>(h.get? a).map fun o=>(a,o)
theorem lookup_mem {α β:Type} [BEq α] [LawfulBEq α] {a:α} {b:β}:∀ {l:List (α×β)},l.lookup a=some b→(a,b)∈l
 | [],h=>by simp at h
 | (c,d) :: r,h=>by
  by_cases e:a=c
  ·subst e; simp at h; subst h; exact List.mem_cons_self
  ·rw [List.lookup_cons,beq_eq_false_iff_ne.mpr e] at h
   exact List.mem_cons_of_mem _ (lookup_mem h)
theorem allF_in (h:Heap):(allF h).In h:=fun a o e=>by
 obtain ⟨b,_,hb⟩:=List.mem_filterMap.mp (lookup_mem e)
 obtain ⟨o',h1,h2⟩:=Option.map_eq_some_iff.mp hb
 cases h2
 exact h1
def exHook {α:Type} (f:Frag→α) (v:α):Hook where
 α:=α
 obs:=fun s=>f (allF s.heap)
 val:=fun _=>v
 says:=fun _ h => ∃ K:Frag,K.In h∧f K=v
 of:=fun _ s e=>⟨allF s.heap,allF_in _,e⟩
 keeps:=fun _ _ _ e g=>by
  obtain ⟨K,k,e⟩:=e
  exact ⟨K,fun a o q=>g _ _ (k a o q),e⟩
theorem boot_size:∀ w:World,((boot_heap w.params).isNs mainGlobals && (Array.mk []:Array GenState).size == 0,(boot_heap w.params).objs.size,(boot_heap w.params).nsMap mainGlobals "__annotations__")=(true,11,some (.ref 6)):=fun w=>by kernel_rfl
noncomputable def onceSeen (tr:(String→Option Builtin)→Program→World→Nat→Option Value→Nat→Shared→Thread→Option Shared) (tb:String→Option Builtin) (im:List Stmt→List Str) {β:Type} (os:List Str→Shared→β) (p:Program) (N:Nat) {α:Type} (Yf:Frag→α) (w:World) (o:OsState):Option (Bool×β×α) :=
 (tr tb p w 11 (some (.ref 6)) N ⟨boot_heap w.params,Array.mk [],boot_drawn,boot_toks,o⟩ (topStub p)).map fun s₁ =>
  (staticsOk (im p.main.body) (boot_heap w.params) s₁.heap && namesBound p s₁.heap && gensDone s₁ && laidKept (boot_heap w.params) s₁.heap,os (im p.main.body) s₁,Yf (allF s₁.heap))
theorem left_once {p q:Program} {loose:List Str} {Xt:Shared→Bool} {α:Type} {Yf:Frag→α} {v:α} {N:Nat} {g0:Bool} (hN:Nat.ble 600 N=true) (e:opening p=plainProg p.main.scope.names) (f:∀ s,fenceModules? p s=some s)
  (all:∀ w:World,onceSeen topRun treeTable importedModules (fun m s=>openSeen q loose m Xt g0 s) p N Yf w=fun _=>some (true,openGood q loose,v)) :
  LeftO p q loose Xt (exHook Yf v).obs (exHook Yf v).val N g0:=fun w=>by
 obtain ⟨⟨h,gs,d,k,os⟩,e1,e'⟩:=Option.map_eq_some_iff.mp (boot_open e hN f w)
 obtain ⟨rfl,rfl,rfl,rfl⟩ : h=boot_heap w.params∧gs=Array.mk []∧d=boot_drawn∧k=boot_toks:=by simpa using e'
 obtain ⟨z1,z2,z3⟩ : _∧_∧_:=by simpa only [Prod.mk.injEq] using boot_size w
 obtain ⟨s₁,r,r2⟩:=Option.map_eq_some_iff.mp (congrFun (all w) os)
 obtain ⟨l1,l2,l3⟩ : _∧_∧_:=by simpa only [Prod.mk.injEq] using r2
 have t:topFrom treeTable p w N ⟨boot_heap w.params,Array.mk [],boot_drawn,boot_toks,os⟩=some s₁:=by
  unfold topFrom
  dsimp only
  rw [z1,z2,z3]
  show (topRun treeTable p w 11 (some (.ref 6)) N _ (topStub p)).bind _=_
  rw [r]
  show (match staticsOk (importedModules p.main.body) (boot_heap w.params) s₁.heap && namesBound p s₁.heap && gensDone s₁ && laidKept (boot_heap w.params) s₁.heap with | true=>_ | false=>_)=_
  rw [l1]
 unfold openEnds
 rw [e1]
 show (topFrom treeTable p w N _).map _=_
 rw [t]
 exact congrArg some (Prod.ext l2 l3)
theorem walk_ex {l:PySem.W.OpenLaw} {n k:Nat} {q:Program} {loose:List Str} {XP:(Str→Option Value)→Heap→Prop} {α:Type} {f:Frag→α} {v:α} {d:DefRec} {CX:CXT} {sp:PySem.W.Frag→Sp} {x:Str}
  (hn:l.most=some n) (hn2:n≤sizeLine) (hdf:d.params.defaults=[]) (hr:Room k callerA)
  (F:∀ (w:World) (K:Frag) (mg:MG_) (fa:Addr) (h:Heap),f K=v→K.In h→h.Ns mainGlobals mg→mg d.name=some (.ref fa) →
   ∃ fd:FuncData,(∀ (s:Shared) (u:Value),BindsTo s fd ⟨[u],[]⟩ [(x,u)]) ∧
    ∀ base:Heap,K.In base→base.Ns mainGlobals mg→FnOk l.prog w K mg base CX k fa fd [x] (sp K))
  (hsp:∀ (K:FG_) (H:Hp) (a:Addr) (ns:List Int),ns.length≤n→Only H→SqL K H a (ns.map V.int)→sp K [.ref a] H (fun v _=>v=.bl true) fun _ _ _=>False)
  (hCX:∀ (H:Hp) (s:Shared) (e:Value) (s':Shared),CX [] H s (fun _ _ _=>False) e s'→False) :
  PySem.W.WalkO q loose XP (exHook f v).says l.row.toRowW d [] (fun f vs=>PySem.call f vs):=by
 refine Att.attach_call hn hdf fun w s₀ s₁ mg mb fa o pm cd doc a vs ns G Y ho hd hcd hmg hobj hints hlen hg => ?_
 obtain ⟨K,KX,hK⟩:=Y
 obtain ⟨fd,hb,hF⟩:=F w K mg fa _ hK KX G.T.g hmg
 exact law_call KX G.T.g G.T.b G.T.builtins G.T.nolimit hg hobj hints (Nat.le_trans hlen hn2) hr hF hb (fun H hO hS=>hsp K H a ns hlen hO hS) fun H e s'=>hCX H s₁ e s'
def topOf (p:Program) (i:Nat):Stmt:=p.main.body.getD i (.Pass ⟨0,0,0,0⟩)
def defName (s:Stmt):Str:=match s with
 | .FunctionDef n .. => n
 | .Assign [.Name n _] _ _=>n
 | _=>⟨#[]⟩
abbrev FO:=Option ((Str×Str×Arguments×FuncBody×Scope)×(Addr×List (Str×Addr)×Value×Addr)×Bool)
def obsDef (K:Frag) (n:Str):FO:=match nsIn K mainGlobals n with
 | some (some (.ref f))=>(match K.lookup f with
  | some ⟨_,_,.func fd,_⟩=>some ((fd.name,fd.qualname,fd.params,fd.body,fd.scope),(fd.globals,fd.closure,fd.defaults,fd.builtins),codeIn K fd.code n)
  | _=>none)
 | _=>none
def expDef (s:Stmt):FO:=some ((defName s,defName s,defArgs s,.stmts (defBody s),defScope s),(mainGlobals,[],.none,builtinsNs),true)
def obsNo (K:Frag) (n:Str):Bool:=match nsIn K mainGlobals n with
 | some none=>true
 | _=>false
def obsVal (K:Frag) (n:Str):Option V:=match nsIn K mainGlobals n with
 | some (some v)=>absV v
 | _=>none
def obsTup (K:Frag) (n:Str):Option (List (Option V)):=match nsIn K mainGlobals n with
 | some (some (.ref a))=>(match K.lookup a with
  | some ⟨.type "tuple",_,.seq xs _,_⟩=>some (xs.toList.map absV)
  | _=>none)
 | _=>none
theorem am_ {K:Frag} {s:Stmt} (h:obsDef K (defName s)=expDef s):∃ f fd,nsIn K mainGlobals (defName s)=some (some (.ref f))∧Fun K (defName s) (defName s) s f fd:=by
 unfold obsDef at h
 cases e:nsIn K mainGlobals (defName s) with
 | none=>rw [e] at h; cases h
 | some o =>
  cases o with
  | none=>rw [e] at h; cases h
  | some v =>
   cases v with
   | ref f =>
    rw [e] at h
    dsimp only at h
    cases e2:K.lookup f with
    | none=>rw [e2] at h; cases h
    | some ob =>
     obtain ⟨oc,od,da,sl⟩:=ob
     rw [e2] at h
     cases da with
     | func fd =>
      obtain ⟨nm,qn,pa,bo,sc,gl,cl,df,kw,dc,pm,an,cd,ct,bl⟩:=fd
      simp only [expDef,Option.some.injEq,Prod.mk.injEq] at h
      obtain ⟨⟨rfl,rfl,rfl,rfl,rfl⟩,⟨rfl,rfl,rfl,rfl⟩,h3⟩:=h
      refine ⟨f,_,rfl,⟨oc,od,kw,dc,pm,an,cd,ct,sl,rfl,e2,h3⟩,?_⟩
      unfold keepIn
      dsimp only
      rw [e2]
     | _=>cases h
   | _=>rw [e] at h; cases h
theorem obsNo_ex {K:Frag} {n:Str} (h:obsNo K n=true):nsIn K mainGlobals n=some none:=by
 unfold obsNo at h
 split at h
 ·assumption
 ·cases h
theorem absV_rel:∀ {v:Value} {x:V},absV v=some x→RelV x v
 | .none,x,h=>by cases h; rfl
 | .bool b,x,h=>by cases h; rfl
 | .int i t,x,h=>by cases h; exact ⟨t,rfl⟩
 | .str i t,x,h=>by cases h; exact ⟨t,rfl⟩
 | .bytes i t,x,h=>by cases h; exact ⟨t,rfl⟩
 | .float i t,x,h=>by cases h; exact ⟨t,rfl⟩
 | .ref a,x,h=>by cases h; rfl
 | .type n,x,h=>by cases h; rfl
 | .builtin _,x,h=>by cases h
theorem gi_ {K:Frag} {n:Str} {x:V} (h:obsVal K n=some x):∃ v,nsIn K mainGlobals n=some (some v)∧RelV x v:=by
 unfold obsVal at h
 split at h
 ·exact ⟨_,by assumption,absV_rel h⟩
 ·cases h
section
variable {K:Frag} {x qual:Str} {st:Stmt} {f:Addr} {fd:FuncData} {p1 p2 p3 p4 p5 p6:Str}
abbrev BA (x qual:Str) (st:Stmt) (us:List Value) (r:List (Str×Value)):Prop := ∀ (kV doc pm:Value) (an:Option Addr) (cdv ct:Value),bindArgs (PySem.W.fnOf x qual (defArgs st) (defBody st) (defScope st) .none kV doc pm an cdv ct) ⟨us,[]⟩=pure r
theorem binds1 (F:Fun K x qual st f fd) (h:∀ a,BA x qual st [a] [(p1,a)]):Binds K fd [p1] []:=F.binds fun _ _ _ _ _ _ us hl=>by
 match us,hl with
 | [a],_=>exact h a _ _ _ _ _ _
theorem binds2 (F:Fun K x qual st f fd) (h:∀ a b,BA x qual st [a,b] [(p1,a),(p2,b)]):Binds K fd [p1,p2] []:=F.binds fun _ _ _ _ _ _ us hl=>by
 match us,hl with
 | [a,b],_=>exact h a b _ _ _ _ _ _
theorem binds3 (F:Fun K x qual st f fd) (h:∀ a b c,BA x qual st [a,b,c] [(p1,a),(p2,b),(p3,c)]):Binds K fd [p1,p2,p3] []:=F.binds fun _ _ _ _ _ _ us hl=>by
 match us,hl with
 | [a,b,c],_=>exact h a b c _ _ _ _ _ _
end
def bltNs:List Str:=[⟨#[105,115,105,110,115,116,97,110,99,101]⟩,⟨#[105,110,116]⟩,⟨#[98,111,111,108]⟩,⟨#[108,105,115,116]⟩,⟨#[108,101,110]⟩,⟨#[115,116,114]⟩,⟨#[116,117,112,108,101]⟩,⟨#[97,108,108]⟩,⟨#[100,105,99,116]⟩,⟨#[109,97,120]⟩,⟨#[109,105,110]⟩,⟨#[114,97,110,103,101]⟩,⟨#[122,105,112]⟩,⟨#[101,110,117,109,101,114,97,116,101]⟩,⟨#[115,111,114,116,101,100]⟩,⟨#[115,117,109]⟩,⟨#[114,101,118,101,114,115,101,100]⟩]
theorem gs_ {K:Frag} (h:bltNs.map (obsNo K)=List.replicate 17 true) {n:Str} (i:Nat) (hi:i < 17) (e:bltNs[i]? = some n):nsIn K mainGlobals n=some none:=by
 refine obsNo_ex ?_
 have:=congrArg (fun l=>l[i]?) h
 simp only [List.getElem?_map,e,Option.map_some,List.getElem?_replicate,hi,if_true,Option.some.injEq] at this
 exact this
end L2
namespace Lf
open PySem L2
def All2 {α β:Type} (g:α→β→Prop):List α→List β→Prop
 | [],ys=>ys=[]
 | x :: xs,ys => ∃ y yr,ys=y :: yr∧g x y∧All2 g xs yr
section
variable {α β:Type} {g h:α→β→Prop}
theorem All2.nil:All2 g [] []:=rfl
theorem All2.imp (i:∀ v x,g v x→h v x):∀ {vs:List α} {xs:List β},All2 g vs xs→All2 h vs xs
 | [],_,e=>e
 | _ :: _,_,⟨x,xr,e,a,b⟩=>⟨x,xr,e,i _ _ a,All2.imp i b⟩
theorem All2.len:∀ {vs:List α} {xs:List β},All2 g vs xs→xs.length=vs.length
 | [],_,e=>by rw [show _=[] from e]; rfl
 | _ :: _,_,⟨x,xr,e,a,b⟩=>by rw [e,List.length_cons,List.length_cons,All2.len b]
theorem All2.get:∀ {vs:List α} {xs:List β} {i:Nat} {x:β},All2 g vs xs→xs[i]? = some x→∃ v,vs[i]? = some v∧g v x
 | [],_,_,_,e,h=>by rw [show _=[] from e] at h; simp at h
 | v :: vs,_,0,x,⟨y,yr,e,a,b⟩,h=>by rw [e] at h; cases (Option.some.inj h); exact ⟨v,rfl,a⟩
 | v :: vs,_,i + 1,x,⟨y,yr,e,a,b⟩,h=>by
  rw [e] at h
  obtain ⟨u,hu,hg⟩:=All2.get (i:=i) b (by simpa using h)
  exact ⟨u,by simpa using hu,hg⟩
theorem All2.at:∀ {vs:List α} {xs:List β} {i:Nat} {v:α},All2 g vs xs→vs[i]? = some v→∃ x,xs[i]? = some x∧g v x
 | [],_,_,_,e,h=>by simp at h
 | v :: vs,_,0,w,⟨y,yr,e,a,b⟩,h=>by rw [e]; cases (Option.some.inj h); exact ⟨y,rfl,a⟩
 | v :: vs,_,i + 1,w,⟨y,yr,e,a,b⟩,h=>by
  rw [e]
  obtain ⟨u,hu,hg⟩:=All2.at (i:=i) b (by simpa using h)
  exact ⟨u,by simpa using hu,hg⟩
theorem All2.app {us:List α} {ys:List β} (hu:All2 g us ys):∀ {vs:List α} {xs:List β},All2 g vs xs→All2 g (vs ++ us) (xs ++ ys)
 | [],_,e=>by rw [show _=[] from e]; exact hu
 | _ :: _,_,⟨y,yr,e,a,b⟩=>by rw [e]; exact ⟨y,yr ++ ys,rfl,a,All2.app hu b⟩
theorem All2.one {v:α} {x:β} (hg:g v x):All2 g [v] [x]:=⟨x,[],rfl,hg,rfl⟩
theorem All2.snoc {v:α} {x:β} (hg:g v x) {vs:List α} {xs:List β} (h:All2 g vs xs):All2 g (vs ++ [v]) (xs ++ [x]):=All2.app (All2.one hg) h
theorem All2.take:∀ (n:Nat) {vs:List α} {xs:List β},All2 g vs xs→All2 g (vs.take n) (xs.take n)
 | 0,_,_,_=>by simp only [List.take_zero]; rfl
 | n + 1,[],_,e=>by rw [show _=[] from e]; rfl
 | n + 1,_ :: _,_,⟨y,yr,e,a,b⟩=>by rw [e]; exact ⟨y,yr.take n,rfl,a,All2.take n b⟩
theorem All2.drop:∀ (n:Nat) {vs:List α} {xs:List β},All2 g vs xs→All2 g (vs.drop n) (xs.drop n)
 | 0,_,_,h=>h
 | n + 1,[],_,e=>by rw [show _=[] from e]; rfl
 | n + 1,_ :: _,_,⟨y,yr,e,a,b⟩=>by rw [e]; exact All2.drop n b
theorem All2.rev:∀ {vs:List α} {xs:List β},All2 g vs xs→All2 g vs.reverse xs.reverse
 | [],_,e=>by rw [show _=[] from e]; rfl
 | _ :: _,_,⟨y,yr,e,a,b⟩=>by rw [e,List.reverse_cons,List.reverse_cons]; exact All2.snoc a (All2.rev b)
theorem All2.set {v:α} {x:β} (hg:g v x):∀ (i:Nat) {vs:List α} {xs:List β},All2 g vs xs→All2 g (vs.set i v) (xs.set i x)
 | _,[],_,e=>by rw [show _=[] from e]; rfl
 | 0,_ :: _,_,⟨y,yr,e,a,b⟩=>by rw [e]; exact ⟨x,yr,rfl,hg,b⟩
 | i + 1,_ :: _,_,⟨y,yr,e,a,b⟩=>by rw [e]; exact ⟨y,yr.set i x,rfl,a,All2.set hg i b⟩
end
inductive Dx where
 | non | bl (b:Bool) | int (i:Int) | str (x:Str) | tup (l:List Dx) | lst (l:List Dx) | dic (l:List (Key×Dx)) | scr (K:FG_) (ns:List Int)
 | ins (C:Addr) (fs:List (Str×Dx)) | exc (c:Value)
def excP (a:Addr) (c:Value):Heap→Prop:=fun h => ∃ o vs,h.get? a=some o∧o.cls=c∧o.data=.fields vs∧o.dict=none
mutual
def IsX (H:Hp):Dx→V→Prop
 | .non,v=>v=.non
 | .bl b,v=>v=.bl b
 | .int i,v=>v=.int i
 | .str x,v=>v=.str x
 | .tup ds,v => ∃ a vs,v=.ref a∧H a=some (.tup vs)∧IsXs H ds vs
 | .lst ds,v => ∃ a vs,v=.ref a∧H a=some (.lst vs)∧IsXs H ds vs
 | .dic ks,v => ∃ a ws,v=.ref a∧Rd H a (.dK ws)∧IsXk H ks ws
 | .scr K ns,v => ∃ a,v=.ref a∧SqL K H a (ns.map V.int)
 | .ins C fs,v => ∃ a dx ws,v=.ref a∧H a=some (.ins C dx ws)∧IsXf H fs ws
 | .exc c,v => ∃ a,v=.ref a∧H a=some (.ext (excP a c))
def IsXs (H:Hp):List Dx→List V→Prop
 | [],vs=>vs=[]
 | d :: r,vs => ∃ v vr,vs=v :: vr∧IsX H d v∧IsXs H r vr
def IsXk (H:Hp):List (Key×Dx)→List (Key×V)→Prop
 | [],ws=>ws=[]
 | k :: r,ws => ∃ w wr,ws=w :: wr∧(k.1=w.1∧IsX H k.2 w.2)∧IsXk H r wr
def IsXf (H:Hp):List (Str×Dx)→List (Str×V)→Prop
 | [],ws=>ws=[]
 | k :: r,ws => ∃ w wr,ws=w :: wr∧(k.1=w.1∧IsX H k.2 w.2)∧IsXf H r wr
end
theorem IsXs.all {H:Hp}:∀ {ds:List Dx} {vs:List V},IsXs H ds vs↔All2 (IsX H) ds vs
 | [],vs=>by simp only [IsXs,All2]
 | d :: r,vs=>by
  simp only [IsXs,All2]
  constructor
  ·rintro ⟨v,vr,e,a,b⟩; exact ⟨v,vr,e,a,IsXs.all.mp b⟩
  ·rintro ⟨v,vr,e,a,b⟩; exact ⟨v,vr,e,a,IsXs.all.mpr b⟩
abbrev KvX (H:Hp) (k:Key×Dx) (w:Key×V):Prop:=k.1=w.1∧IsX H k.2 w.2
theorem IsXk.all {H:Hp}:∀ {ds:List (Key×Dx)} {vs:List (Key×V)},IsXk H ds vs↔All2 (KvX H) ds vs
 | [],vs=>by simp only [IsXk,All2]
 | d :: r,vs=>by
  simp only [IsXk,All2]
  constructor
  ·rintro ⟨v,vr,e,a,b⟩; exact ⟨v,vr,e,a,IsXk.all.mp b⟩
  ·rintro ⟨v,vr,e,a,b⟩; exact ⟨v,vr,e,a,IsXk.all.mpr b⟩
abbrev FvX (H:Hp) (k:Str×Dx) (w:Str×V):Prop:=k.1=w.1∧IsX H k.2 w.2
theorem IsXf.all {H:Hp}:∀ {ds:List (Str×Dx)} {vs:List (Str×V)},IsXf H ds vs↔All2 (FvX H) ds vs
 | [],vs=>by simp only [IsXf,All2]
 | d :: r,vs=>by
  simp only [IsXf,All2]
  constructor
  ·rintro ⟨v,vr,e,a,b⟩; exact ⟨v,vr,e,a,IsXf.all.mp b⟩
  ·rintro ⟨v,vr,e,a,b⟩; exact ⟨v,vr,e,a,IsXf.all.mpr b⟩
def SameF (H H':Hp):Prop := ∀ b o,H b=some o→H' b=some o∨∃ ob ws,(o=.dK ws∧H' b=some (.frz ob (.dK ws)))∨(o=.frz ob (.dK ws)∧H' b=some (.dK ws))
theorem SameF.of {H H':Hp} (e:Same H H'):SameF H H':=fun b o h=>.inl (e _ _ h)
theorem SameF.tup {H H':Hp} (e:SameF H H') {a:Addr} {vs:List V} (h:H a=some (.tup vs)):H' a=some (.tup vs):=by
 rcases e _ _ h with q | ⟨ob,ws,q | q⟩
 ·exact q
 ·cases q.1
 ·cases q.1
theorem SameF.lst {H H':Hp} (e:SameF H H') {a:Addr} {vs:List V} (h:H a=some (.lst vs)):H' a=some (.lst vs):=by
 rcases e _ _ h with q | ⟨ob,ws,q | q⟩
 ·exact q
 ·cases q.1
 ·cases q.1
theorem SameF.dic {H H':Hp} (e:SameF H H') {a:Addr} {ws:List (Key×V)} (h:Rd H a (.dK ws)):Rd H' a (.dK ws):=by
 rcases h with h | ⟨o,h⟩
 ·rcases e _ _ h with q | ⟨ob,ws,q | q⟩
  ·exact .inl q
  ·obtain ⟨q1,q2⟩:=q; cases q1; exact .inr ⟨_,q2⟩
  ·cases q.1
 ·rcases e _ _ h with q | ⟨ob,ws,q | q⟩
  ·exact .inr ⟨_,q⟩
  ·cases q.1
  ·obtain ⟨q1,q2⟩:=q; cases q1; exact .inl q2
theorem SameF.ins {H H':Hp} (e:SameF H H') {a C dx:Addr} {ws:List (Str×V)} (h:H a=some (.ins C dx ws)):H' a=some (.ins C dx ws):=by
 rcases e _ _ h with q | ⟨ob,ws,q | q⟩
 ·exact q
 ·cases q.1
 ·cases q.1
theorem SameF.ext {H H':Hp} (e:SameF H H') {a:Addr} {φ:Heap→Prop} (h:H a=some (.ext φ)):H' a=some (.ext φ):=by
 rcases e _ _ h with q | ⟨ob,ws,q | q⟩
 ·exact q
 ·cases q.1
 ·cases q.1
theorem SameF.sq {H H':Hp} (e:SameF H H') {K:FG_} {a:Addr} {xs:List V} (h:SqL K H a xs):SqL K H' a xs:=by
 rcases h with (h | ⟨o,h⟩) | h
 ·exact .inl (.inl (e.lst h))
 ·rcases e _ _ h with q | ⟨ob,ws,q | q⟩
  ·exact .inl (.inr ⟨o,q⟩)
  ·cases q.1
  ·cases q.1
 ·exact .inr h
mutual
theorem IsX.sameF {H H':Hp} (e:SameF H H'):∀ (d:Dx) (v:V),IsX H d v→IsX H' d v
 | .non,v,h=>by simpa only [IsX] using h
 | .bl _,v,h=>by simpa only [IsX] using h
 | .int _,v,h=>by simpa only [IsX] using h
 | .str _,v,h=>by simpa only [IsX] using h
 | .tup ds,v,h=>by
  simp only [IsX] at h ⊢
  obtain ⟨a,vs,h1,h2,h3⟩:=h
  exact ⟨a,vs,h1,e.tup h2,IsXs.sameF e ds vs h3⟩
 | .lst ds,v,h=>by
  simp only [IsX] at h ⊢
  obtain ⟨a,vs,h1,h2,h3⟩:=h
  exact ⟨a,vs,h1,e.lst h2,IsXs.sameF e ds vs h3⟩
 | .dic ks,v,h=>by
  simp only [IsX] at h ⊢
  obtain ⟨a,ws,h1,h2,h3⟩:=h
  exact ⟨a,ws,h1,e.dic h2,IsXk.sameF e ks ws h3⟩
 | .scr K ns,v,h=>by
  simp only [IsX] at h ⊢
  obtain ⟨a,h1,h2⟩:=h
  exact ⟨a,h1,e.sq h2⟩
 | .ins C fs,v,h=>by
  simp only [IsX] at h ⊢
  obtain ⟨a,dx,ws,h1,h2,h3⟩:=h
  exact ⟨a,dx,ws,h1,e.ins h2,IsXf.sameF e fs ws h3⟩
 | .exc c,v,h=>by
  simp only [IsX] at h ⊢
  obtain ⟨a,h1,h2⟩:=h
  exact ⟨a,h1,e.ext h2⟩
theorem IsXs.sameF {H H':Hp} (e:SameF H H'):∀ (ds:List Dx) (vs:List V),IsXs H ds vs→IsXs H' ds vs
 | [],vs,h=>by simpa only [IsXs] using h
 | d :: r,vs,h=>by
  simp only [IsXs] at h ⊢
  obtain ⟨v,vr,h1,h2,h3⟩:=h
  exact ⟨v,vr,h1,IsX.sameF e d v h2,IsXs.sameF e r vr h3⟩
theorem IsXk.sameF {H H':Hp} (e:SameF H H'):∀ (ds:List (Key×Dx)) (ws:List (Key×V)),IsXk H ds ws→IsXk H' ds ws
 | [],vs,h=>by simpa only [IsXk] using h
 | d :: r,vs,h=>by
  simp only [IsXk] at h ⊢
  obtain ⟨v,vr,h1,h2,h3⟩:=h
  exact ⟨v,vr,h1,⟨h2.1,IsX.sameF e d.2 v.2 h2.2⟩,IsXk.sameF e r vr h3⟩
theorem IsXf.sameF {H H':Hp} (e:SameF H H'):∀ (ds:List (Str×Dx)) (ws:List (Str×V)),IsXf H ds ws→IsXf H' ds ws
 | [],vs,h=>by simpa only [IsXf] using h
 | d :: r,vs,h=>by
  simp only [IsXf] at h ⊢
  obtain ⟨v,vr,h1,h2,h3⟩:=h
  exact ⟨v,vr,h1,⟨h2.1,IsX.sameF e d.2 v.2 h2.2⟩,IsXf.sameF e r vr h3⟩
end
theorem IsX.toF {H H':Hp} {d:Dx} {v:V} (h:IsX H d v) (e:SameF H H'):IsX H' d v:=IsX.sameF e d v h
theorem IsX.to {H H':Hp} {d:Dx} {v:V} (h:IsX H d v) (e:Same H H'):IsX H' d v:=IsX.sameF (.of e) d v h
theorem IsX.int_eq {H:Hp} {i:Int} {v:V} (h:IsX H (.int i) v):v=.int i:=by simpa only [IsX] using h
theorem IsX.bl_eq {H:Hp} {i:Bool} {v:V} (h:IsX H (.bl i) v):v=.bl i:=by simpa only [IsX] using h
theorem IsX.str_eq {H:Hp} {i:Str} {v:V} (h:IsX H (.str i) v):v=.str i:=by simpa only [IsX] using h
theorem IsX.non_eq {H:Hp} {v:V} (h:IsX H .non v):v=.non:=by simpa only [IsX] using h
theorem IsX.tup_eq {H:Hp} {l:List Dx} {v:V} (h:IsX H (.tup l) v):∃ a vs,v=.ref a∧H a=some (.tup vs)∧All2 (IsX H) l vs:=by
 simp only [IsX] at h
 obtain ⟨a,vs,h1,h2,h3⟩:=h
 exact ⟨a,vs,h1,h2,IsXs.all.mp h3⟩
theorem IsX.lst_eq {H:Hp} {l:List Dx} {v:V} (h:IsX H (.lst l) v):∃ a vs,v=.ref a∧H a=some (.lst vs)∧All2 (IsX H) l vs:=by
 simp only [IsX] at h
 obtain ⟨a,vs,h1,h2,h3⟩:=h
 exact ⟨a,vs,h1,h2,IsXs.all.mp h3⟩
theorem IsX.dic_eq {H:Hp} {l:List (Key×Dx)} {v:V} (h:IsX H (.dic l) v):∃ a ws,v=.ref a∧Rd H a (.dK ws)∧All2 (KvX H) l ws:=by
 simp only [IsX] at h
 obtain ⟨a,vs,h1,h2,h3⟩:=h
 exact ⟨a,vs,h1,h2,IsXk.all.mp h3⟩
theorem IsX.scr_eq {H:Hp} {K:FG_} {ns:List Int} {v:V} (h:IsX H (.scr K ns) v):∃ a,v=.ref a∧SqL K H a (ns.map V.int):=by simpa only [IsX] using h
theorem IsX.of_scr {H:Hp} {K:FG_} {ns:List Int} {a:Addr} (h:SqL K H a (ns.map V.int)):IsX H (.scr K ns) (.ref a):=by simp only [IsX]; exact ⟨a,rfl,h⟩
theorem IsX.of_ins {H:Hp} {C a dx:Addr} {fs:List (Str×Dx)} {ws:List (Str×V)} (h:H a=some (.ins C dx ws)) (h':All2 (FvX H) fs ws):IsX H (.ins C fs) (.ref a):=by simp only [IsX]; exact ⟨a,dx,ws,rfl,h,IsXf.all.mpr h'⟩
theorem IsX.of_int {H:Hp} (i:Int):IsX H (.int i) (.int i):=by simp only [IsX]
theorem IsX.of_bl {H:Hp} (i:Bool):IsX H (.bl i) (.bl i):=by simp only [IsX]
theorem IsX.of_str {H:Hp} (i:Str):IsX H (.str i) (.str i):=by simp only [IsX]
theorem IsX.of_non {H:Hp}:IsX H .non .non:=by simp only [IsX]
theorem IsX.of_tup {H:Hp} {l:List Dx} {a:Addr} {vs:List V} (h:H a=some (.tup vs)) (h':All2 (IsX H) l vs):IsX H (.tup l) (.ref a):=by simp only [IsX]; exact ⟨a,vs,rfl,h,IsXs.all.mpr h'⟩
theorem IsX.of_lst {H:Hp} {l:List Dx} {a:Addr} {vs:List V} (h:H a=some (.lst vs)) (h':All2 (IsX H) l vs):IsX H (.lst l) (.ref a):=by simp only [IsX]; exact ⟨a,vs,rfl,h,IsXs.all.mpr h'⟩
theorem IsX.of_dic {H:Hp} {l:List (Key×Dx)} {a:Addr} {vs:List (Key×V)} (h:Rd H a (.dK vs)) (h':All2 (KvX H) l vs):IsX H (.dic l) (.ref a):=by simp only [IsX]; exact ⟨a,vs,rfl,h,IsXk.all.mpr h'⟩
inductive Ow where
 | tr (d:Dx) | ol (a:Addr) (l:List Ow) | od (a:Addr) (l:List (Key×Ow)) | oi (C a dx:Addr) (l:List (Str×Ow)) | ot (l:List Ow)
mutual
def Ow.d:Ow→Dx
 | .tr d=>d
 | .ol _ l=>.lst (owDs l)
 | .od _ l=>.dic (owDk l)
 | .oi C _ _ l=>.ins C (owDf l)
 | .ot l=>.tup (owDs l)
def owDs:List Ow→List Dx
 | []=>[]
 | o :: r=>o.d :: owDs r
def owDk:List (Key×Ow)→List (Key×Dx)
 | []=>[]
 | o :: r=>(o.1,o.2.d) :: owDk r
def owDf:List (Str×Ow)→List (Str×Dx)
 | []=>[]
 | o :: r=>(o.1,o.2.d) :: owDf r
end
mutual
def Ow.fp:Ow→List Addr
 | .tr _=>[]
 | .ol a l=>a :: owFs l
 | .od a l=>a :: owFk l
 | .oi _ a dx l=>a :: dx :: owFf l
 | .ot l=>owFs l
def owFs:List Ow→List Addr
 | []=>[]
 | o :: r=>o.fp ++ owFs r
def owFk:List (Key×Ow)→List Addr
 | []=>[]
 | o :: r=>o.2.fp ++ owFk r
def owFf:List (Str×Ow)→List Addr
 | []=>[]
 | o :: r=>o.2.fp ++ owFf r
end
mutual
def OwOk (G H:Hp):Ow→V→Prop
 | .tr d,v=>IsX G d v
 | .ol a l,v=>v=.ref a∧∃ vs,H a=some (.lst vs)∧OwOks G H l vs
 | .od a l,v=>v=.ref a∧∃ ws,H a=some (.dK ws)∧OwOkk G H l ws
 | .oi C a dx l,v=>v=.ref a∧∃ ws,H a=some (.ins C dx ws)∧H dx=some (.own a)∧OwOkf G H l ws
 | .ot l,v => ∃ a vs,v=.ref a∧G a=some (.tup vs)∧OwOks G H l vs
def OwOks (G H:Hp):List Ow→List V→Prop
 | [],vs=>vs=[]
 | o :: r,vs => ∃ v vr,vs=v :: vr∧OwOk G H o v∧OwOks G H r vr
def OwOkk (G H:Hp):List (Key×Ow)→List (Key×V)→Prop
 | [],vs=>vs=[]
 | o :: r,vs => ∃ v vr,vs=v :: vr∧(o.1=v.1∧OwOk G H o.2 v.2)∧OwOkk G H r vr
def OwOkf (G H:Hp):List (Str×Ow)→List (Str×V)→Prop
 | [],vs=>vs=[]
 | o :: r,vs => ∃ v vr,vs=v :: vr∧(o.1=v.1∧OwOk G H o.2 v.2)∧OwOkf G H r vr
end
section
variable {G G' H H':Hp}
mutual
theorem OwOk.mono (e:SameF G G'):∀ (o:Ow) (v:V),(∀ b∈o.fp,H' b=H b)→OwOk G H o v→OwOk G' H' o v
 | .tr d,v,_,h=>by simp only [OwOk] at h ⊢; exact h.toF e
 | .ol a l,v,k,h=>by
  simp only [OwOk,Ow.fp] at h k ⊢
  obtain ⟨h1,vs,h2,h3⟩:=h
  exact ⟨h1,vs,by rw [k a List.mem_cons_self]; exact h2,OwOks.mono e l vs (fun b hb=>k b (List.mem_cons_of_mem _ hb)) h3⟩
 | .od a l,v,k,h=>by
  simp only [OwOk,Ow.fp] at h k ⊢
  obtain ⟨h1,vs,h2,h3⟩:=h
  exact ⟨h1,vs,by rw [k a List.mem_cons_self]; exact h2,OwOkk.mono e l vs (fun b hb=>k b (List.mem_cons_of_mem _ hb)) h3⟩
 | .oi C a dx l,v,k,h=>by
  simp only [OwOk,Ow.fp] at h k ⊢
  obtain ⟨h1,vs,h2,h4,h3⟩:=h
  exact ⟨h1,vs,by rw [k a List.mem_cons_self]; exact h2,by rw [k dx (List.mem_cons_of_mem _ List.mem_cons_self)]; exact h4,OwOkf.mono e l vs (fun b hb=>k b (List.mem_cons_of_mem _ (List.mem_cons_of_mem _ hb))) h3⟩
 | .ot l,v,k,h=>by
  simp only [OwOk,Ow.fp] at h k ⊢
  obtain ⟨a,vs,h1,h2,h3⟩:=h
  exact ⟨a,vs,h1,e.tup h2,OwOks.mono e l vs k h3⟩
theorem OwOks.mono (e:SameF G G'):∀ (l:List Ow) (vs:List V),(∀ b∈owFs l,H' b=H b)→OwOks G H l vs→OwOks G' H' l vs
 | [],vs,_,h=>by simpa only [OwOks] using h
 | o :: r,vs,k,h=>by
  simp only [OwOks,owFs] at h k ⊢
  obtain ⟨v,vr,h1,h2,h3⟩:=h
  exact ⟨v,vr,h1,OwOk.mono e o v (fun b hb=>k b (List.mem_append_left _ hb)) h2,OwOks.mono e r vr (fun b hb=>k b (List.mem_append_right _ hb)) h3⟩
theorem OwOkk.mono (e:SameF G G'):∀ (l:List (Key×Ow)) (vs:List (Key×V)),(∀ b∈owFk l,H' b=H b)→OwOkk G H l vs→OwOkk G' H' l vs
 | [],vs,_,h=>by simpa only [OwOkk] using h
 | o :: r,vs,k,h=>by
  simp only [OwOkk,owFk] at h k ⊢
  obtain ⟨v,vr,h1,h2,h3⟩:=h
  exact ⟨v,vr,h1,⟨h2.1,OwOk.mono e o.2 v.2 (fun b hb=>k b (List.mem_append_left _ hb)) h2.2⟩,OwOkk.mono e r vr (fun b hb=>k b (List.mem_append_right _ hb)) h3⟩
theorem OwOkf.mono (e:SameF G G'):∀ (l:List (Str×Ow)) (vs:List (Str×V)),(∀ b∈owFf l,H' b=H b)→OwOkf G H l vs→OwOkf G' H' l vs
 | [],vs,_,h=>by simpa only [OwOkf] using h
 | o :: r,vs,k,h=>by
  simp only [OwOkf,owFf] at h k ⊢
  obtain ⟨v,vr,h1,h2,h3⟩:=h
  exact ⟨v,vr,h1,⟨h2.1,OwOk.mono e o.2 v.2 (fun b hb=>k b (List.mem_append_left _ hb)) h2.2⟩,OwOkf.mono e r vr (fun b hb=>k b (List.mem_append_right _ hb)) h3⟩
end
def Fine (H:Hp) (b:Addr):Prop := ∃ o,H b=some o∧∀ ob u,o ≠ .frz ob u
mutual
theorem OwOk.there:∀ (o:Ow) (v:V),OwOk G H o v→∀ b∈o.fp,Fine H b
 | .tr d,v,_,b,hb=>by simp only [Ow.fp] at hb; cases hb
 | .ol a l,v,h,b,hb=>by
  simp only [OwOk,Ow.fp] at h hb
  obtain ⟨h1,vs,h2,h3⟩:=h
  rcases List.mem_cons.mp hb with rfl | hb
  ·exact ⟨_,h2,fun _ _ z=>nomatch z⟩
  ·exact OwOks.there l vs h3 b hb
 | .od a l,v,h,b,hb=>by
  simp only [OwOk,Ow.fp] at h hb
  obtain ⟨h1,vs,h2,h3⟩:=h
  rcases List.mem_cons.mp hb with rfl | hb
  ·exact ⟨_,h2,fun _ _ z=>nomatch z⟩
  ·exact OwOkk.there l vs h3 b hb
 | .oi C a dx l,v,h,b,hb=>by
  simp only [OwOk,Ow.fp] at h hb
  obtain ⟨h1,vs,h2,h4,h3⟩:=h
  rcases List.mem_cons.mp hb with rfl | hb
  ·exact ⟨_,h2,fun _ _ z=>nomatch z⟩
  ·rcases List.mem_cons.mp hb with rfl | hb
   ·exact ⟨_,h4,fun _ _ z=>nomatch z⟩
   ·exact OwOkf.there l vs h3 b hb
 | .ot l,v,h,b,hb=>by
  simp only [OwOk,Ow.fp] at h hb
  obtain ⟨a,vs,h1,h2,h3⟩:=h
  exact OwOks.there l vs h3 b hb
theorem OwOks.there:∀ (l:List Ow) (vs:List V),OwOks G H l vs→∀ b∈owFs l,Fine H b
 | [],vs,_,b,hb=>by simp only [owFs] at hb; cases hb
 | o :: r,vs,h,b,hb=>by
  simp only [OwOks,owFs] at h hb
  obtain ⟨v,vr,h1,h2,h3⟩:=h
  rcases List.mem_append.mp hb with hb | hb
  ·exact OwOk.there o v h2 b hb
  ·exact OwOks.there r vr h3 b hb
theorem OwOkk.there:∀ (l:List (Key×Ow)) (vs:List (Key×V)),OwOkk G H l vs→∀ b∈owFk l,Fine H b
 | [],vs,_,b,hb=>by simp only [owFk] at hb; cases hb
 | o :: r,vs,h,b,hb=>by
  simp only [OwOkk,owFk] at h hb
  obtain ⟨v,vr,h1,h2,h3⟩:=h
  rcases List.mem_append.mp hb with hb | hb
  ·exact OwOk.there o.2 v.2 h2.2 b hb
  ·exact OwOkk.there r vr h3 b hb
theorem OwOkf.there:∀ (l:List (Str×Ow)) (vs:List (Str×V)),OwOkf G H l vs→∀ b∈owFf l,Fine H b
 | [],vs,_,b,hb=>by simp only [owFf] at hb; cases hb
 | o :: r,vs,h,b,hb=>by
  simp only [OwOkf,owFf] at h hb
  obtain ⟨v,vr,h1,h2,h3⟩:=h
  rcases List.mem_append.mp hb with hb | hb
  ·exact OwOk.there o.2 v.2 h2.2 b hb
  ·exact OwOkf.there r vr h3 b hb
end
mutual
theorem OwOk.tree (e:SameF G G'):∀ (o:Ow) (v:V),(∀ b∈o.fp,G' b=H b)→OwOk G H o v→IsX G' o.d v
 | .tr d,v,_,h=>by simp only [OwOk,Ow.d] at h ⊢; exact h.toF e
 | .ol a l,v,k,h=>by
  simp only [OwOk,Ow.fp,Ow.d] at h k ⊢
  obtain ⟨h1,vs,h2,h3⟩:=h
  subst h1
  exact IsX.of_lst (by rw [k a List.mem_cons_self]; exact h2) (OwOks.tree e l vs (fun b hb=>k b (List.mem_cons_of_mem _ hb)) h3)
 | .od a l,v,k,h=>by
  simp only [OwOk,Ow.fp,Ow.d] at h k ⊢
  obtain ⟨h1,vs,h2,h3⟩:=h
  subst h1
  exact IsX.of_dic (.inl (by rw [k a List.mem_cons_self]; exact h2)) (OwOkk.tree e l vs (fun b hb=>k b (List.mem_cons_of_mem _ hb)) h3)
 | .oi C a dx l,v,k,h=>by
  simp only [OwOk,Ow.fp,Ow.d] at h k ⊢
  obtain ⟨h1,vs,h2,h4,h3⟩:=h
  subst h1
  exact IsX.of_ins (by rw [k a List.mem_cons_self]; exact h2) (OwOkf.tree e l vs (fun b hb=>k b (List.mem_cons_of_mem _ (List.mem_cons_of_mem _ hb))) h3)
 | .ot l,v,k,h=>by
  simp only [OwOk,Ow.fp,Ow.d] at h k ⊢
  obtain ⟨a,vs,h1,h2,h3⟩:=h
  subst h1
  exact IsX.of_tup (e.tup h2) (OwOks.tree e l vs k h3)
theorem OwOks.tree (e:SameF G G'):∀ (l:List Ow) (vs:List V),(∀ b∈owFs l,G' b=H b)→OwOks G H l vs→All2 (IsX G') (owDs l) vs
 | [],vs,_,h=>by simpa only [OwOks,owDs,All2] using h
 | o :: r,vs,k,h=>by
  simp only [OwOks,owFs,owDs] at h k ⊢
  obtain ⟨v,vr,h1,h2,h3⟩:=h
  exact ⟨v,vr,h1,OwOk.tree e o v (fun b hb=>k b (List.mem_append_left _ hb)) h2,OwOks.tree e r vr (fun b hb=>k b (List.mem_append_right _ hb)) h3⟩
theorem OwOkk.tree (e:SameF G G'):∀ (l:List (Key×Ow)) (vs:List (Key×V)),(∀ b∈owFk l,G' b=H b)→OwOkk G H l vs→All2 (KvX G') (owDk l) vs
 | [],vs,_,h=>by simpa only [OwOkk,owDk,All2] using h
 | o :: r,vs,k,h=>by
  simp only [OwOkk,owFk,owDk] at h k ⊢
  obtain ⟨v,vr,h1,h2,h3⟩:=h
  exact ⟨v,vr,h1,⟨h2.1,OwOk.tree e o.2 v.2 (fun b hb=>k b (List.mem_append_left _ hb)) h2.2⟩,OwOkk.tree e r vr (fun b hb=>k b (List.mem_append_right _ hb)) h3⟩
theorem OwOkf.tree (e:SameF G G'):∀ (l:List (Str×Ow)) (vs:List (Str×V)),(∀ b∈owFf l,G' b=H b)→OwOkf G H l vs→All2 (FvX G') (owDf l) vs
 | [],vs,_,h=>by simpa only [OwOkf,owDf,All2] using h
 | o :: r,vs,k,h=>by
  simp only [OwOkf,owFf,owDf] at h k ⊢
  obtain ⟨v,vr,h1,h2,h3⟩:=h
  exact ⟨v,vr,h1,⟨h2.1,OwOk.tree e o.2 v.2 (fun b hb=>k b (List.mem_append_left _ hb)) h2.2⟩,OwOkf.tree e r vr (fun b hb=>k b (List.mem_append_right _ hb)) h3⟩
end
end
inductive Sv where
 | tr (d:Dx) | ol (l:List Dx) | od (l:List (Key×Dx)) | ow (o:Ow)
def Sv.d:Sv→Dx
 | .tr d=>d
 | .ol l=>.lst l
 | .od l=>.dic l
 | .ow o=>o.d
inductive Sl where
 | un | v (s:Sv) | bw (l:List Dx) | bo (o:Ow) | pn (v:V)
abbrev Rw:=Sl×Option V
def ownA:Rw→List Addr
 | (.v (.ol _),some (.ref a))=>[a]
 | (.v (.od _),some (.ref a))=>[a]
 | (.bw _,some (.ref a))=>[a]
 | (.v (.ow o),_)=>o.fp
 | (.bo o,_)=>o.fp
 | _=>[]
def owns (P:List Rw):List Addr:=P.flatMap ownA
def hid (O:List Addr) (H:Hp):Hp:=fun b=>if b∈O then none else H b
theorem hid_some {O:List Addr} {H:Hp} {b:Addr} {o:HO}:hid O H b=some o↔b∉O∧H b=some o:=by
 unfold hid
 by_cases h:b∈O
 ·rw [if_pos h]; simp [h]
 ·rw [if_neg h]; simp [h]
theorem hid_same {O:List Addr} {H H':Hp} (e:Same H H'):Same (hid O H) (hid O H'):=fun b o h=>hid_some.mpr ⟨(hid_some.mp h).1,e _ _ (hid_some.mp h).2⟩
theorem av_ {O O':List Addr} {H:Hp} (e:∀ a∈O',a∈O):Same (hid O H) (hid O' H):=fun b o h=>hid_some.mpr ⟨fun z=>(hid_some.mp h).1 (e _ z),(hid_some.mp h).2⟩
theorem hid_sub {O:List Addr} {H:Hp}:Same (hid O H) H:=fun b o h=>(hid_some.mp h).2
def nf:Option HO→Option HO
 | some (.frz _ _)=>none
 | o=>o
theorem nf_some {x:Option HO} {o:HO} (h:nf x=some o):x=some o:=by
 unfold nf at h
 split at h
 ·cases h
 ·exact h
theorem ic_ {x y:Option HO} {o:HO} (h:nf x=some o) (e:∀ o,x=some o→y=some o):nf y=some o:=by
 have hx:=nf_some h
 rw [hx] at h
 rw [e o hx]
 exact h
def ext (Hs H0 H:Hp):Hp:=fun b=>match H0 b with | none=>nf (H b) | some _=>Hs b
theorem bb_ {Hs H0 H:Hp} {b:Addr} (h:H0 b=none):ext Hs H0 H b=nf (H b):=by unfold ext; rw [h]
theorem az_ {Hs H0 H:Hp} {b:Addr} {o:HO} (h:H0 b=some o):ext Hs H0 H b=Hs b:=by unfold ext; rw [h]
theorem fm_ {Hs H0 H H':Hp} (e:Same H H'):Same (ext Hs H0 H) (ext Hs H0 H'):=fun b o h=>by
 cases q:H0 b with
 | none=>rw [bb_ q] at h ⊢; exact ic_ h (e b)
 | some u=>rw [az_ q] at h ⊢; exact h
def RowOk (O:List Addr) (G H:Hp):Rw→Prop
 | (.un,_)=>True
 | (.pn w,v)=>v=some w
 | (.v (.tr d),v) => ∃ x,v=some x∧IsX (hid O G) d x
 | (.v (.ol l),v) => ∃ a vs,v=some (.ref a)∧H a=some (.lst vs)∧All2 (IsX (hid O G)) l vs
 | (.v (.od l),v) => ∃ a ws,v=some (.ref a)∧H a=some (.dK ws)∧All2 (KvX (hid O G)) l ws
 | (.bw l,v) => ∃ a vs,v=some (.ref a)∧H a=some (.lst vs)∧All2 (IsX (hid O G)) l vs
 | (.v (.ow o),v) => ∃ x,v=some x∧OwOk (hid O G) H o x
 | (.bo o,v) => ∃ x,v=some x∧OwOk (hid O G) H o x
theorem KvX.toF {H H':Hp} {k:Key×Dx} {w:Key×V} (h:KvX H k w) (e:SameF H H'):KvX H' k w:=⟨h.1,h.2.toF e⟩
theorem KvX.to {H H':Hp} {k:Key×Dx} {w:Key×V} (h:KvX H k w) (e:Same H H'):KvX H' k w:=⟨h.1,h.2.to e⟩
theorem RowOk.mono {O O':List Addr} {G G' H H':Hp} {r:Rw} (h:RowOk O G H r) (e:SameF (hid O G) (hid O' G')) (ho:∀ a∈ownA r,H' a=H a):RowOk O' G' H' r:=by
 match r,h,ho with
 | (.un,_),_,_=>trivial
 | (.pn w,v),h,_=>exact h
 | (.v (.tr d),v),⟨x,h1,h2⟩,_=>exact ⟨x,h1,h2.toF e⟩
 | (.v (.ol l),v),⟨a,vs,h1,h2,h3⟩,ho =>
  subst h1
  exact ⟨a,vs,rfl,by rw [ho a (List.mem_singleton.mpr rfl)]; exact h2,h3.imp fun _ _ z=>z.toF e⟩
 | (.v (.od l),v),⟨a,vs,h1,h2,h3⟩,ho =>
  subst h1
  exact ⟨a,vs,rfl,by rw [ho a (List.mem_singleton.mpr rfl)]; exact h2,h3.imp fun _ _ z=>z.toF e⟩
 | (.bw l,v),⟨a,vs,h1,h2,h3⟩,ho =>
  subst h1
  exact ⟨a,vs,rfl,by rw [ho a (List.mem_singleton.mpr rfl)]; exact h2,h3.imp fun _ _ z=>z.toF e⟩
 | (.v (.ow o),v),⟨x,h1,h2⟩,ho=>exact ⟨x,h1,OwOk.mono e o x ho h2⟩
 | (.bo o,v),⟨x,h1,h2⟩,ho=>exact ⟨x,h1,OwOk.mono e o x ho h2⟩
structure Fm where
 H0:Hp
 Hs:Hp
 B:List Addr
 sub:Same Hs H0
 nb:∀ b∈B,Hs b=none
 ib:∀ b∈B,∃ o,H0 b=some o
abbrev Fm.vis (F:Fm) (H:Hp):Hp:=ext F.Hs F.H0 H
def FrOk (F:Fm) (r:Rw) (a:Addr):Prop:=match r.1 with
 | .bw _=>a∈F.B
 | .bo _=>a∈F.B∨F.H0 a=none
 | _=>F.H0 a=none
theorem FrOk.or {F:Fm} {r:Rw} {a:Addr} (h:FrOk F r a):a∈F.B∨F.H0 a=none:=by
 unfold FrOk at h
 split at h
 ·exact .inl h
 ·exact h
 ·exact .inr h
structure Rep (F:Fm) (P:List Rw) (H:Hp):Prop where
 nd:(owns P).Nodup
 ok:∀ r∈P,RowOk (owns P) (F.vis H) H r
 fr:∀ r∈P,∀ a∈ownA r,FrOk F r a
 kp:∀ b o,F.H0 b=some o→b∉F.B→H b=some o
 lv:∀ b∈F.B,∃ o,H b=some o
section
variable {F:Fm} {P P':List Rw} {H H':Hp} {r r':Rw} {d:Dx} {v:V} {a p:Addr} {l l':List Dx} {vs vs':List V} {k k':List (Key×Dx)} {ws ws':List (Key×V)} {s:Sv} {x:Option V}
theorem ak_:owns (r :: P)=ownA r ++ owns P:=by
 unfold owns
 rw [List.flatMap_cons]
theorem bg_:owns (P ++ P')=owns P ++ owns P':=by
 unfold owns
 rw [List.flatMap_append]
theorem ah_ (h:ownA r=[a]):owns (r :: P)=a :: owns P:=by rw [ak_,h]; rfl
theorem ej_ (h:ownA r=[]):owns (r :: P)=owns P:=by rw [ak_,h]; rfl
theorem owns_perm (h:P.Perm P'):(owns P).Perm (owns P'):=h.flatMap_right _
theorem Rep.vis (R:Rep F P H):Same (F.vis H) H:=fun b o h=>by
 cases q:F.H0 b with
 | none=>exact nf_some ((bb_ q).symm.trans h)
 | some u =>
  have h:=(az_ q).symm.trans h
  have:=F.sub _ _ h
  exact R.kp b o this fun z=>by rw [F.nb b z] at h; cases h
theorem Rep.hv (R:Rep F P H) {O:List Addr}:Same (hid O (F.vis H)) H:=fun b o h=>R.vis b o (hid_some.mp h).2
theorem Rep.fresh (R:Rep F P H) (hp:H p=none):F.H0 p=none:=by
 cases q:F.H0 p with
 | none=>rfl
 | some o =>
  by_cases hB:p∈F.B
  ·obtain ⟨u,hu⟩:=R.lv p hB; rw [hp] at hu; cases hu
  ·rw [R.kp p o q hB] at hp; cases hp
theorem Rep.perm (R:Rep F P H) (h:P.Perm P'):Rep F P' H:=by
 have hp:(owns P).Perm (owns P'):=owns_perm h
 exact ⟨hp.nodup_iff.mp R.nd,fun r hr=>(R.ok r (h.mem_iff.mpr hr)).mono (.of (av_ fun a ha=>hp.mem_iff.mpr ha)) fun _ _=>rfl,fun r hr=>R.fr r (h.mem_iff.mpr hr),R.kp,R.lv⟩
theorem Rep.tail (R:Rep F (r :: P) H):Rep F P H:=by
 have hs:∀ a∈owns P,a∈owns (r :: P):=fun a ha=>by rw [ak_]; exact List.mem_append_right _ ha
 refine ⟨?_,fun x hx=>(R.ok x (List.mem_cons_of_mem _ hx)).mono (.of (av_ hs)) fun _ _=>rfl,fun x hx=>R.fr x (List.mem_cons_of_mem _ hx),R.kp,R.lv⟩
 have:=R.nd
 rw [ak_] at this
 exact (List.nodup_append.mp this).2.1
theorem bu_ (h:r∈P) (e:a∈ownA r):a∈owns P:=List.mem_flatMap.mpr ⟨r,h,e⟩
theorem mem1 {α:Type} {x:α} {l:List α} (h:l=[x]):x∈l:=by rw [h]; exact List.mem_singleton.mpr rfl
theorem eq1 {α:Type} {x y:α} {l:List α} (h:l=[x]) (hy:y∈l):y=x:=by rw [h] at hy; exact List.mem_singleton.mp hy
theorem Rep.own_in (R:Rep F P H) (h:a∈owns P):∃ o,H a=some o:=by
 obtain ⟨⟨sl,v⟩,hr,e⟩:=List.mem_flatMap.mp h
 have t:=R.ok (sl,v) hr
 cases sl with
 | v s =>
  cases s with
  | tr d=>exact absurd (show a∈([]:List Addr) from e) List.not_mem_nil
  | ol l =>
   obtain ⟨c,vs,h1,h2,_⟩:=t
   cases h1
   rw [List.mem_singleton.mp (show a∈[c] from e)]
   exact ⟨_,h2⟩
  | od l =>
   obtain ⟨c,vs,h1,h2,_⟩:=t
   cases h1
   rw [List.mem_singleton.mp (show a∈[c] from e)]
   exact ⟨_,h2⟩
  | ow o =>
   obtain ⟨x,h1,h2⟩:=t
   obtain ⟨u,hu,_⟩:=OwOk.there o x h2 a e
   exact ⟨u,hu⟩
 | bw l =>
  obtain ⟨c,vs,h1,h2,_⟩:=t
  cases h1
  rw [List.mem_singleton.mp (show a∈[c] from e)]
  exact ⟨_,h2⟩
 | bo o =>
  obtain ⟨x,h1,h2⟩:=t
  obtain ⟨u,hu,_⟩:=OwOk.there o x h2 a e
  exact ⟨u,hu⟩
 | un=>exact absurd (show a∈([]:List Addr) from e) List.not_mem_nil
 | pn _=>exact absurd (show a∈([]:List Addr) from e) List.not_mem_nil
theorem Rep.not_own (R:Rep F P H) (hp:H p=none):p∉owns P:=fun z=>by
 obtain ⟨o,ho⟩:=R.own_in z
 rw [hp] at ho
 cases ho
theorem Rep.grow (R:Rep F P H) (e:Same H H'):Rep F P H':=by
 refine ⟨R.nd,fun r hr=>(R.ok r hr).mono (.of (hid_same (fm_ e))) fun a ha => ?_,R.fr,fun b o h1 h2=>e _ _ (R.kp b o h1 h2),fun b hb => ?_⟩
 ·obtain ⟨o,ho⟩:=R.own_in (bu_ hr ha)
  rw [ho,e _ _ ho]
 ·obtain ⟨o,ho⟩:=R.lv b hb
  exact ⟨o,e _ _ ho⟩
theorem Rep.cons0 (R:Rep F P H) (ho:ownA r=[]) (h:RowOk (owns P) (F.vis H) H r):Rep F (r :: P) H:=by
 refine ⟨by rw [ej_ ho]; exact R.nd,fun x hx => ?_,fun x hx a ha => ?_,R.kp,R.lv⟩
 ·rw [ej_ ho]
  rcases List.mem_cons.mp hx with rfl | hx
  ·exact h
  ·exact R.ok x hx
 ·rcases List.mem_cons.mp hx with rfl | hx
  ·rw [ho] at ha; cases ha
  ·exact R.fr x hx a ha
theorem Rep.add (R:Rep F P H) (h:IsX (hid (owns P) (F.vis H)) d v):Rep F ((.v (.tr d),some v) :: P) H:=R.cons0 rfl ⟨v,rfl,h⟩
theorem Rep.addU (R:Rep F P H):Rep F ((.un,x) :: P) H:=R.cons0 rfl trivial
theorem Rep.head (R:Rep F ((.v s,x) :: P) H):∃ v,x=some v∧IsX (hid (owns P) (F.vis H)) s.d v:=by
 have h:=R.ok _ List.mem_cons_self
 have hs:∀ a∈owns P,a∈owns ((.v s,x) :: P):=fun a ha=>by rw [ak_]; exact List.mem_append_right _ ha
 have hn:=R.nd
 have hf:=R.fr _ List.mem_cons_self
 match s,h with
 | .tr d,⟨v,h1,h2⟩=>exact ⟨v,h1,h2.to (av_ hs)⟩
 | .ol l,⟨a,vs,h1,h2,h3⟩ =>
  subst h1
  have q:F.H0 a=none:=hf a (List.mem_singleton.mpr rfl)
  rw [ah_ (a:=a) rfl] at hn
  exact ⟨.ref a,rfl,IsX.of_lst (vs:=vs) (hid_some.mpr ⟨(List.nodup_cons.mp hn).1,(bb_ q).trans (by rw [h2]; rfl)⟩) (h3.imp fun _ _ z=>z.to (av_ hs))⟩
 | .od l,⟨a,vs,h1,h2,h3⟩ =>
  subst h1
  have q:F.H0 a=none:=hf a (List.mem_singleton.mpr rfl)
  rw [ah_ (a:=a) rfl] at hn
  exact ⟨.ref a,rfl,IsX.of_dic (vs:=vs) (.inl (hid_some.mpr ⟨(List.nodup_cons.mp hn).1,(bb_ q).trans (by rw [h2]; rfl)⟩)) (h3.imp fun _ _ z=>z.to (av_ hs))⟩
 | .ow o,⟨v,h1,h2⟩ =>
  refine ⟨v,h1,OwOk.tree (.of (av_ hs)) o v (fun b hb => ?_) h2⟩
  have q:F.H0 b=none:=hf b hb
  obtain ⟨u,hu,hn'⟩:=OwOk.there o v h2 b hb
  rw [ak_] at hn
  have hb2:b∉owns P:=fun z=>(List.nodup_append.mp hn).2.2 b hb b z rfl
  rw [hu]
  refine hid_some.mpr ⟨hb2,(bb_ q).trans ?_⟩
  rw [hu]
  unfold nf
  split
  ·rename_i e; cases e; exact absurd rfl (hn' _ _)
  ·rfl
theorem Rep.frz (R:Rep F ((.v s,x) :: P) H):Rep F ((.v (.tr s.d),x) :: P) H:=by
 obtain ⟨v,rfl,h⟩:=R.head
 exact R.tail.add h
theorem ij_ {O:List Addr} {Hs H0:Hp} (hp:H p=none) {o:HO} (hq:H0 p=none):Same (hid O (ext Hs H0 H)) (hid (p :: O) (ext Hs H0 (upd H p o))):=fun b u hb=>by
 have hb':=hid_some.mp hb
 have hbp:b≠p:=fun z=>by have:=nf_some ((bb_ hq).symm.trans (z ▸ hb'.2)); rw [hp] at this; cases this
 refine hid_some.mpr ⟨fun z=>(List.mem_cons.mp z).elim hbp hb'.1,?_⟩
 cases q:H0 b with
 | none=>exact (bb_ q).trans ((congrArg nf (ag_ hbp)).trans ((bb_ q).symm.trans hb'.2))
 | some w=>exact (az_ q).trans ((az_ q).symm.trans hb'.2)
theorem Rep.new_own (R:Rep F P H) (hp:H p=none) {o:HO} (hA:ownA (.v s,some (.ref p))=[p]) (h:RowOk (p :: owns P) (F.vis (upd H p o)) (upd H p o) (.v s,some (.ref p))):Rep F ((.v s,some (.ref p)) :: P) (upd H p o):=by
 have hno:=R.not_own hp
 have hq:=R.fresh hp
 refine ⟨by rw [ah_ hA]; exact List.nodup_cons.mpr ⟨hno,R.nd⟩,fun r hr => ?_,fun r hr a ha => ?_,fun b o h1 h2 => ?_,fun b hb => ?_⟩
 ·rw [ah_ hA]
  rcases List.mem_cons.mp hr with rfl | hr
  ·exact h
  ·exact (R.ok r hr).mono (.of (ij_ hp hq)) fun a ha=>ag_ fun z=>hno (z ▸ bu_ hr ha)
 ·rcases List.mem_cons.mp hr with rfl | hr
  ·cases eq1 hA ha; exact hq
  ·exact R.fr r hr a ha
 ·have:=R.kp b o h1 h2
  rw [ag_ fun z=>by rw [z,hp] at this; cases this]
  exact this
 ·obtain ⟨u,hu⟩:=R.lv b hb
  exact ⟨u,by rw [ag_ fun z=>by rw [z,hp] at hu; cases hu]; exact hu⟩
theorem Rep.newL (R:Rep F P H) (hp:H p=none) (h:All2 (IsX (hid (owns P) (F.vis H))) l vs):Rep F ((.v (.ol l),some (.ref p)) :: P) (upd H p (.lst vs)) :=
 R.new_own hp rfl ⟨p,vs,rfl,upd_same,h.imp fun _ _ z=>z.to (ij_ hp (R.fresh hp))⟩
theorem Rep.newD (R:Rep F P H) (hp:H p=none) (h:All2 (KvX (hid (owns P) (F.vis H))) k ws):Rep F ((.v (.od k),some (.ref p)) :: P) (upd H p (.dK ws)) :=
 R.new_own hp rfl ⟨p,ws,rfl,upd_same,h.imp fun _ _ z=>z.to (ij_ hp (R.fresh hp))⟩
theorem Rep.newT (R:Rep F P H) (hp:H p=none) (h:All2 (IsX (hid (owns P) (F.vis H))) l vs):Rep F ((.v (.tr (.tup l)),some (.ref p)) :: P) (upd H p (.tup vs)):=by
 have e:Same H (upd H p (.tup vs)):=same_new hp _
 exact (R.grow e).add (IsX.of_tup (vs:=vs) (hid_some.mpr ⟨R.not_own hp,(bb_ (R.fresh hp)).trans (by rw [upd_same]; rfl)⟩) (h.imp fun _ _ z=>z.to (hid_same (fm_ e))))
theorem hid_put {O:List Addr} {o:HO} {Hs H0:Hp}:Same (hid (a :: O) (ext Hs H0 H)) (hid (a :: O) (ext Hs H0 (upd H a o))):=fun b u hb=>by
 have hb':=hid_some.mp hb
 have hba:b≠a:=fun z=>hb'.1 (by rw [z]; exact List.mem_cons_self)
 refine hid_some.mpr ⟨hb'.1,?_⟩
 cases q:H0 b with
 | none=>exact (bb_ q).trans ((congrArg nf (ag_ hba)).trans ((bb_ q).symm.trans hb'.2))
 | some w=>exact (az_ q).trans ((az_ q).symm.trans hb'.2)
theorem Rep.put {o:HO} (R:Rep F (r :: P) H) (hA:ownA r=[a]) (hA':ownA r'=[a]) (hF:FrOk F r a→FrOk F r' a) (h:RowOk (a :: owns P) (F.vis (upd H a o)) (upd H a o) r'):Rep F (r' :: P) (upd H a o):=by
 have hn:=R.nd
 rw [ah_ hA] at hn
 have hna:=(List.nodup_cons.mp hn).1
 have R1:=R.ok
 rw [ah_ hA] at R1
 have hfr:=R.fr r List.mem_cons_self a (mem1 hA)
 refine ⟨by rw [ah_ hA']; exact hn,fun x hx => ?_,fun x hx b hb => ?_,fun b u h1 h2 => ?_,fun b hb => ?_⟩
 ·rw [ah_ hA']
  rcases List.mem_cons.mp hx with rfl | hx
  ·exact h
  ·exact (R1 x (List.mem_cons_of_mem _ hx)).mono (.of hid_put) fun b hb=>ag_ fun z=>hna (z ▸ bu_ hx hb)
 ·rcases List.mem_cons.mp hx with rfl | hx
  ·cases eq1 hA' hb; exact hF hfr
  ·exact R.fr x (List.mem_cons_of_mem _ hx) b hb
 ·have hb:=R.kp b u h1 h2
  by_cases z:b=a
  ·subst z
   rcases hfr.or with hfr | hfr
   ·exact absurd hfr h2
   ·rw [hfr] at h1; cases h1
  ·rw [ag_ z]; exact hb
 ·by_cases z:b=a
  ·subst z; exact ⟨o,upd_same⟩
  ·rw [ag_ z]; exact R.lv b hb
theorem Rep.putD (R:Rep F ((.v (.od k),some (.ref a)) :: P) H) (h:All2 (KvX (hid (a :: owns P) (F.vis H))) k' ws'):Rep F ((.v (.od k'),some (.ref a)) :: P) (upd H a (.dK ws')) :=
 R.put (a:=a) rfl rfl id ⟨a,ws',rfl,upd_same,h.imp fun _ _ z=>z.to hid_put⟩
theorem Rep.atL (R:Rep F ((.v (.ol l),x) :: P) H):∃ a vs,x=some (.ref a)∧H a=some (.lst vs)∧All2 (IsX (hid (a :: owns P) (F.vis H))) l vs:=by
 obtain ⟨a,vs,h1,h2,h3⟩:=R.ok _ List.mem_cons_self
 subst h1
 exact ⟨a,vs,rfl,h2,by rw [← ah_ (a:=a) (r:=(.v (.ol l),some (.ref a))) rfl]; exact h3⟩
theorem Rep.atB (R:Rep F ((.bw l,x) :: P) H):∃ a vs,x=some (.ref a)∧H a=some (.lst vs)∧All2 (IsX (hid (a :: owns P) (F.vis H))) l vs:=by
 obtain ⟨a,vs,h1,h2,h3⟩:=R.ok _ List.mem_cons_self
 subst h1
 exact ⟨a,vs,rfl,h2,by rw [← ah_ (a:=a) (r:=(.bw l,some (.ref a))) rfl]; exact h3⟩
theorem Rep.atD (R:Rep F ((.v (.od k),x) :: P) H):∃ a ws,x=some (.ref a)∧H a=some (.dK ws)∧All2 (KvX (hid (a :: owns P) (F.vis H))) k ws:=by
 obtain ⟨a,vs,h1,h2,h3⟩:=R.ok _ List.mem_cons_self
 subst h1
 exact ⟨a,vs,rfl,h2,by rw [← ah_ (a:=a) (r:=(.v (.od k),some (.ref a))) rfl]; exact h3⟩
theorem Rep.atT (R:Rep F ((.v (.tr d),x) :: P) H):∃ v,x=some v∧IsX (hid (owns P) (F.vis H)) d v:=R.head
end
section
variable {ρ:List Sl} {σ:St} {i:Nat} {s s':Sl} {v v':Option V}
theorem zip_at (h1:ρ[i]? = some s) (h2:σ[i]? = some v):(ρ.zip σ)[i]? = some (s,v):=(List.getElem?_zip_eq_some (z:=(s,v))).mpr ⟨h1,h2⟩
theorem pullN {α:Type}:∀ (l:List α) (i:Nat) (h:i < l.length),l.Perm (l[i] :: l.eraseIdx i)
 | x :: l,0,_=>.refl _
 | x :: l,i + 1,h=>((pullN l i (by simpa using h)).cons x).trans (.swap _ _ _)
theorem pull {α:Type} {l:List α} {x:α} {i:Nat} (h:l[i]? = some x):l.Perm (x :: l.eraseIdx i):=by
 obtain ⟨hi,e⟩:=List.getElem?_eq_some_iff.mp h
 subst e
 exact pullN l i hi
theorem cd_ (h1:ρ[i]? = some s) (h2:σ[i]? = some v):(ρ.zip σ).Perm ((s,v) :: (ρ.zip σ).eraseIdx i):=pull (zip_at h1 h2)
theorem zip_set:∀ {ρ:List Sl} {σ:St} (i:Nat),(ρ.set i s).zip (σ.set i v)=(ρ.zip σ).set i (s,v)
 | [],_,_=>by simp
 | _ :: _,[],_=>by simp
 | a :: ρ,b :: σ,0=>rfl
 | a :: ρ,b :: σ,i + 1=>by simp only [List.set_cons_succ,List.zip_cons_cons]; rw [zip_set i]
theorem zip_put (hl:ρ.length=σ.length) (h:i < ρ.length):((ρ.set i s).zip (σ.set i v)).Perm ((s,v) :: (ρ.zip σ).eraseIdx i):=by
 rw [zip_set]
 have hi:i < (ρ.zip σ).length:=by rw [List.length_zip]; omega
 have:=pull (l:=(ρ.zip σ).set i (s,v)) (x:=(s,v)) (i:=i) (by rw [List.getElem?_set_self hi])
 rwa [List.eraseIdx_set_eq] at this
theorem set_same (h:σ[i]? = some v):σ.set i v=σ:=by
 obtain ⟨hi,e⟩:=List.getElem?_eq_some_iff.mp h
 subst e
 exact List.set_getElem_self hi
theorem bw_ (hl:ρ.length=σ.length) (h:i < ρ.length) (h2:σ[i]? = some v):((ρ.set i s).zip σ).Perm ((s,v) :: (ρ.zip σ).eraseIdx i):=by
 have:=zip_put (s:=s) (v:=v) hl h
 rwa [set_same h2] at this
end
end Lf
namespace L2
open PySem
theorem PE.weak {X:Cx} {e:Expr} {t u:TE} (h:PE X e t) (w:∀ σ H Q,u σ H Q→t σ H Q):PE X e u:=fun pins s σ H Q I q=>h pins s σ H Q I (w σ H Q q)
theorem PT.weak {X:Cx} {e:Expr} {t u:TT} (h:PT X e t) (w:∀ σ H Q,u σ H Q→t σ H Q):PT X e u:=fun pins s σ H Q I q=>h pins s σ H Q I (w σ H Q q)
theorem PW.weak {X:Cx} {e:Expr} {t u:TT} (h:PW X e t) (w:∀ σ H Q,u σ H Q→t σ H Q):PW X e u:=fun wh pins s σ H Q I q=>h wh pins s σ H Q I (w σ H Q q)
theorem PA.weak {X:Cx} {e:List Expr} {t u:TA} (h:PA X e t) (w:∀ σ H Q,u σ H Q→t σ H Q):PA X e u:=fun pos pins s σ H Q I q=>h pos pins s σ H Q I (w σ H Q q)
theorem PE.or {X:Cx} {e:Expr} {t u:TE} (h:PE X e t) (h':PE X e u):PE X e (fun σ H Q=>t σ H Q∨u σ H Q):=fun pins s σ H Q I q=>q.elim (h pins s σ H Q I) (h' pins s σ H Q I)
end L2
namespace Lf
open PySem L2
abbrev En:=List Sl
abbrev XT:=En→(Sv→En→Prop)→Prop
abbrev XC:=En→(Bool→En→Prop)→Prop
abbrev XA:=En→(List Sv→En→Prop)→Prop
structure EOk (F:Fm) (ρ:En) (σ:St) (fr:List Rw) (H:Hp):Prop where
 len:ρ.length=σ.length
 rep:Rep F (ρ.zip σ ++ fr) H
def tX (F:Fm) (t:XT):TE:=fun σ H Q => ∃ ρ fr Qx,EOk F ρ σ fr H∧t ρ Qx∧∀ v s H' ρ',EOk F ρ' σ ((.v s,some v) :: fr) H'→Qx s ρ'→Q v H'
def tXc (F:Fm) (t:XC):TT:=fun σ H Q => ∃ ρ fr Qx,EOk F ρ σ fr H∧t ρ Qx∧∀ b H' ρ',EOk F ρ' σ fr H'→Qx b ρ'→Q b H'
def tmps (ss:List Sv) (vs:List V):List Rw:=(ss.zip vs).map fun p=>(.v p.1,some p.2)
def tXa (F:Fm) (t:XA):TA:=fun σ H Q => ∃ ρ fr Qx,EOk F ρ σ fr H∧t ρ Qx∧∀ vs ss H' ρ',ss.length=vs.length→EOk F ρ' σ (tmps ss vs ++ fr) H'→Qx ss ρ'→Q vs H'
abbrev ExT:=Value→Prop
abbrev noEx:ExT:=fun _=>False
def Kept (F:Fm) (H:Hp):Prop := ∀ b o,F.H0 b=some o→b∉F.B→H b=some o
def Air (nw:Addr→Prop) (h':Heap) (H:Hp) (ea:Addr) (cls:Value):Prop:=nw ea∧H ea=none∧∃ oe vs,h'.get? ea=some oe∧oe.cls=cls∧oe.data=.fields vs∧oe.dict=none∧1 < vs.size ∧
 (vs[1]? = some .none∨∃ T oT ts,vs[1]? = some (.ref T)∧T≠ea∧nw T∧H T=none∧h'.get? T=some oT∧oT.data=.fields ts∧3 < ts.size)
abbrev NwX (X:Cx) (pins:PN_):Addr→Prop:=fun b=>(X.s₀.heap.get? b=none∨b∈X.ex)∧∀ p∈X.pn ++ pins,p.1≠b
class OkF (X:Cx) (Ex:ExT) (F:Fm):Prop where
 pass1:∀ (pins:PN_) (σ:St) (H:Hp) (s':Shared) (ea:Addr) (cls:Value),Inv X pins σ H s'→Air (NwX X pins) s'.heap H ea cls→Ex cls→Kept F H→X.xe (.ref ea) s'
instance {X:Cx} {F:Fm}:OkF X noEx F:=⟨fun _ _ _ _ _ _ _ _ h _=>h.elim⟩
def XE (X:Cx) (Ex:ExT) (e:Expr) (t:XT):Prop := ∀ F,[OkF X Ex F]→PE X e (tX F t)
def XTe (X:Cx) (Ex:ExT) (e:Expr) (t:XC):Prop := ∀ F,[OkF X Ex F]→PT X e (tXc F t)
def XW (X:Cx) (Ex:ExT) (e:Expr) (t:XC):Prop := ∀ F,[OkF X Ex F]→PW X e (tXc F t)
def XAs (X:Cx) (Ex:ExT) (es:List Expr) (t:XA):Prop := ∀ F,[OkF X Ex F]→PA X es (tXa F t)
section
variable {F:Fm} {ρ ρ':En} {σ:St} {fr P:List Rw} {H H':Hp} {s:Sv} {v x y:V} {a b:Dx}
theorem mid {α:Type} {x:α} {A B:List α}:(A ++ x :: B).Perm (x :: (A ++ B)):=List.perm_middle
theorem EOk.front {r:Rw} (E:EOk F ρ σ (r :: fr) H):Rep F (r :: (ρ.zip σ ++ fr)) H:=E.rep.perm mid
theorem EOk.back {r:Rw} (hl:ρ.length=σ.length) (R:Rep F (r :: (ρ.zip σ ++ fr)) H):EOk F ρ σ (r :: fr) H:=⟨hl,R.perm mid.symm⟩
theorem EOk.drop {r:Rw} (E:EOk F ρ σ (r :: fr) H):EOk F ρ σ fr H:=⟨E.len,E.front.tail⟩
theorem EOk.one (E:EOk F ρ σ ((.v s,some v) :: fr) H):Rep F (ρ.zip σ ++ fr) H∧IsX (hid (owns (ρ.zip σ ++ fr)) (F.vis H)) s.d v:=by
 obtain ⟨v',e,h⟩:=E.front.head
 cases e
 exact ⟨E.front.tail,h⟩
theorem EOk.two {s1 s2:Sv} {v1 v2:V} (E:EOk F ρ σ ((.v s2,some v2) :: (.v s1,some v1) :: fr) H) :
  Rep F (ρ.zip σ ++ fr) H∧IsX (hid (owns (ρ.zip σ ++ fr)) (F.vis H)) s1.d v1∧IsX (hid (owns (ρ.zip σ ++ fr)) (F.vis H)) s2.d v2:=by
 obtain ⟨R1,h1⟩:=E.drop.one
 obtain ⟨R2,h2⟩:=E.one
 refine ⟨R1,h1,h2.to (av_ fun c hc => ?_)⟩
 have:(owns ((.v s1,some v1) :: (ρ.zip σ ++ fr))).Perm (owns (ρ.zip σ ++ (.v s1,some v1) :: fr)):=mid.symm.flatMap_right _
 refine this.mem_iff.mp ?_
 rw [ak_]
 exact List.mem_append_right _ hc
end
def xVar (i:Nat):XT:=fun ρ Q=>match ρ[i]? with
 | some (.v s)=>Q (.tr s.d) (ρ.set i (.v (.tr s.d)))
 | _=>False
def xMove (i:Nat):XT:=fun ρ Q=>match ρ[i]? with
 | some (.v s)=>Q s (ρ.set i .un)
 | _=>False
theorem get_zip {ρ:En} {σ:St} {i:Nat} {s:Sl} (hl:ρ.length=σ.length) (h:ρ[i]? = some s):∃ v,σ[i]? = some v:=by
 have:=(List.getElem?_eq_some_iff.mp h).1
 exact ⟨_,List.getElem?_eq_getElem (by omega)⟩
section
variable {X:Cx} {Ex:ExT} {i:Nat} {x:Str} {pos:Pos}
theorem be_ {F:Fm} {ρ:En} {σ:St} {fr:List Rw} {H:Hp} {s:Sl} (E:EOk F ρ σ fr H) (h:ρ[i]? = some s):∃ v,σ[i]? = some v∧i < ρ.length∧Rep F ((s,v) :: ((ρ.zip σ).eraseIdx i ++ fr)) H:=by
 obtain ⟨v,hv⟩:=get_zip E.len h
 exact ⟨v,hv,(List.getElem?_eq_some_iff.mp h).1,E.rep.perm ((cd_ h hv).append_right fr)⟩
theorem eok_put {F:Fm} {ρ:En} {σ:St} {fr:List Rw} {H:Hp} {s:Sl} {v:Option V} (hl:ρ.length=σ.length) (hi:i < ρ.length) (hv:σ[i]? = some v) (R:Rep F ((s,v) :: ((ρ.zip σ).eraseIdx i ++ fr)) H):EOk F (ρ.set i s) σ fr H :=
 ⟨by rw [List.length_set]; exact hl,R.perm ((bw_ hl hi hv).append_right fr).symm⟩
theorem ab_ (h:PE X (.Name x pos) (tVar i)):XE X Ex (.Name x pos) (xVar i):=fun F=>h.weak fun σ H Q=>by
 rintro ⟨ρ,fr,Qx,E,t,k⟩
 unfold xVar at t
 split at t
 ·rename_i s hs
  obtain ⟨v,hv,hi,R⟩:=be_ E hs
  obtain ⟨w,rfl,hx⟩:=R.head
  refine ⟨w,hv,k w _ H _ ?_ t⟩
  have R2:=R.frz
  have R3:Rep F ((.v (.tr s.d),some w) :: (.v (.tr s.d),some w) :: ((ρ.zip σ).eraseIdx i ++ fr)) H:=R2.add hx
  exact EOk.back (by rw [List.length_set]; exact E.len) (R3.perm (((bw_ E.len hi hv).append_right fr).symm.cons _))
 ·exact t.elim
theorem cp_ (h:PE X (.Name x pos) (tVar i)):XE X Ex (.Name x pos) (xMove i):=fun F=>h.weak fun σ H Q=>by
 rintro ⟨ρ,fr,Qx,E,t,k⟩
 unfold xMove at t
 split at t
 ·rename_i s hs
  obtain ⟨v,hv,hi,R⟩:=be_ E hs
  obtain ⟨w,rfl,hx⟩:=R.head
  refine ⟨w,hv,k w _ H _ ?_ t⟩
  have R3:Rep F ((.v s,some w) :: (.un,some w) :: ((ρ.zip σ).eraseIdx i ++ fr)) H:=(R.addU (x:=some w)).perm (.swap _ _ _)
  exact EOk.back (by rw [List.length_set]; exact E.len) (R3.perm (((bw_ E.len hi hv).append_right fr).symm.cons _))
 ·exact t.elim
end
def xC (d:Dx):XT:=fun ρ Q=>Q (.tr d) ρ
theorem xe_c {X:Cx} {Ex:ExT} {e:Expr} {v:V} (h:PE X e (tC v)) (d:Dx) (hd:∀ H,IsX H d v):XE X Ex e (xC d):=fun F=>h.weak fun σ H Q=>by
 rintro ⟨ρ,fr,Qx,E,t,k⟩
 exact k v _ H ρ (EOk.back E.len (E.rep.add (hd _))) t
section
variable {X:Cx} {Ex:ExT}
theorem ae_ {i j pos}:XE X Ex (.Constant (.int i) j pos) (xC (.int i)):=xe_c pe_int _ fun _=>IsX.of_int _
theorem fq_ {b j pos}:XE X Ex (.Constant (.bool b) j pos) (xC (.bl b)):=xe_c pe_bl _ fun _=>IsX.of_bl _
theorem ay_ {x j pos}:XE X Ex (.Constant (.str x) j pos) (xC (.str x)):=xe_c pe_str _ fun _=>IsX.of_str _
end
abbrev G2:=Dx→Dx→(Sv→Prop)→Prop
def OpX (r:R2) (g:G2):Prop := ∀ (F:Fm) (P:List Rw) (H:Hp) (a b:Dx) (x y:V) (Q:VK) (Qx:Sv→Prop),Rep F P H→IsX (hid (owns P) (F.vis H)) a x→IsX (hid (owns P) (F.vis H)) b y→g a b Qx →
 (∀ v s H',Rep F ((.v s,some v) :: P) H'→Qx s→Q v H')→r x y H Q
def xOp (g:G2) (ta tb:XT):XT:=fun ρ Q=>ta ρ fun a ρ1=>tb ρ1 fun b ρ2=>g a.d b.d fun s=>Q s ρ2
theorem tOp_x {F:Fm} {r:R2} {g:G2} {ta tb:XT} (hx:OpX r g):∀ σ H Q,tX F (xOp g ta tb) σ H Q→tOp r (tX F ta) (tX F tb) σ H Q:=by
 rintro σ H Q ⟨ρ,fr,Qx,E,t,k⟩
 refine ⟨ρ,fr,_,E,t,fun v s H' ρ' E' t' => ?_⟩
 refine ⟨ρ',_,_,E',t',fun w s2 H2 ρ2 E2 t2 => ?_⟩
 obtain ⟨R,h1,h2⟩:=E2.two
 exact hx F _ H2 s.d s2.d v w Q (fun z=>Qx z ρ2) R h1 h2 t2 fun v' s' H' R' q=>k v' s' H' ρ2 (EOk.back E2.len R') q
def xB (t:XT):XC:=fun ρ Q=>t ρ fun s ρ'=>match s with
 | .tr (.bl b)=>Q b ρ'
 | _=>False
theorem hq_ {F:Fm} {t:TE} {u:XT} (h:∀ σ H Q,tX F u σ H Q→t σ H Q):∀ σ H Q,tXc F (xB u) σ H Q→tTest t σ H Q:=by
 rintro σ H Q ⟨ρ,fr,Qx,E,t,k⟩
 refine h _ _ _ ⟨ρ,fr,_,E,t,fun v s H' ρ' E' q => ?_⟩
 split at q
 ·rename_i b
  obtain ⟨_,hx⟩:=E'.one
  cases hx.bl_eq
  exact ⟨b,rfl,k b H' ρ' E'.drop q⟩
 ·exact q.elim
section
variable {X:Cx} {Ex:ExT} {a b c e:Expr} {pos:Pos} {r r':R2} {g g':G2} {ta tb tc:XT}
theorem xe_op {op:Operator} (ho:OpR X (binaryOp op) r) (hx:OpX r g) (ha:XE X Ex a ta) (hb:XE X Ex b tb):XE X Ex (.BinOp a op b pos) (xOp g ta tb):=fun F=>(pe_op ho (ha F) (hb F)).weak (tOp_x hx)
theorem fr_ {op:CmpOp} (ho:OpR X (compareOp op) r) (hx:OpX r g) (ha:XE X Ex a ta) (hb:XE X Ex b tb) (hm:behindInMarks op b=false):XE X Ex (.Compare a [op] [b] pos) (xOp g ta tb):=fun F=>(pe_cmpR ho (ha F) (hb F) hm).weak (tOp_x hx)
theorem ax_ {op:CmpOp} (ho:OpR X (compareOp op) r) (hx:OpX r g) (ha:XE X Ex a ta) (hb:XE X Ex b tb) (hm:behindInMarks op b=false):XTe X Ex (.Compare a [op] [b] pos) (xB (xOp g ta tb)):=fun F=>(pt_cmpR ho (ha F) (hb F) hm).weak (hq_ (tOp_x hx))
theorem bp_ {t:XT} (h:XE X Ex e t) (he:∀ whole,isTrue e X.env whole=(do let v ← whole; standAt e.pos; holding [v] (truthy v)):=by intro _; rfl):XTe X Ex e (xB t):=fun F=>(pt_val (h F) he).weak (hq_ fun _ _ _ z=>z)
def xAnd (t u:XC):XC:=fun ρ Q=>t ρ fun c ρ1=>if c=true then u ρ1 Q else Q false ρ1
def xOr (t u:XC):XC:=fun ρ Q=>t ρ fun c ρ1=>if c=true then Q true ρ1 else u ρ1 Q
def xNot (t:XC):XC:=fun ρ Q=>t ρ fun c ρ1=>Q (!c) ρ1
theorem xw_and1 {t:XC} (h:XTe X Ex a t):XW X Ex (.BoolOp .And [a] pos) t:=fun F=>pw_and1 (h F)
theorem dv_ {t:XC} (h:XTe X Ex a t):XW X Ex (.BoolOp .Or [a] pos) t:=fun F=>pw_or1 (h F)
theorem xw_and {t u:XC} {rest:List Expr} (h:XTe X Ex a t) (h':XW X Ex (.BoolOp .And (b :: rest) pos) u):XW X Ex (.BoolOp .And (a :: b :: rest) pos) (xAnd t u):=fun F=>(pw_and (h F) (h' F)).weak fun σ H Q=>by
 rintro ⟨ρ,fr,Qx,E,t,k⟩
 refine ⟨ρ,fr,_,E,t,fun c H' ρ' E' q => ?_⟩
 cases c with
 | true=>exact ⟨ρ',fr,Qx,E',q,k⟩
 | false=>exact k false H' ρ' E' q
theorem fp_ {t u:XC} {rest:List Expr} (h:XTe X Ex a t) (h':XW X Ex (.BoolOp .Or (b :: rest) pos) u):XW X Ex (.BoolOp .Or (a :: b :: rest) pos) (xOr t u):=fun F=>(pw_or (h F) (h' F)).weak fun σ H Q=>by
 rintro ⟨ρ,fr,Qx,E,t,k⟩
 refine ⟨ρ,fr,_,E,t,fun c H' ρ' E' q => ?_⟩
 cases c with
 | true=>exact k true H' ρ' E' q
 | false=>exact ⟨ρ',fr,Qx,E',q,k⟩
theorem cl_ {t:XC} (h:XTe X Ex a t):XTe X Ex (.UnaryOp .Not a pos) (xNot t):=fun F=>(pt_not (h F)).weak fun σ H Q=>by
 rintro ⟨ρ,fr,Qx,E,t,k⟩
 exact ⟨ρ,fr,_,E,t,fun c H' ρ' E' q=>k (!c) H' ρ' E' q⟩
theorem XW.pt {t:XC} (h:XW X Ex e t):XTe X Ex e t:=fun F=>(h F).pt
def xAndV (t u:XT):XT:=fun ρ Q=>xB t ρ fun c ρ1=>if c=true then u ρ1 Q else Q (.tr (.bl false)) ρ1
def xOrV (t u:XT):XT:=fun ρ Q=>xB t ρ fun c ρ1=>if c=true then Q (.tr (.bl true)) ρ1 else u ρ1 Q
def xNotV (t:XT):XT:=fun ρ Q=>xB t ρ fun c ρ1=>Q (.tr (.bl (!c))) ρ1
theorem xe_one {op} {t:XT} (h:XE X Ex a t):XE X Ex (.BoolOp op [a] pos) t:=fun F=>pe_one (h F)
theorem hp_ {t u:XT} {rest:List Expr} (h:XE X Ex a t) (h':XE X Ex (.BoolOp .And (b :: rest) pos) u):XE X Ex (.BoolOp .And (a :: b :: rest) pos) (xAndV t u):=fun F=>(pe_and (h F) (h' F)).weak fun σ H Q=>by
 rintro ⟨ρ,fr,Qx,E,t,k⟩
 refine ⟨ρ,fr,_,E,t,fun v s H' ρ' E' q => ?_⟩
 split at q
 ·rename_i c
  obtain ⟨_,hx⟩:=E'.one
  cases hx.bl_eq
  refine ⟨c,rfl,?_⟩
  cases c with
  | true=>exact ⟨ρ',fr,Qx,E'.drop,q,k⟩
  | false=>exact k _ _ H' ρ' (EOk.back E'.len (E'.drop.rep.add (IsX.of_bl _))) q
 ·exact q.elim
theorem xe_or {t u:XT} {rest:List Expr} (h:XE X Ex a t) (h':XE X Ex (.BoolOp .Or (b :: rest) pos) u):XE X Ex (.BoolOp .Or (a :: b :: rest) pos) (xOrV t u):=fun F=>(pe_or (h F) (h' F)).weak fun σ H Q=>by
 rintro ⟨ρ,fr,Qx,E,t,k⟩
 refine ⟨ρ,fr,_,E,t,fun v s H' ρ' E' q => ?_⟩
 split at q
 ·rename_i c
  obtain ⟨_,hx⟩:=E'.one
  cases hx.bl_eq
  refine ⟨c,rfl,?_⟩
  cases c with
  | false=>exact ⟨ρ',fr,Qx,E'.drop,q,k⟩
  | true=>exact k _ _ H' ρ' (EOk.back E'.len (E'.drop.rep.add (IsX.of_bl _))) q
 ·exact q.elim
theorem xe_not {t:XT} (h:XE X Ex a t):XE X Ex (.UnaryOp .Not a pos) (xNotV t):=fun F=>(pe_not (h F)).weak fun σ H Q=>by
 rintro ⟨ρ,fr,Qx,E,t,k⟩
 refine ⟨ρ,fr,_,E,t,fun v s H' ρ' E' q => ?_⟩
 split at q
 ·rename_i c
  obtain ⟨_,hx⟩:=E'.one
  cases hx.bl_eq
  exact ⟨c,rfl,k _ _ H' ρ' (EOk.back E'.len (E'.drop.rep.add (IsX.of_bl _))) q⟩
 ·exact q.elim
def xIfE (c:XC) (t u:XT):XT:=fun ρ Q=>c ρ fun b ρ1=>if b=true then t ρ1 Q else u ρ1 Q
theorem xe_ifExp {tc:XC} {t u:XT} (hc:XTe X Ex c tc) (ha:XE X Ex a t) (hb:XE X Ex b u):XE X Ex (.IfExp c a b pos) (xIfE tc t u):=fun F=>(pe_ifExp (hc F) (ha F) (hb F)).weak fun σ H Q=>by
 rintro ⟨ρ,fr,Qx,E,t,k⟩
 refine ⟨ρ,fr,_,E,t,fun d H' ρ' E' q => ?_⟩
 cases d with
 | true=>exact ⟨ρ',fr,Qx,E',q,k⟩
 | false=>exact ⟨ρ',fr,Qx,E',q,k⟩
end
def xNil:XA:=fun ρ Q=>Q [] ρ
def xCons (t:XT) (u:XA):XA:=fun ρ Q=>t ρ fun s ρ1=>u ρ1 fun ss ρ2=>Q (s :: ss) ρ2
section
variable {X:Cx} {Ex:ExT} {e:Expr} {es:List Expr} {t:XT} {u:XA} {pos:Pos}
theorem ad_:XAs X Ex [] xNil:=fun F=>(bi_ (X:=X)).weak fun σ H Q=>by
 rintro ⟨ρ,fr,Qx,E,t,k⟩
 exact k [] [] H ρ rfl E t
theorem aa_ (h:XE X Ex e t) (h':XAs X Ex es u) (he:starEach (e :: es) X.env=(false,eval e X.env) :: starEach es X.env:=by rfl):XAs X Ex (e :: es) (xCons t u):=fun F=>(ar_ (h F) (h' F) he).weak fun σ H Q=>by
 rintro ⟨ρ,fr,Qx,E,t,k⟩
 refine ⟨ρ,fr,_,E,t,fun v s H' ρ' E' q=>⟨ρ',_,_,E',q,fun vs ss H2 ρ2 hl E2 q2 => ?_⟩⟩
 refine k (v :: vs) (s :: ss) H2 ρ2 (by rw [List.length_cons,List.length_cons,hl]) ⟨E2.len,E2.rep.perm ?_⟩ q2
 exact List.Perm.append_left _ List.perm_middle
theorem EOk.many {F:Fm} {ρ:En} {σ:St} {fr:List Rw} {H:Hp}:∀ {ss:List Sv} {vs:List V},ss.length=vs.length→EOk F ρ σ (tmps ss vs ++ fr) H→Rep F (ρ.zip σ ++ fr) H∧All2 (IsX (hid (owns (ρ.zip σ ++ fr)) (F.vis H))) (ss.map Sv.d) vs
 | [],[],_,E=>⟨E.rep,rfl⟩
 | [],_ :: _,h,_=>by simp at h
 | _ :: _,[],h,_=>by simp at h
 | s :: ss,v :: vs,h,E=>by
  have E':EOk F ρ σ ((.v s,some v) :: (tmps ss vs ++ fr)) H:=E
  obtain ⟨R,hs⟩:=EOk.many (ss:=ss) (vs:=vs) (by simpa using h) E'.drop
  obtain ⟨_,hx⟩:=E'.one
  refine ⟨R,v,vs,rfl,hx.to (av_ fun c hc => ?_),hs⟩
  have:owns (ρ.zip σ ++ (tmps ss vs ++ fr))=owns (ρ.zip σ) ++ (owns (tmps ss vs) ++ owns fr):=by unfold owns; rw [List.flatMap_append,List.flatMap_append]
  rw [this]
  have h2:owns (ρ.zip σ ++ fr)=owns (ρ.zip σ) ++ owns fr:=by unfold owns; rw [List.flatMap_append]
  rw [h2] at hc
  rcases List.mem_append.mp hc with hc | hc
  ·exact List.mem_append_left _ hc
  ·exact List.mem_append_right _ (List.mem_append_right _ hc)
def xTup (u:XA):XT:=fun ρ Q=>u ρ fun ss ρ'=>ss.length≤1000000∧Q (.tr (.tup (ss.map Sv.d))) ρ'
def xLst (u:XA):XT:=fun ρ Q=>u ρ fun ss ρ'=>ss.length≤1000000∧Q (.ol (ss.map Sv.d)) ρ'
theorem line1:(1000000:Nat) < sizeLine:=by rw [sizeLine_eq]; decide
theorem dw_ {j:Nat} (h:XAs X Ex es u):XE X Ex (.Tuple es j pos) (xTup u):=fun F=>(pe_tup (h F)).weak fun σ H Q=>by
 rintro ⟨ρ,fr,Qx,E,t,k⟩
 refine ⟨ρ,fr,_,E,t,fun vs ss H2 ρ2 hl E2 q2=>⟨by have:=line1; omega,fun p hp => ?_⟩⟩
 obtain ⟨R,hs⟩:=E2.many hl
 exact k _ _ _ ρ2 (EOk.back E2.len (R.newT hp hs)) q2.2
theorem dj_ (h:XAs X Ex es u):XE X Ex (.List es pos) (xLst u):=fun F=>(hw_ (h F)).weak fun σ H Q=>by
 rintro ⟨ρ,fr,Qx,E,t,k⟩
 refine ⟨ρ,fr,_,E,t,fun vs ss H2 ρ2 hl E2 q2=>⟨by have:=line1; omega,fun p hp => ?_⟩⟩
 obtain ⟨R,hs⟩:=E2.many hl
 exact k _ _ _ ρ2 (EOk.back E2.len (R.newL hp hs)) q2.2
end
def gI (f:Int→Int→Dx):G2
 | .int i,.int j,Q=>Q (.tr (f i j))
 | _,_,_=>False
def gIC (C:Int→Int→Prop) (f:Int→Int→Dx):G2
 | .int i,.int j,Q=>C i j∧Q (.tr (f i j))
 | _,_,_=>False
theorem opx_i {f:Int→Int→V} {fd:Int→Int→Dx} (h:∀ H i j,IsX H (fd i j) (f i j)):OpX (rI0 f) (gI fd):=by
 intro F P H a b x y Q Qx R ha hb g k
 unfold gI at g
 split at g
 ·cases ha.int_eq; cases hb.int_eq
  exact ⟨_,_,rfl,rfl,k _ _ H (R.add (h _ _ _)) g⟩
 ·exact g.elim
theorem opx_ic {C:Int→Int→Prop} {f:Int→Int→V} {fd:Int→Int→Dx} (h:∀ H i j,IsX H (fd i j) (f i j)):OpX (rI C f) (gIC C fd):=by
 intro F P H a b x y Q Qx R ha hb g k
 unfold gIC at g
 split at g
 ·cases ha.int_eq; cases hb.int_eq
  exact ⟨_,_,rfl,rfl,g.1,k _ _ H (R.add (h _ _ _)) g.2⟩
 ·exact g.elim
abbrev subX:G2:=gI fun i j=>.int (i - j)
abbrev fdivX:G2:=gIC CDivB fun i j=>.int (i / j)
abbrev modX:G2:=gIC (fun _ j=>0 < j) fun i j=>.int (i % j)
abbrev powX:G2:=gIC CPow fun i j=>.int (i ^ j.toNat)
abbrev ltX:G2:=gI fun i j=>.bl (decide (i < j))
abbrev leX:G2:=gI fun i j=>.bl (decide (i≤j))
abbrev gtX:G2:=gI fun i j=>.bl (decide (j < i))
abbrev geX:G2:=gI fun i j=>.bl (decide (j≤i))
theorem oi {f:Int→Int→Int}:∀ H i j,IsX H (.int (f i j)) (.int (f i j)):=fun _ _ _=>IsX.of_int _
theorem ob {f:Int→Int→Bool}:∀ H i j,IsX H (.bl (f i j)) (.bl (f i j)):=fun _ _ _=>IsX.of_bl _
def addX:G2
 | .int i,.int j,Q=>Q (.tr (.int (i + j)))
 | .str i,.str j,Q=>i.length + j.length≤1000000∧Q (.tr (.str (i ++ j)))
 | .lst l,.lst m,Q=>l.length + m.length≤1000000∧Q (.ol (l ++ m))
 | _,_,_=>False
def mulX:G2
 | .int i,.int j,Q=>CMulB i j∧Q (.tr (.int (i * j)))
 | .lst l,.int j,Q=>(j≤1000000 ∧ -1000000≤j∧l.length * j.toNat≤1000000)∧Q (.ol (List.replicate j.toNat l).flatten)
 | .str z,.int j,Q=>(z.length≤1000∧0≤j∧j≤1000)∧Q (.tr (.str (Txt.mul z j)))
 | _,_,_=>False
section
variable {X:Cx} {Ex:ExT} {a b e:Expr} {pos:Pos} {ta tb:XT}
theorem bj_ (ha:XE X Ex a ta) (hb:XE X Ex b tb):XE X Ex (.BinOp a .Add b pos) (xOp addX ta tb):=xe_op (op_add.or (op_add_str.or op_cat)) (by
 intro F P H a b x y Q Qx R ha hb g k
 unfold addX at g
 split at g
 ·cases ha.int_eq; cases hb.int_eq
  exact .inl ⟨_,_,rfl,rfl,k _ _ H (R.add (IsX.of_int _)) g⟩
 ·cases ha.str_eq; cases hb.str_eq
  exact .inr (.inl ⟨_,_,rfl,rfl,by have:=line1; omega,k _ _ H (R.add (IsX.of_str _)) g.2⟩)
 ·obtain ⟨p,vs,rfl,h1,h2⟩:=ha.lst_eq
  obtain ⟨q,ws,rfl,h3,h4⟩:=hb.lst_eq
  refine .inr (.inr ⟨p,q,vs,ws,rfl,rfl,R.hv _ _ h1,R.hv _ _ h3,by rw [h2.len,h4.len]; have:=line1; omega,fun l hl=>k _ _ _ (R.newL hl (All2.app h4 h2)) g.2⟩)
 ·exact g.elim) ha hb
theorem all2_flat {α β:Type} {g:α→β→Prop} {l:List α} {m:List β} (h:All2 g l m):∀ n,All2 g (List.replicate n l).flatten (List.replicate n m).flatten
 | 0=>rfl
 | n + 1=>by rw [List.replicate_succ,List.replicate_succ,List.flatten_cons,List.flatten_cons]; exact All2.app (all2_flat h n) h
theorem eu_ (ha:XE X Ex a ta) (hb:XE X Ex b tb):XE X Ex (.BinOp a .Mult b pos) (xOp mulX ta tb):=xe_op (op_mulB.or (op_rep.or op_mul_str)) (by
 intro F P H a b x y Q Qx R ha hb g k
 unfold mulX at g
 split at g
 ·cases ha.int_eq; cases hb.int_eq
  exact .inl ⟨_,_,rfl,rfl,g.1,k _ _ H (R.add (IsX.of_int _)) g.2⟩
 ·obtain ⟨p,vs,rfl,h1,h2⟩:=ha.lst_eq
  cases hb.int_eq
  obtain ⟨⟨g1,g2,g3⟩,g4⟩:=g
  refine .inr (.inl ⟨p,_,vs,rfl,rfl,R.hv _ _ h1,by omega,by omega,by rw [h2.len]; have:=line1; omega,fun l hl=>k _ _ _ (R.newL hl (all2_flat h2 _)) g4⟩)
 ·cases ha.str_eq; cases hb.int_eq
  exact .inr (.inr ⟨_,_,rfl,rfl,g.1.1,g.1.2.1,g.1.2.2,k _ _ H (R.add (IsX.of_str _)) g.2⟩)
 ·exact g.elim) ha hb
theorem xe_sub (ha:XE X Ex a ta) (hb:XE X Ex b tb):XE X Ex (.BinOp a .Sub b pos) (xOp subX ta tb):=xe_op op_sub (opx_i oi) ha hb
theorem xe_fdiv (ha:XE X Ex a ta) (hb:XE X Ex b tb):XE X Ex (.BinOp a .FloorDiv b pos) (xOp fdivX ta tb):=xe_op op_fdivB (opx_ic oi) ha hb
theorem gc_ (ha:XE X Ex a ta) (hb:XE X Ex b tb):XE X Ex (.BinOp a .Mod b pos) (xOp modX ta tb):=xe_op op_mod (opx_ic oi) ha hb
theorem xe_pow (ha:XE X Ex a ta) (hb:XE X Ex b tb):XE X Ex (.BinOp a .Pow b pos) (xOp powX ta tb):=xe_op op_pow (opx_ic oi) ha hb
end
theorem ox_lt:OpX (rI0 fun i j=>.bl (decide (i < j))) ltX:=opx_i ob
theorem ox_le:OpX (rI0 fun i j=>.bl (decide (i≤j))) leX:=opx_i ob
theorem ox_gt:OpX (rI0 fun i j=>.bl (decide (j < i))) gtX:=opx_i ob
theorem ox_ge:OpX (rI0 fun i j=>.bl (decide (j≤i))) geX:=opx_i ob
def eqS:Dx→Dx→Option Bool
 | .int i,.int j=>some (decide (i=j))
 | .str i,.str j=>some (decide (i=j))
 | .bl i,.bl j=>some (decide (i=j))
 | .non,.non=>some true
 | .non,.int _=>some false | .int _,.non=>some false | .non,.bl _=>some false | .bl _,.non=>some false | .non,.str _=>some false | .str _,.non=>some false
 | .int _,.str _=>some false | .str _,.int _=>some false | .bl _,.str _=>some false | .str _,.bl _=>some false
 | .lst l,.lst []=>some l.isEmpty
 | _,_=>none
def eqX:G2:=fun a b Q=>match eqS a b with
 | some c=>Q (.tr (.bl c))
 | none=>False
def neX:G2:=fun a b Q=>match eqS a b with
 | some c=>Q (.tr (.bl (!c)))
 | none=>False
def scV:Dx→Option V
 | .int i=>some (.int i)
 | .str i=>some (.str i)
 | .bl i=>some (.bl i)
 | .non=>some .non
 | _=>none
theorem scV_is {H:Hp} {d:Dx} {x v:V} (h:IsX H d x) (e:scV d=some v):x=v:=by
 cases d <;> simp only [scV,Option.some.injEq] at e <;> first | (subst e; first | exact h.int_eq | exact h.str_eq | exact h.bl_eq | exact h.non_eq) | cases e
theorem eqS_scal {a b:Dx} {c:Bool} (h:eqS a b=some c):(∃ l,a=.lst l∧b=.lst []∧c=l.isEmpty)∨∃ x y,scV a=some x∧scV b=some y∧scal x y=true∧decide (x=y)=c:=by
 unfold eqS at h
 split at h <;> (try simp only [Option.some.injEq] at h) <;> first
  | (subst h; exact .inr ⟨_,_,rfl,rfl,rfl,by simp⟩)
  | (subst h; exact .inl ⟨_,rfl,rfl,rfl⟩)
  | cases h
section
variable {K:FG_}
def rEqN (K:FG_) (n:Bool):R2:=fun x y H Q => ∃ p b xs,x=.ref p∧y=.ref b∧SqL K H p xs∧SqL K H b []∧Q (.bl (if n then !xs.isEmpty else xs.isEmpty)) H
theorem dd_:OpX (fun x y H Q=>rEq x y H Q∨rEqN K false x y H Q) eqX:=by
 intro F P H a b x y Q Qx R ha hb g k
 unfold eqX at g
 split at g
 ·rename_i c hc
  rcases eqS_scal hc with ⟨l,rfl,rfl,rfl⟩ | ⟨u,w,h1,h2,h3,h4⟩
  ·obtain ⟨p,vs,rfl,q1,q2⟩:=ha.lst_eq
   obtain ⟨p',vs',rfl,q3,q4⟩:=hb.lst_eq
   cases (show vs'=[] from q4)
   refine .inr ⟨p,p',vs,rfl,rfl,SqL.of (R.hv _ _ q1),SqL.of (R.hv _ _ q3),k _ (.tr (.bl l.isEmpty)) H (R.add ?_) g⟩
   have:vs.isEmpty=l.isEmpty:=by
    have:=q2.len
    cases vs <;> cases l <;> simp at this ⊢
   simp only [IsX,this]; rfl
  ·cases scV_is ha h1; cases scV_is hb h2
   exact .inl ⟨h3,k _ _ H (R.add (by rw [h4]; exact IsX.of_bl _)) g⟩
 ·exact g.elim
theorem hz_:OpX (fun x y H Q=>rNe x y H Q∨rEqN K true x y H Q) neX:=by
 intro F P H a b x y Q Qx R ha hb g k
 unfold neX at g
 split at g
 ·rename_i c hc
  rcases eqS_scal hc with ⟨l,rfl,rfl,rfl⟩ | ⟨u,w,h1,h2,h3,h4⟩
  ·obtain ⟨p,vs,rfl,q1,q2⟩:=ha.lst_eq
   obtain ⟨p',vs',rfl,q3,q4⟩:=hb.lst_eq
   cases (show vs'=[] from q4)
   refine .inr ⟨p,p',vs,rfl,rfl,SqL.of (R.hv _ _ q1),SqL.of (R.hv _ _ q3),k _ (.tr (.bl (!l.isEmpty))) H (R.add ?_) g⟩
   have:vs.isEmpty=l.isEmpty:=by
    have:=q2.len
    cases vs <;> cases l <;> simp at this ⊢
   simp only [IsX,this]; rfl
  ·cases scV_is ha h1; cases scV_is hb h2
   exact .inl ⟨h3,k _ _ H (R.add (by rw [h4]; exact IsX.of_bl _)) g⟩
 ·exact g.elim
end
section
variable {X:Cx} {Ex:ExT} (K:FG_) (h:X.K=K)
theorem br_ (hu:X.A.units < cLine) (h:X.K=K:=by rfl):OpR X (compareOp .Eq) (fun x y H Q=>rEq x y H Q∨rEqN K false x y H Q):=by subst h; exact op_eq.or (op_eqNil hu)
theorem ez_ (hu:X.A.units < cLine) (h:X.K=K:=by rfl):OpR X (compareOp .NotEq) (fun x y H Q=>rNe x y H Q∨rEqN K true x y H Q):=by subst h; exact op_ne.or (op_neNil hu)
end
def ixX:G2
 | .lst l,.int i,Q=>(match atI l i with | some d=>Q (.tr d) | none=>False)
 | .tup l,.int i,Q=>(match atI l i with | some d=>Q (.tr d) | none=>False)
 | .str z,.int i,Q=>z.length≤1000000∧(match atI z.cps.toList i with | some c=>Q (.tr (.str ⟨#[c]⟩)) | none=>False)
 | _,_,_=>False
theorem all2_atI {α β:Type} {g:α→β→Prop} {l:List α} {m:List β} {i:Int} {d:α} (h:All2 g l m) (e:atI l i=some d):∃ v,atI m i=some v∧g d v:=by
 unfold atI at e ⊢
 rw [h.len]
 obtain ⟨j,h1,h2⟩:=Option.bind_eq_some_iff.mp e
 obtain ⟨v,h3,h4⟩:=h.at h2
 exact ⟨v,Option.bind_eq_some_iff.mpr ⟨j,h1,h3⟩,h4⟩
theorem ox_ix {K:FG_}:OpX (fun x y H Q=>rIxL K x y H Q∨rIxT K x y H Q∨rIxS x y H Q) ixX:=by
 intro F P H a b x y Q Qx R ha hb g k
 unfold ixX at g
 split at g
 ·obtain ⟨p,vs,rfl,h1,h2⟩:=ha.lst_eq
  cases hb.int_eq
  split at g
  ·rename_i d hd
   obtain ⟨v,h3,h4⟩:=all2_atI h2 hd
   exact .inl ⟨p,vs,_,v,rfl,rfl,SqL.of (R.hv _ _ h1),h3,k _ _ H (R.add h4) g⟩
  ·exact g.elim
 ·obtain ⟨p,vs,rfl,h1,h2⟩:=ha.tup_eq
  cases hb.int_eq
  split at g
  ·rename_i d hd
   obtain ⟨v,h3,h4⟩:=all2_atI h2 hd
   exact .inr (.inl ⟨p,vs,_,v,rfl,rfl,SqT.of (R.hv _ _ h1),h3,k _ _ H (R.add h4) g⟩)
  ·exact g.elim
 ·cases ha.str_eq; cases hb.int_eq
  obtain ⟨g0,g⟩:=g
  split at g
  ·rename_i c hc
   exact .inr (.inr ⟨_,_,c,rfl,rfl,by have:=line1; omega,hc,k _ _ H (R.add (IsX.of_str _)) g⟩)
  ·exact g.elim
 ·exact g.elim
theorem IxR.or {X:Cx} {r r':R2} (h:IxR X r) (h':IxR X r'):IxR X (fun x y H Q=>r x y H Q∨r' x y H Q):=fun a b pins s σ H x y v u Q I rx ry q hs=>q.elim (fun q=>h a b pins s σ H x y v u Q I rx ry q hs) fun q=>h' a b pins s σ H x y v u Q I rx ry q hs
theorem an_ {X:Cx} {Ex:ExT} {a b:Expr} {pos:Pos} {ta tb:XT} (K:FG_) (ha:XE X Ex a ta) (hb:XE X Ex b tb) (hs:PlainIx b) (h:X.K=K:=by rfl):XE X Ex (.Subscript a b pos) (xOp ixX ta tb):=fun F =>
 (pe_ix (IxR.or (hk_ K h) (IxR.or (ix_tupK K h) ix_str)) (ha F) (hb F) hs).weak (tOp_x ox_ix)
def getK (l:List (Key×Dx)) (k:Key):Option Dx:=(l.find? fun p=>decide (p.1=k)).map (·.2)
theorem getK_val {G:Hp} {k:Key}:∀ {l:List (Key×Dx)} {ws:List (Key×V)},All2 (KvX G) l ws→(getK l k=none∧valV ws k=none)∨∃ d v,getK l k=some d∧valV ws k=some v∧IsX G d v
 | [],_,h=>by rw [show _=[] from h]; exact .inl ⟨rfl,rfl⟩
 | p :: l,_,⟨w,wr,e,⟨h1,h2⟩,h3⟩=>by
  rw [e]
  by_cases hk:p.1=k
  ·refine .inr ⟨p.2,w.2,?_,hd_ (h1 ▸ hk),h2⟩
   unfold getK
   rw [List.find?_cons,decide_eq_true hk]
   rfl
  ·rw [he_ (h1 ▸ hk)]
   have:getK (p :: l) k=getK l k:=by unfold getK; rw [List.find?_cons,decide_eq_false hk]
   rw [this]
   exact getK_val h3
def keyD:Dx→Option Key
 | .int i=>some (.inl i)
 | .str x=>some (.inr x)
 | _=>none
theorem keyD_is {H:Hp} {d:Dx} {x:V} {k:Key} (h:IsX H d x) (e:keyD d=some k):x=kV k:=by
 cases d <;> simp only [keyD,Option.some.injEq] at e <;> first | (subst e; first | exact h.int_eq | exact h.str_eq) | cases e
def dgX:G2:=fun a b Q=>match a,keyD b with
 | .dic l,some k=>(match getK l k with | some d=>Q (.tr d) | none=>False)
 | _,_=>False
def dinX (neg:Bool):G2:=fun a b Q=>match keyD a,b with
 | some k,.dic l=>Q (.tr (.bl (if neg then !(getK l k).isSome else (getK l k).isSome)))
 | _,_=>False
theorem DGet.rd {H:Hp} {a:Addr} {kvs:List (Key×V)} {k:Key} (e:Rd H a (.dK kvs)):DGet H a (kV k) (valV kvs k):=.inl ⟨kvs,k,e,rfl,rfl⟩
theorem rd_hv {F:Fm} {P:List Rw} {H:Hp} (R:Rep F P H) {O:List Addr} {a:Addr} {u:HO} (h:Rd (hid O (F.vis H)) a u):Rd H a u:=by
 rcases h with h | ⟨o,h⟩
 ·exact .inl (R.hv _ _ h)
 ·exact .inr ⟨o,R.hv _ _ h⟩
theorem ox_dget:OpX (fun x y H Q => ∃ a v,x=.ref a∧DGet H a y (some v)∧Q v H) dgX:=by
 intro F P H a b x y Q Qx R ha hb g k
 unfold dgX at g
 split at g
 ·rename_i l kk hk
  obtain ⟨p,ws,rfl,h1,h2⟩:=ha.dic_eq
  cases keyD_is hb hk
  split at g
  ·rename_i d hd
   rcases getK_val (k:=kk) h2 with ⟨z,_⟩ | ⟨d',v,z1,z2,z3⟩
   ·rw [z] at hd; cases hd
   ·rw [z1] at hd; cases hd
    exact ⟨p,v,rfl,by rw [← z2]; exact DGet.rd (rd_hv R h1),k _ _ H (R.add z3) g⟩
  ·exact g.elim
 ·exact g.elim
theorem ox_din (neg:Bool):OpX (fun y x H Q => ∃ a o,x=.ref a∧DGet H a y o∧Q (.bl (if neg then !o.isSome else o.isSome)) H) (dinX neg):=by
 intro F P H a b x y Q Qx R ha hb g k
 unfold dinX at g
 split at g
 ·rename_i kk l hk
  obtain ⟨p,ws,rfl,h1,h2⟩:=hb.dic_eq
  cases keyD_is ha hk
  refine ⟨p,_,rfl,DGet.rd (k:=kk) (rd_hv R h1),k _ _ H (R.add ?_) g⟩
  rcases getK_val (k:=kk) h2 with ⟨z1,z2⟩ | ⟨d',v,z1,z2,z3⟩
  ·rw [z1,z2]; simp only [IsX]; rfl
  ·rw [z1,z2]; simp only [IsX]; rfl
 ·exact g.elim
section
variable {X:Cx} {Ex:ExT} {a b o i:Expr} {pos:Pos} {ta tb:XT}
theorem fx_ (hu:X.A.units + 1 < cLine) (ha:XE X Ex o ta) (hb:XE X Ex i tb) (hs:NoSl i):XE X Ex (.Subscript o i pos) (xOp dgX ta tb):=fun F=>(pe_dget hu (ha F) (hb F) hs).weak fun σ H Q h=>tOp_x ox_dget σ H Q h
theorem xe_din (hu:X.A.units + 1 < cLine) (ha:XE X Ex i ta) (hb:XE X Ex o tb) (hm:behindInMarks .In o=false):XE X Ex (.Compare i [.In] [o] pos) (xOp (dinX false) ta tb):=fun F=>(pe_cmp (pc_din hu (ha F) (hb F)) hm).weak fun σ H Q h=>tOp_x (ox_din false) σ H Q h
theorem xt_dnotin (hu:X.A.units + 1 < cLine) (ha:XE X Ex i ta) (hb:XE X Ex o tb) (hm:behindInMarks .NotIn o=false):XTe X Ex (.Compare i [.NotIn] [o] pos) (xB (xOp (dinX true) ta tb)):=fun F=>(pt_cmp (pc_dnotin hu (ha F) (hb F)) hm).weak (hq_ (t:=tDNotIn (tX F ta) (tX F tb)) fun σ H Q h=>tOp_x (ox_din true) σ H Q h)
def xDNew:XT:=fun ρ Q=>Q (.od []) ρ
theorem xe_dnew:XE X Ex (.Dict [] [] pos) xDNew:=fun F=>(pe_dnewK (X:=X)).weak fun σ H Q=>by
 rintro ⟨ρ,fr,Qx,E,t,k⟩
 exact fun p hp=>k _ _ _ ρ (EOk.back E.len (E.rep.newD hp All2.nil)) t
end
abbrev GC:=List Dx→(Sv→Prop)→Prop
def CallX (r:List V→Hp→VK→Prop) (g:GC):Prop := ∀ (F:Fm) (P:List Rw) (H:Hp) (ds:List Dx) (xs:List V) (Q:VK) (Qx:Sv→Prop),Rep F P H→All2 (IsX (hid (owns P) (F.vis H))) ds xs→g ds Qx →
 (∀ v s H',Rep F ((.v s,some v) :: P) H'→Qx s→Q v H')→r xs H Q
def xCall (g:GC) (u:XA):XT:=fun ρ Q=>u ρ fun ss ρ'=>g (ss.map Sv.d) fun s=>Q s ρ'
theorem tCB_x {F:Fm} {r:List V→Hp→VK→Prop} {g:GC} {u:XA} (hx:CallX r g):∀ σ H Q,tX F (xCall g u) σ H Q→tCB r (tXa F u) σ H Q:=by
 rintro σ H Q ⟨ρ,fr,Qx,E,t,k⟩
 refine ⟨ρ,fr,_,E,t,fun vs ss H2 ρ2 hl E2 q2 => ?_⟩
 obtain ⟨R,hs⟩:=E2.many hl
 exact hx F _ H2 _ vs Q (fun s=>Qx s ρ2) R hs q2 fun v s H' R' q=>k v s H' ρ2 (EOk.back E2.len R') q
section
variable {X:Cx} {Ex:ExT} {e:Expr} {es:List Expr} {x:Str} {p pos:Pos} {r:List V→Hp→VK→Prop} {g:GC} {u:XA} {id T:String}
theorem au_ (hc:CallR X (.builtin id) r) (hx:CallX r g) (hg:Gl X x) (hm:X.mg x=none) (hv:bootBuiltins x=some (.builtin id)) (ha:XAs X Ex (e :: es) u) (hn:x ≠ "__name__" := by decide) (hdb:(x == ("__debug__" : Str))=false:=by decide)
  (he:starEach (e :: es) X.env=(false,eval e X.env) :: starEach es X.env:=by rfl) (hpl:(backTo pos (starEach es X.env)).any (·.1)=false:=by rfl):XE X Ex (.Call (.Name x p) (e :: es) [] pos) (xCall g u):=fun F=>(ch_ hc hg hm hv (ha F) hn hdb he hpl).weak (tCB_x hx)
theorem ds_ (hc:CallR X (.type T) r) (hx:CallX r g) (hg:Gl X x) (hm:X.mg x=none) (hv:bootBuiltins x=some (.type T)) (ha:XAs X Ex (e :: es) u) (hn:x ≠ "__name__" := by decide) (hdb:(x == ("__debug__" : Str))=false:=by decide)
  (he:starEach (e :: es) X.env=(false,eval e X.env) :: starEach es X.env:=by rfl) (hpl:(backTo pos (starEach es X.env)).any (·.1)=false:=by rfl):XE X Ex (.Call (.Name x p) (e :: es) [] pos) (xCall g u):=fun F=>(hy_ hc hg hm hv (ha F) hn hdb he hpl).weak (tCB_x hx)
end
theorem dk_ {α β:Type} {g:α→β→Prop} {a:α} {xs:List β} (h:All2 g [a] xs):∃ x,xs=[x]∧g a x:=by
 obtain ⟨x,xr,rfl,h1,h2⟩:=h
 cases (show xr=[] from h2)
 exact ⟨x,rfl,h1⟩
theorem all2_2 {α β:Type} {g:α→β→Prop} {a b:α} {xs:List β} (h:All2 g [a,b] xs):∃ x y,xs=[x,y]∧g a x∧g b y:=by
 obtain ⟨x,xr,rfl,h1,h2⟩:=h
 obtain ⟨y,rfl,h3⟩:=dk_ h2
 exact ⟨x,y,rfl,h1,h3⟩
def lenX:GC
 | [.lst l],Q=>Q (.tr (.int l.length))
 | [.tup l],Q=>Q (.tr (.int l.length))
 | [.str z],Q=>z.length≤1000000∧Q (.tr (.int z.length))
 | [.dic l],Q=>Q (.tr (.int l.length))
 | _,_=>False
abbrev rLen (K:FG_):List V→Hp→VK→Prop:=fun xs H Q=>(∃ p ys,xs=[.ref p]∧(SqL K H p ys∨SqT K H p ys)∧Q (.int ys.length) H)∨(∃ z,xs=[.str z]∧z.length≤sizeLine∧Q (.int z.length) H)∨(∃ a kvs,xs=[V.ref a]∧Rd H a (.dK kvs)∧Q (.int kvs.length) H)
theorem ba_ {X:Cx} (K:FG_) (h:X.K=K:=by rfl):CallR X (.builtin "len") (rLen K):=by
 subst h
 refine call_len_seq.or (call_len_str.or ?_)
 intro pins s σ H xs us Q I r h
 obtain ⟨a,kvs,rfl,ha,q⟩:=h
 obtain ⟨u,rfl,ru⟩:=vals1 r
 cases ru
 exact d_len I ha fun t s' I'=>⟨.int kvs.length,H,I',⟨t,rfl⟩,q⟩
theorem ct_ {K:FG_}:CallX (rLen K) lenX:=by
 intro F P H ds xs Q Qx R hs g k
 unfold lenX at g
 split at g
 ·obtain ⟨x,rfl,hx⟩:=dk_ hs
  obtain ⟨a,vs,rfl,h1,h2⟩:=hx.lst_eq
  exact .inl ⟨a,vs,rfl,.inl (SqL.of (R.hv _ _ h1)),k _ _ H (R.add (by rw [h2.len]; exact IsX.of_int _)) g⟩
 ·obtain ⟨x,rfl,hx⟩:=dk_ hs
  obtain ⟨a,vs,rfl,h1,h2⟩:=hx.tup_eq
  exact .inl ⟨a,vs,rfl,.inr (SqT.of (R.hv _ _ h1)),k _ _ H (R.add (by rw [h2.len]; exact IsX.of_int _)) g⟩
 ·obtain ⟨x,rfl,hx⟩:=dk_ hs
  cases hx.str_eq
  exact .inr (.inl ⟨_,rfl,by have:=line1; omega,k _ _ H (R.add (IsX.of_int _)) g.2⟩)
 ·obtain ⟨x,rfl,hx⟩:=dk_ hs
  obtain ⟨a,vs,rfl,h1,h2⟩:=hx.dic_eq
  exact .inr (.inr ⟨a,vs,rfl,rd_hv R h1,k _ _ H (R.add (by rw [h2.len]; exact IsX.of_int _)) g⟩)
 ·exact g.elim
def intX:GC
 | [.int i],Q=>Q (.tr (.int i))
 | [.bl b],Q=>Q (.tr (.int (if b then 1 else 0)))
 | _,_=>False
theorem cx_int:CallX (fun xs H Q=>(∃ i,xs=[.int i]∧Q (.int i) H)∨∃ k,xs=[.bl k]∧Q (.int (if k then 1 else 0)) H) intX:=by
 intro F P H ds xs Q Qx R hs g k
 unfold intX at g
 split at g
 ·obtain ⟨x,rfl,hx⟩:=dk_ hs
  cases hx.int_eq
  exact .inl ⟨_,rfl,k _ _ H (R.add (IsX.of_int _)) g⟩
 ·obtain ⟨x,rfl,hx⟩:=dk_ hs
  cases hx.bl_eq
  exact .inr ⟨_,rfl,k _ _ H (R.add (IsX.of_int _)) g⟩
 ·exact g.elim
def listX:GC
 | [.lst l],Q=>Q (.ol l)
 | [.tup l],Q=>Q (.ol l)
 | _,_=>False
def tupleX:GC
 | [.lst l],Q=>Q (.tr (.tup l))
 | [.tup l],Q=>Q (.tr (.tup l))
 | _,_=>False
theorem call_tupleA {X:Cx} (K:FG_) (h:X.K=K:=by rfl):CallR X (.type "tuple") (fun xs H Q => ∃ p ys,xs=[.ref p]∧((SqL K H p ys∧∀ l,H l=none→Q (.ref l) (upd H l (.tup ys)))∨(SqT K H p ys∧Q (.ref p) H))):=by subst h; exact call_tuple_of
theorem cx_tuple {K:FG_}:CallX (fun xs H Q => ∃ p ys,xs=[.ref p]∧((SqL K H p ys∧∀ l,H l=none→Q (.ref l) (upd H l (.tup ys)))∨(SqT K H p ys∧Q (.ref p) H))) tupleX:=by
 intro F P H ds xs Q Qx R hs g k
 unfold tupleX at g
 split at g
 ·obtain ⟨x,rfl,hx⟩:=dk_ hs
  obtain ⟨a,vs,rfl,h1,h2⟩:=hx.lst_eq
  exact ⟨a,vs,rfl,.inl ⟨SqL.of (R.hv _ _ h1),fun l hl=>k _ _ _ (R.newT hl h2) g⟩⟩
 ·obtain ⟨x,rfl,hx⟩:=dk_ hs
  obtain ⟨a,vs,rfl,h1,h2⟩:=hx.tup_eq
  exact ⟨a,vs,rfl,.inr ⟨SqT.of (R.hv _ _ h1),k _ _ H (R.add (IsX.of_tup h1 h2)) g⟩⟩
 ·exact g.elim
inductive Ty where
 | bool | int | str | tuple | list | dict
def Ty.nm:Ty→String
 | .bool => "bool" | .int => "int" | .str => "str" | .tuple => "tuple" | .list => "list" | .dict => "dict"
def tyN:Dx→String
 | .non => "NoneType" | .bl _ => "bool" | .int _ => "int" | .str _ => "str" | .tup _ => "tuple" | .lst _ => "list" | .dic _ => "dict" | .scr _ _ => "list" | .ins _ _ => "object" | .exc _ => "object"
def isT:Ty→Dx→Bool
 | .bool,.bl _=>true
 | .int,.int _=>true
 | .int,.bl _=>true
 | .str,.str _=>true
 | .tuple,.tup _=>true
 | .list,.lst _=>true
 | .dict,.dic _=>true
 | .list,.scr _ _=>true
 | _,_=>false
def noScr:Dx→Prop
 | .scr _ _=>False
 | .ins _ _=>False
 | .exc _=>False
 | _=>True
theorem kit_tab {K:FG_} {d:Dx} {n:Ty} (hd:noScr d):PySem.W.kitOne K (.type (tyN d)) (.type n.nm)=some (isT n d):=by
 have h:∀ T∈["NoneType", "bool", "int", "str", "tuple", "list", "dict"],∀ n:Ty,PySem.W.kitOne K (.type T) (.type n.nm)=some (T == n.nm || (n.nm == "int" && T == "bool")):=by
  intro T hT n
  simp only [List.mem_cons,List.not_mem_nil,or_false] at hT
  rcases hT with rfl | rfl | rfl | rfl | rfl | rfl | rfl <;> cases n <;> first
   | exact fk_ _
   | exact et_ (by decide +kernel) (by decide +kernel) (by decide +kernel)
 rw [h _ (by cases d <;> first | exact hd.elim | simp [tyN]) n]
 cases d <;> cases n <;> first | rfl | exact hd.elim
theorem isinst_rd {X:Cx} {pins:PN_} {σ:St} {H:Hp} {s:Shared} {A:Around} {E:SV_} {Q:SV_} {b:Bool} {c:Value} {d:Dx} {x:V} {u:Value} (I:Inv X pins σ H s) (rx:RelV x u) (hx:IsX H d x) (hd:noScr d) (e:PySem.W.kitOne X.K (.type (tyN d)) c=some b) (h:∀ tk,Q (.bool b) { s with toks:=tk }) :
  wpAny (model X.prog X.w) A (call (.builtin "isinstance") [u,c]) Q E s:=by
 cases d with
 | non=>cases hx.non_eq; exact df_ I rx .non e h
 | bl _=>cases hx.bl_eq; exact df_ I rx (.bl _) e h
 | int _=>cases hx.int_eq; exact df_ I rx (.int _) e h
 | str _=>cases hx.str_eq; exact df_ I rx (.str _) e h
 | tup _=>obtain ⟨a,vs,rfl,h1,_⟩:=hx.tup_eq; exact df_ I rx (.tup h1) e h
 | lst _=>obtain ⟨a,vs,rfl,h1,_⟩:=hx.lst_eq; exact df_ I rx (.lst h1) e h
 | dic _ =>
  obtain ⟨a,vs,rfl,h1,_⟩:=hx.dic_eq
  rcases h1 with h1 | ⟨ob,h1⟩
  ·exact df_ I rx (.dK h1) e h
  ·cases (show u=Value.ref a from rx)
   obtain ⟨_,_,_,_,_,p⟩:=(show ObjOk X.prog X.w H s.heap a (.frz ob (.dK vs)) from I.hok a _ h1)
   obtain ⟨o,es,ep,h1,h2,_⟩:=p
   exact PySem.W.kia_one PySem.W.kitx_dict I.kIn ⟨o,h1,h2.1⟩ e (fun z=>nomatch z) h
 | scr _ _=>exact hd.elim
 | ins _ _=>exact hd.elim
 | exc _=>exact hd.elim
theorem call_isX {X:Cx} (n:Ty):CallR X (.builtin "isinstance") (fun xs H Q => ∃ x d,xs=[x,.ty n.nm]∧IsX H d x∧noScr d∧Q (.bl (isT n d)) H):=by
 intro pins s σ H xs us Q I r h
 obtain ⟨x,d,rfl,hx,hd,q⟩:=h
 obtain ⟨u,w',rfl,r1,r2⟩:=vals2 r
 cases (show w'=Value.type n.nm from r2)
 exact isinst_rd I r1 hx hd (kit_tab hd) (fun tk=>⟨.bl _,H,I.tok _,rfl,q⟩)
def xIs (n:Ty) (t:XT):XT:=fun ρ Q=>t ρ fun s ρ'=>match s.d with
 | .scr _ _=>False
 | .ins _ _=>False
 | .exc _=>False
 | d=>Q (.tr (.bl (isT n d))) ρ'
theorem as_ {X:Cx} {Ex:ExT} {e:Expr} {t:XT} {nm:Str} {p q pos:Pos} (n:Ty) (hm:X.mg "isinstance" = none) (h:XE X Ex e t) (hT:PE X (.Name nm q) (tC (.ty n.nm))) (hg:Gl X "isinstance" := by rfl)
  (he:starEach [e,.Name nm q] X.env=(false,eval e X.env) :: starEach [.Name nm q] X.env:=by rfl) (he2:starEach [.Name nm q] X.env=(false,eval (.Name nm q) X.env) :: starEach [] X.env:=by rfl) (hpl:(backTo pos (starEach [.Name nm q] X.env)).any (·.1)=false:=by rfl):XE X Ex (.Call (.Name "isinstance" p) [e,.Name nm q] [] pos) (xIs n t):=fun F =>
 (ch_ (call_isX n) hg hm ci_ (ar_ (h F) (ar_ hT bi_ he2) he) (by decide) (by decide) he hpl).weak fun σ H Q=>by
  rintro ⟨ρ,fr,Qx,E,t,k⟩
  refine ⟨ρ,fr,_,E,t,fun v s H' ρ' E' q => ?_⟩
  obtain ⟨R,hx⟩:=E'.one
  generalize hd:s.d=d at q hx
  cases d with
  | scr _ _=>exact q.elim
  | ins _ _=>exact q.elim
  | exc _=>exact q.elim
  | _=>exact ⟨v,_,rfl,hx.to R.hv,trivial,k _ _ H' ρ' (EOk.back E'.len (R.add (IsX.of_bl _))) q⟩
def Cal (P:Program) (w:World) (K:FG_) (mg:MG_) (base:Heap) (j:Nat) (x:Str) (ps:List Str) (sp:Sp):Prop := ∃ f fd,FnOk P w K mg base CX0 j f fd ps sp∧Binds K fd ps []∧PySem.W.keepIn K (.ref f)=true∧mg x=some (.ref f)
theorem gh_ {X:Cx} {j:Nat} {x:Str} {ps:List Str} {sp:Sp} {e:Expr} {es:List Expr} {t:TA} {p pos:Pos} (C:Cal X.prog X.w X.K X.mg X.base j x ps sp) (hr:Room j X.A) (ha:PA X (e :: es) t) (hg:Gl X x:=by rfl) (hdb:(x == ("__debug__" : Str))=false:=by decide)
  (he:starEach (e :: es) X.env=(false,eval e X.env) :: starEach es X.env:=by rfl) (hpl:(backTo pos (starEach es X.env)).any (·.1)=false:=by rfl):PE X (.Call (.Name x p) (e :: es) [] pos) (tCall sp [] E0 t):=by
 obtain ⟨f,fd,G,b,k,m⟩:=C
 exact pe_call G hr hg m k b .nil pass0 ha hdb he hpl
def ResOk (Hs H H':Hp):Sv→V→Prop
 | .tr d,v=>IsX (ext Hs H H') d v
 | .ol l,v => ∃ a vs,v=.ref a∧H a=none∧H' a=some (.lst vs)∧All2 (IsX (hid [a] (ext Hs H H'))) l vs
 | .od l,v => ∃ a ws,v=.ref a∧H a=none∧H' a=some (.dK ws)∧All2 (KvX (hid [a] (ext Hs H H'))) l ws
 | .ow o,v=>o.fp.Nodup∧(∀ a∈o.fp,H a=none)∧OwOk (hid o.fp (ext Hs H H')) H' o v
def spX (g:GC):Sp:=fun vs H Q _ => ∃ Hs ds Qx,Same Hs H∧All2 (IsX Hs) ds vs∧g ds Qx∧∀ s v H',Same H H'→ResOk Hs H H' s v→Qx s→Q v H'
section
variable {F:Fm} {P:List Rw} {H H':Hp} {a:Addr} {s:Sv} {v:V}
theorem ext_hid (R:Rep F P H) (e:Same H H'):Same (ext (hid (owns P) (F.vis H)) H H') (hid (owns P) (F.vis H')):=fun b o hb=>by
 cases q:H b with
 | none =>
  rw [bb_ q] at hb
  exact hid_some.mpr ⟨R.not_own q,(bb_ (R.fresh q)).trans hb⟩
 | some u =>
  rw [az_ q] at hb
  exact hid_same (fm_ e) _ _ hb
theorem Rep.adopt (R:Rep F P H) (e:Same H H') (ha:H a=none) (hA:ownA (.v s,some (.ref a))=[a]) (h:RowOk (a :: owns P) (F.vis H') H' (.v s,some (.ref a))):Rep F ((.v s,some (.ref a)) :: P) H':=by
 have hno:=R.not_own ha
 have hq:=R.fresh ha
 have R':=R.grow e
 refine ⟨by rw [ah_ hA]; exact List.nodup_cons.mpr ⟨hno,R.nd⟩,fun r hr => ?_,fun r hr b hb => ?_,R'.kp,R'.lv⟩
 ·rw [ah_ hA]
  rcases List.mem_cons.mp hr with rfl | hr
  ·exact h
  ·refine (R.ok r hr).mono (.of fun b o hb => ?_) fun b hb => ?_
   ·have hb':=hid_some.mp hb
    have hba:b≠a:=fun z=>by have:=R.vis _ _ hb'.2; rw [z,ha] at this; cases this
    exact hid_some.mpr ⟨fun z=>(List.mem_cons.mp z).elim hba hb'.1,fm_ e _ _ hb'.2⟩
   ·obtain ⟨o,ho⟩:=R.own_in (bu_ hr hb)
    rw [ho,e _ _ ho]
 ·rcases List.mem_cons.mp hr with rfl | hr
  ·cases eq1 hA hb; exact hq
  ·exact R.fr r hr b hb
theorem Rep.adoptW {o:Ow} (R:Rep F P H) (e:Same H H') (hn:o.fp.Nodup) (ha:∀ a∈o.fp,H a=none) (h:OwOk (hid (o.fp ++ owns P) (F.vis H')) H' o v):Rep F ((.v (.ow o),some v) :: P) H':=by
 have R':=R.grow e
 have hO:owns ((.v (.ow o),some v) :: P)=o.fp ++ owns P:=ak_
 have hdis:∀ a∈o.fp,a∉owns P:=fun a h1=>R.not_own (ha a h1)
 refine ⟨?_,fun r hr => ?_,fun r hr b hb => ?_,R'.kp,R'.lv⟩
 ·rw [hO]
  exact List.nodup_append.mpr ⟨hn,R.nd,fun a h1 b h2 z=>hdis a h1 (z ▸ h2)⟩
 ·rw [hO]
  rcases List.mem_cons.mp hr with rfl | hr
  ·exact ⟨v,rfl,h⟩
  ·refine (R.ok r hr).mono (.of fun b u hb => ?_) fun b hb => ?_
   ·have hb':=hid_some.mp hb
    refine hid_some.mpr ⟨fun z=>(List.mem_append.mp z).elim (fun z => ?_) hb'.1,fm_ e _ _ hb'.2⟩
    have:=R.vis _ _ hb'.2; rw [ha b z] at this; cases this
   ·obtain ⟨u,hu⟩:=R.own_in (bu_ hr hb)
    rw [hu,e _ _ hu]
 ·rcases List.mem_cons.mp hr with rfl | hr
  ·exact R.fresh (ha b hb)
  ·exact R.fr r hr b hb
theorem ext_hid1 (R:Rep F P H) (e:Same H H') (ha:H a=none):Same (hid [a] (ext (hid (owns P) (F.vis H)) H H')) (hid (a :: owns P) (F.vis H')):=fun b o hb=>by
 have hb':=hid_some.mp hb
 have:=hid_some.mp (ext_hid R e _ _ hb'.2)
 exact hid_some.mpr ⟨fun z=>(List.mem_cons.mp z).elim (fun z=>hb'.1 (by rw [z]; exact List.mem_cons_self)) this.1,this.2⟩
theorem Rep.res (R:Rep F P H) (e:Same H H') (h:ResOk (hid (owns P) (F.vis H)) H H' s v):Rep F ((.v s,some v) :: P) H':=by
 match s,h with
 | .tr d,h=>exact (R.grow e).add (IsX.to h (ext_hid R e))
 | .ol l,⟨a,vs,h1,h2,h3,h4⟩ =>
  subst h1
  exact R.adopt e h2 rfl ⟨a,vs,rfl,h3,h4.imp fun _ _ z=>z.to (ext_hid1 R e h2)⟩
 | .od l,⟨a,vs,h1,h2,h3,h4⟩ =>
  subst h1
  exact R.adopt e h2 rfl ⟨a,vs,rfl,h3,h4.imp fun _ _ z=>z.to (ext_hid1 R e h2)⟩
 | .ow o,⟨h1,h2,h3⟩ =>
  refine R.adoptW e h1 h2 (OwOk.mono (.of fun b u hb => ?_) o v (fun _ _=>rfl) h3)
  have hb':=hid_some.mp hb
  have:=hid_some.mp (ext_hid R e _ _ hb'.2)
  exact hid_some.mpr ⟨fun z=>(List.mem_append.mp z).elim hb'.1 this.1,this.2⟩
end
theorem al_ {X:Cx} {Ex:ExT} {j:Nat} {x:Str} {ps:List Str} {g:GC} {e:Expr} {es:List Expr} {u:XA} {p pos:Pos} (C:Cal X.prog X.w X.K X.mg X.base j x ps (spX g)) (hr:Room j X.A) (ha:XAs X Ex (e :: es) u) (hg:Gl X x:=by rfl) (hdb:(x == ("__debug__" : Str))=false:=by decide)
  (he:starEach (e :: es) X.env=(false,eval e X.env) :: starEach es X.env:=by rfl) (hpl:(backTo pos (starEach es X.env)).any (·.1)=false:=by rfl):XE X Ex (.Call (.Name x p) (e :: es) [] pos) (xCall g u):=fun F=>(gh_ C hr (ha F) hg hdb he hpl).weak fun σ H Q=>by
 rintro ⟨ρ,fr,Qx,E,t,k⟩
 refine ⟨ρ,fr,_,E,t,fun vs ss H2 ρ2 hl E2 q2 => ?_⟩
 obtain ⟨R,hs⟩:=E2.many hl
 rw [List.append_nil]
 exact ⟨_,_,_,R.hv,hs,q2,fun s v H' e hr q=>k v s H' ρ2 (EOk.back E2.len (R.res e hr)) q⟩
abbrev GB:=List Dx→List Dx→(Dx→List Dx→Prop)→Prop
def spB (g:GB):Sp:=fun vs H Q _ => ∃ p ws l vr Hs ds Qx,vs=.ref p :: vr∧H p=some (.lst ws)∧Same Hs H∧Hs p=none∧All2 (IsX Hs) l ws∧All2 (IsX Hs) ds vr∧g l ds Qx ∧
 ∀ d v l' ws' H',SameX p H H'→H' p=some (.lst ws')→All2 (IsX (hid [p] (ext Hs H H'))) l' ws'→IsX (ext Hs H H') d v→Qx d l'→Q v H'
def lent:Sl→Option (List Dx×(List Dx→Sl))
 | .bw l=>some (l,.bw)
 | .v (.ol l)=>some (l,fun l'=>.v (.ol l'))
 | _=>none
def xCallB (g:GB) (i:Nat) (u:XA):XT:=fun ρ Q=>((ρ[i]?).bind lent).isSome=true∧u ρ fun ss ρ'=>match (ρ'[i]?).bind lent with
 | some (l,f)=>g l (ss.map Sv.d) fun d l'=>Q (.tr d) (ρ'.set i (f l'))
 | none=>False
section
variable {F:Fm} {P:List Rw} {H H':Hp} {a p:Addr} {s:Sv} {v:V} {r r':Rw}
theorem Rep.called (R:Rep F (r :: P) H) (hA:ownA r=[p]) (hA':ownA r'=[p]) (hF:FrOk F r p→FrOk F r' p) (e:SameX p H H') (hp:∃ o,H' p=some o) (h:RowOk (p :: owns P) (F.vis H') H' r'):Rep F (r' :: P) H':=by
 have hn:=R.nd
 rw [ah_ hA] at hn
 have hna:=(List.nodup_cons.mp hn).1
 have R1:=R.ok
 rw [ah_ hA] at R1
 have hfr:=R.fr r List.mem_cons_self p (mem1 hA)
 have ev:Same (hid (p :: owns P) (F.vis H)) (hid (p :: owns P) (F.vis H')):=fun b o hb=>by
  have hb':=hid_some.mp hb
  have hbp:b≠p:=fun z=>hb'.1 (by rw [z]; exact List.mem_cons_self)
  refine hid_some.mpr ⟨hb'.1,?_⟩
  cases q:F.H0 b with
  | none=>exact (bb_ q).trans (ic_ ((bb_ q).symm.trans hb'.2) fun o h=>e.get hbp h)
  | some u=>exact (az_ q).trans ((az_ q).symm.trans hb'.2)
 refine ⟨by rw [ah_ hA']; exact hn,fun x hx => ?_,fun x hx b hb => ?_,fun b u h1 h2 => ?_,fun b hb => ?_⟩
 ·rw [ah_ hA']
  rcases List.mem_cons.mp hx with rfl | hx
  ·exact h
  ·refine (R1 x (List.mem_cons_of_mem _ hx)).mono (.of ev) fun b hb => ?_
   have hbp:b≠p:=fun z=>hna (z ▸ bu_ hx hb)
   obtain ⟨o,ho⟩:=R.own_in (bu_ (List.mem_cons_of_mem _ hx) hb)
   rw [ho,e.get hbp ho]
 ·rcases List.mem_cons.mp hx with rfl | hx
  ·cases eq1 hA' hb; exact hF hfr
  ·exact R.fr x (List.mem_cons_of_mem _ hx) b hb
 ·have hb:=R.kp b u h1 h2
  by_cases z:b=p
  ·subst z
   rcases hfr.or with hfr | hfr
   ·exact absurd hfr h2
   ·rw [hfr] at h1; cases h1
  ·exact e.get z hb
 ·by_cases z:b=p
  ·subst z; exact hp
  ·obtain ⟨o,ho⟩:=R.lv b hb
   exact ⟨o,e.get z ho⟩
theorem gv_ (R:Rep F (r :: P) H) (hA:ownA r=[p]) (e:SameX p H H'):Same (ext (hid (owns (r :: P)) (F.vis H)) H H') (hid (owns (r :: P)) (F.vis H')):=fun b o hb=>by
 have hpo:p∈owns (r :: P):=by rw [ah_ hA]; exact List.mem_cons_self
 cases q:H b with
 | none =>
  rw [bb_ q] at hb
  exact hid_some.mpr ⟨R.not_own q,(bb_ (R.fresh q)).trans hb⟩
 | some u =>
  rw [az_ q] at hb
  have hb':=hid_some.mp hb
  have hbp:b≠p:=fun z=>hb'.1 (by rw [z]; exact hpo)
  refine hid_some.mpr ⟨hb'.1,?_⟩
  cases q:F.H0 b with
  | none=>exact (bb_ q).trans (ic_ ((bb_ q).symm.trans hb'.2) fun o h=>e.get hbp h)
  | some u=>exact (az_ q).trans ((az_ q).symm.trans hb'.2)
end
theorem fj_ {sl:Sl} {x:Option V} {l:List Dx} {f:List Dx→Sl} {F:Fm} {P:List Rw} {H:Hp} (h:lent sl=some (l,f)) (R:Rep F ((sl,x) :: P) H):∃ p ws,x=some (.ref p)∧H p=some (.lst ws)∧ownA (sl,some (.ref p))=[p]∧All2 (IsX (hid (p :: owns P) (F.vis H))) l ws ∧
  ∀ l',ownA (f l',some (.ref p))=[p]∧(FrOk F (sl,some (.ref p)) p→FrOk F (f l',some (.ref p)) p)∧∀ {O:List Addr} {G H':Hp} {ws':List V},H' p=some (.lst ws')→All2 (IsX (hid O G)) l' ws'→RowOk O G H' (f l',some (.ref p)):=by
 match sl,h with
 | .bw l,h =>
  cases h
  obtain ⟨p,ws,h1,h2,h3⟩:=R.atB
  exact ⟨p,ws,h1,h2,rfl,h3,fun l'=>⟨rfl,id,fun a b=>⟨p,_,rfl,a,b⟩⟩⟩
 | .v (.ol l),h =>
  cases h
  obtain ⟨p,ws,h1,h2,h3⟩:=R.atL
  exact ⟨p,ws,h1,h2,rfl,h3,fun l'=>⟨rfl,id,fun a b=>⟨p,_,rfl,a,b⟩⟩⟩
theorem bc_ {X:Cx} {Ex:ExT} {j i:Nat} {x:Str} {ps:List Str} {g:GB} {e:Expr} {es:List Expr} {u:XA} {p pos:Pos} (C:Cal X.prog X.w X.K X.mg X.base j x ps (spB g)) (hr:Room j X.A) (hv:PE X e (tVar i)) (ha:XAs X Ex es u) (hg:Gl X x:=by rfl) (hdb:(x == ("__debug__" : Str))=false:=by decide)
  (he:starEach (e :: es) X.env=(false,eval e X.env) :: starEach es X.env:=by rfl) (hpl:(backTo pos (starEach es X.env)).any (·.1)=false:=by rfl):XE X Ex (.Call (.Name x p) (e :: es) [] pos) (xCallB g i u):=fun F=>(gh_ C hr (ar_ hv (ha F) he) hg hdb he hpl).weak fun σ H Q=>by
 rintro ⟨ρ,fr,Qx,E,⟨t0,t⟩,k⟩
 obtain ⟨⟨l0,f0⟩,h0⟩:=Option.isSome_iff_exists.mp t0
 obtain ⟨sl0,h1,h2⟩:=Option.bind_eq_some_iff.mp h0
 obtain ⟨v,hv,hi,R0⟩:=be_ E h1
 obtain ⟨p,_,rfl,_⟩:=fj_ h2 R0
 refine ⟨.ref p,hv,ρ,fr,_,E,t,fun vs ss H2 ρ2 hl E2 q2 => ?_⟩
 obtain ⟨R,hs⟩:=E2.many hl
 split at q2
 ·rename_i l f hb
  obtain ⟨sl,h3,h4⟩:=Option.bind_eq_some_iff.mp hb
  have E3:EOk F ρ2 σ fr H2:=⟨E2.len,R⟩
  obtain ⟨v',hv',hi',R2⟩:=be_ E3 h3
  rw [hv] at hv'
  cases hv'
  obtain ⟨p',ws,ep,h5,h6,h7,h8⟩:=fj_ h4 R2
  cases ep
  rw [List.append_nil]
  have hO:(owns (ρ2.zip σ ++ fr)).Perm (owns ((sl,some (V.ref p)) :: ((ρ2.zip σ).eraseIdx i ++ fr))):=((cd_ h3 hv).append_right fr).flatMap_right _
  have hOm:∀ a∈owns ((sl,some (V.ref p)) :: ((ρ2.zip σ).eraseIdx i ++ fr)),a∈owns (ρ2.zip σ ++ fr):=fun a ha=>hO.mem_iff.mpr ha
  refine ⟨p,ws,l,vs,hid (owns ((sl,some (V.ref p)) :: ((ρ2.zip σ).eraseIdx i ++ fr))) (F.vis H2),_,_,rfl,h5,R2.hv,?_,?_,hs.imp fun _ _ z=>z.to (av_ hOm),q2,fun d w l' ws' H' e hp hl' hd q => ?_⟩
  ·unfold hid
   rw [if_pos (by rw [ah_ h6]; exact List.mem_cons_self)]
  ·rw [ah_ h6]
   exact h7
  ·obtain ⟨k1,k2,k3⟩:=h8 l'
   have ev:=gv_ R2 h6 e
   have R3:=R2.called h6 k1 k2 e ⟨_,hp⟩ (k3 hp (hl'.imp fun _ _ z=>z.to fun b o hb=>by
    have hb':=hid_some.mp hb
    have:=ev _ _ hb'.2
    rw [ah_ h6] at this
    exact this))
   refine k w (.tr d) H' _ (EOk.back (by rw [List.length_set]; exact E2.len) ?_) q
   have R4:=R3.add (d:=d) (v:=w) (hd.to fun b o hb=>by
    have:=ev _ _ hb
    rw [ah_ h6] at this
    rw [ah_ k1]
    exact this)
   exact R4.perm (((bw_ E2.len hi' hv).append_right fr).symm.cons _)
 ·exact q2.elim
end Lf
namespace L2
open PySem
theorem PI.weak {X:Cx} {tg e:Expr} {t u:TI} (h:PI X tg e t) (w:∀ σ H Q,u σ H Q→t σ H Q):PI X tg e u:=fun pins s σ H Q I q=>h pins s σ H Q I (w σ H Q q)
theorem PCs.weak {X:Cx} {e:List Expr} {t u:TT} (h:PCs X e t) (w:∀ σ H Q,u σ H Q→t σ H Q):PCs X e u:=fun pins s σ H Q I q=>h pins s σ H Q I (w σ H Q q)
end L2
namespace Lf
open PySem L2
abbrev XI:=En→(List Dx→En→Prop)→Prop
structure ItX (F:Fm) (J:It) (row:List Rw) (ds:List Dx):Prop where
 go:∀ P H i d,Rep F (row ++ P) H→ds[i]? = some d→J.go i H
 stop:∀ P H i,Rep F (row ++ P) H→ds.length≤i→J.stop i H
 yld:∀ P H i d x H',Rep F (row ++ P) H→ds[i]? = some d→J.yld i H x H'→Rep F ((.v (.tr d),some x) :: (row ++ P)) H'
def tXi (F:Fm) (t:XI):TI:=fun σ H R => ∃ ρ fr Qx,EOk F ρ σ fr H∧t ρ Qx∧∀ J H' ρ' row ds,EOk F ρ' σ (row ++ fr) H'→ItX F J row ds→Qx ds ρ'→R J H'
def XIt (X:Cx) (Ex:ExT) (tg iter:Expr) (t:XI):Prop := ∀ F,[OkF X Ex F]→PI X tg iter (tXi F t)
def xiL (t:XT):XI:=fun ρ Q=>t ρ fun s ρ'=>match s.d with
 | .lst l=>Q l ρ'
 | _=>False
def xiT (t:XT):XI:=fun ρ Q=>t ρ fun s ρ'=>match s.d with
 | .tup l=>Q l ρ'
 | _=>False
theorem itx_list {F:Fm} {K:FG_} {a:Addr} {l:List Dx}:ItX F (Itl K a) [(.v (.tr (.lst l)),some (.ref a))] l where
 go:=fun P H i d R hd=>by
  obtain ⟨v,e,h⟩:=R.atT; cases e
  obtain ⟨_,vs,e,h1,h2⟩:=h.lst_eq; cases e
  obtain ⟨x,h3,_⟩:=h2.at hd
  exact ⟨vs,x,SqL.of (R.hv _ _ h1),h3⟩
 stop:=fun P H i R hi=>by
  obtain ⟨v,e,h⟩:=R.atT; cases e
  obtain ⟨_,vs,e,h1,h2⟩:=h.lst_eq; cases e
  exact ⟨vs,SqL.of (R.hv _ _ h1),by rw [h2.len]; exact hi⟩
 yld:=fun P H i d x H' R hd q=>by
  obtain ⟨rfl,q⟩:=q
  obtain ⟨v,e,h⟩:=R.atT; cases e
  obtain ⟨_,vs,e,h1,h2⟩:=h.lst_eq; cases e
  obtain ⟨y,h3,h4⟩:=h2.at hd
  rw [q vs (SqL.of (R.hv _ _ h1))] at h3
  cases h3
  exact R.add h4
theorem itx_tup {F:Fm} {K:FG_} {a:Addr} {l:List Dx}:ItX F (Itt K a) [(.v (.tr (.tup l)),some (.ref a))] l where
 go:=fun P H i d R hd=>by
  obtain ⟨v,e,h⟩:=R.atT; cases e
  obtain ⟨_,vs,e,h1,h2⟩:=h.tup_eq; cases e
  obtain ⟨x,h3,_⟩:=h2.at hd
  exact ⟨vs,x,SqT.of (R.hv _ _ h1),h3⟩
 stop:=fun P H i R hi=>by
  obtain ⟨v,e,h⟩:=R.atT; cases e
  obtain ⟨_,vs,e,h1,h2⟩:=h.tup_eq; cases e
  exact ⟨vs,SqT.of (R.hv _ _ h1),by rw [h2.len]; exact hi⟩
 yld:=fun P H i d x H' R hd q=>by
  obtain ⟨rfl,q⟩:=q
  obtain ⟨v,e,h⟩:=R.atT; cases e
  obtain ⟨_,vs,e,h1,h2⟩:=h.tup_eq; cases e
  obtain ⟨y,h3,h4⟩:=h2.at hd
  rw [q vs (SqT.of (R.hv _ _ h1))] at h3
  cases h3
  exact R.add h4
section
variable {X:Cx} {Ex:ExT} {tg l a b:Expr} {t:XT} {u:XA} {p pos:Pos}
theorem cn_ (h:XE X Ex l t):XIt X Ex tg l (xiL t):=fun F=>(pi_list (h F)).weak fun σ H R=>by
 rintro ⟨ρ,fr,Qx,E,t,k⟩
 refine ⟨ρ,fr,_,E,t,fun v s H' ρ' E' q => ?_⟩
 split at q
 ·rename_i m hm
  have R1:=E'.front.frz
  rw [hm] at R1
  obtain ⟨v',e,h⟩:=R1.atT; cases e
  obtain ⟨c,vs,rfl,h1,h2⟩:=h.lst_eq
  exact ⟨c,rfl,⟨vs,SqL.of (R1.hv _ _ h1)⟩,k _ H' ρ' [(.v (.tr (.lst m)),some (.ref c))] m (EOk.back E'.len R1) itx_list q⟩
 ·exact q.elim
theorem xi_tup (h:XE X Ex l t):XIt X Ex tg l (xiT t):=fun F=>(pi_tup (h F)).weak fun σ H R=>by
 rintro ⟨ρ,fr,Qx,E,t,k⟩
 refine ⟨ρ,fr,_,E,t,fun v s H' ρ' E' q => ?_⟩
 split at q
 ·rename_i m hm
  have R1:=E'.front.frz
  rw [hm] at R1
  obtain ⟨v',e,h⟩:=R1.atT; cases e
  obtain ⟨c,vs,rfl,h1,h2⟩:=h.tup_eq
  exact ⟨c,rfl,⟨vs,SqT.of (R1.hv _ _ h1)⟩,k _ H' ρ' [(.v (.tr (.tup m)),some (.ref c))] m (EOk.back E'.len R1) itx_tup q⟩
 ·exact q.elim
def rngX (lo:Int) (n:Nat):List Dx:=(List.range n).map fun k:Nat=>.int (lo + (k:Int))
theorem rngX_at {lo:Int} {n i:Nat} {d:Dx} (h:(rngX lo n)[i]? = some d):i < n∧d=.int (lo + i):=by
 unfold rngX at h
 rw [List.getElem?_map] at h
 obtain ⟨k,h1,h2⟩:=Option.map_eq_some_iff.mp h
 obtain ⟨h3,h4⟩:=List.getElem?_eq_some_iff.mp h1
 rw [List.getElem_range] at h4
 rw [List.length_range] at h3
 subst h4
 exact ⟨h3,h2.symm⟩
theorem itx_range {F:Fm} {lo:Int} {n:Nat}:ItX F (Itr lo n) [] (rngX lo n) where
 go:=fun P H i d R hd=>(rngX_at hd).1
 stop:=fun P H i R hi=>by unfold rngX at hi; rw [List.length_map,List.length_range] at hi; exact hi
 yld:=fun P H i d x H' R hd q=>by
  obtain ⟨rfl,rfl⟩:=q
  rw [(rngX_at hd).2]
  exact R.add (IsX.of_int _)
def xiR1 (u:XA):XI:=fun ρ Q=>u ρ fun ss ρ'=>match ss.map Sv.d with
 | [.int j]=>(-(2 ^ 62)≤j∧j < 2 ^ 62)∧Q (rngX 0 j.toNat) ρ'
 | _=>False
theorem co_ (hm:X.mg "range" = none) (ha:XAs X Ex [a] u) (hg:Gl X "range" := by rfl) (hs:starEach [a] X.env=[(false,eval a X.env)]:=by rfl):XIt X Ex tg (.Call (.Name "range" p) [a] [] pos) (xiR1 u):=fun F=>(hv_ hg hm (ha F) hs).weak fun σ H R=>by
 rintro ⟨ρ,fr,Qx,E,t,k⟩
 refine ⟨ρ,fr,_,E,t,fun vs ss H2 ρ2 hl E2 q => ?_⟩
 obtain ⟨R,hs⟩:=E2.many hl
 split at q
 ·rename_i j hj
  rw [hj] at hs
  obtain ⟨x,rfl,hx⟩:=dk_ hs
  cases hx.int_eq
  exact ⟨j,rfl,q.1.1,q.1.2,k _ H2 ρ2 [] _ ⟨E2.len,R⟩ itx_range q.2⟩
 ·exact q.elim
end
abbrev XG:=Dx→En→(En→Prop)→Prop
def GX (n:Nat) (g:TG) (gx:XG):Prop := ∀ (F:Fm) (ρ:En) (σ:St) (fr:List Rw) (H:Hp) (d:Dx) (x:V) (Q:St→Hp→Prop) (Qx:En→Prop),EOk F ρ σ ((.v (.tr d),some x) :: fr) H→gx d ρ Qx →
 (∀ σ' H' ρ',EOk F ρ' σ' fr H'→σ'.length=σ.length→(∀ i,n≤i→σ'[i]? = σ[i]?)→Qx ρ'→Q σ' H')→g x σ H Q
def gxN (i:Nat):XG:=fun d ρ Q=>Q (ρ.set i (.v (.tr d)))
theorem eok_set {F:Fm} {ρ:En} {σ:St} {fr:List Rw} {H:Hp} {s:Sv} {x:V} {i:Nat} (E:EOk F ρ σ ((.v s,some x) :: fr) H):EOk F (ρ.set i (.v s)) (σ.set i (some x)) fr H:=by
 by_cases hi:i < ρ.length
 ·refine ⟨by rw [List.length_set,List.length_set]; exact E.len,?_⟩
  have hz:=pull (l:=ρ.zip σ) (i:=i) (List.getElem?_eq_getElem (by rw [List.length_zip]; have:=E.len; omega))
  have R:=E.front.perm ((hz.append_right fr).cons _)
  exact (R.perm (.swap _ _ _)).tail.perm ((zip_put E.len hi).append_right fr).symm
 ·rw [List.set_eq_of_length_le (by omega),List.set_eq_of_length_le (by have:=E.len; omega)]
  exact E.drop
theorem bl_ {n i:Nat} (h:i < n):GX n (gName i) (gxN i):=fun F ρ σ fr H d x Q Qx E g k=>k _ H _ (eok_set E) (List.length_set) (fun j hj=>List.getElem?_set_ne (by omega)) g
@[reducible] def gsOf:List Nat→TGs
 | []=>gNil
 | i :: is=>gCons (gName i) (gsOf is)
def gxs:List Nat→List Dx→En→(En→Prop)→Prop
 | [],[],ρ,Q=>Q ρ
 | i :: is,d :: ds,ρ,Q=>gxs is ds (ρ.set i (.v (.tr d))) Q
 | _,_,_,_=>False
def gxT (is:List Nat):XG:=fun d ρ Q=>match d with
 | .tup ds=>gxs is ds ρ Q
 | _=>False
theorem gxs_ok {n:Nat} {F:Fm} {fr:List Rw} {H:Hp} {Q:St→Hp→Prop} {Qx:En→Prop}:∀ {is:List Nat} {ds:List Dx} {xs:List V} {ρ:En} {σ:St},(∀ i∈is,i < n)→EOk F ρ σ fr H→All2 (IsX (hid (owns (ρ.zip σ ++ fr)) (F.vis H))) ds xs→gxs is ds ρ Qx →
  (∀ σ' ρ',EOk F ρ' σ' fr H→σ'.length=σ.length→(∀ i,n≤i→σ'[i]? = σ[i]?)→Qx ρ'→Q σ' H)→gsOf is xs σ H Q
 | [],[],xs,ρ,σ,_,E,ha,g,k=>⟨ha,k σ ρ E rfl (fun _ _=>rfl) g⟩
 | i :: is,d :: ds,xs,ρ,σ,hi,E,⟨x,xr,e,h1,h2⟩,g,k=>by
  have E1:EOk F (ρ.set i (.v (.tr d))) (σ.set i (some x)) fr H:=eok_set (EOk.back E.len (E.rep.add h1))
  refine ⟨x,xr,e,gxs_ok (fun j hj=>hi j (List.mem_cons_of_mem _ hj)) E1 (h2.imp fun a b z=>z.to (av_ fun c hc => ?_)) g fun σ' ρ' E' hl hs q=>k σ' ρ' E' (hl.trans List.length_set) (fun j hj=>(hs j hj).trans (List.getElem?_set_ne (by have:=hi i List.mem_cons_self; omega))) q⟩
  by_cases hlt:i < ρ.length
  ·have hp:=((zip_put (s:=.v (.tr d)) (v:=some x) E.len hlt).append_right fr).flatMap_right ownA
   have hz:=((pull (l:=ρ.zip σ) (i:=i) (List.getElem?_eq_getElem (by rw [List.length_zip]; have:=E.len; omega))).append_right fr).flatMap_right ownA
   refine hz.mem_iff.mpr ?_
   have:=hp.mem_iff.mp hc
   rw [List.cons_append,List.flatMap_cons] at this
   rw [List.cons_append,List.flatMap_cons]
   rcases List.mem_append.mp this with z | z
   ·cases z
   ·exact List.mem_append_right _ z
  ·rw [List.set_eq_of_length_le (by omega),List.set_eq_of_length_le (by have:=E.len; omega)] at hc
   exact hc
 | [],_ :: _,_,_,_,_,_,_,g,_=>g.elim
 | _ :: _,[],_,_,_,_,_,_,g,_=>g.elim
theorem gxs_len {Q:En→Prop}:∀ {is:List Nat} {ds:List Dx} {ρ:En},gxs is ds ρ Q→ds.length=is.length
 | [],[],_,_=>rfl
 | i :: is,d :: ds,ρ,g=>congrArg (· + 1) (gxs_len (is:=is) (ds:=ds) (ρ:=ρ.set i (.v (.tr d))) g)
 | [],_ :: _,_,g=>g.elim
 | _ :: _,[],_,g=>g.elim
theorem ik_ {K:FG_} {n m:Nat} {is:List Nat} (hm:is.length=m) (h:∀ i∈is,i < n):GX n (gTup K m (gsOf is)) (gxT is):=fun F ρ σ fr H d x Q Qx E g k=>by
 unfold gxT at g
 split at g
 ·obtain ⟨R,hx⟩:=E.one
  obtain ⟨a,vs,rfl,h1,h2⟩:=hx.tup_eq
  exact ⟨a,vs,rfl,SqT.of (R.hv _ _ h1),by rw [h2.len,gxs_len g,hm],gxs_ok h E.drop h2 g fun σ' ρ' E' hl hs q=>k σ' H ρ' E' hl hs q⟩
 ·exact g.elim
def xYes:XC:=fun ρ Q=>Q true ρ
def XCs (X:Cx) (Ex:ExT) (ifs:List Expr) (t:XC):Prop := ∀ F,[OkF X Ex F]→PCs X ifs (tXc F t)
theorem by_ {X:Cx} {Ex:ExT}:XCs X Ex [] xYes:=fun F=>(pcs_nil (X:=X)).weak fun σ H Q=>by
 rintro ⟨ρ,fr,Qx,E,t,k⟩
 exact k true H ρ E t
theorem xcs_one {X:Cx} {Ex:ExT} {c:Expr} {t:XC} (h:XTe X Ex c t):XCs X Ex [c] t:=fun F=>pcs_one (h F)
def compX (n:Nat) (gx:XG) (tc:XC) (te:XT) (Q:List Dx→List Sl→Prop):List Dx→List Sl→List Dx→Prop
 | [],cs,acc=>Q acc cs
 | d :: ds,cs,acc=>gx d (List.replicate n .un ++ cs) fun ρ1=>tc ρ1 fun b ρ2=>if b=true then te ρ2 fun s ρ3=>compX n gx tc te Q ds (ρ3.drop n) (acc ++ [s.d]) else compX n gx tc te Q ds (ρ2.drop n) acc
def cut:List Nat→En→En
 | [],ρ=>ρ
 | j :: js,ρ=>cut js (ρ.set j .un)
def caps (outs:List Nat) (ρ:En):List Sl:=outs.map fun j=>(ρ[j]?).getD .un
def back:List Nat→List Sl→En→En
 | j :: js,c :: cs,ρ=>back js cs (ρ.set j c)
 | _,_,ρ=>ρ
def xComp (n:Nat) (outs:List Nat) (ti:XI) (gx:XG) (tc:XC) (te:XT):XT:=fun ρ Q=>ti ρ fun ds ρ1=>ds.length≤1000000∧compX n gx tc te (fun acc cs=>Q (.ol acc) (back outs cs ρ1)) ds (caps outs ρ1) []
theorem sw {α:Type} {A B C:List α}:(A ++ (B ++ C)).Perm (B ++ (A ++ C)):=by
 rw [← List.append_assoc,← List.append_assoc]
 exact List.perm_append_comm.append_right C
section
variable {F:Fm} {H:Hp} {σ:St}
abbrev vals (σ:St) (outs:List Nat):St:=outs.map fun j=>(σ[j]?).join
theorem caps_set {js:List Nat} {j:Nat} {s:Sl} {ρ:En} (h:j∉js):caps js (ρ.set j s)=caps js ρ:=by
 unfold caps
 refine List.map_congr_left fun k hk => ?_
 rw [List.getElem?_set_ne (fun z=>h (by rw [z]; exact hk))]
theorem cut_len:∀ {js:List Nat} {ρ:En},(cut js ρ).length=ρ.length
 | [],_=>rfl
 | j :: js,ρ=>(cut_len (js:=js)).trans List.length_set
theorem cut_set:∀ {js:List Nat} {j:Nat} {s:Sl} {ρ:En},j∉js→cut js (ρ.set j s)=(cut js ρ).set j s
 | [],_,_,_,_=>rfl
 | k :: js,j,s,ρ,h=>by
  show cut js ((ρ.set j s).set k .un)=(cut js (ρ.set k .un)).set j s
  rw [List.set_comm _ _ (fun z=>h (by rw [z]; exact List.mem_cons_self)),cut_set fun z=>h (List.mem_cons_of_mem _ z)]
theorem pullAll:∀ {outs:List Nat} {ρ:En} {T:List Rw},outs.Nodup→ρ.length=σ.length→Rep F (ρ.zip σ ++ T) H→Rep F ((caps outs ρ).zip (vals σ outs) ++ ((cut outs ρ).zip σ ++ T)) H
 | [],_,_,_,_,R=>R
 | j :: js,ρ,T,hn,hl,R=>by
  have hn':=List.nodup_cons.mp hn
  have step:Rep F ((ρ.set j .un).zip σ ++ (((ρ[j]?).getD .un,(σ[j]?).join) :: T)) H:=by
   by_cases hj:j < ρ.length
   ·have h1:ρ[j]? = some ρ[j]:=List.getElem?_eq_getElem hj
    have h2:σ[j]? = some (σ[j]'(by omega)):=List.getElem?_eq_getElem (by omega)
    have R1:=R.perm ((cd_ h1 h2).append_right T)
    have R2:=R1.addU (x:=σ[j]'(by omega))
    rw [h1,h2]
    refine R2.perm ?_
    refine (List.Perm.swap _ _ _).trans ?_
    exact (((bw_ hl hj h2).append_right T).symm.cons _).trans mid.symm
   ·rw [List.set_eq_of_length_le (by omega),List.getElem?_eq_none (by omega),List.getElem?_eq_none (by omega)]
    exact (R.addU (x:=none)).perm mid.symm
  have:=pullAll (outs:=js) hn'.2 (by rw [List.length_set]; exact hl) step
  rw [caps_set hn'.1] at this
  show Rep F ((((ρ[j]?).getD .un,(σ[j]?).join) :: (caps js ρ).zip (vals σ js)) ++ ((cut js (ρ.set j .un)).zip σ ++ T)) H
  refine this.perm ?_
  refine List.Perm.trans ?_ (List.Perm.refl _)
  rw [← List.append_assoc]
  exact mid.trans (by rw [List.append_assoc]; exact .refl _)
theorem putAll:∀ {outs:List Nat} {cs:List Sl} {ρ:En} {T:List Rw},outs.Nodup→ρ.length=σ.length→cs.length=outs.length→Rep F (cs.zip (vals σ outs) ++ ((cut outs ρ).zip σ ++ T)) H→Rep F ((back outs cs ρ).zip σ ++ T) H
 | [],[],_,_,_,_,_,R=>R
 | [],_ :: _,_,_,_,_,h,_=>by simp at h
 | _ :: _,[],_,_,_,_,h,_=>by simp at h
 | j :: js,c :: cs,ρ,T,hn,hl,hc,R=>by
  have hn':=List.nodup_cons.mp hn
  refine putAll (outs:=js) (cs:=cs) (ρ:=ρ.set j c) hn'.2 (by rw [List.length_set]; exact hl) (by simpa using hc) ?_
  have R1:Rep F ((c,(σ[j]?).join) :: (cs.zip (vals σ js) ++ ((cut js (ρ.set j .un)).zip σ ++ T))) H:=R
  rw [cut_set hn'.1] at R1 ⊢
  have hcl:(cut js ρ).length=σ.length:=cut_len.trans hl
  by_cases hj:j < ρ.length
  ·have hjc:j < (cut js ρ).length:=by rw [cut_len]; exact hj
   have h2:σ[j]? = some (σ[j]'(by omega)):=List.getElem?_eq_getElem (by omega)
   rw [h2] at R1
   have p1:=((bw_ (s:=.un) hcl hjc h2).append_right T)
   have p2:=((bw_ (s:=c) hcl hjc h2).append_right T)
   have R2:=R1.perm ((List.Perm.append_left _ p1).cons _)
   have R3:=R2.perm ((mid.cons _).trans (.swap _ _ _))
   exact R3.tail.perm (mid.symm.trans (List.Perm.append_left _ p2.symm))
  ·have hz:(cut js ρ).length≤j:=by rw [cut_len]; omega
   rw [List.set_eq_of_length_le hz] at R1 ⊢
   exact R1.tail
theorem Rep.drops:∀ {A P:List Rw},Rep F (A ++ P) H→Rep F P H
 | [],_,R=>R
 | _ :: _,_,R=>Rep.drops R.tail
theorem Rep.addUs {P:List Rw} (R:Rep F P H):∀ n,Rep F (List.replicate n (.un,none) ++ P) H
 | 0=>R
 | n + 1=>(Rep.addUs R n).addU
def accR (ds:List Dx) (xs:List V):List Rw:=(ds.zip xs).map fun p=>(.v (.tr p.1),some p.2)
theorem Rep.accs:∀ {ds:List Dx} {xs:List V} {P:List Rw},ds.length=xs.length→Rep F (accR ds xs ++ P) H→Rep F P H∧All2 (IsX (hid (owns P) (F.vis H))) ds xs
 | [],[],P,_,R=>⟨R,rfl⟩
 | [],_ :: _,_,h,_=>by simp at h
 | _ :: _,[],_,h,_=>by simp at h
 | d :: ds,x :: xs,P,h,R=>by
  obtain ⟨v,e,hx⟩:=Rep.atT (show Rep F ((.v (.tr d),some x) :: (accR ds xs ++ P)) H from R)
  cases e
  obtain ⟨R1,h1⟩:=Rep.accs (ds:=ds) (xs:=xs) (by simpa using h) (Rep.tail (show Rep F ((.v (.tr d),some x) :: (accR ds xs ++ P)) H from R))
  refine ⟨R1,x,xs,rfl,hx.to (av_ fun c hc => ?_),h1⟩
  unfold owns
  rw [List.flatMap_append]
  exact List.mem_append_right _ hc
end
section
variable {X:Cx} {Ex:ExT} {dsc scope:Scope} {tgs N':List Str} {outs:List Nat} {tg iter elt:Expr} {ifs:List Expr} {pos:Pos} {ti:XI} {g:TG} {gx:XG} {tc:XC} {te:XT}
theorem im_ {F:Fm} {n:Nat} (hgx:GX n g gx) (hno:outs.Nodup) {tcT:TT} {teT:TE} (htc:∀ σ H Q,tXc F tc σ H Q→tcT σ H Q) (hte:∀ σ H Q,tX F te σ H Q→teT σ H Q) {σ:St} {H':Hp} {Q:VK} {Qx:Sv→En→Prop} {ρ':En} {fr row:List Rw} {ds:List Dx} {J:It}
  (k:∀ v s H' ρ',EOk F ρ' σ ((.v s,some v) :: fr) H'→Qx s ρ'→Q v H') (E':EOk F ρ' σ (row ++ fr) H') (hJ:ItX F J row ds) (q:ds.length≤1000000∧compX n gx tc te (fun acc cs=>Qx (.ol acc) (back outs cs ρ')) ds (caps outs ρ') []) :
  ∃ W:Nat→Nat→List V→Hp→Prop,(∃ m,W 0 m [] H')∧∀ i m acc H,W i m acc H →
  (J.stop i H∧acc.length≤sizeLine∧∀ l,H l=none→Q (.ref l) (upd H l (.lst acc))) ∨
  (J.go i H∧acc.length < sizeLine∧∃ N:List V→Hp→Prop,(∀ acc' H',N acc' H'→∃ m',m' < m∧W (i + 1) m' acc' H')∧∀ x H',J.yld i H x H'→g x (pick n outs σ) H' fun σ2 H2=>tcT σ2 H2 fun b H3 =>
   if b=true then teT σ2 H3 fun y H4=>N (acc ++ [y]) H4 else N acc H3):=by
 obtain ⟨hd,q⟩:=q
 have zl:=line1
 refine ⟨fun i m acc H=>m=ds.length - i∧i≤ds.length∧∃ cs accD,cs.length=outs.length∧accD.length=acc.length∧acc.length≤i∧Rep F (cs.zip (vals σ outs) ++ (accR accD acc ++ (row ++ ((cut outs ρ').zip σ ++ fr)))) H ∧
  compX n gx tc te (fun acc cs=>Qx (.ol acc) (back outs cs ρ')) (ds.drop i) cs accD,⟨ds.length,by simp,Nat.zero_le _,caps outs ρ',[],by simp [caps],rfl,Nat.le_refl _,?_,by simpa using q⟩,?_⟩
 ·have R:=pullAll (outs:=outs) hno E'.len E'.rep
  refine R.perm (List.Perm.append_left _ ?_)
  exact sw
 rintro i m acc H3 ⟨rfl,hi,cs,accD,hcl,hal,hai,R,hq⟩
 have hrow:Rep F (row ++ (cs.zip (vals σ outs) ++ (accR accD acc ++ ((cut outs ρ').zip σ ++ fr)))) H3:=by
  exact R.perm ((List.Perm.append_left _ sw).trans sw)
 by_cases hlt:i < ds.length
 ·right
  have hdi:ds[i]? = some ds[i]:=List.getElem?_eq_getElem hlt
  rw [List.drop_eq_getElem_cons hlt] at hq
  refine ⟨hJ.go _ _ i _ hrow hdi,by omega,fun acc' H4 => ∃ m',m' < ds.length - i∧(m'=ds.length - (i + 1)∧i + 1≤ds.length∧∃ cs accD,cs.length=outs.length∧accD.length=acc'.length∧acc'.length≤i + 1∧Rep F (cs.zip (vals σ outs) ++ (accR accD acc' ++ (row ++ ((cut outs ρ').zip σ ++ fr)))) H4 ∧
   compX n gx tc te (fun acc cs=>Qx (.ol acc) (back outs cs ρ')) (ds.drop (i + 1)) cs accD),fun acc' H4 h=>h,fun x H4 hy => ?_⟩
  have R4:=hJ.yld _ _ i _ x H4 hrow hdi hy
  have hzip:∀ (cs:List Sl),cs.length=outs.length→(List.replicate n Sl.un ++ cs).zip (pick n outs σ)=List.replicate n (Sl.un,none) ++ cs.zip (vals σ outs):=fun cs hcs=>by
   unfold pick
   rw [List.zip_append (by rw [List.length_replicate,List.length_replicate]),List.zip_replicate]
   simp
  have Ei:EOk F (List.replicate n .un ++ cs) (pick n outs σ) ((.v (.tr ds[i]),some x) :: (accR accD acc ++ (row ++ ((cut outs ρ').zip σ ++ fr)))) H4:=by
   refine ⟨by rw [pick_len,List.length_append,List.length_replicate,hcl],?_⟩
   rw [hzip cs hcl,List.append_assoc]
   refine Rep.addUs (R4.perm ?_) n
   exact ((sw.trans (List.Perm.append_left _ sw)).cons _).trans mid.symm
  have fin:∀ {ρ3:En} {σ2:St} {H5:Hp} {accD':List Dx} {acc':List V},σ2.length=(pick n outs σ).length→(∀ j,n≤j→σ2[j]? = (pick n outs σ)[j]?)→EOk F ρ3 σ2 (accR accD' acc' ++ (row ++ ((cut outs ρ').zip σ ++ fr))) H5→accD'.length=acc'.length→acc'.length≤i + 1 →
    compX n gx tc te (fun acc cs=>Qx (.ol acc) (back outs cs ρ')) (ds.drop (i + 1)) (ρ3.drop n) accD' →
    ∃ m',m' < ds.length - i∧(m'=ds.length - (i + 1)∧i + 1≤ds.length∧∃ cs accD,cs.length=outs.length∧accD.length=acc'.length∧acc'.length≤i + 1∧Rep F (cs.zip (vals σ outs) ++ (accR accD acc' ++ (row ++ ((cut outs ρ').zip σ ++ fr)))) H5 ∧
     compX n gx tc te (fun acc cs=>Qx (.ol acc) (back outs cs ρ')) (ds.drop (i + 1)) cs accD):=fun {ρ3 σ2 H5 accD' acc'} hl2 hs2 E3 h1 h2 h3=>by
   have hl3:ρ3.length=n + outs.length:=by rw [E3.len,hl2,pick_len]
   refine ⟨ds.length - (i + 1),by omega,rfl,hlt,ρ3.drop n,accD',by rw [List.length_drop,hl3]; omega,h1,h2,?_,h3⟩
   have hv:σ2.drop n=vals σ outs:=by
    apply List.ext_getElem?
    intro j
    rw [List.getElem?_drop,hs2 _ (Nat.le_add_right n j)]
    unfold pick
    rw [List.getElem?_append_right (by rw [List.length_replicate]; omega),List.length_replicate,Nat.add_sub_cancel_left]
   have hz:ρ3.zip σ2=(ρ3.take n).zip (σ2.take n) ++ (ρ3.drop n).zip (σ2.drop n):=by
    rw [← List.zip_append (by rw [List.length_take,List.length_take,E3.len]),List.take_append_drop,List.take_append_drop]
   have R5:=E3.rep
   rw [hz,hv,List.append_assoc] at R5
   exact Rep.drops R5
  refine hgx F _ _ _ H4 _ x _ _ Ei hq fun σ2 H5 ρ1 E1 hl2 hs2 q1=>htc _ _ _ ⟨ρ1,_,_,E1,q1,fun b H6 ρ2 E2 q2 => ?_⟩
  cases b with
  | false=>exact fin hl2 hs2 E2 hal (by omega) q2
  | true =>
   refine hte _ _ _ ⟨ρ2,_,_,E2,q2,fun y s H7 ρ3 E3 q3 => ?_⟩
   refine fin (accD':=accD ++ [s.d]) (acc':=acc ++ [y]) hl2 hs2 ⟨E3.len,?_⟩ (by rw [List.length_append,List.length_append,hal]; rfl) (by rw [List.length_append]; show acc.length + 1≤_; omega) q3
   have R7:=(EOk.front E3).frz
   have he:accR (accD ++ [s.d]) (acc ++ [y])=accR accD acc ++ [(.v (.tr s.d),some y)]:=by
    unfold accR
    rw [List.zip_append hal,List.map_append]
    rfl
   rw [he,List.append_assoc]
   exact R7.perm (mid.symm.trans (List.Perm.append_left _ mid.symm))
 ·left
  have hie:i=ds.length:=by omega
  subst hie
  rw [List.drop_length] at hq
  refine ⟨hJ.stop _ _ _ hrow (Nat.le_refl _),by omega,fun l hl => ?_⟩
  have R1:=R.perm (sw.trans (List.Perm.append_left _ sw))
  obtain ⟨R2,ha⟩:=R1.accs hal
  have R3:Rep F (row ++ ((.v (.ol accD),some (.ref l)) :: (cs.zip (vals σ outs) ++ ((cut outs ρ').zip σ ++ fr)))) (upd H3 l (.lst acc)):=(R2.newL hl ha).perm mid.symm
  have R4:Rep F (cs.zip (vals σ outs) ++ ((cut outs ρ').zip σ ++ ((.v (.ol accD),some (.ref l)) :: fr))) (upd H3 l (.lst acc)):=R3.drops.perm (mid.symm.trans (List.Perm.append_left _ mid.symm))
  have hbl:∀ {js:List Nat} {cs:List Sl} {ρ:En},(back js cs ρ).length=ρ.length:=by
   intro js
   induction js with
   | nil=>intro cs ρ; cases cs <;> rfl
   | cons j js ih=>intro cs ρ; cases cs with
    | nil=>rfl
    | cons c cs=>exact (ih (cs:=cs) (ρ:=ρ.set j c)).trans List.length_set
  exact k _ (.ol accD) _ (back outs cs ρ') ⟨hbl.trans E'.len,putAll hno E'.len hcl R4⟩ hq
theorem tComp_x {F:Fm} {n:Nat} (hgx:GX n g gx) (hno:outs.Nodup):∀ σ H Q,tX F (xComp n outs ti gx tc te) σ H Q→tComp n outs (tXi F ti) g (tXc F tc) (tX F te) σ H Q:=by
 rintro σ H Q ⟨ρ,fr,Qx,E,t,k⟩
 exact ⟨ρ,fr,_,E,t,fun J H' ρ' row ds E' hJ q=>im_ hgx hno (fun _ _ _ z=>z) (fun _ _ _ z=>z) k E' hJ q⟩
end
end Lf
namespace L2
open PySem
theorem PS.weak {X:Cx} {e:Stmt} {t u:TS} (h:PS X e t) (w:∀ D σ H,u D σ H→t D σ H):PS X e u:=fun pins s σ H D I q=>h pins s σ H D I (w D σ H q)
theorem PSs.weak {X:Cx} {e:List Stmt} {t u:TS} (h:PSs X e t) (w:∀ D σ H,u D σ H→t D σ H):PSs X e u:=fun pins s σ H D I q=>h pins s σ H D I (w D σ H q)
end L2
namespace Lf
open PySem L2
theorem cj_ {X:Cx} {Ex:ExT} {dsc scope:Scope} {tgs N' N:List Str} {outs:List Nat} {tg iter elt:Expr} {ifs:List Expr} {pos:Pos} {ti:XI} {g:TG} {gx:XG} {tc:XC} {te:XT} (S:CompScope dsc scope N tgs outs N') (hi:XIt X Ex tg iter ti) (hg:∀ cl C s H ex,PG (cxComp X N' scope cl C s H ex) tg g) (hgx:GX tgs.length g gx) (hgt:Tgt tgs.length g)
  (hcs:∀ cl C s H ex,XCs (cxComp X N' scope cl C s H ex) noEx ifs tc) (he:∀ cl C s H ex,XE (cxComp X N' scope cl C s H ex) noEx elt te) (hno:outs.Nodup:=by decide) (hN0:X.N=N:=by rfl) (hsc:X.env.scope=dsc:=by rfl) (hc:X.calm=true:=by rfl) (hs:∀ x,foldedSetIterable iter X.env x=pure x:=by intro _; rfl) :
  XE X Ex (.ListComp elt [⟨tg,iter,ifs,0⟩] scope pos) (xComp tgs.length outs ti gx tc te):=fun F =>
 (hx_ S (hi F) hg hgt (fun a b c d e=>hcs a b c d e F) (fun a b c d e=>he a b c d e F) hN0 hsc hc hs).weak (tComp_x hgx hno)
structure XD where
 nx:En→Prop
 rt:Sv→En→Prop
 bk:En→Prop
 ct:En→Prop
abbrev XS:=En→XD→Prop
structure DOk (F:Fm) (n:Nat) (fr:List Rw) (D:Ends) (d:XD):Prop where
 nx:∀ σ' H' ρ',σ'.length=n→EOk F ρ' σ' fr H'→d.nx ρ'→D.nx σ' H'
 rt:∀ v s σ' H' ρ',σ'.length=n→EOk F ρ' σ' ((.v s,some v) :: fr) H'→d.rt s ρ'→D.rt v H'
 bk:∀ σ' H' ρ',σ'.length=n→EOk F ρ' σ' fr H'→d.bk ρ'→D.bk σ' H'
 ct:∀ σ' H' ρ',σ'.length=n→EOk F ρ' σ' fr H'→d.ct ρ'→D.ct σ' H'
def tXS (F:Fm) (G:XS):TS:=fun D σ H => ∃ ρ fr d,EOk F ρ σ fr H∧G ρ d∧DOk F σ.length fr D d
def XSt (X:Cx) (Ex:ExT) (st:Stmt) (G:XS):Prop := ∀ F,[OkF X Ex F]→PS X st (tXS F G)
def XSs (X:Cx) (Ex:ExT) (st:List Stmt) (G:XS):Prop := ∀ F,[OkF X Ex F]→PSs X st (tXS F G)
def xNext:XS:=fun ρ D=>D.nx ρ
def xSeq (G K:XS):XS:=fun ρ D=>G ρ { D with nx:=fun ρ'=>K ρ' D }
def xSet (i:Nat) (t:XT):XS:=fun ρ D=>t ρ fun s ρ'=>D.nx (ρ'.set i (.v s))
def xAsg (t:XT) (gx:XG):XS:=fun ρ D=>t ρ fun s ρ'=>gx s.d ρ' D.nx
def xExp (t:XT):XS:=fun ρ D=>t ρ fun _ ρ'=>D.nx ρ'
def xRet (t:XT):XS:=fun ρ D=>t ρ fun s ρ'=>D.rt s ρ'
def xIf (c:XC) (G K:XS):XS:=fun ρ D=>c ρ fun b ρ'=>if b=true then G ρ' D else K ρ' D
def forX (gx:XG) (G:XS) (D:XD):List Dx→En→Prop
 | [],ρ=>D.nx ρ
 | d :: ds,ρ=>gx d ρ fun ρ1=>G ρ1 { D with nx:=forX gx G D ds,ct:=forX gx G D ds,bk:=D.nx }
def xFor (ti:XI) (gx:XG) (G:XS):XS:=fun ρ D=>ti ρ fun ds ρ'=>forX gx G D ds ρ'
section
variable {X:Cx} {Ex:ExT} {st:Stmt} {rest:List Stmt} {G K:XS} {e c tg iter:Expr} {t:XT} {tc:XC} {pos:Pos} {i:Nat}
theorem aj_:XSs X Ex [] xNext:=fun F=>(pss_nil (X:=X)).weak fun D σ H=>by
 rintro ⟨ρ,fr,d,E,q,k⟩
 exact k.nx σ H ρ rfl E q
theorem ac_ (h:XSt X Ex st G) (h':XSs X Ex rest K):XSs X Ex (st :: rest) (xSeq G K):=fun F=>(cs_ (h F) (h' F)).weak fun D σ H=>by
 rintro ⟨ρ,fr,d,E,q,k⟩
 exact ⟨ρ,fr,_,E,q,⟨fun σ' H' ρ' hl E' q'=>⟨ρ',fr,d,E',q',by rw [hl]; exact k⟩,k.rt,k.bk,k.ct⟩⟩
theorem af_ (h:XSt X Ex st G):XSs X Ex [st] G:=fun F=>ed_ (h F)
theorem ap_ (h:∀ F,[OkF X Ex F]→PS X st (tAsg (tX F t) (gName i))):XSt X Ex st (xSet i t):=fun F=>(h F).weak fun D σ H=>by
 rintro ⟨ρ,fr,d,E,q,k⟩
 exact ⟨ρ,fr,_,E,q,fun v s H' ρ' E' q'=>k.nx _ H' _ List.length_set (eok_set E') q'⟩
theorem xs_asgP {n:Nat} {g:TG} {gx:XG} (hgx:GX n g gx) (h:∀ F,[OkF X Ex F]→PS X st (tAsg (tX F t) g)):XSt X Ex st (xAsg t gx):=fun F=>(h F).weak fun D σ H=>by
 rintro ⟨ρ,fr,d,E,q,k⟩
 exact ⟨ρ,fr,_,E,q,fun v s H' ρ' E' q'=>hgx F ρ' σ fr H' s.d v _ _ (EOk.back E'.len E'.front.frz) q' fun σ' H2 ρ2 E2 hl _ q2=>k.nx σ' H2 ρ2 hl E2 q2⟩
theorem fw_ (he:XE X Ex e t) (hs:swapsWith e none pos.line X.env=pure false:=by rfl):XSt X Ex (.Expr e pos) (xExp t):=fun F=>(ht_ (he F) hs).weak fun D σ H=>by
 rintro ⟨ρ,fr,d,E,q,k⟩
 exact ⟨ρ,fr,_,E,q,fun v s H' ρ' E' q'=>k.nx σ H' ρ' rfl E'.drop q'⟩
theorem ai_ (he:XE X Ex e t):XSt X Ex (.Return (some e) pos) (xRet t):=fun F=>(ps_ret (he F)).weak fun D σ H=>by
 rintro ⟨ρ,fr,d,E,q,k⟩
 exact ⟨ρ,fr,_,E,q,fun v s H' ρ' E' q'=>k.rt v s σ H' ρ' rfl E' q'⟩
theorem bf_ {a b:List Stmt} (hc:XTe X Ex c tc) (ha:XSs X Ex a G) (hb:XSs X Ex b K):XSt X Ex (.If c a b pos) (xIf tc G K):=fun F=>(ps_if (hc F) (ha F) (hb F)).weak fun D σ H=>by
 rintro ⟨ρ,fr,d,E,q,k⟩
 refine ⟨ρ,fr,_,E,q,fun b H' ρ' E' q' => ?_⟩
 cases b with
 | true=>exact ⟨ρ',fr,d,E',q',k⟩
 | false=>exact ⟨ρ',fr,d,E',q',k⟩
def xNo:XS:=fun _ _=>False
theorem xs_no:XSt X Ex st xNo:=fun F=>(ps_never (X:=X)).weak fun D σ H=>by
 rintro ⟨ρ,fr,d,E,q,k⟩
 exact q
theorem for_core {F:Fm} {n:Nat} {g:TG} {gx:XG} (hgx:GX n g gx) {tb:TS} (htb:∀ D σ H,tXS F G D σ H→tb D σ H) {D:Ends} {d:XD} {σ:St} {H':Hp} {ρ':En} {fr row:List Rw} {ds:List Dx} {J:It} (k:DOk F σ.length fr D d) (E':EOk F ρ' σ (row ++ fr) H') (hJ:ItX F J row ds) (q':forX gx G d ds ρ') :
  ∃ W:Nat→Nat→St→Hp→Prop,(∃ m,W 0 m σ H')∧∀ i m σ H,W i m σ H →
  (J.stop i H∧D.nx σ H)∨(J.go i H∧∃ N:St→Hp→Prop,(∀ σ' H',N σ' H'→∃ m',m' < m∧W (i + 1) m' σ' H')∧∀ x H',J.yld i H x H'→g x σ H' fun σ2 H2=>tb { D with nx:=N,ct:=N,bk:=D.nx } σ2 H2):=by
 refine ⟨fun i m σ1 H1=>m=ds.length - i∧i≤ds.length∧σ1.length=σ.length∧∃ ρ1,EOk F ρ1 σ1 (row ++ fr) H1∧forX gx G d (ds.drop i) ρ1,⟨ds.length,by simp,Nat.zero_le _,rfl,ρ',E',by simpa using q'⟩,?_⟩
 rintro i m σ1 H1 ⟨rfl,hi,hl,ρ1,E1,q1⟩
 have hrow:Rep F (row ++ (ρ1.zip σ1 ++ fr)) H1:=E1.rep.perm sw
 by_cases hlt:i < ds.length
 ·right
  have hdi:ds[i]? = some ds[i]:=List.getElem?_eq_getElem hlt
  rw [List.drop_eq_getElem_cons hlt] at q1
  refine ⟨hJ.go _ _ i _ hrow hdi,fun σ2 H2 => ∃ m',m' < ds.length - i∧(m'=ds.length - (i + 1)∧i + 1≤ds.length∧σ2.length=σ.length∧∃ ρ1,EOk F ρ1 σ2 (row ++ fr) H2∧forX gx G d (ds.drop (i + 1)) ρ1),fun _ _ h=>h,fun x H2 hy => ?_⟩
  have R2:=hJ.yld _ _ i _ x H2 hrow hdi hy
  have E2:EOk F ρ1 σ1 ((.v (.tr ds[i]),some x) :: (row ++ fr)) H2:=⟨E1.len,R2.perm ((sw.cons _).trans mid.symm)⟩
  refine hgx F ρ1 σ1 _ H2 _ x _ _ E2 q1 fun σ2 H3 ρ2 E3 hl2 _ q2 => ?_
  have nxt:∀ σ' H' ρ',σ'.length=σ2.length→EOk F ρ' σ' (row ++ fr) H'→forX gx G d (ds.drop (i + 1)) ρ'→∃ m',m' < ds.length - i∧(m'=ds.length - (i + 1)∧i + 1≤ds.length∧σ'.length=σ.length∧∃ ρ1,EOk F ρ1 σ' (row ++ fr) H'∧forX gx G d (ds.drop (i + 1)) ρ1):=fun σ' H' ρ' h1 h2 h3 =>
   ⟨ds.length - (i + 1),by omega,rfl,hlt,by rw [h1,hl2,hl],ρ',h2,h3⟩
  have ends:∀ {σ':St} {H':Hp} {ρ':En} {fr2:List Rw},EOk F ρ' σ' (row ++ fr2) H'→EOk F ρ' σ' fr2 H':=fun h=>⟨h.len,Rep.drops (A:=row) (h.rep.perm sw)⟩
  refine htb _ _ _ ⟨ρ2,row ++ fr,_,E3,q2,⟨nxt,fun v s σ' H' ρ' h1 h2 h3=>k.rt v s σ' H' ρ' (by rw [h1,hl2,hl]) ?_ h3,fun σ' H' ρ' h1 h2 h3=>k.nx σ' H' ρ' (by rw [h1,hl2,hl]) (ends h2) h3,nxt⟩⟩
  exact ends ⟨h2.len,h2.rep.perm (List.Perm.append_left _ mid.symm)⟩
 ·left
  have hie:i=ds.length:=by omega
  subst hie
  rw [List.drop_length] at q1
  exact ⟨hJ.stop _ _ _ hrow (Nat.le_refl _),k.nx σ1 H1 ρ1 hl ⟨E1.len,Rep.drops (A:=row) hrow⟩ q1⟩
theorem tFor_x {F:Fm} {ti:XI} {n:Nat} {g:TG} {gx:XG} (hgx:GX n g gx):∀ D σ H,tXS F (xFor ti gx G) D σ H→tFor (tXi F ti) g (tXS F G) D σ H:=by
 rintro D σ H ⟨ρ,fr,d,E,q,k⟩
 exact ⟨ρ,fr,_,E,q,fun J H' ρ' row ds E' hJ q'=>for_core hgx (fun _ _ _ z=>z) k E' hJ q'⟩
theorem gb_ {body:List Stmt} {ti:XI} {n:Nat} {g:TG} {gx:XG} (hp:PassesOwn (model X.prog X.w) X.A X.env X.xe) (hc:X.calm=true) (hi:XIt X Ex tg iter ti) (hg:PG X tg g) (hgx:GX n g gx) (hb:XSs X Ex body G) (hs:∀ x,foldedSetIterable iter X.env x=pure x:=by intro _; rfl):XSt X Ex (.For tg iter body [] pos) (xFor ti gx G):=fun F =>
 (ps_for hp hc (hi F) hg (hb F) hs).weak (tFor_x hgx)
theorem xs_of (h:∀ F,[OkF X Ex F]→PS X st (tXS F G)):XSt X Ex st G:=h
end
section
variable {F:Fm} {ρ:En} {σ:St} {fr:List Rw} {H:Hp} {i:Nat}
theorem gk_ {l:List Dx} {f:List Dx→Sl} (E:EOk F ρ σ fr H) (h:(ρ[i]?).bind lent=some (l,f)):∃ p ws,σ[i]? = some (some (.ref p))∧H p=some (.lst ws)∧All2 (IsX (hid (owns (ρ.zip σ ++ fr)) (F.vis H))) l ws ∧
  ∀ l' ws',All2 (IsX (hid (owns (ρ.zip σ ++ fr)) (F.vis H))) l' ws'→EOk F (ρ.set i (f l')) σ fr (upd H p (.lst ws')):=by
 obtain ⟨sl,h3,h4⟩:=Option.bind_eq_some_iff.mp h
 obtain ⟨v,hv,hi,R⟩:=be_ E h3
 obtain ⟨p,ws,rfl,h5,h6,h7,h8⟩:=fj_ h4 R
 have hO:(owns (ρ.zip σ ++ fr)).Perm (owns ((sl,some (V.ref p)) :: ((ρ.zip σ).eraseIdx i ++ fr))):=((cd_ h3 hv).append_right fr).flatMap_right _
 rw [ah_ h6] at hO
 refine ⟨p,ws,hv,h5,h7.imp fun _ _ z=>z.to (av_ fun a ha=>hO.mem_iff.mp ha),fun l' ws' hl' => ?_⟩
 obtain ⟨k1,k2,k3⟩:=h8 l'
 exact eok_put E.len hi hv (R.put h6 k1 k2 (k3 upd_same (hl'.imp fun _ _ z=>(z.to (av_ fun a ha=>hO.mem_iff.mpr ha)).to hid_put)))
theorem dict_put {l:List (Key×Dx)} (E:EOk F ρ σ fr H) (h:ρ[i]? = some (.v (.od l))):∃ p ws,σ[i]? = some (some (.ref p))∧H p=some (.dK ws)∧All2 (KvX (hid (owns (ρ.zip σ ++ fr)) (F.vis H))) l ws ∧
  ∀ l' ws',All2 (KvX (hid (owns (ρ.zip σ ++ fr)) (F.vis H))) l' ws'→EOk F (ρ.set i (.v (.od l'))) σ fr (upd H p (.dK ws')):=by
 obtain ⟨v,hv,hi,R⟩:=be_ E h
 obtain ⟨p,ws,rfl,h5,h7⟩:=R.atD
 have hO:(owns (ρ.zip σ ++ fr)).Perm (owns ((.v (.od l),some (V.ref p)) :: ((ρ.zip σ).eraseIdx i ++ fr))):=((cd_ h hv).append_right fr).flatMap_right _
 rw [ah_ (a:=p) rfl] at hO
 refine ⟨p,ws,hv,h5,h7.imp fun _ _ z=>z.to (av_ fun a ha=>hO.mem_iff.mp ha),fun l' ws' hl' => ?_⟩
 exact eok_put E.len hi hv (R.putD (hl'.imp fun _ _ z=>z.to (av_ fun a ha=>hO.mem_iff.mpr ha)))
theorem lent_at {l:List Dx} {f:List Dx→Sl} (E:EOk F ρ σ fr H) (h:(ρ[i]?).bind lent=some (l,f)):∃ p ws,σ[i]? = some (some (.ref p))∧H p=some (.lst ws):=by
 obtain ⟨p,ws,h1,h2,_⟩:=gk_ E h
 exact ⟨p,ws,h1,h2⟩
end
def xApp (i:Nat) (t:XT):XS:=fun ρ D=>((ρ[i]?).bind lent).isSome=true∧t ρ fun s ρ'=>match (ρ'[i]?).bind lent with
 | some (l,f)=>l.length < 1000000∧D.nx (ρ'.set i (f (l ++ [s.d])))
 | none=>False
def xExt (i:Nat) (t:XT):XS:=fun ρ D=>((ρ[i]?).bind lent).isSome=true∧t ρ fun s ρ'=>match (ρ'[i]?).bind lent,s.d with
 | some (l,f),.lst m=>l.length + m.length≤1000000∧D.nx (ρ'.set i (f (l ++ m)))
 | _,_=>False
def xPop (i:Nat):XT:=fun ρ Q=>match (ρ[i]?).bind lent with
 | some (l,f)=>(match l.getLast? with | some d=>Q (.tr d) (ρ.set i (f l.dropLast)) | none=>False)
 | none=>False
def putX (l:List (Key×Dx)) (k:Key) (d:Dx):List (Key×Dx):=if (l.any fun kv=>decide (kv.1=k))=true then l.map (fun kv=>if kv.1=k then (kv.1,d) else kv) else l ++ [(k,d)]
def xDPut (i:Nat) (tk tv:XT):XS:=fun ρ D=>tv ρ fun s ρ1=>(∃ l,ρ1[i]? = some (.v (.od l)))∧tk ρ1 fun k ρ2=>match ρ2[i]?,keyD k.d with
 | some (.v (.od l)),some key=>l.length < 1000000∧D.nx (ρ2.set i (.v (.od (putX l key s.d))))
 | _,_=>False
theorem putX_put {G:Hp} {l:List (Key×Dx)} {ws:List (Key×V)} {k:Key} {d:Dx} {v:V} (h:All2 (KvX G) l ws) (hd:IsX G d v):All2 (KvX G) (putX l k d) (putK ws k v):=by
 have any:∀ {l:List (Key×Dx)} {ws:List (Key×V)},All2 (KvX G) l ws→(l.any fun kv=>decide (kv.1=k))=(ws.any fun kv=>decide (kv.1=k)):=by
  intro l
  induction l with
  | nil=>intro ws h; rw [show ws=[] from h]; rfl
  | cons p l ih =>
   intro ws h
   obtain ⟨w,wr,rfl,⟨h1,_⟩,h3⟩:=h
   rw [List.any_cons,List.any_cons,ih h3,h1]
 have mp:∀ {l:List (Key×Dx)} {ws:List (Key×V)},All2 (KvX G) l ws→All2 (KvX G) (l.map fun kv=>if kv.1=k then (kv.1,d) else kv) (ws.map fun kv=>if kv.1=k then (kv.1,v) else kv):=by
  intro l
  induction l with
  | nil=>intro ws h; rw [show ws=[] from h]; rfl
  | cons p l ih =>
   intro ws h
   obtain ⟨w,wr,rfl,⟨h1,h2⟩,h3⟩:=h
   refine ⟨_,_,rfl,?_,ih h3⟩
   by_cases e:p.1=k
   ·show KvX G (if p.1=k then (p.1,d) else p) (if w.1=k then (w.1,v) else w)
    rw [if_pos e,if_pos (h1 ▸ e)]; exact ⟨h1,hd⟩
   ·show KvX G (if p.1=k then (p.1,d) else p) (if w.1=k then (w.1,v) else w)
    rw [if_neg e,if_neg (h1 ▸ e)]; exact ⟨h1,h2⟩
 unfold putX putK
 rw [any h]
 split
 ·exact mp h
 ·exact h.snoc ⟨rfl,hd⟩
section
variable {X:Cx} {Ex:ExT} {st:Stmt} {i:Nat} {t ti te tk tv:XT} {F:Fm} {K:FG_}
theorem tApp_x:∀ D σ H,tXS F (xApp i t) D σ H→tDrop (tBM K "list" rAppend (tVar i) (tCons (tX F t) tNil)) D σ H:=by
 rintro D σ H ⟨ρ,fr,d,E,⟨q0,q⟩,k⟩
 obtain ⟨⟨l0,f0⟩,h0⟩:=Option.isSome_iff_exists.mp q0
 obtain ⟨p,ws,hv,hp⟩:=lent_at E h0
 refine ⟨.ref p,hv,.inl ⟨rfl,ws,SqL.of hp⟩,ρ,fr,_,E,q,fun y s H' ρ' E' q' => ?_⟩
 split at q'
 ·rename_i l f hb
  obtain ⟨R,hx⟩:=E'.one
  obtain ⟨p',ws',hv',hp',hl,hput⟩:=gk_ E'.drop hb
  rw [hv] at hv'
  cases hv'
  exact ⟨p,ws',y,rfl,rfl,hp',by rw [hl.len]; have:=line1; omega,k.nx σ _ _ rfl (hput _ _ (hl.snoc hx)) q'.2⟩
 ·exact q'.elim
theorem all2_last {α β:Type} {g:α→β→Prop} {l:List α} {m:List β} {d:α} (h:All2 g l m) (e:l.getLast? = some d):∃ v,m[m.length - 1]? = some v∧g d v:=by
 rw [List.getLast?_eq_getElem?] at e
 obtain ⟨v,h1,h2⟩:=h.at e
 exact ⟨v,by rw [h.len]; exact h1,h2⟩
theorem all2_dl {α β:Type} {g:α→β→Prop} {l:List α} {m:List β} (h:All2 g l m):All2 g l.dropLast m.dropLast:=by
 rw [List.dropLast_eq_take,List.dropLast_eq_take,h.len]
 exact h.take _
theorem tPop_x:∀ σ H Q,tX F (xPop i) σ H Q→tBM0 K "list" rPop (tVar i) σ H Q:=by
 rintro σ H Q ⟨ρ,fr,Qx,E,q,k⟩
 unfold xPop at q
 split at q
 ·rename_i l f hb
  obtain ⟨p,ws,hv,hp,hl,hput⟩:=gk_ E hb
  split at q
  ·rename_i d hd
   obtain ⟨v,h1,h2⟩:=all2_last hl hd
   refine ⟨.ref p,hv,.inl ⟨rfl,ws,SqL.of hp⟩,p,ws,v,rfl,rfl,hp,h1,k v (.tr d) _ _ ?_ q⟩
   have E2:=hput _ _ (all2_dl hl)
   refine EOk.back E2.len (E2.rep.add (h2.to ?_))
   obtain ⟨sl,h3,h4⟩:=Option.bind_eq_some_iff.mp hb
   obtain ⟨v',hv',hi,R⟩:=be_ E h3
   rw [hv] at hv'; cases hv'
   obtain ⟨_,_,e',_,h6,_,h8⟩:=fj_ h4 R
   cases e'
   have hO:(owns (ρ.zip σ ++ fr)).Perm (owns ((sl,some (V.ref p)) :: ((ρ.zip σ).eraseIdx i ++ fr))):=((cd_ h3 hv).append_right fr).flatMap_right _
   have hO2:(owns ((ρ.set i (f l.dropLast)).zip σ ++ fr)).Perm (owns ((f l.dropLast,some (V.ref p)) :: ((ρ.zip σ).eraseIdx i ++ fr))):=((bw_ E.len hi hv).append_right fr).flatMap_right _
   rw [ah_ h6] at hO
   rw [ah_ (h8 _).1] at hO2
   intro b o hb
   have h9:=av_ (O':=p :: owns ((ρ.zip σ).eraseIdx i ++ fr)) (fun a ha=>hO.mem_iff.mpr ha) _ _ hb
   exact av_ (fun a ha=>hO2.mem_iff.mp ha) _ _ (hid_put (o:=.lst ws.dropLast) _ _ h9)
  ·exact q.elim
 ·exact q.elim
theorem tDPut_x:∀ D σ H,tXS F (xDPut i tk tv) D σ H→sDPut (tVar i) (tX F tk) (tX F tv) D σ H:=by
 rintro D σ H ⟨ρ,fr,d,E,q,k⟩
 refine ⟨ρ,fr,_,E,q,fun y s H' ρ' E' q' => ?_⟩
 obtain ⟨⟨l0,h0⟩,q'⟩:=q'
 obtain ⟨p,ws,hv,hp,_⟩:=dict_put E' h0
 refine ⟨.ref p,hv,ρ',_,_,E',q',fun z s2 H2 ρ2 E2 q2 => ?_⟩
 split at q2
 ·rename_i l key hb hk
  obtain ⟨R,hx1,hx2⟩:=E2.two
  obtain ⟨p',ws',hv',hp',hl,hput⟩:=dict_put (E2.drop.drop) hb
  rw [hv] at hv'
  cases hv'
  cases keyD_is hx2 hk
  exact ⟨p,_,rfl,DPut.k hp' (by rw [hl.len]; have:=line1; omega),k.nx σ _ _ rfl (hput _ _ (putX_put hl hx1)) q2.2⟩
 ·exact q2.elim
end
def xWhile (c:XC) (G:XS):XS:=fun ρ D => ∃ W:Nat→En→Prop,(∃ m,W m ρ)∧∀ m ρ,W m ρ→c ρ fun b ρ1=>if b=true then ∃ N:En→Prop,(∀ ρ',N ρ'→∃ m',m' < m∧W m' ρ')∧G ρ1 { D with nx:=N,ct:=N,bk:=D.nx } else D.nx ρ1
theorem xs_while {X:Cx} {Ex:ExT} {c:Expr} {body:List Stmt} {pos:Pos} {tc:XC} {G:XS} (hp:PassesOwn (model X.prog X.w) X.A X.env X.xe) (hc:XTe X Ex c tc) (hb:XSs X Ex body G):XSt X Ex (.While c body [] pos) (xWhile tc G):=fun F=>(ps_while hp (hc F) (hb F)).weak fun D σ H=>by
 rintro ⟨ρ,fr,d,E,⟨W,⟨m0,w0⟩,turn⟩,k⟩
 refine ⟨fun m σ1 H1=>σ1.length=σ.length∧∃ ρ1,EOk F ρ1 σ1 fr H1∧W m ρ1,⟨m0,rfl,ρ,E,w0⟩,?_⟩
 rintro m σ1 H1 ⟨hl,ρ1,E1,w1⟩
 refine ⟨ρ1,fr,_,E1,turn m ρ1 w1,fun b H2 ρ2 E2 q2 => ?_⟩
 cases b with
 | false=>exact k.nx σ1 H2 ρ2 hl E2 q2
 | true =>
  obtain ⟨N,hN,q2⟩:=q2
  have nxt:∀ σ' H' ρ',σ'.length=σ1.length→EOk F ρ' σ' fr H'→N ρ'→∃ m',m' < m∧σ'.length=σ.length∧∃ ρ1,EOk F ρ1 σ' fr H'∧W m' ρ1:=fun σ' H' ρ' h1 h2 h3=>by
   obtain ⟨m',h4,h5⟩:=hN ρ' h3
   exact ⟨m',h4,by rw [h1,hl],ρ',h2,h5⟩
  exact ⟨fun σ' H' => ∃ m',m' < m∧σ'.length=σ.length∧∃ ρ1,EOk F ρ1 σ' fr H'∧W m' ρ1,fun σ' H' h=>h,ρ2,fr,_,E2,q2,⟨nxt,fun v s σ' H' ρ' h1 h2 h3=>k.rt v s σ' H' ρ' (by rw [h1,hl]) h2 h3,fun σ' H' ρ' h1 h2 h3=>k.nx σ' H' ρ' (by rw [h1,hl]) h2 h3,nxt⟩⟩
def startX (N:List Str) (ds:List Dx):En:=ds.map (fun d=>.v (.tr d)) ++ List.replicate (N.length - ds.length) .un
abbrev retX (Q:Sv→Prop):XD:=⟨fun _=>Q (.tr .non),fun s _=>Q s,fun _=>False,fun _=>False⟩
theorem hh_ {F:Fm} {H:Hp} (R0:Rep F [] H) {m:Nat}:∀ {ds:List Dx} {vs:List V},All2 (IsX (F.vis H)) ds vs→Rep F ((ds.map (fun d=>Sl.v (.tr d)) ++ List.replicate m Sl.un).zip (vs.map some ++ List.replicate m none)) H
 | [],_,h=>by
  rw [show _=[] from h]
  simp only [List.map_nil,List.nil_append]
  rw [List.zip_replicate,Nat.min_self]
  have:=R0.addUs m
  simpa using this
 | d :: ds,_,⟨v,vr,e,h1,h2⟩=>by
  subst e
  have R:=hh_ (m:=m) R0 h2
  simp only [List.map_cons,List.cons_append,List.zip_cons_cons]
  refine R.add (h1.to fun b o hb=>hid_some.mpr ⟨fun z => ?_,hb⟩)
  obtain ⟨r,hr,hb⟩:=List.mem_flatMap.mp z
  have:∀ {ds:List Dx} {vs:List (Option V)} {r:Rw},r∈((ds.map (fun d=>Sl.v (.tr d)) ++ List.replicate m Sl.un).zip vs)→ownA r=[]:=by
   intro ds vs r hr
   obtain ⟨a,b⟩:=r
   have:=(List.of_mem_zip hr).1
   rcases List.mem_append.mp this with h | h
   ·obtain ⟨d,_,rfl⟩:=List.mem_map.mp h; rfl
   ·rw [(List.mem_replicate.mp h).2]; rfl
  rw [this hr] at hb
  cases hb
theorem res_ok {H Hs:Hp} {sub:Same Hs H} {nb:∀ b∈([]:List Addr),Hs b=none} {ib:∀ b∈([]:List Addr),∃ o,H b=some o} {P:List Rw} {H':Hp} {s:Sv} {v:V} (R:Rep ⟨H,Hs,[],sub,nb,ib⟩ ((.v s,some v) :: P) H'):Same H H'∧ResOk Hs H H' s v:=by
 refine ⟨fun b o h=>R.kp b o h (by simp),?_⟩
 match s with
 | .tr d =>
  obtain ⟨v',e,h⟩:=R.atT
  cases e
  exact h.to hid_sub
 | .ol l =>
  obtain ⟨a,vs,e,h1,h2⟩:=R.atL
  cases e
  exact ⟨a,vs,rfl,R.fr _ List.mem_cons_self a (List.mem_singleton.mpr rfl),h1,h2.imp fun _ _ z=>z.to (av_ fun c hc=>by rw [List.mem_singleton.mp hc]; exact List.mem_cons_self)⟩
 | .od l =>
  obtain ⟨a,vs,e,h1,h2⟩:=R.atD
  cases e
  exact ⟨a,vs,rfl,R.fr _ List.mem_cons_self a (List.mem_singleton.mpr rfl),h1,h2.imp fun _ _ z=>z.to (av_ fun c hc=>by rw [List.mem_singleton.mp hc]; exact List.mem_cons_self)⟩
 | .ow o =>
  have hn:=R.nd
  rw [ak_] at hn
  obtain ⟨x,e,h⟩:=R.ok _ List.mem_cons_self
  cases e
  refine ⟨(List.nodup_append.mp hn).1,fun a ha=>R.fr _ List.mem_cons_self a ha,OwOk.mono (.of (av_ fun c hc => ?_)) o v (fun _ _=>rfl) h⟩
  rw [ak_]
  exact List.mem_append_left _ hc
theorem fn_x {P:Program} {w:World} {K:FG_} {mg:MG_} {base:Heap} {x:Str} {st:Stmt} {f:Addr} {fd:FuncData} {N ps:List Str} {k:Nat} {g:GC} (Fn:Fun K x x st f fd) (S:FnScope N ps (defScope st)) (hlen:∀ ds Q,g ds Q→ds.length=ps.length) (hN:ps.length≤N.length)
  (hbody:∀ (cdv:Value) (A:Around) (outer:List Env) (s:Shared) (H:Hp) (E:XK),Room k (A.deeper (PyProof.Rows.envOfC x (defScope st) s.heap.objs.size f cdv)) →
   ∃ G,XSs (cxOf CX0 P w K mg base N x (defScope st) f cdv A outer s H E).nox noEx (defBody st) G∧∀ ds Q,g ds Q→G (startX N ds) (retX Q)):FnOk P w K mg base CX0 (k + 1) f fd ps (spX g):=by
 refine Fn.ok S (fun vs H Q E h => ?_) (fun cdv A outer s H vs Q E hr h => ?_)
 ·obtain ⟨Hs,ds,Qx,h1,h2,h3,_⟩:=h
  rw [h2.len]
  exact hlen ds Qx h3
 obtain ⟨Hs,ds,Qx,h1,h2,h3,h4⟩:=h
 obtain ⟨G,hG,hq⟩:=hbody cdv A outer s H E hr
 have hl:=hlen ds Qx h3
 refine ⟨_,hG ⟨H,Hs,[],h1,by simp,by simp⟩,startX N ds,[],retX Qx,⟨?_,?_⟩,hq ds Qx h3,⟨fun σ' H' ρ' _ E' q => ?_,fun v s σ' H' ρ' _ E' q => ?_,fun _ _ _ _ _ q=>q.elim,fun _ _ _ _ _ q=>q.elim⟩⟩
 ·unfold startX L2.start
  simp only [List.length_append,List.length_map,List.length_replicate]
  rw [h2.len]
 ·rw [List.append_nil]
  have hv:(Fm.vis ⟨H,Hs,[],h1,by simp,by simp⟩ H)=ext Hs H H:=rfl
  have R0:Rep ⟨H,Hs,[],h1,by simp,by simp⟩ [] H:=⟨List.nodup_nil,fun r hr=>by simp at hr,fun r hr=>by simp at hr,fun b o h _=>h,fun b hb=>by simp at hb⟩
  unfold startX L2.start
  rw [h2.len]
  refine hh_ R0 (h2.imp fun _ _ z=>z.to fun b o hb => ?_)
  cases q:H b with
  | none=>rw [h1 _ _ hb] at q; cases q
  | some u=>exact (az_ q).trans hb
 ·have R:=E'.rep.add (d:=.non) (v:=.non) IsX.of_non
  obtain ⟨e1,e2⟩:=res_ok R
  exact h4 _ _ _ e1 e2 q
 ·obtain ⟨e1,e2⟩:=res_ok E'.front
  exact h4 _ _ _ e1 e2 q
end Lf
namespace L2
open PySem
def tFrz' (t:TE):TE:=fun σ H Q => ∃ a kvs,H a=some (.dK kvs)∧∀ o,t σ (upd H a (.frz o (.dK kvs))) fun v H'=>H' a=some (.frz o (.dK kvs))∧Q v (upd H' a (.dK kvs))
theorem pe_frz' {X:Cx} {e:Expr} {t:TE} (h:PE X e t):PE X e (tFrz' t):=by
 intro pins s σ H Q I ⟨a,kvs,ha,q⟩
 exact pe_frz h pins s σ H Q I ⟨a,kvs,ha,fun o v z=>(by have:=I.base.frzs a o v z; rw [ha] at this; cases this),q⟩
def sFrz' (t:TS):TS:=fun D σ H => ∃ a kvs,H a=some (.dK kvs)∧∀ o,
 t ⟨fun σ' H'=>H' a=some (.frz o (.dK kvs))∧D.nx σ' (upd H' a (.dK kvs)),fun v H'=>H' a=some (.frz o (.dK kvs))∧D.rt v (upd H' a (.dK kvs)),fun σ' H'=>H' a=some (.frz o (.dK kvs))∧D.bk σ' (upd H' a (.dK kvs)),fun σ' H'=>H' a=some (.frz o (.dK kvs))∧D.ct σ' (upd H' a (.dK kvs))⟩ σ (upd H a (.frz o (.dK kvs)))
theorem ps_frz' {X:Cx} {st:Stmt} {t:TS} (h:PS X st t):PS X st (sFrz' t):=by
 intro pins s σ H D I ⟨a,kvs,ha,q⟩
 exact ps_frz h pins s σ H D I ⟨a,kvs,ha,fun o v z=>(by have:=I.base.frzs a o v z; rw [ha] at this; cases this),q⟩
theorem PS.or {X:Cx} {st:Stmt} {t u:TS} (h:PS X st t) (h':PS X st u):PS X st (fun D σ H=>t D σ H∨u D σ H):=fun pins s σ H D I q=>q.elim (h pins s σ H D I) (h' pins s σ H D I)
end L2
namespace Lf
open PySem L2
section
variable {F:Fm} {P:List Rw} {H H':Hp} {a:Addr} {kvs:List (Key×V)} {o:Obj}
theorem nem {b a:Addr} {B:List Addr} (h:b∈B) (h':a∉B):b≠a:=fun z=>h' (by rw [← z]; exact h)
def Fm.fz (F:Fm) (a:Addr) (o:Obj) (kvs:List (Key×V)) (ha:a∉F.B):Fm where
 H0:=upd F.H0 a (.frz o (.dK kvs))
 Hs:=upd F.Hs a (.frz o (.dK kvs))
 B:=F.B
 sub:=fun b u h=>by
  by_cases e:b=a
  ·subst e; rw [upd_same] at h ⊢; exact h
  ·rw [ag_ e] at h ⊢; exact F.sub _ _ h
 nb:=fun b hb=>by rw [ag_ (nem hb ha)]; exact F.nb b hb
 ib:=fun b hb=>by rw [ag_ (nem hb ha)]; exact F.ib b hb
theorem vis_B (h:F.vis H a=some (.dK kvs)):a∉F.B:=fun hB=>by
 obtain ⟨u,hu⟩:=F.ib a hB
 have:=(az_ hu).symm.trans h
 rw [F.nb a hB] at this
 cases this
theorem vis_ne {F:Fm} {ha:a∉F.B} {b:Addr} {H H':Hp} (hb:b≠a) (e:H' b=H b):(F.fz a o kvs ha).vis H' b=F.vis H b:=by
 have e1:(F.fz a o kvs ha).H0 b=F.H0 b:=ag_ hb
 have e2:(F.fz a o kvs ha).Hs b=F.Hs b:=ag_ hb
 show ext _ _ _ b=ext _ _ _ b
 unfold ext
 rw [e1,e2,e]
theorem Rep.fzD (R:Rep F P H) (hv:F.vis H a=some (.dK kvs)) (hno:a∉owns P) (ha:a∉F.B):Rep (F.fz a o kvs ha) P (upd H a (.frz o (.dK kvs))):=by
 refine ⟨R.nd,fun r hr=>(R.ok r hr).mono (fun b u hb => ?_) fun b hb=>ag_ fun z=>hno (z ▸ bu_ hr hb),fun r hr b hb => ?_,fun b u h1 h2 => ?_,fun b hb => ?_⟩
 ·have hb':=hid_some.mp hb
  by_cases e:b=a
  ·subst e
   rw [hv] at hb'
   cases hb'.2
   refine .inr ⟨o,kvs,.inl ⟨rfl,hid_some.mpr ⟨hb'.1,?_⟩⟩⟩
   exact (az_ (show (F.fz b o kvs ha).H0 b=some (.frz o (.dK kvs)) from upd_same)).trans upd_same
  ·exact .inl (hid_some.mpr ⟨hb'.1,by rw [vis_ne e (ag_ e)]; exact hb'.2⟩)
 ·have hba:b≠a:=fun z=>hno (z ▸ bu_ hr hb)
  have:=R.fr r hr b hb
  unfold FrOk at this ⊢
  split at this <;> simp_all [Fm.fz,ag_]
 ·by_cases e:b=a
  ·subst e
   have:some (HO.frz o (.dK kvs))=some u:=upd_same.symm.trans h1
   rw [upd_same]; exact this
  ·rw [ag_ e]
   exact R.kp b u ((ag_ e).symm.trans h1) h2
 ·obtain ⟨u,hu⟩:=R.lv b hb
  exact ⟨u,by rw [ag_ (nem hb ha)]; exact hu⟩
theorem Rep.thD {ha:a∉F.B} (R:Rep (F.fz a o kvs ha) P H) (hv:F.H0 a=none∨(F.H0 a=some (.dK kvs)∧F.Hs a=some (.dK kvs))):H a=some (.frz o (.dK kvs))∧Rep F P (upd H a (.dK kvs)):=by
 have hk:H a=some (.frz o (.dK kvs)):=R.kp a _ upd_same ha
 have hno:a∉owns P:=fun z=>by
  obtain ⟨r,hr,e⟩:=List.mem_flatMap.mp z
  have:=R.fr r hr a e
  rcases this.or with this | this
  ·exact ha this
  ·have h2:some (HO.frz o (.dK kvs))=none:=upd_same.symm.trans this
   cases h2
 refine ⟨hk,R.nd,fun r hr=>(R.ok r hr).mono (fun b u hb => ?_) fun b hb=>ag_ fun z=>hno (z ▸ bu_ hr hb),fun r hr b hb => ?_,fun b u h1 h2 => ?_,fun b hb => ?_⟩
 ·have hb':=hid_some.mp hb
  by_cases e:b=a
  ·subst e
   have hu:(F.fz b o kvs ha).vis H b=some (.frz o (.dK kvs)):=(az_ (show (F.fz b o kvs ha).H0 b=some (.frz o (.dK kvs)) from upd_same)).trans upd_same
   rw [hu] at hb'
   cases hb'.2
   refine .inr ⟨o,kvs,.inr ⟨rfl,hid_some.mpr ⟨hb'.1,?_⟩⟩⟩
   rcases hv with q | ⟨q1,q2⟩
   ·exact (bb_ q).trans (by rw [upd_same]; rfl)
   ·exact (az_ q1).trans q2
  ·exact .inl (hid_some.mpr ⟨hb'.1,by rw [← vis_ne (F:=F) (o:=o) (kvs:=kvs) (ha:=ha) e (ag_ (o:=.dK kvs) e).symm]; exact hb'.2⟩)
 ·have hba:b≠a:=fun z=>hno (z ▸ bu_ hr hb)
  have:=R.fr r hr b hb
  unfold FrOk at this ⊢
  split at this <;> simp_all [Fm.fz,ag_]
 ·by_cases e:b=a
  ·subst e
   rcases hv with q | ⟨q1,q2⟩
   ·rw [q] at h1; cases h1
   ·rw [q1] at h1; rw [upd_same]; exact h1
  ·rw [ag_ e]
   exact R.kp b u ((ag_ e).trans h1) h2
 ·obtain ⟨u,hu⟩:=R.lv b hb
  exact ⟨u,by rw [ag_ (nem hb ha)]; exact hu⟩
end
def keyX:Key→Dx
 | .inl i=>.int i
 | .inr x=>.str x
theorem keyX_is {H:Hp} (k:Key):IsX H (keyX k) (kV k):=by cases k <;> simp only [keyX,kV,IsX]
def keysX (l:List (Key×Dx)):List Dx:=l.map fun p=>keyX p.1
theorem ih_ {l:List (Key×Dx)}:(keysX l).length=l.length:=List.length_map _
theorem hl_ {F:Fm} {a:Addr} {o:Obj} {kvs:List (Key×V)} {l:List (Key×Dx)} {G:Hp} (h:∀ P H,Rep F P H→H a=some (.frz o (.dK kvs))) (hl:All2 (KvX G) l kvs):ItX F (Itd a o kvs) [] (keysX l) where
 go:=fun P H i d R hd=>⟨h _ _ R,by have:=(List.getElem?_eq_some_iff.mp hd).1; rw [ih_] at this; rw [hl.len]; exact this⟩
 stop:=fun P H i R hi=>⟨h _ _ R,by rw [ih_] at hi; rw [hl.len]; exact hi⟩
 yld:=fun P H i d x H' R hd q=>by
  obtain ⟨rfl,kv,q1,rfl⟩:=q
  obtain ⟨p,h1,h2⟩:=hl.get q1
  unfold keysX at hd
  rw [List.getElem?_map,h1] at hd
  cases hd
  show Rep F ((Sl.v (Sv.tr (keyX p.1)),some (kV kv.1)) :: ([] ++ P)) H'
  rw [h2.1]
  exact R.add (keyX_is _)
def tXSe (G:XS):TS:=fun D σ H => ∃ F,tXS F G D σ H
def tXe (t:XT):TE:=fun σ H Q => ∃ F,tX F t σ H Q
def tXce (t:XC):TT:=fun σ H Q => ∃ F,tXc F t σ H Q
theorem XSs.ex {X:Cx} {st:List Stmt} {G:XS} (h:XSs X noEx st G):PSs X st (tXSe G):=fun pins s σ H D I ⟨F,q⟩=>h F pins s σ H D I q
theorem XE.ex {X:Cx} {e:Expr} {t:XT} (h:XE X noEx e t):PE X e (tXe t):=fun pins s σ H D I ⟨F,q⟩=>h F pins s σ H D I q
theorem XCs.ex {X:Cx} {e:List Expr} {t:XC} (h:XCs X noEx e t):PCs X e (tXce t):=fun pins s σ H D I ⟨F,q⟩=>h F pins s σ H D I q
def xForK (i:Nat) (gx:XG) (G:XS):XS:=fun ρ D=>match ρ[i]? with
 | some (.v s)=>(match s.d with | .dic l=>forX gx G D (keysX l) (ρ.set i (.v (.tr s.d))) | _=>False)
 | _=>False
def xCompK (i n:Nat) (outs:List Nat) (gx:XG) (tc:XC) (te:XT):XT:=fun ρ Q=>match ρ[i]? with
 | some (.v s)=>(match s.d with | .dic l=>l.length≤1000000∧compX n gx tc te (fun acc cs=>Q (.ol acc) (back outs cs (ρ.set i (.v (.tr s.d))))) (keysX l) (caps outs (ρ.set i (.v (.tr s.d)))) [] | _=>False)
 | _=>False
theorem slot_dict {F:Fm} {ρ:En} {σ:St} {fr:List Rw} {H:Hp} {i:Nat} {s:Sv} {l:List (Key×Dx)} (E:EOk F ρ σ fr H) (h:ρ[i]? = some (.v s)) (hs:s.d=.dic l) :
  ∃ a ws,σ[i]? = some (some (.ref a))∧EOk F (ρ.set i (.v (.tr s.d))) σ fr H∧Rd (hid (owns ((ρ.set i (.v (.tr s.d))).zip σ ++ fr)) (F.vis H)) a (.dK ws)∧All2 (KvX (hid (owns ((ρ.set i (.v (.tr s.d))).zip σ ++ fr)) (F.vis H))) l ws:=by
 obtain ⟨v,hv,hi,R⟩:=be_ E h
 have R2:=R.frz
 have E2:=eok_put E.len hi hv R2
 obtain ⟨w,e,hx⟩:=R2.atT
 subst e
 rw [hs] at hx
 have hO:(owns ((ρ.set i (.v (.tr s.d))).zip σ ++ fr)).Perm (owns ((.v (.tr s.d),some w) :: ((ρ.zip σ).eraseIdx i ++ fr))):=((bw_ E.len hi hv).append_right fr).flatMap_right _
 rw [ej_ rfl] at hO
 have hx2:=hx.to (av_ fun a ha=>hO.mem_iff.mp ha)
 obtain ⟨a,ws,rfl,h1,h2⟩:=hx2.dic_eq
 exact ⟨a,ws,hv,E2,h1,h2⟩
theorem vis_or {F:Fm} {P:List Rw} {H:Hp} {a:Addr} {kvs:List (Key×V)} (R:Rep F P H) (h:F.vis H a=some (.dK kvs)):F.H0 a=none∨(F.H0 a=some (.dK kvs)∧F.Hs a=some (.dK kvs)):=by
 cases q:F.H0 a with
 | none=>exact .inl rfl
 | some u =>
  have h1:F.Hs a=some (.dK kvs):=(az_ q).symm.trans h
  have h2:=F.sub _ _ h1
  rw [q] at h2
  exact .inr ⟨h2,h1⟩
theorem frz_vis {F:Fm} {H:Hp} {a:Addr} {o:Obj} {kvs:List (Key×V)} (h:F.vis H a=some (.frz o (.dK kvs))):∀ P H,Rep F P H→H a=some (.frz o (.dK kvs)):=fun P H2 R=>by
 cases q:F.H0 a with
 | none =>
  have h1:=(bb_ q).symm.trans h
  rw [nf_some h1] at h1
  cases h1
 | some u =>
  have h1:F.Hs a=some (.frz o (.dK kvs)):=(az_ q).symm.trans h
  exact R.kp a _ (F.sub _ _ h1) fun hB=>by rw [F.nb a hB] at h1; cases h1
section
variable {X:Cx} {Ex:ExT} {st:Stmt} {i n:Nat} {g:TG} {gx:XG} {G:XS} {outs:List Nat} {tc:XC} {te:XT}
theorem forK_x (hgx:GX n g gx) {F:Fm}:∀ D σ H,tXS F (xForK i gx G) D σ H→tFor (iKeys (tVar i)) g (tXSe G) D σ H∨sFrz' (tFor (iKeys (tVar i)) g (tXSe G)) D σ H:=by
 rintro D σ H ⟨ρ,fr,d,E,q,k⟩
 unfold xForK at q
 split at q
 ·rename_i s hs
  split at q
  ·rename_i l hl
   obtain ⟨a,ws,hv,E2,hr,hk⟩:=slot_dict E hs hl
   rw [hl] at E2 hr hk
   rw [← hl] at E2
   rcases hr with hr | ⟨o,hr⟩
   ·have hr':=hid_some.mp hr
    have hB:=vis_B hr'.2
    have hor:=vis_or E2.rep hr'.2
    refine .inr ⟨a,ws,E2.rep.vis _ _ hr'.2,fun o=>⟨.ref a,hv,a,o,ws,rfl,upd_same,?_⟩⟩
    have E3:EOk (F.fz a o ws hB) (ρ.set i (.v (.tr s.d))) σ ([] ++ fr) (upd H a (.frz o (.dK ws))):=⟨E2.len,E2.rep.fzD hr'.2 (by rw [hl]; exact hr'.1) hB⟩
    refine for_core (F:=F.fz a o ws hB) hgx (tb:=tXSe G) (fun _ _ _ z=>⟨_,z⟩) (d:=d) ⟨fun σ' H' ρ' h1 h2 h3 => ?_,fun v s σ' H' ρ' h1 h2 h3 => ?_,fun σ' H' ρ' h1 h2 h3 => ?_,fun σ' H' ρ' h1 h2 h3 => ?_⟩ E3 (hl_ (fun P H R=>R.kp a _ upd_same hB) hk) q
    ·obtain ⟨e1,e2⟩:=h2.rep.thD hor; exact ⟨e1,k.nx σ' _ ρ' h1 ⟨h2.len,e2⟩ h3⟩
    ·obtain ⟨e1,e2⟩:=h2.rep.thD hor; exact ⟨e1,k.rt v s σ' _ ρ' h1 ⟨h2.len,e2⟩ h3⟩
    ·obtain ⟨e1,e2⟩:=h2.rep.thD hor; exact ⟨e1,k.bk σ' _ ρ' h1 ⟨h2.len,e2⟩ h3⟩
    ·obtain ⟨e1,e2⟩:=h2.rep.thD hor; exact ⟨e1,k.ct σ' _ ρ' h1 ⟨h2.len,e2⟩ h3⟩
   ·have hr':=hid_some.mp hr
    refine .inl ⟨.ref a,hv,a,o,ws,rfl,E2.rep.vis _ _ hr'.2,?_⟩
    exact for_core (F:=F) hgx (tb:=tXSe G) (fun _ _ _ z=>⟨_,z⟩) k (row:=[]) E2 (hl_ (frz_vis hr'.2) hk) q
  ·exact q.elim
 ·exact q.elim
theorem compK_x (hgx:GX n g gx) (hno:outs.Nodup) {F:Fm}:∀ σ H Q,tX F (xCompK i n outs gx tc te) σ H Q→tComp n outs (iKeys (tVar i)) g (tXce tc) (tXe te) σ H Q∨tFrz' (tComp n outs (iKeys (tVar i)) g (tXce tc) (tXe te)) σ H Q:=by
 rintro σ H Q ⟨ρ,fr,Qx,E,q,k⟩
 unfold xCompK at q
 split at q
 ·rename_i s hs
  split at q
  ·rename_i l hl
   obtain ⟨a,ws,hv,E2,hr,hk⟩:=slot_dict E hs hl
   rw [hl] at E2 hr hk
   rw [← hl] at E2
   have q':(keysX l).length≤1000000∧_:=⟨by rw [ih_]; exact q.1,q.2⟩
   rcases hr with hr | ⟨o,hr⟩
   ·have hr':=hid_some.mp hr
    have hB:=vis_B hr'.2
    have hor:=vis_or E2.rep hr'.2
    refine .inr ⟨a,ws,E2.rep.vis _ _ hr'.2,fun o=>⟨.ref a,hv,a,o,ws,rfl,upd_same,?_⟩⟩
    have E3:EOk (F.fz a o ws hB) (ρ.set i (.v (.tr s.d))) σ ([] ++ fr) (upd H a (.frz o (.dK ws))):=⟨E2.len,E2.rep.fzD hr'.2 (by rw [hl]; exact hr'.1) hB⟩
    refine im_ (F:=F.fz a o ws hB) (Q:=fun v H'=>H' a=some (.frz o (.dK ws))∧Q v (upd H' a (.dK ws))) (tcT:=tXce tc) (teT:=tXe te) hgx hno (fun _ _ _ z=>⟨_,z⟩) (fun _ _ _ z=>⟨_,z⟩) (fun v s H' ρ' h2 h3 => ?_) E3 (hl_ (fun P H R=>R.kp a _ upd_same hB) hk) q'
    obtain ⟨e1,e2⟩:=h2.rep.thD hor
    exact ⟨e1,k v s _ ρ' ⟨h2.len,e2⟩ h3⟩
   ·have hr':=hid_some.mp hr
    refine .inl ⟨.ref a,hv,a,o,ws,rfl,E2.rep.vis _ _ hr'.2,?_⟩
    exact im_ (F:=F) (Q:=Q) (tcT:=tXce tc) (teT:=tXe te) hgx hno (fun _ _ _ z=>⟨_,z⟩) (fun _ _ _ z=>⟨_,z⟩) k (row:=[]) E2 (hl_ (frz_vis hr'.2) hk) q'
  ·exact q.elim
 ·exact q.elim
theorem xs_forK {x:Str} {px pos:Pos} {tg:Expr} {body:List Stmt} (hp:PassesOwn (model X.prog X.w) X.A X.env X.xe) (hc:X.calm=true) (hv:PE X (.Name x px) (tVar i)) (hg:PG X tg g) (hgx:GX n g gx) (hb:XSs X noEx body G) (hs:∀ y,foldedSetIterable (.Name x px) X.env y=pure y:=by intro _; rfl):XSt X Ex (.For tg (.Name x px) body [] pos) (xForK i gx G):=fun F =>
 (PS.or (ps_for hp hc (pi_keys hv) hg hb.ex hs) (ps_frz' (ps_for hp hc (pi_keys hv) hg hb.ex hs))).weak (forK_x hgx)
theorem xe_compK {dsc scope:Scope} {tgs N' N:List Str} {x:Str} {px pos:Pos} {tg elt:Expr} {ifs:List Expr} (S:CompScope dsc scope N tgs outs N') (hv:PE X (.Name x px) (tVar i)) (hg:∀ cl C s H ex,PG (cxComp X N' scope cl C s H ex) tg g) (hgx:GX tgs.length g gx) (hgt:Tgt tgs.length g)
  (hcs:∀ cl C s H ex,XCs (cxComp X N' scope cl C s H ex) noEx ifs tc) (he:∀ cl C s H ex,XE (cxComp X N' scope cl C s H ex) noEx elt te) (hno:outs.Nodup:=by decide) (hN0:X.N=N:=by rfl) (hsc:X.env.scope=dsc:=by rfl) (hc:X.calm=true:=by rfl) (hs:∀ y,foldedSetIterable (.Name x px) X.env y=pure y:=by intro _; rfl) :
  XE X Ex (.ListComp elt [⟨tg,.Name x px,ifs,0⟩] scope pos) (xCompK i tgs.length outs gx tc te):=fun F =>
 (PE.or (hx_ S (pi_keys hv) hg hgt (fun a b c d e=>(hcs a b c d e).ex) (fun a b c d e=>(he a b c d e).ex) hN0 hsc hc hs) (pe_frz' (hx_ S (pi_keys hv) hg hgt (fun a b c d e=>(hcs a b c d e).ex) (fun a b c d e=>(he a b c d e).ex) hN0 hsc hc hs))).weak (compK_x hgx hno)
end
def xChain (g g':G2) (ta tb tc:XT):XT:=fun ρ Q=>ta ρ fun a ρ1=>tb ρ1 fun b ρ2=>g a.d b.d fun s=>match s with
 | .tr (.bl k)=>if k=true then tc ρ2 fun c ρ3=>g' b.d c.d fun s'=>Q s' ρ3 else Q (.tr (.bl false)) ρ2
 | _=>False
theorem tChain_x {F:Fm} {r r':R2} {g g':G2} {ta tb tc:XT} (hx:OpX r g) (hx':OpX r' g'):∀ σ H Q,tX F (xChain g g' ta tb tc) σ H Q→tChain r r' (tX F ta) (tX F tb) (tX F tc) σ H Q:=by
 rintro σ H Q ⟨ρ,fr,Qx,E,t,k⟩
 refine ⟨ρ,fr,_,E,t,fun v s H' ρ' E' t'=>⟨ρ',_,_,E',t',fun w s2 H2 ρ2 E2 t2 => ?_⟩⟩
 obtain ⟨R,h1,h2⟩:=E2.two
 have E2b:EOk F ρ2 σ ((.v s2,some w) :: fr) H2:=⟨E2.len,((E2.rep.perm (List.Perm.append_left _ (.swap _ _ _))).perm mid).tail.perm (.refl _)⟩
 have E2c:EOk F ρ2 σ ((.v (.tr s2.d),some w) :: fr) H2:=EOk.back E2.len (E2b.front.frz)
 obtain ⟨Rb,hb⟩:=E2c.one
 have h1b:IsX (hid (owns (ρ2.zip σ ++ (.v (.tr s2.d),some w) :: fr)) (F.vis H2)) s.d v:=h1.to (av_ fun c hc=>by
  have:(owns ((.v (.tr s2.d),some w) :: (ρ2.zip σ ++ fr))).Perm (owns (ρ2.zip σ ++ (.v (.tr s2.d),some w) :: fr)):=mid.symm.flatMap_right _
  have:=this.mem_iff.mpr hc
  rw [ej_ rfl] at this
  exact this)
 have h2b:IsX (hid (owns (ρ2.zip σ ++ (.v (.tr s2.d),some w) :: fr)) (F.vis H2)) s2.d w:=hb.to (av_ fun c hc=>by
  have:(owns ((.v (.tr s2.d),some w) :: (ρ2.zip σ ++ fr))).Perm (owns (ρ2.zip σ ++ (.v (.tr s2.d),some w) :: fr)):=mid.symm.flatMap_right _
  have:=this.mem_iff.mpr hc
  rw [ej_ rfl] at this
  exact this)
 refine hx F (ρ2.zip σ ++ (.v (.tr s2.d),some w) :: fr) H2 s.d s2.d v w _ _ E2c.rep h1b h2b t2 fun z s3 H3 R3 q => ?_
 split at q
 ·rename_i kb
  obtain ⟨z',e,hz⟩:=R3.atT
  cases e
  cases hz.bl_eq
  refine ⟨kb,rfl,?_⟩
  have E3:EOk F ρ2 σ ((.v (.tr s2.d),some w) :: fr) H3:=⟨E2.len,R3.tail⟩
  cases kb with
  | true =>
   refine ⟨ρ2,_,_,E3,q,fun u s4 H4 ρ4 E4 q4 => ?_⟩
   obtain ⟨R5,h5,h6⟩:=E4.two
   exact hx' F _ H4 s2.d s4.d w u Q (fun z=>Qx z ρ4) R5 h5 h6 q4 fun v' s' H' R' q=>k v' s' H' ρ4 (EOk.back E4.len R') q
  | false=>exact k _ _ H3 ρ2 (EOk.back E2.len (E3.drop.rep.add (IsX.of_bl _))) q
 ·exact q.elim
section
variable {X:Cx} {Ex:ExT} {a b c e:Expr} {pos:Pos} {r r':R2} {g g':G2} {ta tb tc te:XT} {op op':CmpOp}
theorem xt_chain (ho:OpR X (compareOp op) r) (hx:OpX r g) (ho':OpR X (compareOp op') r') (hx':OpX r' g') (ha:XE X Ex a ta) (hb:XE X Ex b tb) (hc:XE X Ex c tc) (hm:lastMarks [op,op'] [b,c]=false:=by with_unfolding_all rfl):XTe X Ex (.Compare a [op,op'] [b,c] pos) (xB (xChain g g' ta tb tc)):=fun F=>(pt_chain ho ho' (ha F) (hb F) (hc F) hm).weak (hq_ (tChain_x hx hx'))
end
abbrev XO:=En→(Option Int→En→Prop)→Prop
def tXo (F:Fm) (t:XO):TO:=fun σ H Q => ∃ ρ fr Qx,EOk F ρ σ fr H∧t ρ Qx∧∀ b H' ρ',EOk F ρ' σ fr H'→Qx b ρ'→Q b H'
def XOp (X:Cx) (Ex:ExT) (e:Option Expr) (t:XO):Prop := ∀ F,[OkF X Ex F]→PO X e (tXo F t)
def xoN:XO:=fun ρ Q=>Q none ρ
def xoS (t:XT):XO:=fun ρ Q=>t ρ fun s ρ'=>match s.d with
 | .int i=>Q (some i) ρ'
 | _=>False
theorem xo_none {X:Cx} {Ex:ExT}:XOp X Ex none xoN:=fun F _ pins s σ H Q I h=>by
 obtain ⟨ρ,fr,Qx,E,t,k⟩:=h
 exact po_none pins s σ H Q I (k none H ρ E t)
theorem xo_some {X:Cx} {Ex:ExT} {e:Expr} {t:XT} (h:XE X Ex e t):XOp X Ex (some e) (xoS t):=fun F _ pins s σ H Q I hq=>by
 refine po_some (h F) pins s σ H Q I ?_
 obtain ⟨ρ,fr,Qx,E,t,k⟩:=hq
 refine ⟨ρ,fr,_,E,t,fun v s H' ρ' E' q => ?_⟩
 split at q
 ·rename_i i hi
  obtain ⟨R,hx⟩:=E'.one
  rw [hi] at hx
  cases hx.int_eq
  exact ⟨i,rfl,k (some i) H' ρ' E'.drop q⟩
 ·exact q.elim
def cutX {α:Type} (xs:List α) (lo hi:Option Int):List α:=(xs.drop (HT.sIx xs.length 0 lo)).take (HT.sIx xs.length xs.length hi - HT.sIx xs.length 0 lo)
def slX (a:Dx) (lo hi:Option Int) (Q:Sv→Prop):Prop:=match a with
 | .lst l=>Q (.ol (cutX l lo hi))
 | .str z=>z.length≤1000000∧Q (.tr (.str (Txt.slice z lo hi)))
 | _=>False
def xSl (t:XT) (lo hi:XO):XT:=fun ρ Q=>t ρ fun a ρ1=>lo ρ1 fun l ρ2=>hi ρ2 fun h ρ3=>slX a.d l h fun s=>Q s ρ3
theorem xe_slice {X:Cx} {Ex:ExT} {e:Expr} {lo hi:Option Expr} {p2 pos:Pos} {t:XT} {tl th:XO} (K:FG_) (he:XE X Ex e t) (hl:XOp X Ex lo tl) (hh:XOp X Ex hi th) (h:X.K=K:=by rfl):XE X Ex (.Subscript e (.Slice lo hi none p2) pos) (xSl t tl th):=fun F =>
 (pe_slice (SlR.or (sl_listK K h) sl_str) (he F) (hl F) (hh F)).weak fun σ H Q=>by
  rintro ⟨ρ,fr,Qx,E,t,k⟩
  refine ⟨ρ,fr,_,E,t,fun v s H' ρ' E' q=>⟨ρ',_,_,E',q,fun l H2 ρ2 E2 q2=>⟨ρ2,_,_,E2,q2,fun u H3 ρ3 E3 q3 => ?_⟩⟩⟩
  obtain ⟨R,hx⟩:=E3.one
  unfold slX at q3
  split at q3
  ·rename_i m hm
   rw [hm] at hx
   obtain ⟨a,vs,rfl,h1,h2⟩:=hx.lst_eq
   refine .inl ⟨a,vs,rfl,SqL.of (R.hv _ _ h1),fun p hp=>k _ _ _ ρ3 (EOk.back E3.len (R.newL hp ?_)) q3⟩
   unfold cutV cutX
   rw [h2.len]
   exact (h2.drop _).take _
  ·rename_i z hz
   rw [hz] at hx
   cases hx.str_eq
   exact .inr ⟨z,rfl,by have:=line1; omega,k _ _ H3 ρ3 (EOk.back E3.len (R.add (IsX.of_str _))) q3.2⟩
  ·exact q3.elim
def xRevL (t:XT):XT:=fun ρ Q=>t ρ fun s ρ'=>match s.d with
 | .lst l=>Q (.ol l.reverse) ρ'
 | _=>False
theorem xe_revL {X:Cx} {Ex:ExT} {e:Expr} {t:XT} {k:Nat} {p1 p2 p3 pos:Pos} (he:XE X Ex e t):XE X Ex (.Subscript e (.Slice none none (some (.UnaryOp .USub (.Constant (.int 1) k p1) p2)) p3) pos) (xRevL t):=fun F=>(pe_revL (he F)).weak fun σ H Q=>by
 rintro ⟨ρ,fr,Qx,E,t,k⟩
 refine ⟨ρ,fr,_,E,t,fun v s H' ρ' E' q => ?_⟩
 split at q
 ·rename_i m hm
  obtain ⟨R,hx⟩:=E'.one
  rw [hm] at hx
  obtain ⟨a,vs,rfl,h1,h2⟩:=hx.lst_eq
  exact ⟨a,vs,rfl,SqL.of (R.hv _ _ h1),fun p hp=>k _ _ _ ρ' (EOk.back E'.len (R.newL hp h2.rev)) q⟩
 ·exact q.elim
def allX:GC
 | [.lst l],Q=>(∃ bs:List Bool,l=bs.map Dx.bl∧Q (.tr (.bl (bs.all id))))
 | _,_=>False
theorem bls_are {G:Hp}:∀ {bs:List Bool} {vs:List V},All2 (IsX G) (bs.map Dx.bl) vs→vs=bs.map V.bl
 | [],_,h=>h
 | b :: bs,_,⟨v,vr,e,h1,h2⟩=>by rw [e,h1.bl_eq,bls_are h2]; rfl
theorem ints_are {G:Hp}:∀ {bs:List Int} {vs:List V},All2 (IsX G) (bs.map Dx.int) vs→vs=bs.map V.int
 | [],_,h=>h
 | b :: bs,_,⟨v,vr,e,h1,h2⟩=>by rw [e,h1.int_eq,ints_are h2]; rfl
theorem cx_all {K:FG_}:CallX (rAllL K) allX:=by
 intro F P H ds xs Q Qx R hs g k
 unfold allX at g
 split at g
 ·obtain ⟨bs,rfl,g⟩:=g
  obtain ⟨x,rfl,hx⟩:=dk_ hs
  obtain ⟨a,vs,rfl,h1,h2⟩:=hx.lst_eq
  have:=bls_are h2
  subst this
  exact ⟨a,bs,rfl,SqL.of (R.hv _ _ h1),k _ _ H (R.add (IsX.of_bl _)) g⟩
 ·exact g.elim
theorem gn_ {X:Cx} (K:FG_) (hc:X.calm=true) (h:X.K=K:=by rfl):CallR X (.builtin "all") (rAllL K):=by subst h; exact call_allL hc
def max2X:GC
 | [.int i,.int j],Q=>Q (.tr (.int (if j > i then j else i)))
 | _,_=>False
def min2X:GC
 | [.int i,.int j],Q=>Q (.tr (.int (if j < i then j else i)))
 | _,_=>False
theorem cx_max2:CallX (fun xs H Q => ∃ i j,xs=[.int i,.int j]∧Q (.int (if j > i then j else i)) H) max2X:=by
 intro F P H ds xs Q Qx R hs g k
 unfold max2X at g
 split at g
 ·obtain ⟨x,y,rfl,hx,hy⟩:=all2_2 hs
  cases hx.int_eq; cases hy.int_eq
  exact ⟨_,_,rfl,k _ _ H (R.add (IsX.of_int _)) g⟩
 ·exact g.elim
theorem cx_min2:CallX (fun xs H Q => ∃ i j,xs=[.int i,.int j]∧Q (.int (if j < i then j else i)) H) min2X:=by
 intro F P H ds xs Q Qx R hs g k
 unfold min2X at g
 split at g
 ·obtain ⟨x,y,rfl,hx,hy⟩:=all2_2 hs
  cases hx.int_eq; cases hy.int_eq
  exact ⟨_,_,rfl,k _ _ H (R.add (IsX.of_int _)) g⟩
 ·exact g.elim
def maxLX:GC
 | [.lst l],Q=>(∃ ns:List Int,l=ns.map Dx.int∧ns≠[]∧∀ M,M∈ns→(∀ a∈ns,a≤M)→Q (.tr (.int M)))
 | _,_=>False
theorem cx_maxL {K:FG_}:CallX (rMaxL K) maxLX:=by
 intro F P H ds xs Q Qx R hs g k
 unfold maxLX at g
 split at g
 ·obtain ⟨bs,rfl,g1,g⟩:=g
  obtain ⟨x,rfl,hx⟩:=dk_ hs
  obtain ⟨a,vs,rfl,h1,h2⟩:=hx.lst_eq
  have:=ints_are h2
  subst this
  exact ⟨a,bs,rfl,SqL.of (R.hv _ _ h1),g1,fun M h3 h4=>k _ _ H (R.add (IsX.of_int _)) (g M h3 h4)⟩
 ·exact g.elim
theorem call_maxA {X:Cx} (K:FG_) (hc:X.calm=true) (h:X.K=K:=by rfl):CallR X (.builtin "max") (rMaxL K):=by subst h; exact call_maxR hc
theorem setC_x {F:Fm} {ti:XI} {n i:Nat} {g:TG} {gx:XG} {outs:List Nat} {tc:XC} {te:XT} (hgx:GX n g gx) (hno:outs.Nodup):∀ D σ H,tXS F (xSet i (xComp n outs ti gx tc te)) D σ H→tAsg (tComp n outs (tXi F ti) g (tXc F tc) (tX F te)) (gName i) D σ H:=by
 rintro D σ H ⟨ρ,fr,d,E,q,k⟩
 exact tComp_x hgx hno σ H _ ⟨ρ,fr,_,E,q,fun v s H' ρ' E' q'=>k.nx _ H' _ List.length_set (eok_set E') q'⟩
def startB (N:List Str) (l:List Dx) (ds:List Dx):En:=.bw l :: (ds.map (fun d=>.v (.tr d)) ++ List.replicate (N.length - (ds.length + 1)) .un)
def lentEnd (Q:Dx→List Dx→Prop) (d:Dx) (ρ:En):Prop:=match (ρ[0]? : Option Sl) with
 | some (Sl.bw l)=>Q d l
 | _=>False
abbrev retB (Q:Dx→List Dx→Prop):XD:=⟨fun ρ=>lentEnd Q .non ρ,fun s ρ=>lentEnd Q s.d ρ,fun _=>False,fun _=>False⟩
theorem fn_b {P:Program} {w:World} {K:FG_} {mg:MG_} {base:Heap} {x:Str} {st:Stmt} {f:Addr} {fd:FuncData} {N ps:List Str} {k:Nat} {g:GB} (Fn:Fun K x x st f fd) (S:FnScope N ps (defScope st)) (hlen:∀ l ds Q,g l ds Q→ds.length + 1=ps.length) (hN:ps.length≤N.length)
  (hbody:∀ (cdv:Value) (A:Around) (outer:List Env) (s:Shared) (H:Hp) (E:XK),Room k (A.deeper (PyProof.Rows.envOfC x (defScope st) s.heap.objs.size f cdv)) →
   ∃ G,XSs (cxOf CX0 P w K mg base N x (defScope st) f cdv A outer s H E).nox noEx (defBody st) G∧∀ l ds Q,g l ds Q→G (startB N l ds) (retB Q)):FnOk P w K mg base CX0 (k + 1) f fd ps (spB g):=by
 refine Fn.ok S (fun vs H Q E h => ?_) (fun cdv A outer s H vs Q E hr h => ?_)
 ·obtain ⟨p,ws,l,vr,Hs,ds,Qx,rfl,_,_,_,_,h2,h3,_⟩:=h
  rw [List.length_cons,h2.len]
  exact hlen l ds Qx h3
 obtain ⟨p,ws,l,vr,Hs,ds,Qx,rfl,hp,h1,hsp,hl,h2,h3,h4⟩:=h
 obtain ⟨G,hG,hq⟩:=hbody cdv A outer s H E hr
 have hlen':=hlen l ds Qx h3
 have nb:∀ b∈[p],Hs b=none:=fun b hb=>by rw [List.mem_singleton.mp hb]; exact hsp
 have ib:∀ b∈[p],∃ o,H b=some o:=fun b hb=>by rw [List.mem_singleton.mp hb]; exact ⟨_,hp⟩
 have fin:∀ {d:Dx} {v:V} {σ':St} {H':Hp} {ρ':En},EOk ⟨H,Hs,[p],h1,nb,ib⟩ ρ' σ' ((.v (.tr d),some v) :: []) H'→lentEnd Qx d ρ'→Q v H':=fun {d v σ' H' ρ'} E' q=>by
  unfold lentEnd at q
  split at q
  ·rename_i l' h0
   obtain ⟨R,hx⟩:=E'.one
   obtain ⟨y,hy,hi,R2⟩:=be_ ⟨E'.len,R⟩ h0
   obtain ⟨a,ws',rfl,h5,h6⟩:=R2.atB
   have ha:a=p:=List.mem_singleton.mp (R2.fr _ List.mem_cons_self a (List.mem_singleton.mpr rfl))
   subst ha
   refine h4 d v l' ws' H' (fun b o hb => ?_) h5 (h6.imp fun _ _ z=>z.to (av_ fun c hc=>by rw [List.mem_singleton.mp hc]; exact List.mem_cons_self)) (hx.to hid_sub) q
   have hb':b≠a:=fun z=>by rw [z] at hb; unfold hide at hb; rw [if_pos rfl] at hb; cases hb
   rw [gt_ hb'] at hb ⊢
   exact R.kp b o hb fun z=>hb' (List.mem_singleton.mp z)
  ·exact q.elim
 refine ⟨_,hG ⟨H,Hs,[p],h1,nb,ib⟩,startB N l ds,[],retB Qx,⟨?_,?_⟩,hq l ds Qx h3,⟨fun σ' H' ρ' _ E' q=>fin (EOk.back E'.len (E'.rep.add (d:=.non) (v:=.non) IsX.of_non)) q,fun v s σ' H' ρ' _ E' q=>fin (EOk.back E'.len E'.front.frz) q,fun _ _ _ _ _ q=>q.elim,fun _ _ _ _ _ q=>q.elim⟩⟩
 ·unfold startB L2.start
  simp only [List.length_append,List.length_map,List.length_replicate,List.length_cons]
  rw [h2.len]
  omega
 ·have R0:Rep ⟨H,Hs,[p],h1,nb,ib⟩ [] H:=⟨List.nodup_nil,fun r hr=>by simp at hr,fun r hr=>by simp at hr,fun b o h _=>h,ib⟩
  have hvis:Same Hs (Fm.vis ⟨H,Hs,[p],h1,nb,ib⟩ H):=fun b o hb=>(az_ (h1 _ _ hb)).trans hb
  have R1:=hh_ (m:=N.length - (ds.length + 1)) R0 (h2.imp fun _ _ z=>z.to hvis)
  have hown:owns ((ds.map (fun d=>Sl.v (.tr d)) ++ List.replicate (N.length - (ds.length + 1)) Sl.un).zip (vr.map some ++ List.replicate (N.length - (ds.length + 1)) none))=[]:=by
   unfold owns
   refine List.flatMap_eq_nil_iff.mpr fun r hr => ?_
   obtain ⟨a,b⟩:=r
   rcases List.mem_append.mp (List.of_mem_zip hr).1 with h | h
   ·obtain ⟨d,_,rfl⟩:=List.mem_map.mp h; rfl
   ·rw [(List.mem_replicate.mp h).2]; rfl
  rw [List.append_nil]
  have e:(startB N l ds).zip (L2.start N (.ref p :: vr))=(.bw l,some (.ref p)) :: (ds.map (fun d=>Sl.v (.tr d)) ++ List.replicate (N.length - (ds.length + 1)) Sl.un).zip (vr.map some ++ List.replicate (N.length - (ds.length + 1)) none):=by
   unfold startB L2.start
   rw [List.map_cons,List.cons_append,List.zip_cons_cons,List.length_cons,h2.len]
  rw [e]
  refine ⟨by rw [ah_ (a:=p) rfl,hown]; simp,fun r hr => ?_,fun r hr a ha => ?_,R1.kp,R1.lv⟩
  ·rw [ah_ (a:=p) rfl,hown]
   rcases List.mem_cons.mp hr with rfl | hr
   ·refine ⟨p,ws,rfl,hp,hl.imp fun _ _ z=>z.to fun b o hb=>hid_some.mpr ⟨fun z => ?_,hvis _ _ hb⟩⟩
    rw [List.mem_singleton.mp z,hsp] at hb; cases hb
   ·refine (R1.ok r hr).mono (.of fun b o hb => ?_) fun _ _=>rfl
    have hb':=hid_some.mp hb
    refine hid_some.mpr ⟨fun z => ?_,hb'.2⟩
    have h9:Hs p=some o:=(az_ hp).symm.trans (List.mem_singleton.mp z ▸ hb'.2)
    rw [hsp] at h9; cases h9
  ·rcases List.mem_cons.mp hr with rfl | hr
   ·exact ha
   ·exact R1.fr r hr a ha
theorem Cal.mono {P:Program} {w:World} {K:FG_} {mg:MG_} {base:Heap} {i j:Nat} {x:Str} {ps:List Str} {sp:Sp} (C:Cal P w K mg base i x ps sp) (h:i≤j):Cal P w K mg base j x ps sp:=by
 obtain ⟨f,fd,G,b,k,m⟩:=C
 exact ⟨f,fd,G.mono h,b,k,m⟩
theorem in_ {n:Nat} {gx:XG} {tc:XC} {te:XT} {Q:List Dx→List Sl→Prop} {cs:List Sl} (f:Dx→List Dx):∀ {ds:List Dx} {acc:List Dx},
  (∀ d∈ds,∀ (acc:List Dx) (P:List Dx→List Sl→Prop),P (acc ++ f d) cs→gx d (List.replicate n .un ++ cs) fun ρ1=>tc ρ1 fun b ρ2=>if b=true then te ρ2 fun s ρ3=>P (acc ++ [s.d]) (ρ3.drop n) else P acc (ρ2.drop n)) →
  Q (acc ++ (ds.map f).flatten) cs→compX n gx tc te Q ds cs acc
 | [],acc,_,q=>by simpa [compX] using q
 | d :: ds,acc,h,q=>by
  show gx d _ _
  exact h d List.mem_cons_self acc (fun acc cs=>compX n gx tc te Q ds cs acc) (in_ f (fun d' hd=>h d' (List.mem_cons_of_mem _ hd)) (by simpa [List.append_assoc] using q))
theorem forX_ind {gx:XG} {G:XS} {D:XD} (Pv:List Dx→En→Prop) (hd:∀ ρ,Pv [] ρ→D.nx ρ) (hs:∀ d ds ρ (K:En→Prop),Pv (d :: ds) ρ→(∀ ρ',Pv ds ρ'→K ρ')→gx d ρ fun ρ1=>G ρ1 { D with nx:=K,ct:=K,bk:=D.nx }) :
  ∀ {ds:List Dx} {ρ:En},Pv ds ρ→forX gx G D ds ρ
 | [],ρ,h=>hd ρ h
 | d :: ds,ρ,h=>hs d ds ρ (forX gx G D ds) h fun ρ' h'=>forX_ind Pv hd hs h'
section
variable {α:Type} {a b c d:α}
theorem at10:atI [a] 0=some a:=rfl
theorem at20:atI [a,b] 0=some a:=rfl
theorem at21:atI [a,b] 1=some b:=rfl
theorem at30:atI [a,b,c] 0=some a:=rfl
theorem at31:atI [a,b,c] 1=some b:=rfl
theorem at32:atI [a,b,c] 2=some c:=rfl
theorem at40:atI [a,b,c,d] 0=some a:=rfl
theorem at41:atI [a,b,c,d] 1=some b:=rfl
theorem at42:atI [a,b,c,d] 2=some c:=rfl
theorem at43:atI [a,b,c,d] 3=some d:=rfl
theorem ix30:ixN 3 0=some 0:=rfl
theorem ix31:ixN 3 1=some 1:=rfl
theorem ix32:ixN 3 2=some 2:=rfl
end
theorem lent_bw {l:List Dx}:lent (.bw l)=some (l,.bw):=rfl
theorem lent_ol {l:List Dx}:lent (.v (.ol l))=some (l,fun l'=>.v (.ol l')):=rfl
theorem len3 {α:Type} {a b c:α}:[a,b,c].length=3:=rfl
theorem atI_of {α:Type} {l:List α} {i:Int} (h0:0≤i) (h1:i < l.length):∃ x,atI l i=some x∧l[i.toNat]? = some x:=by
 have hk:i.toNat < l.length:=by omega
 refine ⟨l[i.toNat],?_,List.getElem?_eq_getElem hk⟩
 unfold atI
 have:ixN l.length i=some i.toNat:=by
  unfold ixN
  simp only [h0]
  split <;> simp_all <;> omega
 rw [this]
 exact List.getElem?_eq_getElem hk
abbrev GP:=List Dx→Dx→(Dx→Prop)→Prop
def OpL (r:R2) (g:GP):Prop := ∀ (G:Hp) (H:Hp) (p:Addr) (ws:List V) (l:List Dx) (b:Dx) (y:V) (Q:VK) (Qx:Dx→Prop),Same G H→H p=some (.lst ws)→All2 (IsX G) l ws→IsX G b y→g l b Qx→(∀ v d,IsX G d v→Qx d→Q v H)→r (.ref p) y H Q
def xPkL (g:GP) (i:Nat) (t:XT):XT:=fun ρ Q=>((ρ[i]?).bind lent).isSome=true∧t ρ fun k ρ'=>match (ρ'[i]?).bind lent with
 | some (l,_)=>g l k.d fun d=>Q (.tr d) ρ'
 | none=>False
section
variable {X:Cx} {Ex:ExT} {F:Fm} {i:Nat} {t:XT} {r:R2} {g:GP} {x:Str} {a b e:Expr} {p pos:Pos}
theorem pkL_x (hx:OpL r g):∀ σ H Q,tX F (xPkL g i t) σ H Q→tOp r (tVar i) (tX F t) σ H Q:=by
 rintro σ H Q ⟨ρ,fr,Qx,E,⟨h0,q⟩,k⟩
 obtain ⟨⟨l,f⟩,h1⟩:=Option.isSome_iff_exists.mp h0
 obtain ⟨p,ws,hv,_⟩:=gk_ E h1
 refine ⟨.ref p,hv,ρ,fr,_,E,q,fun w s H' ρ' E' q' => ?_⟩
 split at q'
 ·rename_i l' f' hb
  obtain ⟨R,hs⟩:=E'.one
  obtain ⟨p',ws',hv',hp,hl,_⟩:=gk_ E'.drop hb
  rw [hv] at hv'; cases hv'
  exact hx _ H' p ws' l' s.d w Q _ R.hv hp hl hs q' fun v d hd qd=>k v (.tr d) H' ρ' (EOk.back E'.len (R.add hd)) qd
 ·exact q'.elim
def neP (n:Bool):GP:=fun l k Q=>match k with
 | .lst []=>Q (.bl (if n then !l.isEmpty else l.isEmpty))
 | _=>False
theorem ol_ne {K:FG_} {r:R2} (n:Bool):OpL (fun x y H Q=>r x y H Q∨rEqN K n x y H Q) (neP n):=by
 intro G H p ws l b y Q Qx hs hp hl hb g k
 unfold neP at g
 split at g
 ·obtain ⟨p',vs',rfl,q3,q4⟩:=hb.lst_eq
  cases (show vs'=[] from q4)
  refine .inr ⟨p,p',ws,rfl,rfl,SqL.of hp,SqL.of (hs _ _ q3),k _ _ ?_ g⟩
  have:ws.isEmpty=l.isEmpty:=by
   have:=hl.len
   cases ws <;> cases l <;> simp at this ⊢
  rw [this]
  exact IsX.of_bl _
 ·exact g.elim
theorem xt_pkEq (K:FG_) (hu:X.A.units < cLine) (hv:PE X (.Name x p) (tVar i)) (hb:XE X Ex b t) (hm:behindInMarks .Eq b=false) (h:X.K=K:=by rfl):XTe X Ex (.Compare (.Name x p) [.Eq] [b] pos) (xB (xPkL (neP false) i t)):=fun F=>(pt_cmpR (br_ K hu h) hv (hb F) hm).weak (hq_ (pkL_x (ol_ne false)))
end
theorem XE.at {X:Cx} {Ex:ExT} {e:Expr} {t:XT} (F:Fm) [OkF X Ex F] (h:XE X Ex e t):PE X e (tX F t):=h F
theorem XIt.at {X:Cx} {Ex:ExT} {tg e:Expr} {t:XI} (F:Fm) [OkF X Ex F] (h:XIt X Ex tg e t):PI X tg e (tXi F t):=h F
theorem XCs.at {X:Cx} {Ex:ExT} {e:List Expr} {t:XC} (F:Fm) [OkF X Ex F] (h:XCs X Ex e t):PCs X e (tXc F t):=h F
section
variable {α:Type} {n:Nat} {gx:XG} {tc:XC} {te:XT} {Q:List Dx→List Sl→Prop}
abbrev stepX (n:Nat) (gx:XG) (tc:XC) (te:XT) (P:List Dx→List Sl→Prop) (d:Dx) (cs:List Sl) (acc:List Dx):Prop:=gx d (List.replicate n .un ++ cs) fun ρ1=>tc ρ1 fun b ρ2=>if b=true then te ρ2 fun s ρ3=>P (acc ++ [s.d]) (ρ3.drop n) else P acc (ρ2.drop n)
theorem cb_ {cs:List Sl} (φ ψ:α→Dx):∀ {as:List α} {acc:List Dx},(∀ a∈as,∀ (acc:List Dx) (P:List Dx→List Sl→Prop),P (acc ++ [ψ a]) cs→stepX n gx tc te P (φ a) cs acc) →
  Q (acc ++ as.map ψ) cs→compX n gx tc te Q (as.map φ) cs acc
 | [],acc,_,q=>by simpa [compX] using q
 | a :: as,acc,h,q=>by
  show gx (φ a) _ _
  exact h a List.mem_cons_self acc (fun acc cs=>compX n gx tc te Q (as.map φ) cs acc) (cb_ φ ψ (fun a' ha=>h a' (List.mem_cons_of_mem _ ha)) (by simpa [List.append_assoc] using q))
theorem cu_ (φ:α→Dx) (I:List α→List Dx→List Sl→Prop) (hd:∀ acc cs,I [] acc cs→Q acc cs) (hs:∀ a as acc cs (P:List Dx→List Sl→Prop),I (a :: as) acc cs→(∀ acc' cs',I as acc' cs'→P acc' cs')→stepX n gx tc te P (φ a) cs acc) :
  ∀ {as:List α} {acc:List Dx} {cs:List Sl},I as acc cs→compX n gx tc te Q (as.map φ) cs acc
 | [],acc,cs,h=>hd acc cs h
 | a :: as,acc,cs,h=>by
  show gx (φ a) _ _
  exact hs a as acc cs (fun acc cs=>compX n gx tc te Q (as.map φ) cs acc) h fun acc' cs' h'=>cu_ φ I hd hs h'
theorem db_ {gx:XG} {G:XS} {D:XD} (φ:α→Dx) (Pv:List α→En→Prop) (hd:∀ ρ,Pv [] ρ→D.nx ρ) (hs:∀ d ds ρ (K:En→Prop),Pv (d :: ds) ρ→(∀ ρ',Pv ds ρ'→K ρ')→gx (φ d) ρ fun ρ1=>G ρ1 { D with nx:=K,ct:=K,bk:=D.nx }) :
  ∀ {ds:List α} {ρ:En},Pv ds ρ→forX gx G D (ds.map φ) ρ
 | [],ρ,h=>hd ρ h
 | d :: ds,ρ,h=>hs d ds ρ (forX gx G D (ds.map φ)) h fun ρ' h'=>db_ φ Pv hd hs h'
end
section
variable {X:Cx} {Ex:ExT} {F:Fm} {e:Expr} {kws:List Keyword} {x:Str} {p pos:Pos} {u:XA} {t:XT}
theorem xe_glob {i:Int} (hg:Gl X x) (hm:∃ t,X.mg x=some (.int i t)) (hd:(x == ("__debug__" : Str))=false:=by decide):XE X Ex (.Name x pos) (xC (.int i)):=by
 obtain ⟨t,hm⟩:=hm
 exact xe_c (pe_glob (v:=.int i) hg hm ⟨t,rfl⟩ hd) _ fun _=>IsX.of_int _
def xBits (t:XT):XT:=fun ρ Q=>t ρ fun s ρ'=>match s.d with
 | .int i=>Q (.tr (.int (Builtin.Int.intBits i))) ρ'
 | _=>False
theorem bits_x {K:FG_}:∀ σ H Q,tX F (xBits t) σ H Q→tBM0 K "int" rBits (tX F t) σ H Q:=by
 rintro σ H Q ⟨ρ,fr,Qx,E,q,k⟩
 refine ⟨ρ,fr,_,E,q,fun v s H' ρ' E' q' => ?_⟩
 obtain ⟨R,hs⟩:=E'.one
 split at q'
 ·rename_i i hi
  rw [hi] at hs
  cases hs.int_eq
  exact ⟨rfl,i,rfl,rfl,k _ _ H' ρ' (EOk.back E'.len (R.add (IsX.of_int _))) q'⟩
 ·exact q'.elim
end
theorem vals_of:∀ {xs:List V} {us:List Value},xs.length=us.length→(∀ (i:Nat) x u,xs[i]? = some x→us[i]? = some u→RelV x u)→Vals xs us
 | [],[],_,_=>.nil
 | [],_ :: _,h,_=>by simp at h
 | _ :: _,[],h,_=>by simp at h
 | x :: xs,u :: us,hl,h=>.cons (h 0 x u rfl rfl) (vals_of (by simpa using hl) fun i a b h1 h2=>h (i + 1) a b (by simpa using h1) (by simpa using h2))
def neL:G2:=fun a b Q=>match a,b with
 | .lst l,.lst m => ∃ ns:List Int,l=ns.map Dx.int∧m=ns.map Dx.int∧Q (.tr (.bl false))
 | _,_=>False
theorem OkF.up {X:Cx} {Ex Ex':ExT} {F F':Fm} (h:OkF X Ex F) (hx:∀ c,Ex' c→Ex c) (hk:∀ H,Kept F' H→Kept F H):OkF X Ex' F' :=
 ⟨fun pins σ H s' ea cls I a e k=>h.pass1 pins σ H s' ea cls I a (hx _ e) (hk _ k)⟩
section
variable {X:Cx} {Ex:ExT} {F:Fm} {a b e:Expr} {x:Str} {p pos:Pos} {ta tb t:XT} {tl th:XO} {u:XA} {K:FG_}
theorem atI_map {α β:Type} {f:α→β} {l:List α} {i:Int}:atI (l.map f) i=(atI l i).map f:=by
 unfold atI
 rw [List.length_map]
 cases ixN l.length i with
 | none=>rfl
 | some n=>exact List.getElem?_map
def ixZ (K:FG_):G2
 | .scr K' ns,.int i,Q=>K'=K∧(match atI ns i with | some n=>Q (.tr (.int n)) | none=>False)
 | _,_,_=>False
theorem ox_ixZ:OpX (rIxL K) (ixZ K):=by
 intro F P H a b x y Q Qx R ha hb g k
 unfold ixZ at g
 split at g
 ·obtain ⟨rfl,g⟩:=g
  obtain ⟨p,rfl,h1⟩:=ha.scr_eq
  cases hb.int_eq
  split at g
  ·rename_i n hn
   refine ⟨p,_,_,V.int n,rfl,rfl,SameF.sq (.of R.hv) h1,?_,k _ _ H (R.add (IsX.of_int _)) g⟩
   rw [atI_map,hn]; rfl
  ·exact g.elim
 ·exact g.elim
theorem xe_ixZ (K:FG_) (ha:XE X Ex a ta) (hb:XE X Ex b tb) (hs:PlainIx b) (h:X.K=K:=by rfl):XE X Ex (.Subscript a b pos) (xOp (ixZ K) ta tb):=fun F=>(pe_ix (hk_ K h) (ha F) (hb F) hs).weak (tOp_x ox_ixZ)
def lenZ (K:FG_):GC
 | [.scr K' ns],Q=>K'=K∧Q (.tr (.int ns.length))
 | _,_=>False
theorem cx_lenZ:CallX (rLen K) (lenZ K):=by
 intro F P H ds xs Q Qx R hs g k
 unfold lenZ at g
 split at g
 ·obtain ⟨rfl,g⟩:=g
  obtain ⟨x,rfl,hx⟩:=dk_ hs
  obtain ⟨a,rfl,h1⟩:=hx.scr_eq
  exact .inl ⟨a,_,rfl,.inl (SameF.sq (.of R.hv) h1),k _ _ H (R.add (by rw [List.length_map]; exact IsX.of_int _)) g⟩
 ·exact g.elim
theorem cut_map {α β:Type} {f:α→β} (l:List α) (lo hi:Option Int):cutX (l.map f) lo hi=(cutX l lo hi).map f:=by
 unfold cutX
 rw [List.length_map,List.map_take,List.map_drop]
end
def spLaw (K:FG_):Sp:=fun vs H Q _ => ∃ (a:Addr) (ns:List Int),vs=[.ref a]∧SqL K H a (ns.map V.int)∧ns.length≤63∧∀ H',Q (.bl true) H'
def gLaw (K:FG_):GC:=fun ds Q => ∃ ns:List Int,ds=[.scr K ns]∧ns.length≤63∧Q (.tr (.bl true))
theorem law_tree {P:Program} {w:World} {K:FG_} {mg:MG_} {base:Heap} {f:Addr} {fd:FuncData} {j:Nat} (h:FnOk P w K mg base CX0 j f fd ["script"] (spX (gLaw K))):FnOk P w K mg base CX0 j f fd ["script"] (spLaw K):=h.imp fun vs H Q E=>by
 rintro ⟨a,ns,rfl,hS,hl,q⟩
 refine ⟨H,[.scr K ns],fun s=>s=.tr (.bl true),Same.refl _,⟨_,_,rfl,IsX.of_scr hS,rfl⟩,⟨ns,rfl,hl,rfl⟩,fun s v H' _ hr e => ?_⟩
 subst e
 have hr':IsX (ext H H H') (.bl true) v:=hr
 cases hr'.bl_eq
 exact q H'
end Lf
namespace L2
open PySem
end L2
namespace Lf
open PySem L2
abbrev GE:=List Dx→(Sv→Prop)→ExT→Prop
theorem objOk_obj {P:Program} {w:World} {H:Hp} {h:Heap} {a:Addr} {o:HO} (x:ObjOk P w H h a o):∃ ob,h.get? a=some ob:=by
 cases o with
 | lst xs=>obtain ⟨z,its,n,r,e⟩:=x; exact ⟨_,e⟩
 | tup xs=>obtain ⟨z,its,r,ob,e,c⟩:=x; exact ⟨_,e⟩
 | dK kvs=>obtain ⟨z,y,vs,r,ob,es,ep,e,c⟩:=x; exact ⟨_,e⟩
 | dT kvs=>obtain ⟨z,y,xs,r,ob,es,ep,e,c⟩:=x; exact ⟨_,e⟩
 | set S n=>obtain ⟨ob,es,ep,t,e,c⟩:=x; exact ⟨_,e⟩
 | ins C dx fs=>obtain ⟨d,z,ne,e,_⟩:=x; exact ⟨_,e⟩
 | own y=>exact x
 | xd fs=>obtain ⟨mA,⟨od,es,ep,e,c⟩,r⟩:=x; exact ⟨_,e⟩
 | rng lo hi=>obtain ⟨t,u,v,e⟩:=x; exact ⟨_,e⟩
 | frz ob u=>exact ⟨_,x.1⟩
 | tbl ps=>exact ⟨_,x⟩
 | met f y=>exact ⟨_,x⟩
 | ext φ=>exact x.2.1
theorem HOk.none {P:Program} {w:World} {H:Hp} {h:Heap} (x:HOk P w H h) {a:Addr} (n:h.get? a=.none):H a=.none:=by
 cases q:H a with
 | none=>rfl
 | some o =>
  obtain ⟨ob,e⟩:=objOk_obj (x a o q)
  rw [n] at e; cases e
abbrev veM:List Value:=[.type "ValueError",.type "Exception",.type "BaseException",.type "object"]
abbrev XQ:=En→(En→Prop)→(Value→En→Prop)→Prop
end Lf
namespace PySem.W
open PySem PySem.Spec PySem.Calls PyProof.Rows
section
variable {prog:Program} {w:World} {A:Around} {E:SV_} {s:Shared} {K:Frag} {x C D:Addr} {ox:Obj} {od:Obj} {odo:Option Obj} {name:Str}
def excKit (K:Frag) (D:Addr):Bool:=(findIn K (.ref D) "__getattribute__" == some (some (.builtin "BaseException.__getattribute__"))) && (findIn K (.ref D) "__getattr__" == some none) && (mroIn K D (.type "BaseException") == some true) && (mroIn K D (.type "object") == some true) &&
 (findIn K (.ref D) "__class__" == some (some (.builtin "object.__class__"))) && (specialIn K (.builtin "object.__class__") "__get__" == some (some (.builtin "getset_descriptor.__get__"))) && (takesIn K (.builtin "object.__class__") == some true)
end
end PySem.W
namespace Lf
open PySem L2
open PySem.W (Frag nsIn)
def noName (K:Frag) (N:Addr) (n:Str):Bool:=match K.lookup N with
 | some ⟨_,_,.dict es _,_⟩=>es.toList.all (fun e=>match e.key with | .str _ _=>true | _=>false) && (es.toList.find? (·.key.isStr n)).isNone
 | _=>false
def tailOk (K:Frag):Nat→List Value→Bool
 | n + 1,.ref A :: r=>(match K.lookup A with
  | some ⟨_,_,.cls cd,_⟩=>noName K cd.ns "__init__" && tailOk K n r
  | _=>false)
 | _,l=>l == veM
def clsOk (K:Frag) (C:Addr):Bool:=match K.lookup C with
 | some ⟨.type "type",_,.cls cd,sl⟩=>(match cd.mro with
  | .ref C' :: tl=>C' == C && cd.hasDel == false && sl.size == 6 && sl[4]? == some (some (.builtin "ValueError.__new__")) && noName K cd.ns "__init__" && tailOk K 4 tl
  | _=>false) && PySem.W.excKit K C
 | _=>false
def clsAt (K:Frag) (n:Str):Option Addr:=match nsIn K mainGlobals n with
 | some (some (.ref C))=>some C
 | _=>none
section
variable {K:Frag} {h:Heap}
theorem noName_ns {N:Addr} {n:Str} (e:noName K N n=true) (X:K.In h):∃ m,h.Ns N m∧m n=none:=by
 unfold noName at e
 split at e
 ·rename_i c d es ep sl q
  obtain ⟨e1,e2⟩:=Bool.and_eq_true_iff.mp e
  refine ⟨nsFind es,⟨_,es,ep,X _ _ q,rfl,fun en hen => ?_,fun _=>rfl⟩,?_⟩
  ·have:=List.all_eq_true.mp e1 en (by simpa using hen)
   split at this
   ·rename_i x t hk; exact ⟨x,t,hk⟩
   ·cases this
  ·unfold nsFind findBy
   rw [← Array.find?_toList]
   rw [Option.isNone_iff_eq_none] at e2
   rw [e2]
   rfl
 ·cases e
theorem tailOk_own:∀ (k:Nat) (l:List Value),tailOk K k l=true→K.In h→OwnTail h veM l
  | 0, l, e, X => by
    have:l=veM:=by simpa [tailOk] using e
    rw [this]; exact .base
  | k + 1, [], e, X => by
    have:([]:List Value)=veM:=by simpa [tailOk] using e
    rw [this]; exact .base
  | k + 1, v :: r, e, X => by
    cases v with
    | ref A =>
      unfold tailOk at e
      split at e
      · rename_i c d cd sl q
        obtain ⟨e1,e2⟩:=Bool.and_eq_true_iff.mp e
        obtain ⟨m,hm,hn⟩:=noName_ns e1 X
        exact .own (X _ _ q) hm hn (tailOk_own k r e2 X)
      · cases e
    | none => have : Value.none :: r = veM := by simpa [tailOk] using e
              cases this
    | bool b => have : Value.bool b :: r = veM := by simpa [tailOk] using e
                cases this
    | int i t => have : Value.int i t :: r = veM := by simpa [tailOk] using e
                 cases this
    | str x t => have : Value.str x t :: r = veM := by simpa [tailOk] using e
                 cases this
    | bytes x t => have : Value.bytes x t :: r = veM := by simpa [tailOk] using e
                   cases this
    | float x t => have : Value.float x t :: r = veM := by simpa [tailOk] using e
                   cases this
    | builtin x => have : Value.builtin x :: r = veM := by simpa [tailOk] using e
                   cases this
    | type T => have : Value.type T :: r = veM := by simpa [tailOk] using e
                rw [this]; exact .base
    | _=>first | (simp [tailOk] at e; done) | (exfalso; revert e; simp [tailOk])
theorem clsOk_own {C:Addr} {x:Str} {mg:MG_} (e:clsOk K C=true) (hm:mg x=some (.ref C)) (X:K.In h):PyProof.Rows.OwnCls x C veM "ValueError.__new__" mg h:=by
 unfold clsOk at e
 split at e
 ·rename_i dd cd sl q
  obtain ⟨e1,_⟩:=Bool.and_eq_true_iff.mp e
  split at e1
  ·rename_i C' tl hmro
   simp only [Bool.and_eq_true,beq_iff_eq] at e1
   obtain ⟨⟨⟨⟨⟨rfl,h2⟩,h3⟩,h4⟩,h5⟩,h6⟩:=e1
   obtain ⟨m,hns,hni⟩:=noName_ns h5 X
   have hsl:sl = #[sl.getD 0 none,sl.getD 1 none,sl.getD 2 none,sl.getD 3 none,some (.builtin "ValueError.__new__"),sl.getD 5 none]:=by
    apply Array.ext_getElem?
    intro i
    match i with
    | 0=>simp [h3]
    | 1=>simp [h3]
    | 2=>simp [h3]
    | 3=>simp [h3]
    | 4=>simp [h4]
    | 5=>simp [h3]
    | i + 6=>rw [Array.getElem?_eq_none (by rw [h3]; omega),Array.getElem?_eq_none (by simp)]
   refine ⟨hm,tl,cd.ns,cd.name,cd.qualname,cd.bases,cd.hasDict,cd.slotNames,cd.subclasses,cd.abstract,cd.collection,dd,sl.getD 0 none,sl.getD 1 none,sl.getD 2 none,sl.getD 3 none,sl.getD 5 none,m,?_,hns,hni,tailOk_own 4 tl h6 X⟩
   have:=X _ _ q
   rw [this]
   obtain ⟨nm,bs,mro,ns,qn,hd,sn,sub,ab,col,hdel⟩:=cd
   dsimp only at hmro h2 ⊢
   subst hmro h2
   unfold excClassObj
   rw [← hsl]
  ·cases e1
 ·cases e
end
end Lf
namespace L2
open PySem PySem.Spec PySem.SeqAt PySem.AutoSeq1 PySem.MeetsSeq PyProof.Rows
end L2
namespace L2
open PySem PySem.Spec PySem.SeqAt PyProof.Rows
end L2
namespace Lf
open PySem L2
open PySem.W (Frag nsIn)
structure ClsX (K:Frag) (mg:MG_) (n:Str) (C:Addr):Prop where
 at':clsAt K n=some C
 m:mg n=some (.ref C)
 ok:clsOk K C=true
theorem ClsX.own {K:Frag} {mg:MG_} {n:Str} {C:Addr} {base:Heap} (x:ClsX K mg n C) (X:K.In base):PyProof.Rows.OwnCls n C veM "ValueError.__new__" mg base:=clsOk_own x.ok x.m X
def rows:List Dx→List V→List Rw
 | d :: ds,v :: vs=>(.v (.tr d),some v) :: rows ds vs
 | _,_=>[]
end Lf
namespace L2
open PySem PySem.Spec PyProof.Rows
end L2
namespace Lf
open PySem L2
def sgX (x:Str):List Dx:=x.cps.toList.map fun c=>.str ⟨#[c]⟩
theorem sgX_at {x:Str} {i:Nat} {d:Dx} (h:(sgX x)[i]? = some d):∃ c,x.cps[i]? = some c∧d=.str ⟨#[c]⟩:=by
 unfold sgX at h
 rw [List.getElem?_map] at h
 obtain ⟨c,h1,h2⟩:=Option.map_eq_some_iff.mp h
 exact ⟨c,by simpa using h1,h2.symm⟩
theorem itx_str {F:Fm} {x:Str}:ItX F (Its x) [] (sgX x) where
 go:=fun P H i d R hd=>by
  obtain ⟨c,h1,_⟩:=sgX_at hd
  exact (Array.getElem?_eq_some_iff.mp h1).1
 stop:=fun P H i R hi=>by
  unfold sgX at hi
  rw [List.length_map,Array.length_toList] at hi
  exact hi
 yld:=fun P H i d y H' R hd q=>by
  obtain ⟨rfl,c,h1,rfl⟩:=q
  obtain ⟨c',h2,rfl⟩:=sgX_at hd
  rw [h1] at h2
  cases h2
  exact R.add (IsX.of_str _)
def xiS (t:XT):XI:=fun ρ Q=>t ρ fun s ρ'=>match s.d with
 | .str z=>Q (sgX z) ρ'
 | _=>False
section
variable {X:Cx} {Ex:ExT} {tg l a b:Expr} {t ta tb:XT} {x:Str} {p pos:Pos}
theorem xi_str (h:XE X Ex l t):XIt X Ex tg l (xiS t):=fun F=>(pi_str (h F)).weak fun σ H R=>by
 rintro ⟨ρ,fr,Qx,E,t,k⟩
 refine ⟨ρ,fr,_,E,t,fun v s H' ρ' E' q => ?_⟩
 split at q
 ·rename_i z hz
  obtain ⟨R1,hs⟩:=E'.one
  rw [hz] at hs
  cases hs.str_eq
  exact ⟨z,rfl,k _ H' ρ' [] _ ⟨E'.len,R1⟩ itx_str q⟩
 ·exact q.elim
def inSX (neg:Bool):G2
 | .str i,.str j,Q=>Q (.tr (.bl (if neg then !(!(Builtin.Str.occurrences j i 0 j.length 1).isEmpty) else !(Builtin.Str.occurrences j i 0 j.length 1).isEmpty)))
 | _,_,_=>False
theorem ox_inS:OpX (fun x y H Q => ∃ i j,x=.str i∧y=.str j∧Q (.bl (!(Builtin.Str.occurrences j i 0 j.length 1).isEmpty)) H) (inSX false):=by
 intro F P H a b x y Q Qx R ha hb g k
 unfold inSX at g
 split at g
 ·cases ha.str_eq
  cases hb.str_eq
  exact ⟨_,_,rfl,rfl,k _ _ H (R.add (IsX.of_bl _)) g⟩
 ·exact g.elim
theorem hc_ {i:Str} (hg:Gl X x) (hm:∃ t,X.mg x=some (.str i t)) (hd:(x == ("__debug__" : Str))=false:=by decide):XE X Ex (.Name x pos) (xC (.str i)):=by
 obtain ⟨t,hm⟩:=hm
 exact xe_c (pe_glob (v:=.str i) hg hm ⟨t,rfl⟩ hd) _ fun _=>IsX.of_str _
end
theorem go_ {G K:XS} {ρ:En} {D:XD} (M:En→Prop) (h1:∀ ρ',M ρ'→K ρ' D) (h2:∀ nx:En→Prop,(∀ ρ',M ρ'→nx ρ')→G ρ { D with nx:=nx }):xSeq G K ρ D:=h2 _ h1
end Lf
namespace L2
open PySem PySem.Spec PyProof.Rows
end L2
namespace Lf
open PySem L2
def nst:Expr→Bool
 | .Starred _ _=>false
 | _=>true
theorem starE {e:Expr} {es:List Expr} {env:Env} (h:nst e=true):starEach (e :: es) env=(false,eval e env) :: starEach es env:=by
 cases e <;> first | rfl | cases h
theorem xa_consN {X:Cx} {Ex:ExT} {e:Expr} {es:List Expr} {t:XT} {u:XA} (h:XE X Ex e t) (h':XAs X Ex es u) (hn:nst e=true:=by rfl):XAs X Ex (e :: es) (xCons t u):=aa_ h h' (starE hn)
structure Bx (p:Prop):Prop where
 out:p
section
variable {X:Cx} {Ex:ExT} {a b c e o k v l:Expr} {es:List Expr} {t ta tb te tk tv:XT} {u:XA} {pos p p2:Pos} {x:Str} {i j:Nat}
theorem ec_ {i:Int} {j:Nat}:Bx (XE X Ex (.Constant (.int i) j pos) (xC (.int i))):=⟨ae_⟩
theorem be_str {x:Str} {j:Nat}:Bx (XE X Ex (.Constant (.str x) j pos) (xC (.str x))):=⟨ay_⟩
theorem be_tup {j:Nat} (h:Bx (XAs X Ex es u)):Bx (XE X Ex (.Tuple es j pos) (xTup u)):=⟨dw_ h.out⟩
theorem be_lst (h:Bx (XAs X Ex es u)):Bx (XE X Ex (.List es pos) (xLst u)):=⟨dj_ h.out⟩
theorem be_ix (K:FG_) (ha:Bx (XE X Ex a ta)) (hb:Bx (XE X Ex b tb)) (hs:PlainIx b) (h:X.K=K:=by rfl):Bx (XE X Ex (.Subscript a b pos) (xOp ixX ta tb)):=⟨an_ K ha.out hb.out hs h⟩
variable {lo hi:Option Expr} {tl th:XO}
theorem ba_nil:Bx (XAs X Ex [] xNil):=⟨ad_⟩
theorem cc_ (h:Bx (XE X Ex e t)) (h':Bx (XAs X Ex es u)) (hn:nst e=true:=by rfl):Bx (XAs X Ex (e :: es) (xCons t u)):=⟨xa_consN h.out h'.out hn⟩
def nstA:List Expr→Bool
 | []=>true
 | e :: es=>nst e && nstA es
theorem starA {env:Env}:∀ {es:List Expr},nstA es=true→(backTo pos (starEach es env)).any (·.1)=false
 | [],_=>rfl
 | e :: es,h=>by
  simp only [nstA,Bool.and_eq_true] at h
  rw [starE h.1]
  exact starA h.2
theorem be_callP {ps:List Str} {g:GB} (C:Cal X.prog X.w X.K X.mg X.base j x ps (spB g)) (hr:Room j X.A) (hv:PE X e (tVar i)) (ha:Bx (XAs X Ex es u)) (hg:Gl X x:=by rfl) (hdb:(x == ("__debug__" : Str))=false:=by decide) (he:nst e=true:=by rfl) (hes:nstA es=true:=by rfl):Bx (XE X Ex (.Call (.Name x p) (e :: es) [] pos) (xCallB g i u)):=⟨bc_ C hr hv ha.out hg hdb (starE he) (starA hes)⟩
variable {r:R2} {g:G2} {op:CmpOp} {tc uc:XC} {rest:List Expr}
variable {st:Stmt} {sts as bs:List Stmt} {G K:XS}
theorem bs_if (hc:Bx (XTe X Ex c tc)) (ha:Bx (XSs X Ex as G)) (hb:Bx (XSs X Ex bs K)):Bx (XSt X Ex (.If c as bs pos) (xIf tc G K)):=⟨bf_ hc.out ha.out hb.out⟩
theorem bs_ret (he:Bx (XE X Ex e t)):Bx (XSt X Ex (.Return (some e) pos) (xRet t)):=⟨ai_ he.out⟩
theorem bss_nil:Bx (XSs X Ex [] xNext):=⟨aj_⟩
theorem bss_one (h:Bx (XSt X Ex st G)):Bx (XSs X Ex [st] G):=⟨af_ h.out⟩
theorem er_ (h:Bx (XSt X Ex st G)) (h':Bx (XSs X Ex sts K)):Bx (XSs X Ex (st :: sts) (xSeq G K)):=⟨ac_ h.out h'.out⟩
end
end Lf
namespace L2
open PySem PySem.Spec PySem.SeqAt PySem.AutoSeq1 PySem.MeetsSeq PyProof.Rows
def isNone:Value→Bool
 | .none=>true
 | _=>false
end L2
namespace Lf
open PySem L2
end Lf
namespace L2
open PySem PySem.Spec PySem.SeqAt PyProof.Rows
end L2
namespace Lf
open PySem L2
def xJoin (z:Str) (t:XT):XT:=fun ρ Q=>t ρ fun s ρ' => ∃ ys:List Str,s.d=.lst (ys.map Dx.str)∧(ys.map (·.length)).sum + ys.length * z.length≤16777216∧Q (.tr (.str (Txt.join z ys))) ρ'
theorem strs_of {G:Hp}:∀ {ys:List Str} {vs:List V},All2 (IsX G) (ys.map Dx.str) vs→vs=ys.map V.str
 | [],_,h=>h
 | x :: xs,_,⟨v,vr,e,h1,h2⟩=>by rw [e,strs_of h2,h1.str_eq]; rfl
theorem xe_join {X:Cx} {Ex:ExT} {e:Expr} {t:XT} {z:Str} {j:Nat} {sp apos cpos:Pos} (h:XE X Ex e t)
  (hbase:attributeBase (.Constant (.str z) j sp) "join" X.env (eval (.Constant (.str z) j sp) X.env)=eval (.Constant (.str z) j sp) X.env:=by rfl)
  (hfew:((backTo cpos (starEach [e] X.env)).all (fun x => !x.1) && (backToKw cpos (keywordEach [] X.env)).all (fun x=>x.1.isSome)
   && decide ([e].length + ([]:List Keyword).length + (if ([]:List Keyword).isEmpty then 0 else 1) < 30))=true:=by rfl)
  (hline:(apos.endLine == cpos.line)=true:=by rfl) (hs:starEach [e] X.env=(false,eval e X.env) :: starEach [] X.env:=by rfl) (hplain:(backTo cpos (starEach [] X.env)).any (·.1)=false:=by rfl) :
  XE X Ex (.Call (.Attribute (.Constant (.str z) j sp) "join" apos) [e] [] cpos) (xJoin z t):=fun F =>
 (pe_bm PySem.F.plainAttrs_str PySem.F.slot_str_join PySem.F.type_str_join mt_join (pe_str (x:=z)) (ar_ (h F) bi_ hs) hbase hfew hline hs hplain).weak fun σ H Q=>by
  rintro ⟨ρ,fr,Qx,E,t,k⟩
  refine ⟨rfl,ρ,fr,_,E,t,fun v s H' ρ' E' q => ?_⟩
  obtain ⟨ys,hd,hz,q⟩:=q
  obtain ⟨R,hx⟩:=E'.one
  rw [hd] at hx
  obtain ⟨p,vs,rfl,q1,q2⟩:=hx.lst_eq
  cases strs_of q2
  exact ⟨z,p,ys,rfl,rfl,SqL.of (R.hv _ _ q1),hz,k _ _ H' ρ' (EOk.back E'.len (R.add (IsX.of_str _))) q⟩
end Lf
namespace L2
open PySem PySem.Spec PyProof.Rows
end L2
namespace Lf
open PySem L2
end Lf
namespace L2
open PySem PySem.Spec PyProof.Rows Builtin Builtin.Str
end L2
namespace Lf
open PySem L2
def xCallPk (g:GC) (i:Nat) (u:XA):XT:=fun ρ Q=>(∃ s,ρ[i]? = some (.v s))∧u ρ fun ss ρ'=>match ρ'[i]? with
 | some (.v s)=>g (s.d :: ss.map Sv.d) fun r => ∃ b,r=.tr (.bl b)∧Q (.tr (.bl b)) ρ'
 | _=>False
theorem xe_callPk {X:Cx} {Ex:ExT} {j i:Nat} {x:Str} {ps:List Str} {g:GC} {e:Expr} {es:List Expr} {u:XA} {p pos:Pos} (C:Cal X.prog X.w X.K X.mg X.base j x ps (spX g)) (hr:Room j X.A) (hv:PE X e (tVar i)) (ha:XAs X Ex es u) (hg:Gl X x:=by rfl) (hdb:(x == ("__debug__" : Str))=false:=by decide)
  (he:starEach (e :: es) X.env=(false,eval e X.env) :: starEach es X.env:=by rfl) (hpl:(backTo pos (starEach es X.env)).any (·.1)=false:=by rfl):XE X Ex (.Call (.Name x p) (e :: es) [] pos) (xCallPk g i u):=fun F=>(gh_ C hr (ar_ hv (ha F) he) hg hdb he hpl).weak fun σ H Q=>by
 rintro ⟨ρ,fr,Qx,E,⟨⟨s0,h0⟩,t⟩,k⟩
 obtain ⟨v,hv',hi,R0⟩:=be_ E h0
 obtain ⟨w,rfl,_⟩:=R0.head
 refine ⟨w,hv',ρ,fr,_,E,t,fun vs ss H2 ρ2 hl E2 q2 => ?_⟩
 split at q2
 ·rename_i s h3
  obtain ⟨R,hs⟩:=E2.many hl
  obtain ⟨v2,hv2,hi2,R2⟩:=be_ ⟨E2.len,R⟩ h3
  rw [hv'] at hv2
  cases hv2
  obtain ⟨w',e,hx⟩:=R2.head
  cases e
  rw [List.append_nil]
  have hO:(owns (ρ2.zip σ ++ fr)).Perm (owns ((.v s,some w) :: ((ρ2.zip σ).eraseIdx i ++ fr))):=((cd_ h3 hv').append_right fr).flatMap_right _
  refine ⟨_,s.d :: ss.map Sv.d,_,R2.tail.hv,⟨w,vs,rfl,hx,hs.imp fun _ _ z=>z.to (av_ fun c hc=>hO.mem_iff.mpr (by rw [ak_]; exact List.mem_append_right _ hc))⟩,q2,fun r v H' e hr q => ?_⟩
  ·obtain ⟨b,rfl,q⟩:=q
   cases (IsX.bl_eq (H:=ext (hid (owns ((ρ2.zip σ).eraseIdx i ++ fr)) (F.vis H2)) H2 H') hr)
   exact k _ _ H' ρ2 (EOk.back E2.len ((R.grow e).add (IsX.of_bl _))) q
 ·exact q2.elim
theorem strs_isx {G:Hp}:∀ (ys:List Str),All2 (IsX G) (ys.map Dx.str) (ys.map V.str)
 | []=>rfl
 | x :: xs=>⟨_,_,rfl,IsX.of_str _,strs_isx xs⟩
def spB2 (g:GB):Sp:=fun vs H Q E => ∃ a p,vs=[a,p]∧spB g [p,a] H Q E
def startB2 (N:List Str) (l:List Dx) (d:Dx):En:=.v (.tr d) :: .bw l :: List.replicate (N.length - 2) .un
def lentEnd2 (Q:Dx→List Dx→Prop) (d:Dx) (ρ:En):Prop:=match (ρ[1]? : Option Sl) with
 | some (.bw l)=>Q d l
 | _=>False
abbrev retB2 (Q:Dx→List Dx→Prop):XD:=⟨fun ρ=>lentEnd2 Q .non ρ,fun s ρ=>lentEnd2 Q s.d ρ,fun _=>False,fun _=>False⟩
theorem fn_b2 {P:Program} {w:World} {K:FG_} {mg:MG_} {base:Heap} {x:Str} {st:Stmt} {f:Addr} {fd:FuncData} {N ps:List Str} {k:Nat} {g:GB} (Fn:Fun K x x st f fd) (S:FnScope N ps (defScope st)) (hlen:∀ l ds Q,g l ds Q→ds.length=1) (hps:ps.length=2) (hN:2≤N.length)
  (hbody:∀ (cdv:Value) (A:Around) (outer:List Env) (s:Shared) (H:Hp) (E:XK),Room k (A.deeper (PyProof.Rows.envOfC x (defScope st) s.heap.objs.size f cdv)) →
   ∃ G,XSs (cxOf CX0 P w K mg base N x (defScope st) f cdv A outer s H E).nox noEx (defBody st) G∧∀ l d Q,g l [d] Q→G (startB2 N l d) (retB2 Q)):FnOk P w K mg base CX0 (k + 1) f fd ps (spB2 g):=by
 refine Fn.ok S (fun vs H Q E h => ?_) (fun cdv A outer s H vs Q E hr h => ?_)
 ·obtain ⟨a,p,rfl,_⟩:=h
  rw [hps]; rfl
 obtain ⟨va,vp,rfl,p,ws,l,vr,Hs,ds,Qx,e0,hp,h1,hsp,hl,h2,h3,h4⟩:=h
 cases e0
 obtain ⟨G,hG,hq⟩:=hbody cdv A outer s H E hr
 obtain ⟨d,rfl⟩:=List.length_eq_one_iff.mp (hlen l ds Qx h3)
 obtain ⟨_,_,e1,hd,_⟩:=h2
 cases e1
 have nb:∀ b∈[p],Hs b=none:=fun b hb=>by rw [List.mem_singleton.mp hb]; exact hsp
 have ib:∀ b∈[p],∃ o,H b=some o:=fun b hb=>by rw [List.mem_singleton.mp hb]; exact ⟨_,hp⟩
 have fin:∀ {d:Dx} {v:V} {σ':St} {H':Hp} {ρ':En},EOk ⟨H,Hs,[p],h1,nb,ib⟩ ρ' σ' ((.v (.tr d),some v) :: []) H'→lentEnd2 Qx d ρ'→Q v H':=fun {d v σ' H' ρ'} E' q=>by
  unfold lentEnd2 at q
  split at q
  ·rename_i l' h0
   obtain ⟨R,hx⟩:=E'.one
   obtain ⟨y,hy,hi,R2⟩:=be_ ⟨E'.len,R⟩ h0
   obtain ⟨a,ws',rfl,h5,h6⟩:=R2.atB
   have ha:a=p:=List.mem_singleton.mp (R2.fr _ List.mem_cons_self a (List.mem_singleton.mpr rfl))
   subst ha
   refine h4 d v l' ws' H' (fun b o hb => ?_) h5 (h6.imp fun _ _ z=>z.to (av_ fun c hc=>by rw [List.mem_singleton.mp hc]; exact List.mem_cons_self)) (hx.to hid_sub) q
   have hb':b≠a:=fun z=>by rw [z] at hb; unfold hide at hb; rw [if_pos rfl] at hb; cases hb
   rw [gt_ hb'] at hb ⊢
   exact R.kp b o hb fun z=>hb' (List.mem_singleton.mp z)
  ·exact q.elim
 refine ⟨_,hG ⟨H,Hs,[p],h1,nb,ib⟩,startB2 N l d,[],retB2 Qx,⟨?_,?_⟩,hq l d Qx h3,⟨fun σ' H' ρ' _ E' q=>fin (EOk.back E'.len (E'.rep.add (d:=.non) (v:=.non) IsX.of_non)) q,fun v s σ' H' ρ' _ E' q=>fin (EOk.back E'.len E'.front.frz) q,fun _ _ _ _ _ q=>q.elim,fun _ _ _ _ _ q=>q.elim⟩⟩
 ·unfold startB2 L2.start
  simp only [List.length_append,List.length_map,List.length_replicate,List.length_cons,List.length_nil]
  omega
 ·have R0:Rep ⟨H,Hs,[p],h1,nb,ib⟩ [] H:=⟨List.nodup_nil,fun r hr=>by simp at hr,fun r hr=>by simp at hr,fun b o h _=>h,ib⟩
  have hvis:Same Hs (Fm.vis ⟨H,Hs,[p],h1,nb,ib⟩ H):=fun b o hb=>(az_ (h1 _ _ hb)).trans hb
  have R1:=hh_ (m:=N.length - 2) R0 (ds:=[]) (vs:=[]) rfl
  rw [List.map_nil,List.map_nil,List.nil_append,List.nil_append] at R1
  have hown:owns ((List.replicate (N.length - 2) Sl.un).zip (List.replicate (N.length - 2) (none:Option V)))=[]:=by
   unfold owns
   refine List.flatMap_eq_nil_iff.mpr fun r hr => ?_
   obtain ⟨a,b⟩:=r
   rw [(List.mem_replicate.mp (List.of_mem_zip hr).1).2]; rfl
  rw [List.append_nil]
  have e:(startB2 N l d).zip (L2.start N [va,.ref p])=(.v (.tr d),some va) :: (.bw l,some (.ref p)) :: (List.replicate (N.length - 2) Sl.un).zip (List.replicate (N.length - 2) none):=by
   unfold startB2 L2.start
   rfl
  rw [e]
  have hNo:∀ b o,Hs b=some o→b≠p:=fun b o hb z=>by rw [z,hsp] at hb; cases hb
  have R2:Rep ⟨H,Hs,[p],h1,nb,ib⟩ ((.bw l,some (.ref p)) :: (List.replicate (N.length - 2) Sl.un).zip (List.replicate (N.length - 2) none)) H:=by
   refine ⟨by rw [ah_ (a:=p) rfl,hown]; simp,fun r hr => ?_,fun r hr a ha => ?_,R1.kp,R1.lv⟩
   ·rw [ah_ (a:=p) rfl,hown]
    rcases List.mem_cons.mp hr with rfl | hr
    ·exact ⟨p,ws,rfl,hp,hl.imp fun _ _ z=>z.to fun b o hb=>hid_some.mpr ⟨fun z=>hNo b o hb (List.mem_singleton.mp z),hvis _ _ hb⟩⟩
    ·refine (R1.ok r hr).mono (.of fun b o hb => ?_) fun _ _=>rfl
     have hb':=hid_some.mp hb
     refine hid_some.mpr ⟨fun z => ?_,hb'.2⟩
     have h9:Hs p=some o:=(az_ hp).symm.trans (List.mem_singleton.mp z ▸ hb'.2)
     rw [hsp] at h9; cases h9
   ·rcases List.mem_cons.mp hr with rfl | hr
    ·exact ha
    ·exact R1.fr r hr a ha
  exact R2.add (hd.to fun b o hb=>hid_some.mpr ⟨fun z=>by rw [ah_ (a:=p) rfl,hown] at z; exact hNo b o hb (List.mem_singleton.mp z),hvis _ _ hb⟩)
def xCallB2 (g:GB) (i:Nat) (t:XT):XT:=fun ρ Q=>t ρ fun s ρ'=>match (ρ'[i]?).bind lent with
 | some (l,f)=>g l [s.d] fun d l'=>Q (.tr d) (ρ'.set i (f l'))
 | none=>False
theorem ho_ {X:Cx} {Ex:ExT} {j i:Nat} {x:Str} {ps:List Str} {g:GB} {e e2:Expr} {t:XT} {p pos:Pos} (C:Cal X.prog X.w X.K X.mg X.base j x ps (spB2 g)) (hr:Room j X.A) (ht:XE X Ex e t) (hv:PE X e2 (tVar i)) (hg:Gl X x:=by rfl) (hdb:(x == ("__debug__" : Str))=false:=by decide)
  (he:starEach [e,e2] X.env=(false,eval e X.env) :: starEach [e2] X.env:=by rfl) (he2:starEach [e2] X.env=(false,eval e2 X.env) :: starEach [] X.env:=by rfl) (hpl:(backTo pos (starEach [e2] X.env)).any (·.1)=false:=by rfl):XE X Ex (.Call (.Name x p) [e,e2] [] pos) (xCallB2 g i t):=fun F=>(gh_ C hr (ar_ (ht F) (ar_ hv bi_ he2) he) hg hdb he hpl).weak fun σ H Q=>by
 rintro ⟨ρ,fr,Qx,E,t,k⟩
 refine ⟨ρ,fr,_,E,t,fun va s2 H2 ρ2 E2 q2 => ?_⟩
 obtain ⟨R,hs⟩:=E2.one
 split at q2
 ·rename_i l f hb
  obtain ⟨sl,h3,h4⟩:=Option.bind_eq_some_iff.mp hb
  have E3:EOk F ρ2 σ fr H2:=⟨E2.len,R⟩
  obtain ⟨v',hv',hi',R2⟩:=be_ E3 h3
  obtain ⟨p,ws,rfl,h5,h6,h7,h8⟩:=fj_ h4 R2
  refine ⟨.ref p,hv',va,.ref p,rfl,?_⟩
  have hO:(owns (ρ2.zip σ ++ fr)).Perm (owns ((sl,some (V.ref p)) :: ((ρ2.zip σ).eraseIdx i ++ fr))):=((cd_ h3 hv').append_right fr).flatMap_right _
  have hOm:∀ a∈owns ((sl,some (V.ref p)) :: ((ρ2.zip σ).eraseIdx i ++ fr)),a∈owns (ρ2.zip σ ++ fr):=fun a ha=>hO.mem_iff.mpr ha
  refine ⟨p,ws,l,[va],hid (owns ((sl,some (V.ref p)) :: ((ρ2.zip σ).eraseIdx i ++ fr))) (F.vis H2),[s2.d],_,rfl,h5,R2.hv,?_,?_,All2.one (hs.to (av_ hOm)),q2,fun d w l' ws' H' e hp hl' hd q => ?_⟩
  ·unfold hid
   rw [if_pos (by rw [ah_ h6]; exact List.mem_cons_self)]
  ·rw [ah_ h6]
   exact h7
  ·obtain ⟨k1,k2,k3⟩:=h8 l'
   have ev:=gv_ R2 h6 e
   have R3:=R2.called h6 k1 k2 e ⟨_,hp⟩ (k3 hp (hl'.imp fun _ _ z=>z.to fun b o hb=>by
    have hb':=hid_some.mp hb
    have:=ev _ _ hb'.2
    rw [ah_ h6] at this
    exact this))
   refine k w (.tr d) H' _ (EOk.back (by rw [List.length_set]; exact E2.len) ?_) q
   have R4:=R3.add (d:=d) (v:=w) (hd.to fun b o hb=>by
    have:=ev _ _ hb
    rw [ah_ h6] at this
    rw [ah_ k1]
    exact this)
   exact R4.perm (((bw_ E2.len hi' hv').append_right fr).symm.cons _)
 ·exact q2.elim
end Lf
namespace L2
open PySem PySem.Spec PyProof.Rows Builtin Builtin.Str
end L2
namespace L2
open PySem PySem.Spec PyProof.Rows
end L2
namespace Lf
open PySem L2
theorem xss_no {X:Cx} {Ex:ExT} {sts:List Stmt}:XSs X Ex sts xNo:=fun F=>PSs.weak (pss_never (X:=X)) fun D σ H=>by
 rintro ⟨ρ,fr,d,E,q,k⟩
 exact q
def Sv.o? : Sv→Option Ow
 | .tr d=>some (.tr d)
 | .ow o=>some o
 | _=>none
def owR (os:List Ow) (xs:List V):List Rw:=(os.zip xs).map fun p=>(.v (.ow p.1),some p.2)
section
variable {F:Fm} {P:List Rw} {H:Hp} {s:Sv} {x:Option V} {o:Ow} {p:Addr} {os:List Ow} {xs:List V}
theorem Rep.toOw (R:Rep F ((.v s,x) :: P) H) (h:s.o? = some o):Rep F ((.v (.ow o),x) :: P) H:=by
 cases s with
 | tr d =>
  cases h
  have e:ownA (.v (.ow (.tr d)),x)=[]:=by simp only [ownA,Ow.fp]
  obtain ⟨v,rfl,hx⟩:=R.head
  exact R.tail.cons0 e ⟨v,rfl,by simp only [OwOk]; exact hx⟩
 | ol l=>cases h
 | od l=>cases h
 | ow o'=>cases h; exact R
theorem hi_:∀ {os:List Ow} {xs:List V},os.length=xs.length→owns (owR os xs)=owFs os
 | [],[],_=>by simp only [owR,List.zip_nil_left,List.map_nil,owns,List.flatMap_nil,owFs]
 | [],_ :: _,h=>by simp at h
 | _ :: _,[],h=>by simp at h
 | o :: os,x :: xs,h=>by
  show owns ((.v (.ow o),some x) :: owR os xs)=_
  rw [ak_,hi_ (by simpa using h)]
  simp only [ownA,owFs]
theorem owR_oks {O:List Addr} {G H:Hp}:∀ {os:List Ow} {xs:List V},os.length=xs.length→(∀ r∈owR os xs,RowOk O G H r)→OwOks (hid O G) H os xs
 | [],[],_,_=>by simp only [OwOks]
 | [],_ :: _,h,_=>by simp at h
 | _ :: _,[],h,_=>by simp at h
 | o :: os,x :: xs,h,k=>by
  obtain ⟨y,e,h1⟩:=k (.v (.ow o),some x) List.mem_cons_self
  cases e
  simp only [OwOks]
  exact ⟨x,xs,rfl,h1,owR_oks (by simpa using h) fun r hr=>k r (List.mem_cons_of_mem _ hr)⟩
theorem owR_v {r:Rw} (h:r∈owR os xs):∃ s,r.1=.v s:=by
 obtain ⟨q,_,rfl⟩:=List.mem_map.mp h
 exact ⟨_,rfl⟩
theorem Rep.join {A:List Rw} {s:Sv} {x:Option V} {ob:HO} (R:Rep F (A ++ P) H) (hp:H p=none) (hA:(ownA (.v s,x)).Perm (p :: owns A)) (hv:∀ r∈A,∃ s,r.1=.v s) (h:RowOk (ownA (.v s,x) ++ owns P) (F.vis (upd H p ob)) (upd H p ob) (.v s,x)):Rep F ((.v s,x) :: P) (upd H p ob):=by
 have hno:=R.not_own hp
 have hq:=R.fresh hp
 have hperm:(ownA (.v s,x) ++ owns P).Perm (p :: owns (A ++ P)):=by
  rw [bg_]
  exact hA.append_right _
 refine ⟨by rw [ak_]; exact hperm.nodup_iff.mpr (List.nodup_cons.mpr ⟨hno,R.nd⟩),fun r hr => ?_,fun r hr a ha => ?_,fun b o h1 h2 => ?_,fun b hb => ?_⟩
 ·rw [ak_]
  rcases List.mem_cons.mp hr with rfl | hr
  ·exact h
  ·have hr':r∈A ++ P:=List.mem_append_right _ hr
   exact (R.ok r hr').mono (.of fun b u hb=>av_ (fun a ha=>hperm.mem_iff.mp ha) b u (ij_ hp hq b u hb)) fun a ha=>ag_ fun z=>hno (z ▸ bu_ hr' ha)
 ·rcases List.mem_cons.mp hr with rfl | hr
  ·rcases List.mem_cons.mp (hA.mem_iff.mp ha) with rfl | ha
   ·exact hq
   ·obtain ⟨r,hr,e⟩:=List.mem_flatMap.mp ha
    have hf:=R.fr r (List.mem_append_left _ hr) a e
    obtain ⟨s',es⟩:=hv r hr
    unfold FrOk at hf
    rw [es] at hf
    exact hf
  ·exact R.fr r (List.mem_append_right _ hr) a ha
 ·have:=R.kp b o h1 h2
  rw [ag_ fun z=>by rw [z,hp] at this; cases this]
  exact this
 ·obtain ⟨u,hu⟩:=R.lv b hb
  exact ⟨u,by rw [ag_ fun z=>by rw [z,hp] at hu; cases hu]; exact hu⟩
theorem Rep.bundleL (R:Rep F (owR os xs ++ P) H) (hl:os.length=xs.length) (hp:H p=none):Rep F ((.v (.ow (.ol p os)),some (.ref p)) :: P) (upd H p (.lst xs)):=by
 have e:ownA (.v (.ow (.ol p os)),some (.ref p))=p :: owns (owR os xs):=by rw [hi_ hl]; simp only [ownA,Ow.fp]
 refine R.join hp (by rw [e]) (fun r hr=>owR_v hr) ?_
 rw [e]
 have hno:=R.not_own hp
 have hq:=R.fresh hp
 refine ⟨.ref p,rfl,?_⟩
 simp only [OwOk]
 refine ⟨trivial,xs,upd_same,?_⟩
 have h1:=owR_oks hl fun r hr=>R.ok r (List.mem_append_left _ hr)
 refine OwOks.mono (.of fun b u hb => ?_) os xs (fun b hb=>ag_ fun z => ?_) h1
 ·have:=ij_ hp hq (o:=.lst xs) b u hb
  rw [bg_] at this
  exact this
 ·rw [hi_ hl |>.symm] at hb
  exact hno (z ▸ (by rw [bg_]; exact List.mem_append_left _ hb))
end
section
variable {F:Fm} {P A:List Rw} {H H':Hp} {s:Sv} {x:Option V} {o:Ow} {p:Addr} {os:List Ow} {xs:List V}
theorem Rep.shift (R:Rep F (A ++ P) H) (hA:(ownA (.v s,x)).Perm (owns A)) (hv:∀ r∈A,∃ s,r.1=.v s) (e:∀ b,b∉owns A→H' b=H b) (e2:∀ b∈owns A,∃ o,H' b=some o) (h:RowOk (ownA (.v s,x) ++ owns P) (F.vis H') H' (.v s,x)):Rep F ((.v s,x) :: P) H':=by
 have hperm:(ownA (.v s,x) ++ owns P).Perm (owns (A ++ P)):=by
  rw [bg_]
  exact hA.append_right _
 have hn:∀ a∈owns A,F.H0 a=none:=fun a ha=>by
  obtain ⟨r,hr,e⟩:=List.mem_flatMap.mp ha
  have hf:=R.fr r (List.mem_append_left _ hr) a e
  obtain ⟨s',es⟩:=hv r hr
  unfold FrOk at hf
  rw [es] at hf
  exact hf
 have hnd:=R.nd
 rw [bg_] at hnd
 refine ⟨by rw [ak_]; exact hperm.nodup_iff.mpr R.nd,fun r hr => ?_,fun r hr a ha => ?_,fun b o h1 h2 => ?_,fun b hb => ?_⟩
 ·rw [ak_]
  rcases List.mem_cons.mp hr with rfl | hr
  ·exact h
  ·have hr':r∈A ++ P:=List.mem_append_right _ hr
   refine (R.ok r hr').mono (.of fun b u hb => ?_) fun a ha=>e a fun z=>(List.nodup_append.mp hnd).2.2 a z a (bu_ hr ha) rfl
   have hb':=hid_some.mp hb
   have hbA:b∉owns A:=fun z=>hb'.1 (by rw [bg_]; exact List.mem_append_left _ z)
   refine hid_some.mpr ⟨fun z=>hb'.1 (hperm.mem_iff.mp z),?_⟩
   cases q:F.H0 b with
   | none=>exact (bb_ q).trans ((congrArg nf (e b hbA)).trans ((bb_ q).symm.trans hb'.2))
   | some w=>exact (az_ q).trans ((az_ q).symm.trans hb'.2)
 ·rcases List.mem_cons.mp hr with rfl | hr
  ·exact hn a (hA.mem_iff.mp ha)
  ·exact R.fr r (List.mem_append_right _ hr) a ha
 ·rw [e b fun z=>by rw [hn b z] at h1; cases h1]
  exact R.kp b o h1 h2
 ·by_cases z:b∈owns A
  ·exact e2 b z
  ·obtain ⟨u,hu⟩:=R.lv b hb
   exact ⟨u,by rw [e b z]; exact hu⟩
theorem Rep.bundleT (R:Rep F (owR os xs ++ P) H) (hl:os.length=xs.length) (hp:H p=none):Rep F ((.v (.ow (.ot os)),some (.ref p)) :: P) (upd H p (.tup xs)):=by
 have e:Same H (upd H p (.tup xs)):=same_new hp _
 have hno:=R.not_own hp
 have hq:=R.fresh hp
 have R1:=R.grow e
 have eA:ownA (.v (.ow (.ot os)),some (.ref p))=owns (owR os xs):=by rw [hi_ hl]; simp only [ownA,Ow.fp]
 refine R1.shift (by rw [eA]) (fun r hr=>owR_v hr) (fun _ _=>rfl) (fun b hb=>R1.own_in (by rw [bg_]; exact List.mem_append_left _ hb)) ?_
 rw [eA]
 refine ⟨.ref p,rfl,?_⟩
 simp only [OwOk]
 have h1:=owR_oks hl fun r hr=>R1.ok r (List.mem_append_left _ hr)
 rw [bg_] at h1
 refine ⟨p,xs,rfl,hid_some.mpr ⟨fun z=>hno (by rw [bg_]; exact z),(bb_ hq).trans (by rw [upd_same]; rfl)⟩,h1⟩
theorem OwOkk.keys {G H:Hp}:∀ {l:List (Key×Ow)} {ws:List (Key×V)},OwOkk G H l ws→l.map (·.1)=ws.map (·.1)
 | [],_,h=>by simp only [OwOkk] at h; rw [h]; rfl
 | k :: r,_,h=>by
  simp only [OwOkk] at h
  obtain ⟨w,wr,rfl,h1,h2⟩:=h
  rw [List.map_cons,List.map_cons,OwOkk.keys h2,h1.1]
theorem OwOkk.snoc {G H:Hp} {k:Key} {v:V} (ho:OwOk G H o v):∀ {l:List (Key×Ow)} {ws:List (Key×V)},OwOkk G H l ws→OwOkk G H (l ++ [(k,o)]) (ws ++ [(k,v)])
 | [],_,h=>by simp only [OwOkk] at h; rw [h]; simp only [List.nil_append,OwOkk]; exact ⟨_,_,rfl,⟨rfl,ho⟩,rfl⟩
 | p :: r,_,h=>by
  simp only [OwOkk] at h
  obtain ⟨w,wr,rfl,h1,h2⟩:=h
  simp only [List.cons_append,OwOkk]
  exact ⟨w,_,rfl,h1,OwOkk.snoc ho h2⟩
theorem owFk_snoc {k:Key}:∀ {l:List (Key×Ow)},owFk (l ++ [(k,o)])=owFk l ++ o.fp
 | []=>by simp only [List.nil_append,owFk,List.append_nil]
 | p :: r=>by simp only [List.cons_append,owFk,owFk_snoc,List.append_assoc]
theorem Rep.putO {a:Addr} {l:List (Key×Ow)} {k:Key} {v:V} (R:Rep F ((.v (.ow o),some v) :: (.v (.ow (.od a l)),x) :: P) H) (hk:k∉l.map (·.1)):x=some (.ref a)∧∃ ws,H a=some (.dK ws)∧ws.length=l.length∧Rep F ((.v (.ow (.od a (l ++ [(k,o)]))),x) :: P) (upd H a (.dK (putK ws k v))):=by
 obtain ⟨y,rfl,h1⟩:=R.ok _ (List.mem_cons_of_mem _ List.mem_cons_self)
 obtain ⟨y2,e2,h2⟩:=R.ok _ List.mem_cons_self
 cases e2
 simp only [OwOk] at h1
 obtain ⟨rfl,ws,h3,h4⟩:=h1
 have hkeys:=h4.keys
 have hput:putK ws k v=ws ++ [(k,v)]:=by
  unfold putK
  rw [if_neg]
  intro z
  obtain ⟨q,hq,e⟩:=List.any_eq_true.mp z
  exact hk (by rw [hkeys]; exact List.mem_map.mpr ⟨q,hq,of_decide_eq_true e⟩)
 refine ⟨rfl,ws,h3,by have:=congrArg List.length hkeys; rw [List.length_map,List.length_map] at this; exact this.symm,?_⟩
 rw [hput]
 have eo:owns [((.v (.ow o),some v):Rw),(.v (.ow (.od a l)),some (.ref a))]=o.fp ++ (a :: owFk l):=by
  rw [ak_,ak_]
  simp only [ownA,Ow.fp,owns,List.flatMap_nil,List.append_nil]
 have en:ownA (.v (.ow (.od a (l ++ [(k,o)]))),some (.ref a))=a :: (owFk l ++ o.fp):=by simp only [ownA,Ow.fp,owFk_snoc]
 have hnd:=R.nd
 have R':Rep F ([((.v (.ow o),some v):Rw),(.v (.ow (.od a l)),some (.ref a))] ++ P) H:=R
 have hao:a∉o.fp ++ owFk l:=by
  have hn:=R'.nd
  rw [bg_,eo] at hn
  have hn2:=(List.nodup_append.mp hn).1
  have:=(List.perm_middle (a:=a) (l₁:=o.fp) (l₂:=owFk l)).nodup_iff.mp hn2
  exact (List.nodup_cons.mp this).1
 refine R'.shift (A:=[(.v (.ow o),some v),(.v (.ow (.od a l)),some (.ref a))]) ?_ ?_ (fun b hb => ?_) (fun b hb => ?_) ?_
 ·rw [en,eo]
  exact (List.perm_append_comm.cons a).trans List.perm_middle.symm
 ·intro r hr
  rcases List.mem_cons.mp hr with rfl | hr
  ·exact ⟨_,rfl⟩
  ·rw [List.mem_singleton.mp hr]; exact ⟨_,rfl⟩
 ·refine ag_ fun z=>hb ?_
  rw [eo,z]
  exact List.mem_append_right _ List.mem_cons_self
 ·by_cases z:b=a
  ·rw [z]; exact ⟨_,upd_same⟩
  ·obtain ⟨u,hu⟩:=R'.own_in (by rw [bg_]; exact List.mem_append_left _ hb)
   exact ⟨u,by rw [ag_ z]; exact hu⟩
 ·rw [en]
  refine ⟨.ref a,rfl,?_⟩
  simp only [OwOk]
  refine ⟨trivial,_,upd_same,?_⟩
  have hs:∀ b u,hid (owns ([((.v (.ow o),some v):Rw),(.v (.ow (.od a l)),some (.ref a))] ++ P)) (F.vis H) b=some u→hid (a :: (owFk l ++ o.fp) ++ owns P) (F.vis (upd H a (.dK (ws ++ [(k,v)])))) b=some u:=fun b u hb=>by
   have hb':=hid_some.mp hb
   rw [bg_,eo] at hb'
   have hba:b≠a:=fun z=>hb'.1 (by rw [z]; exact List.mem_append_left _ (List.mem_append_right _ List.mem_cons_self))
   refine hid_some.mpr ⟨fun z=>hb'.1 ?_,?_⟩
   ·rcases List.mem_append.mp z with z | z
    ·refine List.mem_append_left _ ?_
     rcases List.mem_cons.mp z with z | z
     ·rw [z]; exact List.mem_append_right _ List.mem_cons_self
     ·rcases List.mem_append.mp z with z | z
      ·exact List.mem_append_right _ (List.mem_cons_of_mem _ z)
      ·exact List.mem_append_left _ z
    ·exact List.mem_append_right _ z
   ·cases q:F.H0 b with
    | none=>exact (bb_ q).trans ((congrArg nf (ag_ hba)).trans ((bb_ q).symm.trans hb'.2))
    | some w=>exact (az_ q).trans ((az_ q).symm.trans hb'.2)
  have k1:∀ b∈o.fp,upd H a (.dK (ws ++ [(k,v)])) b=H b:=fun b hb=>ag_ fun z=>hao (by rw [← z]; exact List.mem_append_left _ hb)
  have k2:∀ b∈owFk l,upd H a (.dK (ws ++ [(k,v)])) b=H b:=fun b hb=>ag_ fun z=>hao (by rw [← z]; exact List.mem_append_right _ hb)
  exact OwOkk.snoc (OwOk.mono (.of hs) o v k1 h2) (OwOkk.mono (.of hs) l ws k2 h4)
end
def xDNewO:XT:=fun ρ Q => ∀ a,Q (.ow (.od a [])) ρ
def xDPutO (i:Nat) (tk tv:XT):XS:=fun ρ D=>tv ρ fun s ρ1=>(∃ a l,ρ1[i]? = some (.v (.ow (.od a l))))∧tk ρ1 fun k ρ2 => ∃ a l key o,ρ2[i]? = some (.v (.ow (.od a l)))∧keyD k.d=some key∧s.o? = some o∧key∉l.map (·.1)∧l.length < 1000000∧D.nx (ρ2.set i (.v (.ow (.od a (l ++ [(key,o)])))))
section
variable {X:Cx} {Ex:ExT} {F:Fm} {i:Nat} {tk tv:XT} {es:List Expr} {u:XA} {pos:Pos}
theorem xe_dnewO:XE X Ex (.Dict [] [] pos) xDNewO:=fun F=>(pe_dnewK (X:=X)).weak fun σ H Q=>by
 rintro ⟨ρ,fr,Qx,E,t,k⟩
 refine fun p hp=>k _ (.ow (.od p [])) _ ρ (EOk.back E.len ?_) (t p)
 have R:=E.rep.newD hp All2.nil
 have R':Rep F ([((.v (.od []),some (V.ref p)):Rw)] ++ (ρ.zip σ ++ fr)) (upd H p (.dK [])):=R
 have e1:ownA (.v (.ow (.od p [])),some (V.ref p))=[p]:=by simp only [ownA,Ow.fp,owFk]
 have e2:owns [((.v (.od []),some (V.ref p)):Rw)]=[p]:=by rw [ah_ (a:=p) rfl]; rfl
 refine R'.shift (A:=[(.v (.od []),some (V.ref p))]) (by rw [e1,e2]) (fun r hr=>by rw [List.mem_singleton.mp hr]; exact ⟨_,rfl⟩) (fun _ _=>rfl) (fun b hb=>⟨.dK [],by rw [e2] at hb; rw [List.mem_singleton.mp hb,upd_same]⟩) ⟨.ref p,rfl,?_⟩
 simp only [OwOk,OwOkk]
 exact ⟨trivial,[],upd_same,rfl⟩
theorem tDPut_xO:∀ D σ H,tXS F (xDPutO i tk tv) D σ H→sDPut (tVar i) (tX F tk) (tX F tv) D σ H:=by
 rintro D σ H ⟨ρ,fr,d,E,q,k⟩
 refine ⟨ρ,fr,_,E,q,fun y s H' ρ' E' q' => ?_⟩
 obtain ⟨⟨a0,l0,h0⟩,q'⟩:=q'
 obtain ⟨v0,hv0,hi0,R0⟩:=be_ E' h0
 obtain ⟨y0,rfl,ho0⟩:=R0.ok _ List.mem_cons_self
 simp only [OwOk] at ho0
 obtain ⟨rfl,_⟩:=ho0
 refine ⟨.ref a0,hv0,ρ',_,_,E',q',fun z s2 H2 ρ2 E2 q2 => ?_⟩
 obtain ⟨a,l,key,o,hb,hk,hso,hnk,hll,q2⟩:=q2
 obtain ⟨R,hx1,hx2⟩:=E2.two
 cases keyD_is hx2 hk
 have E3:=E2.drop
 have R3:=E3.front.toOw hso
 obtain ⟨v1,hv1⟩:=get_zip E3.len hb
 have hi1:i < ρ2.length:=(List.getElem?_eq_some_iff.mp hb).1
 have R4:Rep F ((.v (.ow o),some y) :: (.v (.ow (.od a l)),v1) :: ((ρ2.zip σ).eraseIdx i ++ fr)) H2:=R3.perm (((cd_ hb hv1).append_right fr).cons _)
 obtain ⟨rfl,ws,h3,h4,R5⟩:=R4.putO hnk
 rw [hv0] at hv1
 cases hv1
 refine ⟨a0,_,rfl,DPut.k h3 (by rw [h4]; have:=line1; omega),k.nx σ _ _ rfl ⟨by rw [List.length_set]; exact E3.len,?_⟩ q2⟩
 exact R5.perm (((bw_ E3.len hi1 hv0).append_right fr).symm)
def xTupO (u:XA):XT:=fun ρ Q=>u ρ fun ss ρ' => ∃ os,ss.map Sv.o? = os.map some∧ss.length≤1000000∧Q (.ow (.ot os)) ρ'
theorem Rep.tmpsO {P:List Rw} {H:Hp}:∀ {ss:List Sv} {os:List Ow} {vs:List V},ss.length=vs.length→ss.map Sv.o? = os.map some→Rep F (tmps ss vs ++ P) H→Rep F (owR os vs ++ P) H
 | [],[],[],_,_,R=>R
 | [],[],_ :: _,h,_,_=>by simp at h
 | [],_ :: _,_,_,h,_=>by simp at h
 | _ :: _,[],_,_,h,_=>by simp at h
 | _ :: _,_ :: _,[],h,_,_=>by simp at h
 | s :: ss,o :: os,v :: vs,h,e,R=>by
  have e':=List.cons.inj e
  have R1:Rep F ((.v s,some v) :: (tmps ss vs ++ P)) H:=R
  have R2:=R1.toOw e'.1
  have R3:Rep F (tmps ss vs ++ ((.v (.ow o),some v) :: P)) H:=R2.perm mid.symm
  have R4:=Rep.tmpsO (by simpa using h) e'.2 R3
  exact R4.perm mid
theorem xe_tupO {j:Nat} (h:XAs X Ex es u):XE X Ex (.Tuple es j pos) (xTupO u):=fun F=>(pe_tup (h F)).weak fun σ H Q=>by
 rintro ⟨ρ,fr,Qx,E,t,k⟩
 refine ⟨ρ,fr,_,E,t,fun vs ss H2 ρ2 hl E2 q2 => ?_⟩
 obtain ⟨os,ho,hz,q2⟩:=q2
 refine ⟨by have:=line1; omega,fun p hp => ?_⟩
 have R1:Rep F (tmps ss vs ++ (ρ2.zip σ ++ fr)) H2:=E2.rep.perm (List.perm_append_comm_assoc _ _ _)
 have hlo:os.length=vs.length:=by have:=congrArg List.length ho; rw [List.length_map,List.length_map] at this; omega
 exact k _ _ _ ρ2 (EOk.back E2.len ((Rep.tmpsO hl ho R1).bundleT hlo hp)) q2
end
theorem strsAre_of:∀ {ks:List Str} {us:List Value},Vals (ks.map V.str) us→PyProof.Rows.StrsAre us ks
 | [],us,h=>by cases h; exact .nil
 | k :: ks,us,h=>by
  cases h with
  | cons r t =>
   obtain ⟨tk,rfl⟩:=r
   exact .cons k tk (strsAre_of t)
theorem vals_strs:∀ {us:List Value} {ks:List Str},PyProof.Rows.StrsAre us ks→Vals (ks.map V.str) us
 | _,_,.nil=>.nil
 | _,_,.cons y t h=>.cons ⟨t,rfl⟩ (vals_strs h)
section
variable {X:Cx} {Ex:ExT}
def rSortD:List V→Hp→VK→Prop:=fun xs H Q => ∃ a kvs ks,xs=[V.ref a]∧Rd H a (.dK kvs)∧(kvs.map (·.1)=ks.map Sum.inr)∧ks.length < 64∧∀ ss:List Str,ss.Perm ks→PyProof.Rows.sortedS ss=true→∀ l,H l=none→Q (.ref l) (upd H l (.lst (ss.map V.str)))
theorem hb_ (hc:X.calm=true):CallR X (.builtin "sorted") rSortD:=by
 intro pins s σ H xs us Q I r h
 obtain ⟨a,kvs,ks,rfl,ha,hks,h64,q⟩:=h
 obtain ⟨u,rfl,rx⟩:=vals1 r
 cases rx
 obtain ⟨z,hd,vs,rel,dd⟩:=dk_rd I.hok ha
 obtain ⟨o,es,ep,h1,h2,h3,h4⟩:=dd
 have hl:kvs.length=vs.length:=rel.length
 have hkl:kvs.length=ks.length:=by have:=congrArg List.length hks; rwa [List.length_map,List.length_map] at this
 refine Calls.call_function_entry PyProof.Rows.kind_sorted PyProof.Rows.plain_sorted PyProof.Rows.entry_sorted (PyProof.Rows.args_sorted1 _) ?_
 unfold Builtin.«sorted»
 refine wpAny_bind (m:=checkCount "sorted" 1 1 _) (wpAny_pure ?_)
 refine wpAny_bind (PySem.W.kdu_collect (A:=X.A.in1) (PySem.W.kdl_dict (knd:=mixKind X.prog X.w) (kvs:=vs) (ep:=ep) hd) (I.ok.hd hc) ⟨o,es,h1,h2,h3,h4⟩ (by omega) fun h' tk acc hk hacc => ?_)
 have hv:Vals (ks.map V.str) acc.toList:=by
  refine vals_of (by have h5:=hacc.1; have h6:=Array.length_toList (xs:=acc); rw [List.length_map]; omega) fun i x u e1 e2 => ?_
  rw [Array.getElem?_toList] at e2
  obtain ⟨k,y,e3,e4⟩:=hacc.2 i u e2
  rw [List.getElem?_map] at e1
  obtain ⟨kx,e5,rfl⟩:=Option.map_eq_some_iff.mp e1
  have e6:(kvs.map (·.1))[i]? = some (Sum.inr kx):=by rw [hks,List.getElem?_map,e5]; rfl
  rw [List.getElem?_map] at e6
  obtain ⟨kv,e7,e8⟩:=Option.map_eq_some_iff.mp e6
  obtain ⟨v',e9⟩:=rel.at' e7
  rw [e3] at e9
  cases e9
  have:=is_kV e4
  rw [e8] at this
  exact this
 have hS:=strsAre_of hv
 have hal:acc.toList.length=ks.length:=by rw [Array.length_toList,hacc.1]; omega
 refine wpAny_bind (wpAny_newList ?_ (by rw [hal,sizeLine_eq]; omega))
 have hoL:(h'.push (PyProof.Rows.seqObj "list" acc.toList.toArray 0)).get? h'.objs.size=some (PyProof.Rows.seqObj "list" acc.toList.toArray 0):=Heap.get?_push_size _ rfl
 show wpAny _ _ _ _ _ { s with heap:=h'.push (PyProof.Rows.seqObj "list" acc.toList.toArray 0),toks:=tk }
 refine wpAny_bind (wpAny_holding (wpAny_call_entry PyProof.Rows.slot_list_sort ⟨_,hoL,rfl⟩ PyProof.Rows.entry_list_sort (PyProof.Rows.list_sort_treeK PyProof.Rows.strKind_oneLt hoL hS.keysOf (fun v₁ v₂ rest e=>PyProof.Rows.keyKind_strs (by rw [← e]; exact hS)) (by rw [hal]; exact h64) fun st' a1 a2=>⟨_,rfl,?_⟩) (PyProof.Rows.args_list_sort _)))
 obtain ⟨ss,b1,b2,b3⟩:=PyProof.Rows.sorted_out_str hS a1 a2
 obtain ⟨e,he⟩:=PyProof.Rows.sortedHeap_at (out:=(PyProof.Rows.arrOf st').map (·.2)) hoL
 have hkeep:∀ b ob,h'.get? b=some ob→(PyProof.Rows.sortedHeap (h'.push (PyProof.Rows.seqObj "list" acc.toList.toArray 0)) h'.objs.size acc.toList ((PyProof.Rows.arrOf st').map (·.2))).get? b=some ob:=fun b ob hb=>by
  have hlt:=Heap.lt_size hb
  rw [PyProof.Rows.sortedHeap_old (Nat.ne_of_lt hlt) (by rw [PyProof.Rows.size_push']; exact Nat.lt_succ_of_lt hlt),Heap.get?_push_ne _ _ _ (Nat.ne_of_lt hlt)]
  exact hb
 refine wpAny_pure ⟨_,rfl,.ref h'.objs.size,_,(I.kept (t':=tk) hk).laid (t':=tk) hkeep (Nat.le_refl _) (show ObjOk X.prog X.w _ _ _ (.lst (ss.map V.str)) from ⟨by rw [List.length_map,b2.length_eq,sizeLine_eq]; omega,_,e,vals_strs b1,by rw [Array.toArray_toList]; exact he⟩),rfl,q ss b2 b3 _ ((I.kept (t':=tk) hk).hok.fresh (Nat.le_refl _))⟩
def txtI (n:Int):Str:=Str.ofString (toString n)
theorem fc_:CallR X (.type "str") (fun xs H Q => ∃ n:Int,xs=[.int n]∧0≤n∧n < 18446744073709551616∧Q (.str (txtI n)) H):=by
 intro pins s σ H xs us Q I r h
 obtain ⟨n,rfl,h0,h1,q⟩:=h
 obtain ⟨u,rfl,rx⟩:=vals1 r
 obtain ⟨t,rfl⟩:=rx
 exact P.str_of_int (PyProof.Rows.shown_abs (N:=18446744073709551616) (by rw [if_neg (by omega)]; exact h1) (by decide +kernel)) ⟨.str (txtI n),H,I.tok _,⟨_,rfl⟩,q⟩
end
section
variable {F:Fm} {P A A':List Rw} {H H':Hp}
theorem Rep.alter (R:Rep F (A ++ P) H) (hA:(owns A').Nodup) (hs:∀ a∈owns A',a∈owns A) (hv:∀ r∈A,∃ s,r.1=.v s) (hv':∀ r∈A',∃ s,r.1=.v s) (e:∀ b u,b∉owns A→H b=some u→H' b=some u) (e2:∀ b∈owns A,∃ o,H' b=some o) (h:∀ r∈A',RowOk (owns A' ++ owns P) (F.vis H') H' r):Rep F (A' ++ P) H':=by
 have hsub:∀ a∈owns A' ++ owns P,a∈owns (A ++ P):=fun a ha=>by
  rw [bg_]
  rcases List.mem_append.mp ha with ha | ha
  ·exact List.mem_append_left _ (hs a ha)
  ·exact List.mem_append_right _ ha
 have hn:∀ a∈owns A,F.H0 a=none:=fun a ha=>by
  obtain ⟨r,hr,e⟩:=List.mem_flatMap.mp ha
  have hf:=R.fr r (List.mem_append_left _ hr) a e
  obtain ⟨s',es⟩:=hv r hr
  unfold FrOk at hf
  rw [es] at hf
  exact hf
 have hnd:=R.nd
 rw [bg_] at hnd
 refine ⟨by rw [bg_]; exact List.nodup_append.mpr ⟨hA,(List.nodup_append.mp hnd).2.1,fun a h1 b h2 z=>(List.nodup_append.mp hnd).2.2 a (hs a h1) b h2 z⟩,fun r hr => ?_,fun r hr a ha => ?_,fun b o h1 h2 => ?_,fun b hb => ?_⟩
 ·rw [bg_]
  rcases List.mem_append.mp hr with hr | hr
  ·exact h r hr
  ·have hr':r∈A ++ P:=List.mem_append_right _ hr
   refine (R.ok r hr').mono (.of fun b u hb => ?_) fun a ha => ?_
   ·have hb':=hid_some.mp hb
    have hbA:b∉owns A:=fun z=>hb'.1 (by rw [bg_]; exact List.mem_append_left _ z)
    refine hid_some.mpr ⟨fun z=>hb'.1 (hsub b z),?_⟩
    cases q:F.H0 b with
    | none=>exact (bb_ q).trans (ic_ ((bb_ q).symm.trans hb'.2) fun o ho=>e b o hbA ho)
    | some w=>exact (az_ q).trans ((az_ q).symm.trans hb'.2)
   ·obtain ⟨o,ho⟩:=R.own_in (bu_ hr' ha)
    rw [ho]
    exact e a o (fun z=>(List.nodup_append.mp hnd).2.2 a z a (bu_ hr ha) rfl) ho
 ·rcases List.mem_append.mp hr with hr | hr
  ·have:a∈owns A:=hs a (bu_ hr ha)
   obtain ⟨s',es⟩:=hv' r hr
   unfold FrOk
   rw [es]
   exact hn a this
  ·exact R.fr r (List.mem_append_right _ hr) a ha
 ·exact e b o (fun z=>by rw [hn b z] at h1; cases h1) (R.kp b o h1 h2)
 ·by_cases z:b∈owns A
  ·exact e2 b z
  ·obtain ⟨u,hu⟩:=R.lv b hb
   exact ⟨u,e b u z hu⟩
end
abbrev FsO:=List (Str×Ow)
abbrev GO:=Addr→FsO→List Dx→(Sv→FsO→Prop)→Prop
def spO (g:GO):Sp:=fun vs H Q _ => ∃ (F:Fm) (C a dx:Addr) (l:FsO) (vr:List V) (ds:List Dx) (Qx:Sv→FsO→Prop),vs=.ref a :: vr∧F.H0=H∧F.B=(Ow.oi C a dx l).fp∧ds.length=vr.length∧Rep F ((.bo (.oi C a dx l),some (.ref a)) :: tmps (ds.map .tr) vr) H∧g C l ds Qx ∧
 ∀ s v l' H',Rep F [(.bo (.oi C a dx l'),some (.ref a)),(.v s,some v)] H'→Qx s l'→Q v H'
def objOf:Sl→Option (Addr×Addr×Addr×FsO×(Ow→Sl))
 | .bo (.oi C a dx l)=>some (C,a,dx,l,.bo)
 | .v (.ow (.oi C a dx l))=>some (C,a,dx,l,fun o=>.v (.ow o))
 | _=>none
abbrev objAt (ρ:En) (i:Nat):Option (Addr×Addr×Addr×FsO×(Ow→Sl)):=(ρ[i]?).bind objOf
def xCallO (g:GO) (i:Nat) (u:XA):XT:=fun ρ Q=>(objAt ρ i).isSome=true∧u ρ fun ss ρ'=>match objAt ρ' i with
 | some (C,a,dx,l,f)=>g C l (ss.map Sv.d) fun s l'=>Q s (ρ'.set i (f (.oi C a dx l')))
 | none=>False
def xMethO (C0:Addr) (m:Str) (g:GO) (i:Nat) (u:XA):XT:=fun ρ Q=>(match objAt ρ i with
 | some (C,_,_,l,_)=>C=C0∧l.lookup m=none
 | none=>False)∧u ρ fun ss ρ'=>match objAt ρ' i with
 | some (C,a,dx,l,f)=>g C l (ss.map Sv.d) fun s l'=>Q s (ρ'.set i (f (.oi C a dx l')))
 | none=>False
def xMakeO (C:Addr) (g:GO) (u:XA):XT:=fun ρ Q=>u ρ fun ss ρ' => ∀ a dx,g C [] (ss.map Sv.d) fun s l'=>s.d=.non∧Q (.ow (.oi C a dx l')) ρ'
def xFld (C0:Addr) (f:Str) (i:Nat):XT:=fun ρ Q=>match objAt ρ i with
 | some (C,_,_,l,_)=>C=C0∧(match l.lookup f with
  | some (.tr d)=>Q (.tr d) ρ
  | _=>False)
 | none=>False
def putFO (f:Str) (o:Ow):FsO→FsO
 | []=>[(f,o)]
 | (g,x) :: r=>if g=f then (g,o) :: r else (g,x) :: putFO f o r
def xSetF (C0:Addr) (f:Str) (i:Nat) (t:XT):XS:=fun ρ D=>t ρ fun s ρ'=>match objAt ρ' i with
 | some (C,a,dx,l,g)=>C=C0∧l.length < 1000∧(∀ o,l.lookup f=some o→∃ d,o=.tr d)∧D.nx (ρ'.set i (g (.oi C a dx (putFO f (.tr s.d) l))))
 | none=>False
section
variable {F F':Fm} {P A':List Rw} {H H':Hp} {r:Rw} {sl:Sl} {x:Option V} {C a dx:Addr} {l l':FsO} {f:Ow→Sl}
theorem Rep.back (R:Rep F (r :: P) H) (h0:F'.H0=H) (hB:F'.B=ownA r) (hS:F'.Hs=hid (owns (r :: P)) (F.vis H)) (R':Rep F' A' H') (hv:∀ q∈A',(∃ o,q.1=.bo o)∨∃ s,q.1=.v s):Rep F (A' ++ P) H':=by
 have hr:∀ b∈ownA r,b∈F.B∨F.H0 b=none:=fun b hb=>(R.fr r List.mem_cons_self b hb).or
 have nd:=R.nd
 rw [ak_] at nd
 have hdis:∀ b∈ownA r,b∉owns P:=fun b h1 h2=>(List.nodup_append.mp nd).2.2 b h1 b h2 rfl
 have hnew:∀ b∈owns A',b∈ownA r∨H b=none:=fun b hb=>by
  obtain ⟨q,hq,e⟩:=List.mem_flatMap.mp hb
  have:=(R'.fr q hq b e).or
  rw [hB,h0] at this
  exact this
 have hkeep:∀ b u,b∉ownA r→H b=some u→H' b=some u:=fun b u h1 h2=>R'.kp b u (by rw [h0]; exact h2) (by rw [hB]; exact h1)
 have hvis:∀ b u,b∉ownA r→F.vis H b=some u→F.vis H' b=some u:=fun b u h1 h2=>by
  cases q:F.H0 b with
  | none=>exact (bb_ q).trans (ic_ ((bb_ q).symm.trans h2) fun o h=>hkeep b o h1 h)
  | some w=>exact (az_ q).trans ((az_ q).symm.trans h2)
 have hPP:∀ b∈owns P,b∉owns A':=fun b h1 h2=>by
  rcases hnew b h2 with h | h
  ·exact hdis b h h1
  ·exact R.not_own h (by rw [ak_]; exact List.mem_append_right _ h1)
 refine ⟨?_,fun q hq => ?_,fun q hq b hb => ?_,fun b u h1 h2 => ?_,fun b hb => ?_⟩
 ·rw [bg_]
  exact List.nodup_append.mpr ⟨R'.nd,(List.nodup_append.mp nd).2.1,fun a h1 b h2 z=>hPP b h2 (z ▸ h1)⟩
 ·rw [bg_]
  rcases List.mem_append.mp hq with hq | hq
  ·refine (R'.ok q hq).mono (.of fun b u hb => ?_) fun _ _=>rfl
   obtain ⟨k1,k2⟩:=hid_some.mp hb
   cases z:H b with
   | none =>
    have k2:=(bb_ (by rw [h0]; exact z)).symm.trans k2
    refine hid_some.mpr ⟨fun w=>(List.mem_append.mp w).elim k1 fun w=>R.not_own z (by rw [ak_]; exact List.mem_append_right _ w),(bb_ (R.fresh z)).trans k2⟩
   | some w =>
    have k2:=(az_ (by rw [h0]; exact z)).symm.trans k2
    rw [hS] at k2
    obtain ⟨k3,k4⟩:=hid_some.mp k2
    rw [ak_] at k3
    exact hid_some.mpr ⟨fun w=>(List.mem_append.mp w).elim k1 fun w=>k3 (List.mem_append_right _ w),hvis b u (fun w=>k3 (List.mem_append_left _ w)) k4⟩
  ·refine (R.ok q (List.mem_cons_of_mem _ hq)).mono (.of fun b u hb => ?_) fun b hb => ?_
   ·obtain ⟨k3,k4⟩:=hid_some.mp hb
    rw [ak_] at k3
    have k5:b∉ownA r:=fun w=>k3 (List.mem_append_left _ w)
    refine hid_some.mpr ⟨fun w=>(List.mem_append.mp w).elim (fun w => ?_) fun w=>k3 (List.mem_append_right _ w),hvis b u k5 k4⟩
    rcases hnew b w with h | h
    ·exact k5 h
    ·have:=R.vis _ _ k4; rw [h] at this; cases this
   ·have hbP:=bu_ hq hb
    obtain ⟨u,hu⟩:=R.own_in (bu_ (List.mem_cons_of_mem _ hq) hb)
    rw [hu,hkeep b u (fun w=>hdis b w hbP) hu]
 ·rcases List.mem_append.mp hq with hq | hq
  ·have hf:=R'.fr q hq b hb
   obtain ⟨q1,q2⟩:=q
   rcases hv _ hq with ⟨o,e⟩ | ⟨s,e⟩
   ·cases (show q1=Sl.bo o from e)
    have hf:b∈F'.B∨F'.H0 b=none:=hf
    rw [hB,h0] at hf
    rcases hf with h | h
    ·exact hr b h
    ·exact .inr (R.fresh h)
   ·cases (show q1=Sl.v s from e)
    have hf:F'.H0 b=none:=hf
    rw [h0] at hf
    exact R.fresh hf
  ·exact R.fr q (List.mem_cons_of_mem _ hq) b hb
 ·by_cases z:b∈ownA r
  ·rcases hr b z with h | h
   ·exact absurd h h2
   ·rw [h] at h1; cases h1
  ·exact hkeep b u z (R.kp b u h1 h2)
 ·by_cases z:b∈ownA r
  ·exact R'.lv b (by rw [hB]; exact z)
  ·obtain ⟨u,hu⟩:=R.lv b hb
   exact ⟨u,hkeep b u z hu⟩
theorem Rep.boOw {o:Ow} (R:Rep F ((.bo o,x) :: P) H) (h:∀ b∈o.fp,F.H0 b=none):Rep F ((.v (.ow o),x) :: P) H:=by
 have e:owns ((.v (.ow o),x) :: P)=owns ((.bo o,x) :: P):=by rw [ak_,ak_]; rfl
 refine ⟨by rw [e]; exact R.nd,fun r hr => ?_,fun r hr b hb => ?_,R.kp,R.lv⟩
 ·rw [e]
  rcases List.mem_cons.mp hr with rfl | hr
  ·exact R.ok (.bo o,x) List.mem_cons_self
  ·exact R.ok r (List.mem_cons_of_mem _ hr)
 ·rcases List.mem_cons.mp hr with rfl | hr
  ·exact h b hb
  ·exact R.fr r (List.mem_cons_of_mem _ hr) b hb
theorem eo_ (h:objOf sl=some (C,a,dx,l,f)) (R:Rep F ((sl,x) :: P) H):x=some (.ref a)∧ownA (sl,x)=(Ow.oi C a dx l).fp∧OwOk (hid (owns ((sl,x) :: P)) (F.vis H)) H (.oi C a dx l) (.ref a) ∧
  ((sl=.bo (.oi C a dx l)∧f=.bo)∨(sl=.v (.ow (.oi C a dx l))∧f=fun o=>.v (.ow o))):=by
 match sl,h with
 | .bo (.oi C a dx l),h =>
  cases h
  obtain ⟨v,e,h2⟩:=R.ok _ List.mem_cons_self
  have e2:=h2
  simp only [OwOk] at e2
  obtain ⟨rfl,_⟩:=e2
  subst e
  exact ⟨rfl,rfl,h2,.inl ⟨rfl,rfl⟩⟩
 | .v (.ow (.oi C a dx l)),h =>
  cases h
  obtain ⟨v,e,h2⟩:=R.ok _ List.mem_cons_self
  have e2:=h2
  simp only [OwOk] at e2
  obtain ⟨rfl,_⟩:=e2
  subst e
  exact ⟨rfl,rfl,h2,.inr ⟨rfl,rfl⟩⟩
theorem OwOk.ins (h:OwOk (hid (owns P) (F.vis H)) H' (.oi C a dx l) (.ref a)):∃ ws,H' a=some (.ins C dx ws)∧H' dx=some (.own a)∧OwOkf (hid (owns P) (F.vis H)) H' l ws:=by
 simp only [OwOk] at h
 obtain ⟨_,ws,h1,h2,h3⟩:=h
 exact ⟨ws,h1,h2,h3⟩
theorem Rep.lend (h:objOf sl=some (C,a,dx,l,f)) (R:Rep F ((sl,x) :: P) H):∃ F':Fm,F'.H0=H∧F'.B=(Ow.oi C a dx l).fp∧F'.Hs=hid (owns ((sl,x) :: P)) (F.vis H)∧Rep F' [(.bo (.oi C a dx l),some (.ref a))] H ∧
  ∀ {s:Sv} {v:V} {l':FsO} {H':Hp},Rep F' [(.bo (.oi C a dx l'),some (.ref a)),(.v s,some v)] H'→Rep F ((.v s,some v) :: (f (.oi C a dx l'),x) :: P) H':=by
 obtain ⟨rfl,hA,hO,hf⟩:=eo_ h R
 have hin:∀ b∈(Ow.oi C a dx l).fp,b∈owns ((sl,some (.ref a)) :: P):=fun b hb=>by rw [ak_,hA]; exact List.mem_append_left _ hb
 have nb:∀ b∈(Ow.oi C a dx l).fp,hid (owns ((sl,some (.ref a)) :: P)) (F.vis H) b=none:=fun b hb=>by unfold hid; rw [if_pos (hin b hb)]
 have ib:∀ b∈(Ow.oi C a dx l).fp,∃ o,H b=some o:=fun b hb=>R.own_in (hin b hb)
 refine ⟨⟨H,hid (owns ((sl,some (.ref a)) :: P)) (F.vis H),(Ow.oi C a dx l).fp,R.hv,nb,ib⟩,rfl,rfl,rfl,?_,fun {s v l' H'} R' => ?_⟩
 ·have e:owns [((Sl.bo (.oi C a dx l),some (V.ref a)):Rw)]=(Ow.oi C a dx l).fp:=by rw [ak_]; exact List.append_nil _
  refine ⟨?_,fun r hr => ?_,fun r hr b hb => ?_,fun b o hb _=>hb,ib⟩
  ·rw [e,← hA]
   have:=R.nd
   rw [ak_] at this
   exact (List.nodup_append.mp this).1
  ·rw [List.mem_singleton.mp hr,e]
   refine ⟨_,rfl,OwOk.mono (.of fun b u hb => ?_) _ _ (fun _ _=>rfl) hO⟩
   have hb':=hid_some.mp hb
   exact hid_some.mpr ⟨fun z=>hb'.1 (hin b z),(az_ (R.hv _ _ hb)).trans hb⟩
  ·rw [List.mem_singleton.mp hr] at hb ⊢
   exact .inl hb
 ·have R2:=R.back (F':=⟨H,hid (owns ((sl,some (.ref a)) :: P)) (F.vis H),(Ow.oi C a dx l).fp,R.hv,nb,ib⟩) rfl hA.symm rfl R' fun q hq=>by
   rcases List.mem_cons.mp hq with rfl | hq
   ·exact .inl ⟨_,rfl⟩
   ·rw [List.mem_singleton.mp hq]; exact .inr ⟨_,rfl⟩
  rcases hf with ⟨e1,rfl⟩ | ⟨e1,rfl⟩
  ·exact R2.perm (.swap _ _ _)
  ·refine Rep.perm (R2.boOw fun b hb => ?_) (.swap _ _ _)
   have hfr:b∈(Ow.oi C a dx l).fp∨H b=none:=R'.fr _ List.mem_cons_self b hb
   rcases hfr with hb | hb
   ·have:=R.fr _ List.mem_cons_self b (by rw [hA]; exact hb)
    rw [e1] at this
    exact this
   ·exact R.fresh hb
theorem OwOkf.look {G:Hp} {f:Str} {o:Ow}:∀ {l:FsO} {ws:List (Str×V)},OwOkf G H l ws→l.lookup f=some o→∃ v,ws.lookup f=some v∧OwOk G H o v
 | [],_,_,e=>by simp at e
 | (g,y) :: r,ws,h,e=>by
  simp only [OwOkf] at h
  obtain ⟨w,wr,rfl,⟨h1,h2⟩,h3⟩:=h
  obtain ⟨w1,w2⟩:=w
  cases (show g=w1 from h1)
  by_cases z:f=g
  ·subst z
   rw [List.lookup_cons_self] at e ⊢
   cases e
   exact ⟨w2,rfl,h2⟩
  ·have hz:(f == g)=false:=by simpa using z
   rw [List.lookup_cons,hz] at e ⊢
   exact OwOkf.look h3 e
theorem OwOkf.miss {G:Hp} {f:Str}:∀ {l:FsO} {ws:List (Str×V)},OwOkf G H l ws→l.lookup f=none→ws.lookup f=none
 | [],_,h,_=>by simp only [OwOkf] at h; rw [h]; rfl
 | (g,y) :: r,ws,h,e=>by
  simp only [OwOkf] at h
  obtain ⟨w,wr,rfl,⟨h1,h2⟩,h3⟩:=h
  obtain ⟨w1,w2⟩:=w
  cases (show g=w1 from h1)
  by_cases z:f=g
  ·subst z
   rw [List.lookup_cons_self] at e
   cases e
  ·have hz:(f == g)=false:=by simpa using z
   rw [List.lookup_cons,hz] at e ⊢
   exact OwOkf.miss h3 e
theorem OwOkf.len {G:Hp}:∀ {l:FsO} {ws:List (Str×V)},OwOkf G H l ws→ws.length=l.length
 | [],_,h=>by simp only [OwOkf] at h; rw [h]; rfl
 | (g,y) :: r,ws,h=>by
  simp only [OwOkf] at h
  obtain ⟨w,wr,rfl,_,h3⟩:=h
  rw [List.length_cons,List.length_cons,OwOkf.len h3]
theorem OwOkf.put {G:Hp} {f:Str} {d:Dx} {v:V} (hd:IsX G d v):∀ {l:FsO} {ws:List (Str×V)},OwOkf G H l ws→OwOkf G H (putFO f (.tr d) l) (putF f v ws)
 | [],_,h=>by
  simp only [OwOkf] at h
  subst h
  simp only [putFO,putF,OwOkf,OwOk]
  exact ⟨_,_,rfl,⟨rfl,hd⟩,rfl⟩
 | (g,y) :: r,ws,h=>by
  simp only [OwOkf] at h
  obtain ⟨w,wr,rfl,⟨h1,h2⟩,h3⟩:=h
  obtain ⟨w1,w2⟩:=w
  cases (show g=w1 from h1)
  by_cases z:g=f
  ·simp only [putFO,putF,if_pos z,OwOkf,OwOk]
   exact ⟨_,_,rfl,⟨rfl,hd⟩,h3⟩
  ·simp only [putFO,putF,if_neg z,OwOkf]
   exact ⟨_,_,rfl,⟨rfl,h2⟩,OwOkf.put hd h3⟩
theorem putFO_fp {f:Str} {d:Dx}:∀ {l:FsO},(∀ o,l.lookup f=some o→∃ d,o=.tr d)→owFf (putFO f (.tr d) l)=owFf l
 | [],_=>by simp only [putFO,owFf,Ow.fp,List.append_nil]
 | (g,y) :: r,h=>by
  by_cases z:g=f
  ·subst z
   obtain ⟨d',rfl⟩:=h y List.lookup_cons_self
   simp only [putFO,if_pos,owFf,Ow.fp]
  ·have hz:(f == g)=false:=by simpa using fun e=>z e.symm
   simp only [putFO,if_neg z,owFf]
   rw [putFO_fp fun o ho=>h o (by rw [List.lookup_cons,hz]; exact ho)]
theorem Rep.setF {fl:Str} {d:Dx} {v:V} {ws:List (Str×V)} (h:objOf sl=some (C,a,dx,l,f)) (R:Rep F ((sl,x) :: P) H) (hn:∀ o,l.lookup fl=some o→∃ d,o=.tr d) (hd:IsX (hid (owns ((sl,x) :: P)) (F.vis H)) d v) (hw:H a=some (.ins C dx ws)) :
  Rep F ((f (.oi C a dx (putFO fl (.tr d) l)),x) :: P) (upd H a (.ins C dx (putF fl v ws))):=by
 obtain ⟨F',h0,hB,hS,R1,bk⟩:=R.lend h
 obtain ⟨rfl,hA,hO,hf⟩:=eo_ h R
 obtain ⟨ws',h1,h2,h3⟩:=OwOk.ins hO
 rw [hw] at h1
 cases h1
 have hfp:(Ow.oi C a dx (putFO fl (.tr d) l)).fp=(Ow.oi C a dx l).fp:=by simp only [Ow.fp,putFO_fp hn]
 have hnd:=R1.nd
 have e1:owns [((Sl.bo (.oi C a dx l),some (V.ref a)):Rw)]=(Ow.oi C a dx l).fp:=by rw [ak_]; exact List.append_nil _
 have e2:owns [((Sl.bo (.oi C a dx (putFO fl (.tr d) l)),some (V.ref a)):Rw)]=(Ow.oi C a dx l).fp:=by rw [ak_,← hfp]; exact List.append_nil _
 rw [e1] at hnd
 simp only [Ow.fp] at hnd
 have hna:=(List.nodup_cons.mp hnd).1
 have hdx:dx≠a:=fun z=>hna (by rw [z]; exact List.mem_cons_self)
 have hff:∀ b∈owFf l,b≠a:=fun b hb z=>hna (List.mem_cons_of_mem _ (z ▸ hb))
 have haB:a∈F'.B:=by rw [hB]; simp only [Ow.fp]; exact List.mem_cons_self
 have hin:∀ b∈(Ow.oi C a dx l).fp,b∈owns ((sl,some (.ref a)) :: P):=fun b hb=>by rw [ak_,hA]; exact List.mem_append_left _ hb
 have R2:Rep F' [(.bo (.oi C a dx (putFO fl (.tr d) l)),some (.ref a))] (upd H a (.ins C dx (putF fl v ws))):=by
  refine ⟨by rw [e2,← e1]; exact R1.nd,fun r hr => ?_,fun r hr b hb => ?_,fun b o hb hb2 => ?_,fun b hb => ?_⟩
  ·rw [List.mem_singleton.mp hr,e2]
   refine ⟨_,rfl,?_⟩
   simp only [OwOk]
   refine ⟨trivial,_,upd_same,by rw [ag_ hdx]; exact h2,?_⟩
   refine OwOkf.mono (.of fun b u hb => ?_) _ _ (fun b hb=>ag_ (hff b (by rw [putFO_fp hn] at hb; exact hb))) (OwOkf.put hd h3)
   have hb':=hid_some.mp hb
   exact hid_some.mpr ⟨fun z=>hb'.1 (hin b z),(az_ (by rw [h0]; exact R.hv _ _ hb)).trans (by rw [hS]; exact hb)⟩
  ·rw [List.mem_singleton.mp hr] at hb ⊢
   refine .inl ?_
   rw [hB,← hfp]
   exact hb
  ·have hba:b≠a:=fun z=>hb2 (by rw [z]; exact haB)
   rw [ag_ hba]
   rw [h0] at hb
   exact hb
  ·by_cases z:b=a
   ·exact ⟨_,by rw [z]; exact upd_same⟩
   ·rw [ag_ z]
    obtain ⟨o,ho⟩:=F'.ib b hb
    rw [h0] at ho
    exact ⟨o,ho⟩
 have R3:=bk (s:=.tr .non) (v:=.non) (Rep.perm (R2.add (d:=.non) (v:=.non) IsX.of_non) (.swap _ _ _))
 exact R3.tail
end
theorem rep_tmps {F:Fm} {H:Hp}:∀ {ds:List Dx} {vs:List V} {P:List Rw},Rep F P H→All2 (IsX (hid (owns P) (F.vis H))) ds vs→Rep F (tmps (ds.map .tr) vs ++ P) H∧owns (tmps (ds.map .tr) vs ++ P)=owns P
 | [],_,P,R,e=>by rw [show _=[] from e]; exact ⟨R,rfl⟩
 | d :: ds,_,P,R,⟨y,yr,e,h1,h2⟩=>by
  subst e
  obtain ⟨R2,e2⟩:=rep_tmps R h2
  refine ⟨Rep.add (P:=tmps (ds.map .tr) yr ++ P) (d:=d) (v:=y) R2 (by rw [e2]; exact h1),?_⟩
  show owns ((.v (.tr d),some y) :: (tmps (ds.map .tr) yr ++ P))=_
  rw [ej_ rfl,e2]
theorem spO_run {F:Fm} {ρ2:En} {σ:St} {fr:List Rw} {H2:Hp} {ss:List Sv} {vs:List V} {g:GO} {i:Nat} {Q:VK} {Qx:Sv→En→Prop} {a0:Addr} {Ek:XK} (hvi:σ[i]? = some (some (.ref a0))) (hl:ss.length=vs.length) (E2:EOk F ρ2 σ (tmps ss vs ++ fr) H2)
  (q2:match objAt ρ2 i with
   | some (C,a,dx,l,f)=>g C l (ss.map Sv.d) fun s l'=>Qx s (ρ2.set i (f (.oi C a dx l')))
   | none=>False)
  (k:∀ v s H' ρ',EOk F ρ' σ ((.v s,some v) :: fr) H'→Qx s ρ'→Q v H'):spO g (.ref a0 :: vs) H2 Q Ek:=by
 obtain ⟨R,hs⟩:=E2.many hl
 split at q2
 ·rename_i C a dx l f hb
  obtain ⟨sl,h3,h4⟩:=Option.bind_eq_some_iff.mp hb
  have E3:EOk F ρ2 σ fr H2:=⟨E2.len,R⟩
  obtain ⟨v',hv',hi',R2⟩:=be_ E3 h3
  rw [hvi] at hv'
  cases hv'
  obtain ⟨ex,hA,_⟩:=eo_ h4 R2
  cases ex
  obtain ⟨F',h0,hB,hS,R1,bk⟩:=R2.lend h4
  have hO:(owns (ρ2.zip σ ++ fr)).Perm (owns ((sl,some (V.ref a0)) :: ((ρ2.zip σ).eraseIdx i ++ fr))):=((cd_ h3 hvi).append_right fr).flatMap_right _
  have e1:owns [((Sl.bo (.oi C a0 dx l),some (V.ref a0)):Rw)]=(Ow.oi C a0 dx l).fp:=by rw [ak_]; exact List.append_nil _
  have hs':All2 (IsX (hid (owns [((Sl.bo (.oi C a0 dx l),some (V.ref a0)):Rw)]) (F'.vis H2))) (ss.map Sv.d) vs:=hs.imp fun d v z=>z.to fun b u hb=>by
   have hb2:=av_ (fun c hc=>hO.mem_iff.mpr hc) b u hb
   have hb':=hid_some.mp hb2
   refine hid_some.mpr ⟨fun z=>hb'.1 ?_,(az_ (by rw [h0]; exact R2.hv _ _ hb2)).trans (by rw [hS]; exact hb2)⟩
   rw [ak_,hA]
   rw [e1] at z
   exact List.mem_append_left _ z
  refine ⟨F',C,a0,dx,l,vs,ss.map Sv.d,_,rfl,h0,hB,by rw [List.length_map]; exact hl,(rep_tmps R1 hs').1.perm ?_,q2,fun s v l' H' R' q=>k v s H' _ (EOk.back (by rw [List.length_set]; exact E2.len) ((bk R').perm (((bw_ E2.len hi' hvi).append_right fr).symm.cons _))) q⟩
  exact List.perm_append_comm
 ·exact q2.elim
section
variable {X:Cx} {Ex:ExT} {j i:Nat} {x m:Str} {ps:List Str} {g:GO} {e o:Expr} {es:List Expr} {u:XA} {p pos apos:Pos} {C:Addr}
theorem dl_ (C:Cal X.prog X.w X.K X.mg X.base j x ps (spO g)) (hr:Room j X.A) (hv:PE X e (tVar i)) (ha:XAs X Ex es u) (hg:Gl X x:=by rfl) (hdb:(x == ("__debug__" : Str))=false:=by decide)
  (he:starEach (e :: es) X.env=(false,eval e X.env) :: starEach es X.env:=by rfl) (hpl:(backTo pos (starEach es X.env)).any (·.1)=false:=by rfl):XE X Ex (.Call (.Name x p) (e :: es) [] pos) (xCallO g i u):=fun F=>(gh_ C hr (ar_ hv (ha F) he) hg hdb he hpl).weak fun σ H Q=>by
 rintro ⟨ρ,fr,Qx,E,⟨t0,t⟩,k⟩
 obtain ⟨⟨C0,a0,dx0,l0,f0⟩,h0⟩:=Option.isSome_iff_exists.mp t0
 obtain ⟨sl0,h1,h2⟩:=Option.bind_eq_some_iff.mp h0
 obtain ⟨v,hv,hi,R0⟩:=be_ E h1
 obtain ⟨rfl,_⟩:=eo_ h2 R0
 refine ⟨.ref a0,hv,ρ,fr,_,E,t,fun vs ss H2 ρ2 hl E2 q2 => ?_⟩
 show spO g (V.ref a0 :: (vs ++ [])) H2 Q E0
 rw [List.append_nil]
 exact spO_run hv hl E2 q2 k
def CalM (P:Program) (w:World) (K:FG_) (mg:MG_) (base:Heap) (j:Nat) (C:Addr) (m:Str) (ps:List Str) (sp:Sp):Prop:=Cls K C∧∃ f fd,Meth K C m f∧FnOk P w K mg base CX0 j f fd ps sp∧Binds K fd ps []
def CalK (P:Program) (w:World) (K:FG_) (mg:MG_) (base:Heap) (j:Nat) (C:Addr) (ps:List Str) (sp:Sp):Prop := ∃ f fd,Mk K C f∧FnOk P w K mg base CX0 j f fd ps sp∧Binds K fd ps []
theorem cq_ {pl:Sem Bool} (M:CalM X.prog X.w X.K X.mg X.base j C m ps (spO g)) (hr:Room j X.A) (hv:PE X o (tVar i)) (ha:XAs X Ex (e :: es) u)
  (hst:starEach (e :: es) X.env=(false,eval e X.env) :: starEach es X.env:=by rfl) (hpl:(backTo pos (starEach es X.env)).any (·.1)=false:=by rfl)
  (ht:eval (.Call (.Attribute o m apos) (e :: es) [] pos) X.env=(do
   let ov ← eval o X.env
   standAt apos.atName
   let (f,first) ← holding [ov] (getMethod ov m pl)
   callWith pos f first (backTo pos (starEach (e :: es) X.env)) (backToKw pos (keywordEach [] X.env))):=by rfl) :
  XE X Ex (.Call (.Attribute o m apos) (e :: es) [] pos) (xMethO C m g i u):=fun F=>by
 obtain ⟨c,f,fd,hm,hf,hb⟩:=M
 refine (pe_meth hv c hm hf hr hb .nil pass0 (ha F) hst hpl ht).weak fun σ H Q => ?_
 rintro ⟨ρ,fr,Qx,E,⟨t0,t⟩,k⟩
 split at t0
 ·rename_i C0 a0 dx0 l0 f0 h0
  obtain ⟨rfl,hmm⟩:=t0
  obtain ⟨sl0,h1,h2⟩:=Option.bind_eq_some_iff.mp h0
  obtain ⟨v,hv,hi,R0⟩:=be_ E h1
  obtain ⟨rfl,_,hO,_⟩:=eo_ h2 R0
  obtain ⟨ws,h5,_,h6⟩:=OwOk.ins hO
  refine ⟨.ref a0,hv,a0,dx0,ws,rfl,h5,h6.miss hmm,ρ,fr,_,E,t,fun vs ss H2 ρ2 hl E2 q2 => ?_⟩
  show spO g (V.ref a0 :: (vs ++ [])) H2 Q E0
  rw [List.append_nil]
  exact spO_run hv hl E2 q2 k
 ·exact t0.elim
theorem xe_methO0 {pl:Sem Bool} (M:CalM X.prog X.w X.K X.mg X.base j C m ps (spO g)) (hr:Room j X.A) (hv:PE X o (tVar i))
  (ht:eval (.Call (.Attribute o m apos) [] [] pos) X.env=(do
   let ov ← eval o X.env
   standAt apos.atName
   let (f,first) ← holding [ov] (getMethod ov m pl)
   callWith pos f first (backTo pos (starEach [] X.env)) (backToKw pos (keywordEach [] X.env))):=by rfl) :
  XE X Ex (.Call (.Attribute o m apos) [] [] pos) (xMethO C m g i xNil):=fun F=>by
 obtain ⟨c,f,fd,hm,hf,hb⟩:=M
 refine (pe_meth0 hv c hm hf hr hb .nil pass0 ht).weak fun σ H Q => ?_
 rintro ⟨ρ,fr,Qx,E,⟨t0,t⟩,k⟩
 split at t0
 ·rename_i C0 a0 dx0 l0 f0 h0
  obtain ⟨rfl,hmm⟩:=t0
  obtain ⟨sl0,h1,h2⟩:=Option.bind_eq_some_iff.mp h0
  obtain ⟨v,hv,hi,R0⟩:=be_ E h1
  obtain ⟨rfl,_,hO,_⟩:=eo_ h2 R0
  obtain ⟨ws,h5,_,h6⟩:=OwOk.ins hO
  refine ⟨.ref a0,hv,a0,dx0,ws,rfl,h5,h6.miss hmm,?_⟩
  exact spO_run (ss:=[]) (vs:=[]) (Ek:=E0) hv rfl E t k
 ·exact t0.elim
theorem xe_makeO (M:CalK X.prog X.w X.K X.mg X.base j C ps (spO g)) (hr:Room (j + 1) X.A) (hm:X.mg x=some (.ref C)) (ha:XAs X Ex (e :: es) u) (hg:Gl X x:=by rfl) (hdb:(x == ("__debug__" : Str))=false:=by decide)
  (he:starEach (e :: es) X.env=(false,eval e X.env) :: starEach es X.env:=by rfl) (hpl:(backTo pos (starEach es X.env)).any (·.1)=false:=by rfl) :
  XE X Ex (.Call (.Name x p) (e :: es) [] pos) (xMakeO C g u):=fun F=>by
 obtain ⟨f,fd,hk,hf,hb⟩:=M
 refine (pe_make hk hf hr hg hm hb .nil pass0 (ha F) hdb he hpl).weak fun σ H Q => ?_
 rintro ⟨ρ,fr,Qx,E,t,k⟩
 refine ⟨ρ,fr,_,E,t,fun vs ss H2 ρ2 hl E2 q2 => ?_⟩
 intro a dx ha hdx hne
 rw [List.append_nil]
 obtain ⟨R,hs⟩:=E2.many hl
 have eS:Same H2 (upd (upd H2 dx (.own a)) a (.ins C dx [])):=fun b o hb=>by
  have n1:b≠a:=fun z=>by rw [z,ha] at hb; cases hb
  have n2:b≠dx:=fun z=>by rw [z,hdx] at hb; cases hb
  rw [ag_ n1,ag_ n2]
  exact hb
 have hfp:(Ow.oi C a dx []).fp=[a,dx]:=by simp only [Ow.fp,owFf]
 have R1:Rep F ((.v (.ow (.oi C a dx [])),some (.ref a)) :: (ρ2.zip σ ++ fr)) (upd (upd H2 dx (.own a)) a (.ins C dx [])):=by
  refine R.adoptW eS (by rw [hfp]; simp [Ne.symm hne]) (fun b hb => ?_) ?_
  ·rw [hfp] at hb
   rcases List.mem_cons.mp hb with rfl | hb
   ·exact ha
   ·rw [List.mem_singleton.mp hb]; exact hdx
  ·simp only [OwOk,OwOkf]
   exact ⟨trivial,[],upd_same,by rw [ag_ hne]; exact upd_same,rfl⟩
 obtain ⟨F',h0,hB,hS,R2,bk⟩:=R1.lend rfl
 have e1:owns [((Sl.bo (.oi C a dx []),some (V.ref a)):Rw)]=[a,dx]:=by rw [ak_,← hfp]; exact List.append_nil _
 have e2:owns ((Sl.v (.ow (.oi C a dx [])),some (V.ref a)) :: (ρ2.zip σ ++ fr))=[a,dx] ++ owns (ρ2.zip σ ++ fr):=by rw [ak_,← hfp]; rfl
 have hs':All2 (IsX (hid (owns [((Sl.bo (.oi C a dx []),some (V.ref a)):Rw)]) (F'.vis (upd (upd H2 dx (.own a)) a (.ins C dx []))))) (ss.map Sv.d) vs:=hs.imp fun d v z=>z.to fun b u hb=>by
  have hb':=hid_some.mp hb
  have hH:=R.hv _ _ hb
  have hnot:b∉[a,dx]:=fun z=>by
   rcases List.mem_cons.mp z with rfl | z
   ·rw [ha] at hH; cases hH
   ·rw [List.mem_singleton.mp z,hdx] at hH; cases hH
  refine hid_some.mpr ⟨by rw [e1]; exact hnot,(az_ (by rw [h0]; exact eS _ _ hH)).trans ?_⟩
  rw [hS,e2]
  exact hid_some.mpr ⟨fun z=>(List.mem_append.mp z).elim hnot hb'.1,fm_ eS _ _ hb'.2⟩
 refine ⟨F',C,a,dx,[],vs,ss.map Sv.d,_,rfl,h0,hB,by rw [List.length_map]; exact hl,(rep_tmps R2 hs').1.perm List.perm_append_comm,q2 a dx,fun s v l' H' R' q => ?_⟩
 have R3:=bk R'
 obtain ⟨w,ew,hw⟩:=R3.head
 cases ew
 rw [q.1] at hw
 refine ⟨?_,k _ _ H' ρ2 (EOk.back E2.len R3.tail) q.2⟩
 simpa only [IsX] using hw
theorem ef_ {f:Str} (c:Cls X.K C) (hn:NoAttr X.K C f) (hv:PE X o (tVar i)) (hb:attributeBase o f X.env (eval o X.env)=eval o X.env:=by rfl):XE X Ex (.Attribute o f pos) (xFld C f i):=fun F=>(pe_fld hv hb).weak fun σ H Q=>by
 rintro ⟨ρ,fr,Qx,E,t,k⟩
 unfold xFld at t
 split at t
 ·rename_i C0 a0 dx0 l0 f0 h0
  obtain ⟨rfl,t⟩:=t
  split at t
  ·rename_i d hd
   obtain ⟨sl0,h1,h2⟩:=Option.bind_eq_some_iff.mp h0
   obtain ⟨v,hv,hi,R0⟩:=be_ E h1
   obtain ⟨rfl,_,hO,_⟩:=eo_ h2 R0
   obtain ⟨ws,h5,_,h6⟩:=OwOk.ins hO
   obtain ⟨w,hw,hx⟩:=h6.look hd
   simp only [OwOk] at hx
   refine ⟨.ref a0,hv,a0,C0,dx0,ws,w,rfl,h5,c,hn,hw,k w _ H ρ (EOk.back E.len (E.rep.add (hx.to (av_ fun b hb => ?_)))) t⟩
   exact (((cd_ h1 hv).append_right fr).flatMap_right _).mem_iff.mp hb
  ·exact t.elim
 ·exact t.elim
theorem xs_fld {f:Str} {value:Expr} {tv:XT} {pos':Pos} (c:Cls X.K C) (hn:NoAttr X.K C f) (hv:PE X o (tVar i)) (ht:XE X Ex value tv) (hs:swapsWith value (some (.Attribute o f pos')) pos.line X.env=pure false:=by rfl):XSt X Ex (.Assign [.Attribute o f pos'] value pos) (xSetF C f i tv):=fun F=>(ps_fld hv (ht F) hs).weak fun D σ H=>by
 rintro ⟨ρ,fr,d,E,t,DK⟩
 refine ⟨ρ,fr,_,E,t,fun v s H2 ρ2 E2 t2 => ?_⟩
 split at t2
 ·rename_i C0 a0 dx0 l0 f0 h0
  obtain ⟨rfl,hl,hno,t2⟩:=t2
  obtain ⟨R,hx⟩:=E2.one
  obtain ⟨sl0,h1,h2⟩:=Option.bind_eq_some_iff.mp h0
  obtain ⟨v',hv',hi,R0⟩:=be_ ⟨E2.len,R⟩ h1
  obtain ⟨rfl,_,hO,_⟩:=eo_ h2 R0
  obtain ⟨ws,h5,_,h6⟩:=OwOk.ins hO
  refine ⟨.ref a0,hv',a0,C0,dx0,ws,rfl,h5,c,hn,by rw [h6.len]; exact hl,DK.nx _ _ _ rfl (eok_put E2.len hi hv' (R0.setF h2 hno (hx.to (av_ fun b hb => ?_)) h5)) t2⟩
  exact (((cd_ h1 hv').append_right fr).flatMap_right _).mem_iff.mpr hb
 ·exact t2.elim
end
def startO (N:List Str) (o:Ow) (ds:List Dx):En:=.bo o :: (ds.map (fun d=>.v (.tr d)) ++ List.replicate (N.length - (ds.length + 1)) .un)
def lentEndO (C a dx:Addr) (Q:Sv→FsO→Prop) (s:Sv) (ρ:En):Prop:=match (ρ[0]? : Option Sl) with
 | some (.bo (.oi C' a' dx' l))=>C'=C∧a'=a∧dx'=dx∧Q s l
 | _=>False
abbrev retO (C a dx:Addr) (Q:Sv→FsO→Prop):XD:=⟨fun ρ=>lentEndO C a dx Q (.tr .non) ρ,fun s ρ=>lentEndO C a dx Q s ρ,fun _=>False,fun _=>False⟩
theorem zip_tmps:∀ {ds:List Dx} {vs:List V},ds.length=vs.length→(ds.map (fun d=>Sl.v (.tr d))).zip (vs.map some)=tmps (ds.map .tr) vs
 | [],[],_=>rfl
 | [],_ :: _,h=>by simp at h
 | _ :: _,[],h=>by simp at h
 | d :: ds,v :: vs,h=>by
  show (Sl.v (.tr d),some v) :: (ds.map (fun d=>Sl.v (.tr d))).zip (vs.map some)=(Sl.v (.tr d),some v) :: tmps (ds.map .tr) vs
  rw [zip_tmps (by simpa using h)]
theorem fn_o {P:Program} {w:World} {K:FG_} {mg:MG_} {base:Heap} {x qual:Str} {st:Stmt} {f:Addr} {fd:FuncData} {N ps:List Str} {k:Nat} {g:GO} (Fn:Fun K x qual st f fd) (S:FnScope N ps (defScope st)) (hlen:∀ C l ds Q,g C l ds Q→ds.length + 1=ps.length) (hN:ps.length≤N.length)
  (hbody:∀ (cdv:Value) (A:Around) (outer:List Env) (s:Shared) (H:Hp) (E:XK),Room k (A.deeper (PyProof.Rows.envOfC qual (defScope st) s.heap.objs.size f cdv)) →
   ∃ G,XSs (cxOf CX0 P w K mg base N qual (defScope st) f cdv A outer s H E).nox noEx (defBody st) G∧∀ C a dx l ds Q,g C l ds Q→G (startO N (.oi C a dx l) ds) (retO C a dx Q)):FnOk P w K mg base CX0 (k + 1) f fd ps (spO g):=by
 refine Fn.ok S (fun vs H Q E h => ?_) (fun cdv A outer s H vs Q E hr h => ?_)
 ·obtain ⟨F,C,a,dx,l,vr,ds,Qx,rfl,_,_,h2,_,h3,_⟩:=h
  rw [List.length_cons,← h2]
  exact hlen C l ds Qx h3
 obtain ⟨F,C,a,dx,l,vr,ds,Qx,rfl,h0,hB,h2,R,h3,h4⟩:=h
 obtain ⟨G,hG,hq⟩:=hbody cdv A outer s H E hr
 have hlen':=hlen C l ds Qx h3
 have fin:∀ {sv:Sv} {v:V} {σ':St} {H':Hp} {ρ':En},EOk F ρ' σ' ((.v sv,some v) :: []) H'→lentEndO C a dx Qx sv ρ'→Q v H':=fun {sv v σ' H' ρ'} E' q=>by
  unfold lentEndO at q
  split at q
  ·rename_i C' a' dx' l' e0
   obtain ⟨rfl,rfl,rfl,q⟩:=q
   obtain ⟨y,hy,hi,R2⟩:=be_ E' e0
   obtain ⟨rfl,_⟩:=eo_ rfl R2
   refine h4 sv v l' H' (Rep.drops (A:=(ρ'.zip σ').eraseIdx 0) (R2.perm ?_)) q
   exact List.perm_middle.symm
  ·exact q.elim
 refine ⟨_,hG F,startO N (.oi C a dx l) ds,[],retO C a dx Qx,⟨?_,?_⟩,hq C a dx l ds Qx h3,⟨fun σ' H' ρ' _ E' q=>fin (EOk.back E'.len (E'.rep.add (d:=.non) (v:=.non) IsX.of_non)) q,fun v s σ' H' ρ' _ E' q=>fin E' q,fun _ _ _ _ _ q=>q.elim,fun _ _ _ _ _ q=>q.elim⟩⟩
 ·unfold startO L2.start
  simp only [List.length_append,List.length_map,List.length_replicate,List.length_cons]
  omega
 ·have e:(startO N (.oi C a dx l) ds).zip (L2.start N (.ref a :: vr))=((.bo (.oi C a dx l),some (.ref a)) :: tmps (ds.map .tr) vr) ++ List.replicate (N.length - (ds.length + 1)) (.un,none):=by
   unfold startO L2.start
   rw [List.map_cons,List.cons_append,List.zip_cons_cons,List.length_cons,← h2,List.zip_append (by rw [List.length_map,List.length_map]; exact h2),zip_tmps h2,List.zip_replicate',List.cons_append]
  rw [e,List.append_nil]
  exact (R.addUs _).perm List.perm_append_comm
end Lf
namespace L2
open PySem PySem.Spec PyProof.Rows
section
variable {X:Cx}
def st3 (x y:Str) (i:Int):Bool:=fromIndex x.length i + y.length≤x.length && Builtin.Str.subAt x y (fromIndex x.length i)
theorem mt_starts:MtR X "str.startswith" (fun x vs H Q => ∃ z y i,x=.str z∧vs=[.str y,.int i]∧Q (.bl (st3 z y i)) H):=by
 intro pins s σ H x vs v us Q I rx rv h
 obtain ⟨z,y,i,rfl,rfl,q⟩:=h
 obtain ⟨t,rfl⟩:=rx
 cases rv with
 | cons r1 r2 =>
  cases r2 with
  | cons r3 r4 =>
   cases r4
   obtain ⟨u,rfl⟩:=r1
   obtain ⟨u2,rfl⟩:=r3
   exact call_gives F.slot_str_startswith (typeIs_str s z t) F.entry_str_startswith (F.args_str_startswith_3 _ _ _) (gives_str_startswith_from z y i t u u2) ⟨.bl _,H,I,rfl,q⟩
theorem call_intT:CallR X (.type "int") (fun xs H Q => ∃ x n,xs=[.str x]∧x.length≤640∧PySem.intText? x=some n∧Q (.int n) H):=by
 intro pins s σ H xs us Q I r h
 obtain ⟨x,n,rfl,hl,hn,q⟩:=h
 obtain ⟨u,rfl,rx⟩:=vals1 r
 obtain ⟨t,rfl⟩:=rx
 exact PySem.W.KIN.call_text hn hl ⟨.int n,H,I.tok _,⟨_,rfl⟩,q⟩
end
end L2
namespace Lf
open PySem L2
def intT:GC:=fun ds Q => ∃ x n,ds=[.str x]∧x.length≤640∧PySem.intText? x=some n∧Q (.tr (.int n))
theorem cx_intT:CallX (fun xs H Q => ∃ x n,xs=[.str x]∧x.length≤640∧PySem.intText? x=some n∧Q (.int n) H) intT:=by
 intro F P H ds xs Q Qx R hs g k
 obtain ⟨x,n,rfl,hl,hn,q⟩:=g
 obtain ⟨y,rfl,hx⟩:=dk_ hs
 cases hx.str_eq
 exact ⟨x,n,rfl,hl,hn,k _ _ H (R.add (IsX.of_int _)) q⟩
def xStarts (to ta tb:XT):XT:=fun ρ Q=>to ρ fun o ρ1=>(∃ z,o.d=.str z)∧ta ρ1 fun a ρ2=>tb ρ2 fun b ρ3=>match o.d,a.d,b.d with
 | .str z,.str y,.int i=>Q (.tr (.bl (st3 z y i))) ρ3
 | _,_,_=>False
section
variable {X:Cx} {Ex:ExT} {o e e2:Expr} {to t t2:XT} {apos cpos pos:Pos} {F:Fm} {i:Nat} {K:FG_} {es:List Expr} {u:XA}
theorem xe_starts (ho:XE X Ex o to) (h:XE X Ex e t) (h2:XE X Ex e2 t2)
  (hbase:attributeBase o "startswith" X.env (eval o X.env)=eval o X.env:=by rfl)
  (hfew:((backTo cpos (starEach [e,e2] X.env)).all (fun x => !x.1) && (backToKw cpos (keywordEach [] X.env)).all (fun x=>x.1.isSome)
   && decide ([e,e2].length + ([]:List Keyword).length + (if ([]:List Keyword).isEmpty then 0 else 1) < 30))=true:=by rfl)
  (hline:(apos.endLine == cpos.line)=true:=by rfl) (hs:starEach [e,e2] X.env=(false,eval e X.env) :: starEach [e2] X.env:=by rfl) (hs2:starEach [e2] X.env=(false,eval e2 X.env) :: starEach [] X.env:=by rfl) (hplain:(backTo cpos (starEach [e2] X.env)).any (·.1)=false:=by rfl) :
  XE X Ex (.Call (.Attribute o "startswith" apos) [e,e2] [] cpos) (xStarts to t t2):=fun F =>
 (pe_bm PySem.F.plainAttrs_str PySem.F.slot_str_startswith PySem.F.type_str_startswith mt_starts (ho F) (ar_ (h F) (ar_ (h2 F) bi_ hs2) hs) hbase hfew hline hs hplain).weak fun σ H Q=>by
  rintro ⟨ρ,fr,Qx,E,q,k⟩
  refine ⟨ρ,fr,_,E,q,fun v s H' ρ' E' q' => ?_⟩
  obtain ⟨⟨z,hz⟩,q'⟩:=q'
  obtain ⟨R,hx⟩:=E'.one
  rw [hz] at hx q'
  cases hx.str_eq
  refine ⟨rfl,ρ',_,_,E'.drop,q',fun u s2 H2 ρ2 E2 q2 => ?_⟩
  refine ⟨ρ2,_,_,E2,q2,fun u3 s3 H3 ρ3 E3 q3 => ?_⟩
  obtain ⟨R3,hx2,hx3⟩:=E3.two
  split at q3
  ·rename_i z' y' i' e1 e2 e3
   cases e1
   rw [e2] at hx2
   rw [e3] at hx3
   cases hx2.str_eq
   cases hx3.int_eq
   exact ⟨z,y',i',rfl,rfl,k _ _ H3 ρ3 (EOk.back E3.len (R3.add (IsX.of_bl _))) q3⟩
  ·exact q3.elim
theorem xe_joinG {c:Str} {z:Str} {p:Pos} (hg:Gl X c) (hm:∃ t,X.mg c=some (.str z t)) (h:XE X Ex e t) (hd:(c == ("__debug__" : Str))=false:=by decide)
  (hbase:attributeBase (.Name c p) "join" X.env (eval (.Name c p) X.env)=eval (.Name c p) X.env:=by rfl)
  (hfew:((backTo cpos (starEach [e] X.env)).all (fun x => !x.1) && (backToKw cpos (keywordEach [] X.env)).all (fun x=>x.1.isSome)
   && decide ([e].length + ([]:List Keyword).length + (if ([]:List Keyword).isEmpty then 0 else 1) < 30))=true:=by rfl)
  (hline:(apos.endLine == cpos.line)=true:=by rfl) (hs:starEach [e] X.env=(false,eval e X.env) :: starEach [] X.env:=by rfl) (hplain:(backTo cpos (starEach [] X.env)).any (·.1)=false:=by rfl) :
  XE X Ex (.Call (.Attribute (.Name c p) "join" apos) [e] [] cpos) (xJoin z t):=fun F=>by
 obtain ⟨tk,hm⟩:=hm
 refine (pe_bm PySem.F.plainAttrs_str PySem.F.slot_str_join PySem.F.type_str_join mt_join (pe_glob (v:=.str z) hg hm ⟨tk,rfl⟩ hd) (ar_ (h F) bi_ hs) hbase hfew hline hs hplain).weak fun σ H Q => ?_
 rintro ⟨ρ,fr,Qx,E,t,k⟩
 refine ⟨rfl,ρ,fr,_,E,t,fun v s H' ρ' E' q => ?_⟩
 obtain ⟨ys,hd,hz,q⟩:=q
 obtain ⟨R,hx⟩:=E'.one
 rw [hd] at hx
 obtain ⟨p,vs,rfl,q1,q2⟩:=hx.lst_eq
 cases strs_of q2
 exact ⟨z,p,ys,rfl,rfl,SqL.of (R.hv _ _ q1),hz,k _ _ H' ρ' (EOk.back E'.len (R.add (IsX.of_str _))) q⟩
def xLstO (u:XA):XT:=fun ρ Q=>u ρ fun ss ρ' => ∃ os,ss.map Sv.o? = os.map some∧ss.length≤1000000∧∀ a,Q (.ow (.ol a os)) ρ'
theorem xe_lstO (h:XAs X Ex es u):XE X Ex (.List es pos) (xLstO u):=fun F=>(hw_ (h F)).weak fun σ H Q=>by
 rintro ⟨ρ,fr,Qx,E,t,k⟩
 refine ⟨ρ,fr,_,E,t,fun vs ss H2 ρ2 hl E2 q2 => ?_⟩
 obtain ⟨os,ho,hz,q2⟩:=q2
 refine ⟨by have:=line1; omega,fun p hp => ?_⟩
 have R1:Rep F (tmps ss vs ++ (ρ2.zip σ ++ fr)) H2:=E2.rep.perm (List.perm_append_comm_assoc _ _ _)
 have hlo:os.length=vs.length:=by have:=congrArg List.length ho; rw [List.length_map,List.length_map] at this; omega
 exact k _ _ _ ρ2 (EOk.back E2.len ((Rep.tmpsO hl ho R1).bundleL hlo hp)) (q2 p)
theorem OwOks.len {G H:Hp}:∀ {l:List Ow} {ws:List V},OwOks G H l ws→ws.length=l.length
 | [],_,h=>by simp only [OwOks] at h; rw [h]; rfl
 | o :: r,ws,h=>by
  simp only [OwOks] at h
  obtain ⟨w,wr,rfl,_,h3⟩:=h
  rw [List.length_cons,List.length_cons,OwOks.len h3]
theorem OwOks.snoc {G H:Hp} {o:Ow} {v:V} (ho:OwOk G H o v):∀ {l:List Ow} {ws:List V},OwOks G H l ws→OwOks G H (l ++ [o]) (ws ++ [v])
 | [],_,h=>by
  simp only [OwOks] at h
  subst h
  simp only [List.nil_append,OwOks]
  exact ⟨_,_,rfl,ho,rfl⟩
 | p :: r,ws,h=>by
  simp only [OwOks] at h
  obtain ⟨w,wr,rfl,h2,h3⟩:=h
  simp only [List.cons_append,OwOks]
  exact ⟨w,wr ++ [v],rfl,h2,OwOks.snoc ho h3⟩
theorem owFs_snoc {o:Ow}:∀ l:List Ow,owFs (l ++ [o])=owFs l ++ o.fp
 | []=>by simp only [List.nil_append,owFs,List.append_nil]
 | p :: r=>by simp only [List.cons_append,owFs,owFs_snoc,List.append_assoc]
theorem Rep.appO {P:List Rw} {H:Hp} {o:Ow} {x:Option V} {a:Addr} {l:List Ow} {v:V} (R:Rep F ((.v (.ow o),some v) :: (.v (.ow (.ol a l)),x) :: P) H):x=some (.ref a)∧∃ ws,H a=some (.lst ws)∧ws.length=l.length∧Rep F ((.v (.ow (.ol a (l ++ [o]))),x) :: P) (upd H a (.lst (ws ++ [v]))):=by
 obtain ⟨y,rfl,h1⟩:=R.ok _ (List.mem_cons_of_mem _ List.mem_cons_self)
 obtain ⟨y2,e2,h2⟩:=R.ok _ List.mem_cons_self
 cases e2
 simp only [OwOk] at h1
 obtain ⟨rfl,ws,h3,h4⟩:=h1
 refine ⟨rfl,ws,h3,h4.len,?_⟩
 have eo:owns [((.v (.ow o),some v):Rw),(.v (.ow (.ol a l)),some (.ref a))]=o.fp ++ (a :: owFs l):=by
  rw [ak_,ak_]
  simp only [ownA,Ow.fp,owns,List.flatMap_nil,List.append_nil]
 have en:ownA (.v (.ow (.ol a (l ++ [o]))),some (.ref a))=a :: (owFs l ++ o.fp):=by simp only [ownA,Ow.fp,owFs_snoc]
 have R':Rep F ([((.v (.ow o),some v):Rw),(.v (.ow (.ol a l)),some (.ref a))] ++ P) H:=R
 have hao:a∉o.fp ++ owFs l:=by
  have hn:=R'.nd
  rw [bg_,eo] at hn
  have hn2:=(List.nodup_append.mp hn).1
  have:=(List.perm_middle (a:=a) (l₁:=o.fp) (l₂:=owFs l)).nodup_iff.mp hn2
  exact (List.nodup_cons.mp this).1
 refine R'.shift (A:=[(.v (.ow o),some v),(.v (.ow (.ol a l)),some (.ref a))]) ?_ ?_ (fun b hb => ?_) (fun b hb => ?_) ?_
 ·rw [en,eo]
  exact (List.perm_append_comm.cons a).trans List.perm_middle.symm
 ·intro r hr
  rcases List.mem_cons.mp hr with rfl | hr
  ·exact ⟨_,rfl⟩
  ·rw [List.mem_singleton.mp hr]; exact ⟨_,rfl⟩
 ·refine ag_ fun z=>hb ?_
  rw [eo,z]
  exact List.mem_append_right _ List.mem_cons_self
 ·by_cases z:b=a
  ·rw [z]; exact ⟨_,upd_same⟩
  ·obtain ⟨u,hu⟩:=R'.own_in (by rw [bg_]; exact List.mem_append_left _ hb)
   exact ⟨u,by rw [ag_ z]; exact hu⟩
 ·rw [en]
  refine ⟨.ref a,rfl,?_⟩
  simp only [OwOk]
  refine ⟨trivial,_,upd_same,?_⟩
  have hs:∀ b u,hid (owns ([((.v (.ow o),some v):Rw),(.v (.ow (.ol a l)),some (.ref a))] ++ P)) (F.vis H) b=some u→hid (a :: (owFs l ++ o.fp) ++ owns P) (F.vis (upd H a (.lst (ws ++ [v])))) b=some u:=fun b u hb=>by
   have hb':=hid_some.mp hb
   rw [bg_,eo] at hb'
   have hba:b≠a:=fun z=>hb'.1 (by rw [z]; exact List.mem_append_left _ (List.mem_append_right _ List.mem_cons_self))
   refine hid_some.mpr ⟨fun z=>hb'.1 ?_,?_⟩
   ·rcases List.mem_append.mp z with z | z
    ·refine List.mem_append_left _ ?_
     rcases List.mem_cons.mp z with z | z
     ·rw [z]; exact List.mem_append_right _ List.mem_cons_self
     ·rcases List.mem_append.mp z with z | z
      ·exact List.mem_append_right _ (List.mem_cons_of_mem _ z)
      ·exact List.mem_append_left _ z
    ·exact List.mem_append_right _ z
   ·cases q:F.H0 b with
    | none=>exact (bb_ q).trans ((congrArg nf (ag_ hba)).trans ((bb_ q).symm.trans hb'.2))
    | some w=>exact (az_ q).trans ((az_ q).symm.trans hb'.2)
  have k1:∀ b∈o.fp,upd H a (.lst (ws ++ [v])) b=H b:=fun b hb=>ag_ fun z=>hao (by rw [← z]; exact List.mem_append_left _ hb)
  have k2:∀ b∈owFs l,upd H a (.lst (ws ++ [v])) b=H b:=fun b hb=>ag_ fun z=>hao (by rw [← z]; exact List.mem_append_right _ hb)
  exact OwOks.snoc (OwOk.mono (.of hs) o v k1 h2) (OwOks.mono (.of hs) l ws k2 h4)
def xAppO (i:Nat) (t:XT):XS:=fun ρ D=>(match ρ[i]? with
 | some (.v (.ow (.ol _ _)))=>True
 | _=>False)∧t ρ fun s ρ'=>match ρ'[i]? with
 | some (.v (.ow (.ol a l))) => ∃ o,s.o? = some o∧l.length < 1000000∧D.nx (ρ'.set i (.v (.ow (.ol a (l ++ [o])))))
 | _=>False
theorem tAppO_x:∀ D σ H,tXS F (xAppO i t) D σ H→tDrop (tBM K "list" rAppend (tVar i) (tCons (tX F t) tNil)) D σ H:=by
 rintro D σ H ⟨ρ,fr,d,E,⟨q0,q⟩,k⟩
 split at q0
 ·rename_i a0 l0 h0
  obtain ⟨v0,hv0,hi0,R0⟩:=be_ E h0
  obtain ⟨y0,rfl,ho0⟩:=R0.ok _ List.mem_cons_self
  simp only [OwOk] at ho0
  obtain ⟨rfl,ws0,hp0,_⟩:=ho0
  refine ⟨.ref a0,hv0,.inl ⟨rfl,ws0,SqL.of hp0⟩,ρ,fr,_,E,q,fun y s H' ρ' E' q' => ?_⟩
  split at q'
  ·rename_i a l hb
   obtain ⟨o,hso,hll,q'⟩:=q'
   have R3:=E'.front.toOw hso
   obtain ⟨v1,hv1⟩:=get_zip E'.len hb
   have hi1:i < ρ'.length:=(List.getElem?_eq_some_iff.mp hb).1
   have R4:Rep F ((.v (.ow o),some y) :: (.v (.ow (.ol a l)),v1) :: ((ρ'.zip σ).eraseIdx i ++ fr)) H':=R3.perm (((cd_ hb hv1).append_right fr).cons _)
   obtain ⟨rfl,ws,h3,h4,R5⟩:=R4.appO
   rw [hv0] at hv1
   cases hv1
   refine ⟨a0,ws,y,rfl,rfl,h3,by rw [h4]; have:=line1; omega,k.nx σ _ _ rfl ⟨by rw [List.length_set]; exact E'.len,?_⟩ q'⟩
   exact R5.perm (((bw_ E'.len hi1 hv0).append_right fr).symm)
  ·exact q'.elim
 ·exact q0.elim
end
end Lf
namespace L2
open PySem PySem.W PySem.Spec PyProof.Rows PySem.Calls
def obsMeth (K:Frag) (C:Addr) (m q:Str):FO:=match findIn K (.ref C) m with
 | some (some (.ref f))=>(match K.lookup f with
  | some ⟨_,_,.func fd,_⟩=>some ((fd.name,fd.qualname,fd.params,fd.body,fd.scope),(fd.globals,fd.closure,fd.defaults,fd.builtins),codeIn K fd.code q)
  | _=>none)
 | _=>none
def obsMf (K:Frag) (C:Addr) (m:Str):Bool:=match findIn K (.ref C) m with
 | some (some v)=>isFn K v
 | _=>false
def expMeth (m q:Str) (s:Stmt):FO:=some ((m,q,defArgs s,.stmts (defBody s),defScope s),(mainGlobals,[],.none,builtinsNs),true)
theorem dr_ {K:Frag} {C:Addr} {m q:Str} {s:Stmt} (h:obsMeth K C m q=expMeth m q s) (h2:obsMf K C m=true):∃ f fd,findIn K (.ref C) m=some (some (.ref f))∧isFn K (.ref f)=true∧Fun K m q s f fd:=by
 unfold obsMeth at h
 unfold obsMf at h2
 cases e:findIn K (.ref C) m with
 | none=>rw [e] at h; cases h
 | some o =>
  cases o with
  | none=>rw [e] at h; cases h
  | some v =>
   rw [e] at h2
   cases v with
   | ref f =>
    rw [e] at h
    dsimp only at h
    cases e2:K.lookup f with
    | none=>rw [e2] at h; cases h
    | some ob =>
     obtain ⟨oc,od,da,sl⟩:=ob
     rw [e2] at h
     cases da with
     | func fd =>
      obtain ⟨nm,qn,pa,bo,sc,gl,cl,df,kw,dc,pm,an,cd,ct,bl⟩:=fd
      simp only [expMeth,Option.some.injEq,Prod.mk.injEq] at h
      obtain ⟨⟨rfl,rfl,rfl,rfl,rfl⟩,⟨rfl,rfl,rfl,rfl⟩,h3⟩:=h
      refine ⟨f,_,rfl,h2,⟨oc,od,kw,dc,pm,an,cd,ct,sl,rfl,e2,h3⟩,?_⟩
      unfold keepIn
      dsimp only
      rw [e2]
     | _=>cases h
   | _=>rw [e] at h; cases h
abbrev OCl:=Option ((Bool×Bool×Bool×Option (Option Value)×Bool×Bool)×List FO×List Bool×List (Option (Option Value)))
def obsCl (K:Frag) (n:Str) (ms:List (Str×Str)) (fs:List Str):OCl:=match nsIn K mainGlobals n with
 | some (some (.ref C))=>some ((plainGet K C Str.empty,hasDictIn K C,plainOver K C,findIn K (.ref C) "__setattr__",makesIn K C,keepIn K (.ref C)),ms.map (fun p=>obsMeth K C p.1 p.2),ms.map (fun p=>obsMf K C p.1),fs.map fun f=>findIn K (.ref C) f)
 | _=>none
def expCl (es:List FO) (ms:List (Str×Str)) (fs:List Str):OCl:=some ((true,true,true,some (some (.builtin "object.__setattr__")),true,true),es,List.replicate ms.length true,List.replicate fs.length (some none))
theorem rep_all {α β:Type} {f:α→β} {b:β}:∀ {l:List α},l.map f=List.replicate l.length b→∀ a∈l,f a=b
 | [],_,a,h=>by simp at h
 | x :: r,h,a,ha=>by
  simp only [List.map_cons,List.length_cons,List.replicate_succ,List.cons.injEq] at h
  rcases List.mem_cons.mp ha with rfl | ha
  ·exact h.1
  ·exact rep_all h.2 a ha
theorem obsCl_ex {K:Frag} {n:Str} {ms:List (Str×Str)} {fs:List Str} {es:List FO} (h:obsCl K n ms fs=expCl es ms fs):∃ C,nsIn K mainGlobals n=some (some (.ref C))∧Cls K C∧makesIn K C=true∧keepIn K (.ref C)=true∧ms.map (fun p=>obsMeth K C p.1 p.2)=es∧(∀ p∈ms,obsMf K C p.1=true)∧∀ f∈fs,NoAttr K C f:=by
 unfold obsCl expCl at h
 split at h
 ·rename_i C hn
  simp only [Option.some.injEq,Prod.mk.injEq] at h
  obtain ⟨⟨h1,h2,h3,h4,h5,h6⟩,h7,h8,h9⟩:=h
  exact ⟨C,hn,⟨h1,h2,h3,h4⟩,h5,h6,h7,rep_all h8,rep_all h9⟩
 ·cases h
end L2
namespace Lf
open PySem L2
mutual
def Dx.Pd:Dx→Prop
 | .int _=>True
 | .str _=>True
 | .tup l=>l.length≤100000∧pdX l
 | .lst l=>l.length≤100000∧pdX l
 | .dic l=>l.length≤100000∧(∃ xs:List Str,xs.Nodup∧l.map (·.1)=xs.map Sum.inr)∧pdK l
 | _=>False
def pdX:List Dx→Prop
 | []=>True
 | d :: r=>d.Pd∧pdX r
def pdK:List (Key×Dx)→Prop
 | []=>True
 | q :: r=>q.2.Pd∧pdK r
end
mutual
def Dx.dp:Dx→Nat
 | .tup l=>1 + dpX l
 | .lst l=>1 + dpX l
 | .dic l=>1 + dpK l
 | _=>1
def dpX:List Dx→Nat
 | []=>0
 | d :: r=>max d.dp (dpX r)
def dpK:List (Key×Dx)→Nat
 | []=>0
 | q :: r=>max q.2.dp (dpK r)
end
theorem rd_to {G H:Hp} {a:Addr} {o:HO} (e:Same G H) (h:Rd G a o):Rd H a o:=by
 rcases h with h | ⟨x,h⟩
 ·exact .inl (e _ _ h)
 ·exact .inr ⟨x,e _ _ h⟩
theorem samePairs_same {prog:Program} {w:World} {A:Around} {E:SV_} {s:Shared} {nm:String} {a b:Addr} {oa ob:Obj} {es es':Array DictEntry} {ep ep':Nat} {xs:List Str} {Q:Bool→Shared→Prop} (ha:(a == sysModules)=false) (hb:(b == sysModules)=false)
  (hoa:s.heap.get? a=some oa) (hda:oa.data=.dict es ep) (hob:s.heap.get? b=some ob) (hdb:ob.data=.dict es' ep') (h1:es.size=xs.length) (h2:es'.size=xs.length) (hx:xs.Nodup)
  (k1:∀ (i:Nat) (h:i < es.size) (h':i < xs.length),∃ t,es[i].key=.str xs[i] t) (k2:∀ (i:Nat) (h:i < es'.size) (h':i < xs.length),∃ t,es'[i].key=.str xs[i] t)
  (he:∀ (i:Nat) (h:i < es.size) (h':i < es'.size),SeqAt.EqAt A s es[i].val es'[i].val true) (h:Q true s):wpAny (model prog w) A (Builtin.Dict.samePairs nm a b) Q E s:=by
 have hall:(es'.all fun e=>isExactStrKey e.key)=true:=by
  rw [Array.all_eq_true]
  intro i hi
  obtain ⟨t,e⟩:=k2 i hi (by omega)
  rw [e]
  rfl
 have hfind:∀ (i:Nat) (h':i < xs.length),es'.findIdx? (fun e=>e.key.isStr xs[i])=some i:=fun i h'=>by
  refine Array.findIdx?_eq_some_iff_getElem.mpr ⟨by omega,?_,fun j hj => ?_⟩
  ·obtain ⟨t,e⟩:=k2 i (by omega) h'
   rw [e]
   simp [Value.isStr]
  ·obtain ⟨t,e⟩:=k2 j (by omega) (by omega)
   rw [e]
   have hne:xs[j]≠xs[i]:=fun z=>by
    have:=(List.getElem_inj hx).mp z
    omega
   simp [Value.isStr,hne]
 unfold Builtin.Dict.samePairs Builtin.Dict.showsAll
 rw [if_neg (show ¬ (a == sysModules)=true by rw [ha]; exact Bool.false_ne_true),if_neg (show ¬ (b == sysModules)=true by rw [hb]; exact Bool.false_ne_true)]
 refine wpAny_bind (wpAny_pure (wpAny_bind (wpAny_pure (wpAny_bind (wpAny_dictEntries hoa hda ?_)))))
 dsimp only
 refine wpAny_bind (wpAny_dictEntries hob hdb ?_)
 rw [if_neg (by rw [h1,h2]; simp)]
 refine wpAny_bind (wpAny_dictEpoch hoa hda (wpAny_bind ?_))
 rw [Std.Legacy.Range.forIn_eq_forIn_range']
 simp only [Std.Legacy.Range.size,Nat.sub_zero,Nat.add_sub_cancel,Nat.div_one]
 refine wpAny_forIn_list _ (fun rest q s'=>s'=s∧q=(none,())∧∃ i,rest=List.range' i (es.size - i)∧i≤es.size) _ ?_ ?_ _ _ ⟨rfl,rfl,0,by simp,Nat.zero_le _⟩
 ·rintro x rest q s' ⟨rfl,rfl,i,hr,hi⟩
  obtain ⟨rfl,hrest,hlt⟩ : x=i∧rest=List.range' (i + 1) (es.size - (i + 1))∧i < es.size:=by
   cases hz:es.size - i with
   | zero=>rw [hz] at hr; cases hr
   | succ m =>
    rw [hz,List.range'_succ] at hr
    injection hr with e1 e2
    exact ⟨e1,by rw [e2]; congr 1; omega,by omega⟩
  refine wpAny_bind (wpAny_dictEntries hoa hda ?_)
  rw [Array.getElem?_eq_getElem hlt]
  obtain ⟨t,ek⟩:=k1 x hlt (by omega)
  show wpAny _ _ (holding [es[x].key,es[x].val] _ >>= _) _ _ _
  rw [ek]
  refine wpAny_bind (wpAny_holding (wpAny_bind (PyProof.Rows.KTD.kt_dictFind_strs hob hdb hall ?_)))
  rw [hfind x (by omega)]
  refine wpAny_bind (wpAny_dictEntries hob hdb ?_)
  rw [Array.getElem?_eq_getElem (show x < es'.size by omega)]
  refine wpAny_holding (he x hlt (by omega) prog w _ _ ?_)
  show wpAny _ _ (if (!true)=true then _ else _) _ _ _
  rw [if_neg (by decide)]
  refine wpAny_bind (wpAny_dictEpoch hoa hda ?_)
  rw [if_neg (by simp)]
  exact wpAny_pure ⟨rfl,rfl,x + 1,hrest,hlt⟩
 ·rintro q s' ⟨rfl,rfl,_⟩
  exact wpAny_pure h
theorem rc_dicts {A:Around} {s:Shared} {a b:Addr} {oa ob:Obj} {es es':Array DictEntry} {ep ep':Nat} {xs:List Str} (ha:(a == sysModules)=false) (hb:(b == sysModules)=false)
  (hoa:s.heap.get? a=some oa) (hca:oa.cls=.type "dict") (hda:oa.data=.dict es ep) (hob:s.heap.get? b=some ob) (hcb:ob.cls=.type "dict") (hdb:ob.data=.dict es' ep') (h1:es.size=xs.length) (h2:es'.size=xs.length) (hx:xs.Nodup)
  (k1:∀ (i:Nat) (h:i < es.size) (h':i < xs.length),∃ t,es[i].key=.str xs[i] t) (k2:∀ (i:Nat) (h:i < es'.size) (h':i < xs.length),∃ t,es'[i].key=.str xs[i] t)
  (he:∀ (i:Nat) (h:i < es.size) (h':i < es'.size),SeqAt.EqAt A.in1 s es[i].val es'[i].val true) (hu:A.units < cLine):SeqAt.RcAt A s (.ref a) (.ref b) true:=fun prog w E Q h=>by
 have ta:s.TypeIs (.ref a) "dict" := ⟨oa,hoa,hca⟩
 have tb:s.TypeIs (.ref b) "dict" := ⟨ob,hob,hcb⟩
 refine wpAny_richCompare_same_room (op:=.Eq) ta tb PySem.F.slot_dict_eq (wpAny_call_entry PySem.F.slot_dict_eq ta PySem.F.entry_dict_eq ?_ (PySem.F.args_dict_eq_2 _ _)) hu
 show wpAny _ _ (Builtin.Dict.dictSlotArgs "__eq__" ⟨[.ref a,.ref b],[]⟩ >>= _) _ _ s
 refine wpAny_bind ?_
 unfold Builtin.Dict.dictSlotArgs
 refine wpAny_bind (wpAny_notOrdered_dict ta ?_)
 show wpAny _ _ (pure (Value.ref a,Value.ref b)) _ _ s
 refine wpAny_pure (wpAny_bind (wpAny_isInstance (T := "dict") tb PySem.F.sub_dict_dict ?_))
 simp only [Bool.not_true,Bool.false_eq_true,if_false]
 refine wpAny_bind (wpAny_pure (wpAny_bind (wpAny_pure (wpAny_bind (samePairs_same ha hb hoa hda hob hdb h1 h2 hx k1 k2 he ?_)))))
 refine wpAny_pure ⟨_,rfl,?_,h⟩
 exact fun x=>nomatch x
theorem iq_ {G:Hp}:∀ {ds:List (Key×Dx)} {ws:List (Key×V)},All2 (KvX G) ds ws→ws.map (·.1)=ds.map (·.1)
 | [],ws,h=>by cases (show ws=[] from h); rfl
 | q :: ds,ws,h=>by
  obtain ⟨v,vr,rfl,h1,h2⟩:=h
  rw [List.map_cons,List.map_cons,iq_ h2,h1.1]
theorem kv_keys:∀ {ws:List (Key×V)} {us:List (Key×Value)},KV ws us→us.map (·.1)=ws.map (·.1)
 | _,_,.nil=>rfl
 | _,_,.cons h r=>by rw [List.map_cons,List.map_cons,kv_keys r,h.1]
theorem kv_rows {prog:Program} {w:World} {G:Hp} {ds:List (Key×Dx)} {ws:List (Key×V)} {us:List (Key×Value)} {es:Array DictEntry} {xs:List Str} (r:KV ws us) (hp:Pairs (mixKind prog w) es.toList us) (hw:All2 (KvX G) ds ws) (hk:ds.map (·.1)=xs.map Sum.inr) :
  es.size=xs.length∧(∀ (i:Nat) (h:i < es.size) (h':i < xs.length),∃ t,es[i].key=.str xs[i] t)∧∀ (i:Nat) (h:i < es.size),∃ h2:i < us.length,es[i].val=us[i].2:=by
 have e1:us.map (·.1)=xs.map Sum.inr:=(kv_keys r).trans ((iq_ hw).trans hk)
 have hl:es.size=us.length:=by rw [← hp.length]; exact Array.length_toList.symm
 have hl2:us.length=xs.length:=by have:=congrArg List.length e1; rw [List.length_map,List.length_map] at this; exact this
 have g:∀ (i:Nat) (h:i < es.size) (h2:i < us.length),(mixKind prog w).is us[i].1 es[i].key=true∧es[i].val=us[i].2:=fun i h h2=>hp.get? (i:=i) (e:=es[i]) (k:=us[i].1) (v:=us[i].2) (by rw [Array.getElem?_toList]; exact Array.getElem?_eq_getElem h) (by rw [List.getElem?_eq_getElem h2])
 refine ⟨by omega,fun i h h' => ?_,fun i h=>⟨by omega,(g i h (by omega)).2⟩⟩
 have h3:=(g i h (by omega)).1
 have h4:us[i].1=Sum.inr xs[i]:=by
  have:(us.map (·.1))[i]? = (xs.map Sum.inr)[i]? := by rw [e1]
  rw [List.getElem?_map,List.getElem?_map,List.getElem?_eq_getElem (show i < us.length by omega),List.getElem?_eq_getElem h'] at this
  exact Option.some.inj this
 rw [h4] at h3
 have h5:keyIs (.inr xs[i]) es[i].key=true:=h3
 rcases bq_ h5 with ⟨i,t,e,_⟩ | ⟨x,t,e,e'⟩
 ·cases e
 ·cases e; exact ⟨t,e'⟩
mutual
theorem eqAt_tree {X:Cx} {pins:PN_} {σ:St} {G H:Hp} {s:Shared} (I:Inv X pins σ H s) (e:Same G H):∀ (d:Dx) {v v':V} {u u':Value} {A:Around},d.Pd→A.units + d.dp < cLine→IsX G d v→IsX G d v'→RelV v u→RelV v' u'→SeqAt.EqAt A s u u' true
 | .int i,v,v',u,u',A,_,_,h,h',r,r'=>by
  simp only [IsX] at h h'
  subst h h'
  obtain ⟨t,rfl⟩:=r
  obtain ⟨t',rfl⟩:=r'
  have:=SeqAt.EqAt.int_int (A:=A) (s:=s) i t i t'
  rw [beq_self_eq_true] at this
  exact this
 | .str x,v,v',u,u',A,_,_,h,h',r,r'=>by
  simp only [IsX] at h h'
  subst h h'
  obtain ⟨t,rfl⟩:=r
  obtain ⟨t',rfl⟩:=r'
  have:=SeqAt.EqAt.str_str (A:=A) (s:=s) x t x t'
  rw [beq_self_eq_true] at this
  exact this
 | .tup ds,v,v',u,u',A,hp,hA,h,h',r,r'=>by
  simp only [Dx.Pd] at hp
  obtain ⟨a,vs,rfl,ha,hv⟩:=h.tup_eq
  obtain ⟨b,ws,rfl,hb,hw⟩:=h'.tup_eq
  cases r
  cases r'
  by_cases hab:a=b
  ·subst hab; exact SeqAt.EqAt.same _
  ·obtain ⟨i1,r1,p1,z1⟩:=I.tuple (SqT.of (K:=X.K) (e _ _ ha))
   obtain ⟨i2,r2,p2,z2⟩:=I.tuple (SqT.of (K:=X.K) (e _ _ hb))
   have hd:A.units + (1 + dpX ds) < cLine:=by simpa only [Dx.dp] using hA
   refine SeqAt.EqAt.of_refs hab ?_
   have q:=SeqAt.RcAt.tuples (e:=fun _=>true) p1 p2 (by omega) (fn_ I e ds (A:=A.in1) hp.2 (by show A.units + 1 + dpX ds < cLine; omega) hv hw r1 r2)
   have n1:=r1.length
   have n2:=r2.length
   have l1:=All2.len hv
   have l2:=All2.len hw
   have e:((List.range (min i1.toArray.size i2.toArray.size)).all (fun _=>true) && i1.toArray.size == i2.toArray.size)=true:=by
    rw [Bool.and_eq_true]
    exact ⟨by simp,beq_iff_eq.mpr (by simp only [List.size_toArray]; omega)⟩
   rw [e] at q
   exact q
 | .lst ds,v,v',u,u',A,hp,hA,h,h',r,r'=>by
  simp only [Dx.Pd] at hp
  obtain ⟨a,vs,rfl,ha,hv⟩:=h.lst_eq
  obtain ⟨b,ws,rfl,hb,hw⟩:=h'.lst_eq
  cases r
  cases r'
  by_cases hab:a=b
  ·subst hab; exact SeqAt.EqAt.same _
  ·obtain ⟨i1,r1,p1,z1⟩:=I.list (SqL.of (K:=X.K) (e _ _ ha))
   obtain ⟨i2,r2,p2,z2⟩:=I.list (SqL.of (K:=X.K) (e _ _ hb))
   have hd:A.units + (1 + dpX ds) < cLine:=by simpa only [Dx.dp] using hA
   refine SeqAt.EqAt.of_refs hab ?_
   have n1:=r1.length
   have n2:=r2.length
   have l1:=All2.len hv
   have l2:=All2.len hw
   have q:=SeqAt.RcAt.lists (e:=fun _=>true) p1.isList p2.isList (by simp only [List.size_toArray]; omega) (by omega) (fn_ I e ds (A:=A.in1) hp.2 (by show A.units + 1 + dpX ds < cLine; omega) hv hw r1 r2)
   have e:((List.range i1.toArray.size).all (fun _=>true))=true:=by simp
   rw [e] at q
   exact q
 | .dic ds,v,v',u,u',A,hp,hA,h,h',r,r'=>by
  simp only [Dx.Pd] at hp
  obtain ⟨a,vs,rfl,ha,hv⟩:=h.dic_eq
  obtain ⟨b,ws,rfl,hb,hw⟩:=h'.dic_eq
  cases r
  cases r'
  by_cases hab:a=b
  ·subst hab; exact SeqAt.EqAt.same _
  ·obtain ⟨z1,s1,k1,r1,d1⟩:=dk_rd I.hok (rd_to e ha)
   obtain ⟨z2,s2,k2,r2,d2⟩:=dk_rd I.hok (rd_to e hb)
   have hd:A.units + (1 + dpK ds) < cLine:=by simpa only [Dx.dp] using hA
   refine SeqAt.EqAt.of_refs hab fun prog w E Q hq => ?_
   obtain ⟨o1,es1,ep1,ho1,hc1,hd1,_,hp1,_⟩:=d1
   obtain ⟨o2,es2,ep2,ho2,hc2,hd2,_,hp2,_⟩:=d2
   obtain ⟨xs,hxs,hkx⟩:=hp.2.1
   have g1:=kv_rows r1 hp1 hv hkx
   have g2:=kv_rows r2 hp2 hw hkx
   exact rc_dicts s1 s2 ho1 hc1.1 hd1 ho2 hc2.1 hd2 g1.1 g2.1 hxs g1.2.1 g2.2.1 (fun i h h'=>by
    obtain ⟨j1,e1⟩:=g1.2.2 i h
    obtain ⟨j2,e2⟩:=g2.2.2 i h'
    rw [e1,e2]
    exact eqAtk_tree I e ds (A:=A.in1) hp.2.2 (by show A.units + 1 + dpK ds < cLine; omega) hv hw r1 r2 i j1 j2) (by omega) prog w E Q hq
 | .bl _,_,_,_,_,_,hp,_,_,_,_,_=>by simp only [Dx.Pd] at hp
 | .non,_,_,_,_,_,hp,_,_,_,_,_=>by simp only [Dx.Pd] at hp
 | .scr _ _,_,_,_,_,_,hp,_,_,_,_,_=>by simp only [Dx.Pd] at hp
 | .ins _ _,_,_,_,_,_,hp,_,_,_,_,_=>by simp only [Dx.Pd] at hp
 | .exc _,_,_,_,_,_,hp,_,_,_,_,_=>by simp only [Dx.Pd] at hp
theorem fn_ {X:Cx} {pins:PN_} {σ:St} {G H:Hp} {s:Shared} (I:Inv X pins σ H s) (e:Same G H):∀ (ds:List Dx) {vs ws:List V} {us us':List Value} {A:Around},pdX ds→A.units + dpX ds < cLine→All2 (IsX G) ds vs→All2 (IsX G) ds ws→Vals vs us→Vals ws us' →
  ∀ (j:Nat) (h1:j < us.toArray.size) (h2:j < us'.toArray.size),SeqAt.EqAt A s us.toArray[j] us'.toArray[j] true
 | [],_,_,us,_,_,_,_,h,h',r,r',j,h1,_=>by
  cases (show _=[] from h)
  cases r
  simp at h1
 | d :: ds,_,_,us,us',A,hp,hA,⟨v,vr,e1,hv,hvs⟩,⟨v',vr',e2,hw,hws⟩,r,r',j,h1,h2=>by
  subst e1
  subst e2
  simp only [pdX] at hp
  cases r with
  | cons r1 r2 =>
  cases r' with
  | cons r1' r2' =>
  have hm:A.units + max d.dp (dpX ds) < cLine:=by simpa only [dpX] using hA
  cases j with
  | zero=>exact eqAt_tree I e d hp.1 (by omega) hv hw r1 r1'
  | succ j =>
   have:=fn_ I e ds (A:=A) hp.2 (by omega) hvs hws r2 r2' j (by simpa using h1) (by simpa using h2)
   simpa using this
theorem eqAtk_tree {X:Cx} {pins:PN_} {σ:St} {G H:Hp} {s:Shared} (I:Inv X pins σ H s) (e:Same G H):∀ (ds:List (Key×Dx)) {vs ws:List (Key×V)} {us us':List (Key×Value)} {A:Around},pdK ds→A.units + dpK ds < cLine→All2 (KvX G) ds vs→All2 (KvX G) ds ws→KV vs us→KV ws us'→∀ (j:Nat) (h1:j < us.length) (h2:j < us'.length),SeqAt.EqAt A s us[j].2 us'[j].2 true
 | [],_,_,us,us',_,_,_,h,h',r,r',j,h1,_=>by
  cases (show _=[] from h)
  cases r
  simp at h1
 | q :: ds,_,_,us,us',A,hp,hA,⟨v,vr,e1,hv,hvs⟩,⟨v',vr',e2,hw,hws⟩,r,r',j,h1,h2=>by
  subst e1
  subst e2
  simp only [pdK] at hp
  cases r with
  | cons r1 r2 =>
  cases r' with
  | cons r1' r2' =>
  have hm:A.units + max q.2.dp (dpK ds) < cLine:=by simpa only [dpK] using hA
  cases j with
  | zero=>exact eqAt_tree I e q.2 hp.1 (A:=A) (by omega) hv.2 hw.2 r1.2 r1'.2
  | succ j=>exact eqAtk_tree I e ds (A:=A) hp.2 (by omega) hvs hws r2 r2' j (by simpa using h1) (by simpa using h2)
end
def rSameD:R2:=fun x y H Q => ∃ (l:List Dx) (G:Hp),Same G H∧(Dx.lst l).Pd∧(Dx.lst l).dp≤60∧IsX G (.lst l) x∧IsX G (.lst l) y∧Q (.bl false) H
theorem op_neSameD {X:Cx} (hu:X.A.units + 64 < cLine):OpR X (compareOp .NotEq) rSameD:=by
 intro pins s σ H x y v u Q I rx ry h
 obtain ⟨ds,G,e,hp,hd,h1,h2,q⟩:=h
 simp only [Dx.Pd] at hp
 obtain ⟨a,vs,rfl,ha,hv⟩:=h1.lst_eq
 obtain ⟨b,ws,rfl,hb,hw⟩:=h2.lst_eq
 cases rx
 cases ry
 obtain ⟨i1,r1,p1,z1⟩:=I.list (SqL.of (K:=X.K) (e _ _ ha))
 obtain ⟨i2,r2,p2,z2⟩:=I.list (SqL.of (K:=X.K) (e _ _ hb))
 have n1:=r1.length
 have n2:=r2.length
 have l1:=All2.len hv
 have l2:=All2.len hw
 have hd':1 + dpX ds≤60:=by simpa only [Dx.dp] using hd
 refine PySem.SeqAt.RcNeAt.lists (e:=fun _=>true) p1.isList p2.isList (by simp only [List.size_toArray]; omega) (by omega) (fn_ I e ds (A:=X.A.in1) hp.2 (by show X.A.units + 1 + dpX ds < cLine; omega) hv hw r1 r2) _ _ _ _ ?_
 refine ⟨.bl false,H,I,?_,q⟩
 show Value.bool _=Value.bool _
 have e:((List.range i1.toArray.size).all (fun _=>true))=true:=by simp
 rw [e]
 rfl
def neD:G2:=fun a b Q=>a=b∧a.Pd∧a.dp≤60∧(∃ l,a=.lst l)∧Q (.tr (.bl false))
theorem ox_neD:OpX rSameD neD:=by
 intro F P H a b x y Q Qx R ha hb g k
 obtain ⟨rfl,hp,hd,⟨l,rfl⟩,g⟩:=g
 exact ⟨l,_,R.hv,hp,hd,ha,hb,k _ _ H (R.add (IsX.of_bl _)) g⟩
def xLenPk (i:Nat):XT:=fun ρ Q => ∃ s,ρ[i]? = some (.v s)∧((∃ l,s.d=.dic l∧Q (.tr (.int l.length)) ρ)∨∃ l,s.d=.lst l∧Q (.tr (.int l.length)) ρ)
theorem xe_lenPk {X:Cx} {Ex:ExT} (K:FG_) {i:Nat} {e:Expr} {p pos:Pos} (hv:PE X e (tVar i)) (hm:X.mg "len" = none) (hg:Gl X "len" := by rfl) (hK:X.K=K:=by rfl)
  (he:starEach [e] X.env=(false,eval e X.env) :: starEach [] X.env:=by rfl) (hpl:(backTo pos (starEach [] X.env)).any (·.1)=false:=by rfl):XE X Ex (.Call (.Name "len" p) [e] [] pos) (xLenPk i):=fun F=>(ch_ (ba_ K hK) hg hm PySem.boot_len (ar_ hv bi_ he) (by decide) (by decide) he hpl).weak fun σ H Q=>by
 rintro ⟨ρ,fr,Qx,E,⟨s,hs,t⟩,k⟩
 obtain ⟨v,hv',hi,R⟩:=be_ E hs
 obtain ⟨w,rfl,hx⟩:=R.head
 refine ⟨w,hv',?_⟩
 rcases t with ⟨l,hd,q⟩ | ⟨l,hd,q⟩
 ·rw [hd] at hx
  obtain ⟨a,vs,rfl,h1,h2⟩:=hx.dic_eq
  exact .inr (.inr ⟨a,vs,rfl,rd_hv R.tail h1,k _ _ H ρ (EOk.back E.len (E.rep.add (by rw [h2.len]; exact IsX.of_int _))) q⟩)
 ·rw [hd] at hx
  obtain ⟨a,vs,rfl,h1,h2⟩:=hx.lst_eq
  exact .inl ⟨a,vs,rfl,.inl (SqL.of (R.tail.hv _ _ h1)),k _ _ H ρ (EOk.back E.len (E.rep.add (by rw [h2.len]; exact IsX.of_int _))) q⟩
def xCallT2 (g:GB) (t u:XT):XT:=fun ρ Q=>t ρ fun s1 ρ1=>u ρ1 fun s2 ρ2 => ∃ l,s2=.ol l∧g l [s1.d] fun d _=>Q (.tr d) ρ2
theorem xe_callT2 {X:Cx} {Ex:ExT} {j:Nat} {x:Str} {ps:List Str} {g:GB} {e e2:Expr} {t u:XT} {p pos:Pos} (C:Cal X.prog X.w X.K X.mg X.base j x ps (spB2 g)) (hr:Room j X.A) (ht:XE X Ex e t) (hu:XE X Ex e2 u) (hg:Gl X x:=by rfl) (hdb:(x == ("__debug__" : Str))=false:=by decide)
  (he:starEach [e,e2] X.env=(false,eval e X.env) :: starEach [e2] X.env:=by rfl) (he2:starEach [e2] X.env=(false,eval e2 X.env) :: starEach [] X.env:=by rfl) (hpl:(backTo pos (starEach [e2] X.env)).any (·.1)=false:=by rfl):XE X Ex (.Call (.Name x p) [e,e2] [] pos) (xCallT2 g t u):=fun F=>(gh_ C hr (ar_ (ht F) (ar_ (hu F) bi_ he2) he) hg hdb he hpl).weak fun σ H Q=>by
 rintro ⟨ρ,fr,Qx,E,t,k⟩
 refine ⟨ρ,fr,_,E,t,fun va s1 H1 ρ1 E1 q1 => ?_⟩
 refine ⟨ρ1,(.v s1,some va) :: fr,_,E1,q1,fun vb s2 H2 ρ2 E2 q2 => ?_⟩
 obtain ⟨l,rfl,q2⟩:=q2
 have R:Rep F ((.v (.ol l),some vb) :: (.v s1,some va) :: (ρ2.zip σ ++ fr)) H2:=E2.front.perm (mid.cons _)
 have R':Rep F ((.v s1,some va) :: (.v (.ol l),some vb) :: (ρ2.zip σ ++ fr)) H2:=R.perm (.swap _ _ _)
 obtain ⟨va',ev,hs⟩:=R'.head
 cases ev
 have R2:=R'.tail
 obtain ⟨p,ws,hpv,h5,h6,h7,h8⟩:=fj_ (sl:=.v (.ol l)) (f:=fun l'=>.v (.ol l')) rfl R2
 cases hpv
 refine ⟨va,.ref p,rfl,?_⟩
 refine ⟨p,ws,l,[va],hid (owns ((.v (.ol l),some (V.ref p)) :: (ρ2.zip σ ++ fr))) (F.vis H2),[s1.d],_,rfl,h5,R2.hv,?_,?_,All2.one hs,q2,fun d w l' ws' H' e hp hl' hd q => ?_⟩
 ·unfold hid
  rw [if_pos (by rw [ah_ h6]; exact List.mem_cons_self)]
 ·rw [ah_ h6]
  exact h7
 ·obtain ⟨k1,k2,k3⟩:=h8 l'
  have ev:=gv_ R2 h6 e
  have R3:=R2.called h6 k1 k2 e ⟨_,hp⟩ (k3 hp (hl'.imp fun _ _ z=>z.to fun b o hb=>by
   have hb':=hid_some.mp hb
   have:=ev _ _ hb'.2
   rw [ah_ h6] at this
   exact this))
  have R4:=R3.add (d:=d) (v:=w) (hd.to fun b o hb=>by
   have:=ev _ _ hb
   rw [ah_ h6] at this
   rw [ah_ k1]
   exact this)
  exact k w (.tr d) H' _ (EOk.back E2.len (R4.perm (.swap _ _ _)).tail) q
def top (i:Nat):Stmt:=PySem.Challenge.pw_laidfields_k46_values_written_and_read.main.body.getD i (.Pass ⟨0,0,0,0⟩)
abbrev fg_:Stmt:=top 4
abbrev fh_:Stmt:=top 7
abbrev cm_:Stmt:=top 8
abbrev bm_:Stmt:=top 9
abbrev cg_:Stmt:=top 10
abbrev ex_:Stmt:=top 15
abbrev ce_:Stmt:=top 16
abbrev ey_:Stmt:=top 17
abbrev do_:Stmt:=top 18
abbrev dm_:Stmt:=top 20
abbrev cz_:Stmt:=top 21
abbrev ek_:Stmt:=top 22
abbrev cy_:Stmt:=top 23
abbrev bt_:Stmt:=top 24
abbrev da_:Stmt:=top 25
abbrev en_:Stmt:=top 27
abbrev em_:Stmt:=top 28
abbrev gq_:Stmt:=top 29
abbrev ei_:Stmt:=top 30
abbrev dp_:Stmt:=top 31
abbrev ff_:Stmt:=top 32
abbrev hg_:Stmt:=top 33
abbrev cv_:Stmt:=top 34
abbrev cw_:Stmt:=top 35
abbrev el_:Stmt:=top 36
abbrev dt_:Stmt:=top 37
abbrev cf_:Stmt:=top 38
abbrev cx_:Stmt:=top 39
abbrev cr_:Stmt:=top 40
abbrev du_:Stmt:=top 41
abbrev dq_:Stmt:=top 42
abbrev dc_:Stmt:=top 43
abbrev s_law:Stmt:=top 44
theorem sc_is_whole:FnScope ["thing"] ["thing"] (defScope fg_):=⟨rfl,rfl,rfl,by decide +kernel,rfl,by decide +kernel,by decide +kernel⟩
theorem sc_is_value:FnScope ["kind", "thing"] ["kind", "thing"] (defScope fh_):=⟨rfl,rfl,rfl,by decide +kernel,rfl,by decide +kernel,by decide +kernel⟩
theorem hr_:FnScope ["kind", "n", "thing"] ["kind", "n", "thing"] (defScope cm_):=⟨rfl,rfl,rfl,by decide +kernel,rfl,by decide +kernel,by decide +kernel⟩
theorem gf_:FnScope ["fields", "thing"] ["fields", "thing"] (defScope bm_):=⟨rfl,rfl,rfl,by decide +kernel,rfl,by decide +kernel,by decide +kernel⟩
theorem gg_:FnScope ["kinds", "thing"] ["kinds", "thing"] (defScope cg_):=⟨rfl,rfl,rfl,by decide +kernel,rfl,by decide +kernel,by decide +kernel⟩
theorem sc_show_value:FnScope ["kind", "thing"] ["kind", "thing"] (defScope ex_):=⟨rfl,rfl,rfl,by decide +kernel,rfl,by decide +kernel,by decide +kernel⟩
theorem sc_shown_value:FnScope ["kind", "value"] ["kind", "value"] (defScope ce_):=⟨rfl,rfl,rfl,by decide +kernel,rfl,by decide +kernel,by decide +kernel⟩
theorem sc_read_value:FnScope ["kind", "text", "reader", "value"] ["kind", "text"] (defScope ey_):=⟨rfl,rfl,rfl,by decide +kernel,rfl,by decide +kernel,by decide +kernel⟩
theorem sc_are_figures:FnScope ["text"] ["text"] (defScope do_):=⟨rfl,rfl,rfl,by decide +kernel,rfl,by decide +kernel,by decide +kernel⟩
theorem sc_taken_value:FnScope ["reader", "kind"] ["reader", "kind"] (defScope dm_):=⟨rfl,rfl,rfl,by decide +kernel,rfl,by decide +kernel,by decide +kernel⟩
theorem sc_taken_number:FnScope ["reader", "kind", "number"] ["reader", "kind"] (defScope cz_):=⟨rfl,rfl,rfl,by decide +kernel,rfl,by decide +kernel,by decide +kernel⟩
theorem sc_taken_row:FnScope ["reader", "kind", "n", "values", "k"] ["reader", "kind", "n"] (defScope ek_):=⟨rfl,rfl,rfl,by decide +kernel,rfl,by decide +kernel,by decide +kernel⟩
theorem sc_taken_record:FnScope ["reader", "fields", "value"] ["reader", "fields"] (defScope cy_):=⟨rfl,rfl,rfl,by decide +kernel,rfl,by decide +kernel,by decide +kernel⟩
theorem sc_taken_some_fields:FnScope ["reader", "fields", "value", "field", "ahead"] ["reader", "fields"] (defScope bt_):=⟨rfl,rfl,rfl,by decide +kernel,rfl,by decide +kernel,by decide +kernel⟩
theorem sc_taken_choice:FnScope ["reader", "kinds", "mark"] ["reader", "kinds"] (defScope da_):=⟨rfl,rfl,rfl,by decide +kernel,rfl,by decide +kernel,by decide +kernel⟩
theorem sc_law_cell_at:FnScope ["script", "k"] ["script", "k"] (defScope en_):=⟨rfl,rfl,rfl,by decide +kernel,rfl,by decide +kernel,by decide +kernel⟩
theorem sc_law_numbers:FnScope ["cell", "many", "found", "rest", "stir", "k", "again"] ["cell", "many"] (defScope em_):=⟨rfl,rfl,rfl,by decide +kernel,rfl,by decide +kernel,by decide +kernel⟩
theorem sc_law_deck:FnScope ["cell", "many"] ["cell", "many"] (defScope gq_):=⟨rfl,rfl,rfl,by decide +kernel,rfl,by decide +kernel,by decide +kernel⟩
theorem sc_law_take:FnScope ["deck", "many"] ["deck", "many"] (defScope ei_):=⟨rfl,rfl,rfl,by decide +kernel,rfl,by decide +kernel,by decide +kernel⟩
theorem sc_law_kind:FnScope ["deck", "depth", "way", "many", "alike", "parts"] ["deck", "depth"] (defScope dp_):=⟨rfl,rfl,rfl,by decide +kernel,rfl,by decide +kernel,by decide +kernel⟩
theorem sc_law_name:FnScope ["deck", "k", "alike", "name", "j"] ["deck", "k", "alike"] (defScope ff_):=⟨rfl,rfl,rfl,by decide +kernel,rfl,by decide +kernel,by decide +kernel⟩
theorem sc_law_up:FnScope ["number", "m"] ["number", "m"] (defScope hg_):=⟨rfl,rfl,rfl,by decide +kernel,rfl,by decide +kernel,by decide +kernel⟩
theorem sc_law_room:FnScope ["kind", "room", "m", "end", "most", "name", "part", "rooms"] ["kind"] (defScope cv_):=⟨rfl,rfl,rfl,by decide +kernel,rfl,by decide +kernel,by decide +kernel⟩
theorem sc_law_kind_within:FnScope ["deck", "depth", "most", "kind"] ["deck", "depth", "most"] (defScope cw_):=⟨rfl,rfl,rfl,by decide +kernel,rfl,by decide +kernel,by decide +kernel⟩
theorem sc_law_power:FnScope ["width", "found", "k"] ["width"] (defScope el_):=⟨rfl,rfl,rfl,by decide +kernel,rfl,by decide +kernel,by decide +kernel⟩
theorem sc_law_value:FnScope ["kind", "deck", "most", "way", "found", "name", "part", "k"] ["kind", "deck"] (defScope dt_):=⟨rfl,rfl,rfl,by decide +kernel,rfl,by decide +kernel,by decide +kernel⟩
theorem sc_law_written:FnScope ["kind", "value"] ["kind", "value"] (defScope cf_):=⟨rfl,rfl,rfl,by decide +kernel,rfl,by decide +kernel,by decide +kernel⟩
theorem sc_law_alike:FnScope ["found", "due"] ["found", "due"] (defScope cx_):=⟨rfl,rfl,rfl,by decide +kernel,rfl,by decide +kernel,by decide +kernel⟩
theorem sc_law_holders:FnScope ["thing", "parts", "found", "part"] ["thing"] (defScope cr_):=⟨rfl,rfl,rfl,by decide +kernel,rfl,by decide +kernel,by decide +kernel⟩
theorem sc_law_apart:FnScope ["told", "holders", "sizes", "k"] ["told"] (defScope du_):=⟨rfl,rfl,rfl,by decide +kernel,rfl,by decide +kernel,by decide +kernel⟩
theorem sc_law_copy:FnScope ["thing", "found", "name"] ["thing"] (defScope dq_):=⟨rfl,rfl,rfl,by decide +kernel,rfl,by decide +kernel,by decide +kernel⟩
theorem sc_law_turned:FnScope ["value", "found", "name"] ["value"] (defScope dc_):=⟨rfl,rfl,rfl,by decide +kernel,rfl,by decide +kernel,by decide +kernel⟩
theorem sc_law:FnScope ["script", "k", "deck", "most", "kind", "value", "due", "handed", "found", "told"] ["script"] (defScope s_law):=⟨rfl,rfl,rfl,by decide +kernel,rfl,by decide +kernel,by decide +kernel⟩
abbrev s_init:Stmt:=inClass (top 19) 0
theorem sc_init:FnScope ["self", "text"] ["self", "text"] (defScope s_init):=⟨rfl,rfl,rfl,by decide +kernel,rfl,by decide +kernel,by decide +kernel⟩
abbrev hf_:Stmt:=inClass (top 19) 1
theorem sc_passes:FnScope ["self", "signs"] ["self", "signs"] (defScope hf_):=⟨rfl,rfl,rfl,by decide +kernel,rfl,by decide +kernel,by decide +kernel⟩
abbrev s_take:Stmt:=inClass (top 19) 2
theorem sc_take:FnScope ["self", "signs"] ["self", "signs"] (defScope s_take):=⟨rfl,rfl,rfl,by decide +kernel,rfl,by decide +kernel,by decide +kernel⟩
abbrev fe_:Stmt:=inClass (top 19) 3
theorem sc_take_end:FnScope ["self"] ["self"] (defScope fe_):=⟨rfl,rfl,rfl,by decide +kernel,rfl,by decide +kernel,by decide +kernel⟩
abbrev fd_:Stmt:=inClass (top 19) 4
theorem sc_take_run:FnScope ["self", "signs", "begin"] ["self", "signs"] (defScope fd_):=⟨rfl,rfl,rfl,by decide +kernel,rfl,by decide +kernel,by decide +kernel⟩
abbrev dn_:Stmt:=inClass (top 19) 5
theorem sc_take_number:FnScope ["self", "most_figures", "figures"] ["self", "most_figures"] (defScope dn_):=⟨rfl,rfl,rfl,by decide +kernel,rfl,by decide +kernel,by decide +kernel⟩
theorem xSeq_mid {G K:XS} {ρ:En} {D:XD} (M:En→Prop) (h1:∀ ρ',M ρ'→K ρ' D) (h2:∀ D':XD,(∀ ρ',M ρ'→D'.nx ρ')→G ρ D'):xSeq G K ρ D:=h2 { D with nx:=fun ρ'=>K ρ' D } h1
theorem go_set {i:Nat} {t:XT} {K:XS} {ρ:En} {D:XD} (h:t ρ fun s ρ'=>K (ρ'.set i (.v s)) D):xSeq (xSet i t) K ρ D:=h
theorem go_setL {i:Nat} {t:XT} {ρ:En} {D:XD} (h:t ρ fun s ρ'=>D.nx (ρ'.set i (.v s))):xSet i t ρ D:=h
theorem go_var {i:Nat} {s:Sv} {ρ:En} {Q:Sv→En→Prop} (hi:ρ[i]? = some (.v s)) (h:Q (.tr s.d) (ρ.set i (.v (.tr s.d)))):xVar i ρ Q:=by
 unfold xVar
 rw [hi]
 exact h
theorem to_tr {i:Nat} {s:Sv} {ρ:En} {Q:Sv→En→Prop} {d:Dx} (hi:ρ[i]? = some (.v s)) (hs:s.d=d) (h:Q (.tr d) (ρ.set i (.v (.tr d)))):xVar i ρ Q:=by
 subst hs
 exact go_var hi h
theorem go_c1 {d:Dx} {ρ:En} {Q:Sv→En→Prop} (h:Q (.tr d) ρ):xC d ρ Q:=h
theorem go_cons {t:XT} {u:XA} {ρ:En} {Q:List Sv→En→Prop} (h:t ρ fun s ρ1=>u ρ1 fun ss ρ2=>Q (s :: ss) ρ2):xCons t u ρ Q:=h
theorem go_op {g:G2} {ta tb:XT} {ρ:En} {Q:Sv→En→Prop} (h:ta ρ fun a ρ1=>tb ρ1 fun b ρ2=>g a.d b.d fun s=>Q s ρ2):xOp g ta tb ρ Q:=h
theorem di_ {c:XC} {G K:XS} {ρ ρ':En} {D:XD} (hc:∀ Q:Bool→En→Prop,Q false ρ'→c ρ Q) (h:K ρ' D):xSeq (xIf c G xNext) K ρ D:=hc _ h
theorem go_last {c:XC} {G:XS} {ρ ρ':En} {D:XD} (hc:∀ Q:Bool→En→Prop,Q false ρ'→c ρ Q) (h:D.nx ρ'):xIf c G xNext ρ D:=hc _ h
theorem go_ifB {c:XC} {G K:XS} {ρ ρ':En} {D:XD} (b:Bool) (hc:∀ Q:Bool→En→Prop,Q b ρ'→c ρ Q) (ht:b=true→G ρ' { D with nx:=fun ρ=>K ρ D }) (hf:b=false→K ρ' D):xSeq (xIf c G xNext) K ρ D:=by
 refine hc _ ?_
 cases b with
 | true=>exact ht rfl
 | false=>exact hf rfl
theorem len2 {α:Type} {a b:α}:[a,b].length≤1000000:=by show 2≤1000000; decide
theorem lenA {n:Nat} (h:n≤1000000):n≤1000000:=h
theorem ha_ {l:List Dx} {r:Int} {Q:Sv→Prop} (h0:0≤r) (h1:r < l.length) (q:∀ d∈l,Q (.tr d)):ixX (.lst l) (.int r) Q:=by
 obtain ⟨x,hx,hm⟩:=atI_of h0 h1
 show (match atI l r with | some d=>Q (.tr d) | none=>False)
 rw [hx]
 exact q x (List.mem_of_getElem? hm)
theorem go_ifE {c:XC} {G K:XS} {ρ ρ':En} {D:XD} (b:Bool) (hc:∀ Q:Bool→En→Prop,Q b ρ'→c ρ Q) (ht:b=true→G ρ' D) (hf:b=false→K ρ' D):xIf c G K ρ D:=by
 refine hc _ ?_
 cases b with
 | true=>exact ht rfl
 | false=>exact hf rfl
def codes (x:Str):List Nat:=x.cps.toList
theorem ao_ (x:Str):x.length=(codes x).length:=by simp [codes,Str.length]
theorem bo_ (x y:Str):codes (x ++ y)=codes x ++ codes y:=by
 show (x.cps ++ y.cps).toList=_
 rw [Array.toList_append]
 rfl
theorem fb_ {x y:Str} (h:codes x=codes y):x=y:=by
 obtain ⟨a⟩:=x
 obtain ⟨b⟩:=y
 have:a=b:=Array.ext' h
 rw [this]
theorem codes_to {x:Str} {k:Int} (h0:0≤k) (h1:k≤(codes x).length):codes (Txt.slice x none (some k))=(codes x).take k.toNat:=by
 have e:=beq_iff_eq.mp (PyProof.Rows.slice_closes_toL (x:=x) h0 (by rw [ao_]; exact h1))
 rw [e]
 show (((x.cps.toList.drop 0).take (k - 0).toNat).toArray).toList=_
 simp [codes]
def Low (l:List Nat):Prop := ∀ c∈l,97≤c∧c≤122
def Nm (x:Str):Prop:=1≤(codes x).length∧(codes x).length≤8∧Low (codes x)
theorem ca_ (x y:Str):(x ++ y).length=x.length + y.length:=by rw [ao_,bo_,List.length_append,ao_ x,ao_ y]
section
variable {n:Nat}
theorem ok_at:∀ {ks:List Kd} {i:Nat} {k:Kd},okK ks→ks[i]? = some k→k.Ok∧k.deep≤deepK ks
 | [],_,_,_,e=>by simp at e
 | k' :: r,0,k,h,e=>by simp at e; subst e; exact ⟨h.1,Nat.le_max_left _ _⟩
 | k' :: r,i + 1,k,h,e=>by obtain ⟨a,b⟩:=ok_at (i:=i) h.2 (by simpa using e); exact ⟨a,Nat.le_trans b (Nat.le_max_right _ _)⟩
end
mutual
def Kd.Full:Kd→Prop
 | .num _ _=>True
 | .row k _=>k.Full
 | .rcd fs=>fs≠[]∧fullF fs
 | .cho ks=>ks≠[]∧fullK ks
def fullF:List (Str×Kd)→Prop
 | []=>True
 | f :: r=>f.2.Full∧fullF r
def fullK:List Kd→Prop
 | []=>True
 | k :: r=>k.Full∧fullK r
end
mutual
def Kd.Fit:Kd→Prop
 | .num w m=>1≤w∧w≤8∧(m=1∨m=2∨m=4∨m=8)
 | .row k n=>k.Fit∧1≤n∧n≤20
 | .rcd fs=>fitF fs∧1≤fs.length∧fs.length≤8∧(fs.map (·.1)).Nodup
 | .cho ks=>fitK ks∧1≤ks.length∧ks.length≤6
def fitF:List (Str×Kd)→Prop
 | []=>True
 | f :: r=>(Nm f.1∧f.2.Fit)∧fitF r
def fitK:List Kd→Prop
 | []=>True
 | k :: r=>k.Fit∧fitK r
end
mutual
theorem Kd.Fit.ok:∀ (k:Kd),k.Fit→k.Ok
 | .num w m,h=>by
  obtain ⟨a,b,c⟩:=h
  exact ⟨a,b,by omega,by omega⟩
 | .row k n,h=>⟨Kd.Fit.ok k h.1,by have:=h.2.1; omega,by have:=h.2.2; omega⟩
 | .rcd fs,h=>⟨fitF_ok fs h.1,by have:=h.2.2.1; omega⟩
 | .cho ks,h=>⟨fitK_ok ks h.1,by have:=h.2.2; omega⟩
theorem fitF_ok:∀ (fs:List (Str×Kd)),fitF fs→okF fs
 | [],_=>trivial
 | f :: r,h=>⟨Kd.Fit.ok f.2 h.1.2,fitF_ok r h.2⟩
theorem fitK_ok:∀ (ks:List Kd),fitK ks→okK ks
 | [],_=>trivial
 | k :: r,h=>⟨Kd.Fit.ok k h.1,fitK_ok r h.2⟩
end
theorem fitF_snoc:∀ {fs:List (Str×Kd)} {f:Str×Kd},fitF fs→Nm f.1→f.2.Fit→fitF (fs ++ [f])
 | [],_,_,a,b=>⟨⟨a,b⟩,trivial⟩
 | g :: r,f,h,a,b=>⟨h.1,fitF_snoc h.2 a b⟩
theorem fitK_snoc:∀ {ks:List Kd} {k:Kd},fitK ks→k.Fit→fitK (ks ++ [k])
 | [],_,_,b=>⟨b,trivial⟩
 | g :: r,f,h,b=>⟨h.1,fitK_snoc h.2 b⟩
theorem deepF_snoc:∀ {fs:List (Str×Kd)} {f:Str×Kd} {n:Nat},deepF fs≤n→f.2.deep≤n→deepF (fs ++ [f])≤n
 | [],f,n,_,b=>by show max f.2.deep 0≤n; omega
 | g :: r,f,n,h,b=>by
  have h':max g.2.deep (deepF r)≤n:=h
  have:=deepF_snoc (fs:=r) (f:=f) (n:=n) (by omega) b
  show max g.2.deep (deepF (r ++ [f]))≤n
  omega
theorem deepK_snoc:∀ {ks:List Kd} {k:Kd} {n:Nat},deepK ks≤n→k.deep≤n→deepK (ks ++ [k])≤n
 | [],f,n,_,b=>by show max f.deep 0≤n; omega
 | g :: r,f,n,h,b=>by
  have h':max g.deep (deepK r)≤n:=h
  have:=deepK_snoc (ks:=r) (k:=f) (n:=n) (by omega) b
  show max g.deep (deepK (r ++ [f]))≤n
  omega
def tk:Nat→Int
 | 0=>0
 | n + 1=>3000 + 12 * tk n
mutual
def Kd.x:Kd→Dx
 | .num w m=>.tup [.str "number",.int w,.int m]
 | .row k n=>.tup [.str "row",k.x,.int n]
 | .rcd fs=>.tup [.str "record",.lst (xF fs)]
 | .cho ks=>.tup [.str "choice",.lst (xK ks)]
def xF:List (Str×Kd)→List Dx
 | []=>[]
 | f :: r=>.tup [.str f.1,f.2.x] :: xF r
def xK:List Kd→List Dx
 | []=>[]
 | k :: r=>k.x :: xK r
end
theorem fs_:∀ fs:List (Str×Kd),xF fs=fs.map fun f=>.tup [.str f.1,f.2.x]
 | []=>rfl
 | f :: r=>by rw [xF,fs_ r]; rfl
theorem es_:∀ ks:List Kd,xK ks=ks.map Kd.x
 | []=>rfl
 | f :: r=>by rw [xK,es_ r]; rfl
def rdr (t:Str) (p:Nat):FsO:=[("text",.tr (.str t)),("place",.tr (.int (p:Int)))]
abbrev figS:Str := "0123456789"
abbrev comS:Str := ", "
def gIN (C0:Addr):GO:=fun C l ds Q=>C=C0∧l=[]∧∃ t:Str,ds=[.str t]∧Q (.tr .non) (rdr t 0)
def gPA (C0:Addr):GO:=fun C l ds Q=>C=C0∧∃ (t y:Str) (p:Nat),l=rdr t p∧ds=[.str y]∧p≤t.length∧t.length≤100000∧(∀ b,b=(codes y).isPrefixOf ((codes t).drop p)→Q (.tr (.bl b)) (rdr t (if b=true then p + y.length else p)))
def gTA (C0:Addr):GO:=fun C l ds Q=>C=C0∧∃ (t y:Str) (p:Nat),l=rdr t p∧ds=[.str y]∧p≤t.length∧t.length≤100000∧(codes y).isPrefixOf ((codes t).drop p)=true∧Q (.tr .non) (rdr t (p + y.length))
def gTE (C0:Addr):GO:=fun C l ds Q=>C=C0∧∃ (t:Str),l=rdr t t.length∧ds=[]∧t.length≤100000∧Q (.tr .non) (rdr t t.length)
theorem tw_stop {f:Nat→Bool}:∀ {l:List Nat} {k:Nat},(∀ c∈l.take k,f c=true)→(∀ c,l[k]? = some c→f c=false)→l.takeWhile f=l.take k
 | [],_,_,_=>by simp
 | a :: l,0,_,h2=>by rw [List.takeWhile_cons,h2 a rfl]; simp
 | a :: l,k + 1,h,h2=>by
  rw [List.takeWhile_cons,h a (by simp),if_pos rfl,List.take_succ_cons,tw_stop (fun c hc=>h c (by rw [List.take_succ_cons]; exact List.mem_cons_of_mem _ hc)) (fun c hc=>h2 c (by simpa using hc))]
theorem st3_at {t y:Str} {p:Nat} (hp:p≤t.length):st3 t y (p:Int)=(codes y).isPrefixOf ((codes t).drop p):=by
 have hf:PySem.fromIndex t.length (p:Int)=p:=by
  unfold PySem.fromIndex
  rw [if_neg (by omega)]
  omega
 have hx:(t.cps.extract p (p + y.length)).toList=((codes t).drop p).take y.length:=by
  rw [Array.toList_extract]
  simp only [codes,List.extract_eq_take_drop,Nat.add_sub_cancel_left]
 unfold st3 Builtin.Str.subAt
 rw [hf,Bool.eq_iff_iff,Bool.and_eq_true,decide_eq_true_eq,beq_iff_eq,List.isPrefixOf_iff_prefix,List.prefix_iff_eq_take,← ao_]
 constructor
 ·rintro ⟨_,h⟩
  rw [← hx,h]
  rfl
 ·intro h
  refine ⟨?_,Array.ext' (by rw [hx]; exact h.symm)⟩
  have h2:=congrArg List.length h
  rw [List.length_take,List.length_drop,← ao_,← ao_] at h2
  omega
theorem pre_len {t y:Str} {p:Nat} (h:(codes y).isPrefixOf ((codes t).drop p)=true):y.length≤t.length:=by
 have:=(List.isPrefixOf_iff_prefix.mp h).length_le
 rw [List.length_drop,← ao_,← ao_] at this
 omega
theorem rdr_no {t:Str} {p:Nat} {o:Ow} (ho:List.lookup (Str.ofString "place") (rdr t p)=some o):∃ d,o=.tr d:=by
 cases ho
 exact ⟨_,rfl⟩
def inT (z:Str) (c:Nat):Bool := !(Builtin.Str.occurrences z ⟨#[c]⟩ 0 z.length 1).isEmpty
def gAF4:GC:=fun ds Q => ∃ x:Str,ds=[.str x]∧x.length≤1000∧(∀ c∈codes x,inT figS c=true)∧(∃ c r,codes x=c :: r∧(r=[]∨c≠48))∧Q (.tr (.bl true))
def runT (z t:Str) (p:Nat):List Nat:=((codes t).drop p).takeWhile (inT z)
def gTR (C0:Addr):GO:=fun C l ds Q=>C=C0∧∃ (t z:Str) (p:Nat),l=rdr t p∧ds=[.str z]∧p≤t.length∧t.length≤100000∧Q (.tr (.str ⟨(runT z t p).toArray⟩)) (rdr t (p + (runT z t p).length))
section
variable {P:Program} {w:World} {K:FG_} {mg:MG_} {base:Heap} {f:Addr} {fd:FuncData} {C_Reader:Addr}
theorem okx_init (F:Fun K "__init__" "Reader.__init__" s_init f fd) (cls_Reader:Cls K C_Reader) (na_Reader_text:NoAttr K C_Reader "text") (na_Reader_place:NoAttr K C_Reader "place") (m_isinstance:mg "isinstance" = none) (m_str:mg "str" = none):FnOk P w K mg base CX0 1 f fd ["self", "text"] (spO (gIN C_Reader)):=by
 refine fn_o F sc_init (fun C l ds Q h=>by obtain ⟨_,_,t,rfl,_⟩:=h; rfl) (by decide) fun cdv A outer s H E hr => ?_
 have hu1:=bv_ hr
 have hu0:=Nat.lt_of_succ_lt hu1
 refine ⟨_,(ac_ (bf_ (cl_ (bp_ (as_ .str m_isinstance (ab_ (pv 1)) (bd_ (v:=.ty "str") rfl m_str fv_ rfl)))) xss_no aj_)
  (ac_ (xs_fld (C:=C_Reader) cls_Reader na_Reader_text (pv 0) (ab_ (pv 1)))
  (af_ (xs_fld (C:=C_Reader) cls_Reader na_Reader_place (pv 0) ae_)))),fun C a dx l ds Q h => ?_⟩
 obtain ⟨rfl,rfl,t,rfl,q⟩:=h
 refine ⟨rfl,(by decide),(fun o ho=>by cases ho),?_⟩
 refine ⟨rfl,(by decide:1 < 1000),(fun o ho=>by cases ho),?_⟩
 exact ⟨rfl,rfl,rfl,q⟩
theorem okx_passes (F:Fun K "passes" "Reader.passes" hf_ f fd) (cls_Reader:Cls K C_Reader) (na_Reader_text:NoAttr K C_Reader "text") (na_Reader_place:NoAttr K C_Reader "place") (m_len:mg "len" = none):FnOk P w K mg base CX0 1 f fd ["self", "signs"] (spO (gPA C_Reader)):=by
 refine fn_o F sc_passes (fun C l ds Q h=>by obtain ⟨_,t,y,p,_,rfl,_⟩:=h; rfl) (by decide) fun cdv A outer s H E hr => ?_
 have hu1:=bv_ hr
 have hu0:=Nat.lt_of_succ_lt hu1
 refine ⟨_,(ac_ (bf_ (cl_ (bp_ (xe_starts (ef_ (C:=C_Reader) cls_Reader na_Reader_text (pv 0)) (ab_ (pv 1)) (ef_ (C:=C_Reader) cls_Reader na_Reader_place (pv 0))))) (af_ (ai_ fq_)) aj_)
  (ac_ (xs_fld (C:=C_Reader) cls_Reader na_Reader_place (pv 0) (bj_ (ef_ (C:=C_Reader) cls_Reader na_Reader_place (pv 0)) (au_ (ba_ K) ct_ (by rfl) m_len PySem.boot_len (aa_ (ab_ (pv 1)) ad_))))
  (af_ (ai_ fq_)))),fun C a dx l ds Q h => ?_⟩
 obtain ⟨rfl,t,y,p,rfl,rfl,hp,hl,q⟩:=h
 refine ⟨rfl,⟨t,rfl⟩,rfl,?_⟩
 have e:=st3_at (y:=y) hp
 cases hb:(codes y).isPrefixOf ((codes t).drop p) with
 | false =>
  rw [hb] at e
  have e':(!(st3 t y (p:Int)))=true:=by rw [e]; rfl
  refine (if_pos e').mpr ?_
  exact ⟨rfl,rfl,rfl,q false hb.symm⟩
 | true =>
  rw [hb] at e
  have e':¬ ((!(st3 t y (p:Int)))=true):=by rw [e]; decide
  refine (if_neg e').mpr ?_
  have hy:=pre_len hb
  refine ⟨rfl,by show y.length≤1000000; omega,rfl,(by show 2 < 1000; decide),fun o ho=>rdr_no ho,?_⟩
  exact ⟨rfl,rfl,rfl,q true hb.symm⟩
theorem okx_take (F:Fun K "take" "Reader.take" s_take f fd) (CM_passes:CalM P w K mg base 1 C_Reader "passes" ["self", "signs"] (spO (gPA C_Reader))):FnOk P w K mg base CX0 2 f fd ["self", "signs"] (spO (gTA C_Reader)):=by
 refine fn_o F sc_take (fun C l ds Q h=>by obtain ⟨_,t,y,p,_,rfl,_⟩:=h; rfl) (by decide) fun cdv A outer s H E hr => ?_
 have hu1:=bv_ hr
 have hu0:=Nat.lt_of_succ_lt hu1
 refine ⟨_,(af_ (bf_ (cl_ (bp_ (cq_ (C:=C_Reader) (i:=0) CM_passes (hr.mono (by omega)) (pv 0) (aa_ (ab_ (pv 1)) ad_)))) (af_ xs_no) aj_)),fun C a dx l ds Q h => ?_⟩
 obtain ⟨rfl,t,y,p,rfl,rfl,hp,hl,hy,q⟩:=h
 refine ⟨⟨rfl,rfl⟩,rfl,t,y,p,rfl,rfl,hp,hl,fun b hb => ?_⟩
 rw [hy] at hb
 subst hb
 exact ⟨rfl,rfl,rfl,q⟩
theorem okx_take_end (F:Fun K "take_end" "Reader.take_end" fe_ f fd) (cls_Reader:Cls K C_Reader) (na_Reader_text:NoAttr K C_Reader "text") (na_Reader_place:NoAttr K C_Reader "place") (m_len:mg "len" = none):FnOk P w K mg base CX0 1 f fd ["self"] (spO (gTE C_Reader)):=by
 refine fn_o F sc_take_end (fun C l ds Q h=>by obtain ⟨_,t,_,rfl,_⟩:=h; rfl) (by decide) fun cdv A outer s H E hr => ?_
 have hu1:=bv_ hr
 have hu0:=Nat.lt_of_succ_lt hu1
 refine ⟨_,(af_ (bf_ (ax_ op_lt ox_lt (ef_ (C:=C_Reader) cls_Reader na_Reader_place (pv 0)) (au_ (ba_ K) ct_ (by rfl) m_len PySem.boot_len (aa_ (ef_ (C:=C_Reader) cls_Reader na_Reader_text (pv 0)) ad_)) (nomark _)) (af_ xs_no) aj_)),fun C a dx l ds Q h => ?_⟩
 obtain ⟨rfl,t,rfl,rfl,hl,q⟩:=h
 refine ⟨rfl,rfl,by show t.length≤1000000; omega,?_⟩
 refine (if_neg (show ¬ (decide ((t.length:Int) < (t.length:Int))=true) by simp)).mpr ?_
 exact ⟨rfl,rfl,rfl,q⟩
theorem okx_take_run (F:Fun K "take_run" "Reader.take_run" fd_ f fd) (cls_Reader:Cls K C_Reader) (na_Reader_text:NoAttr K C_Reader "text") (na_Reader_place:NoAttr K C_Reader "place") (m_len:mg "len" = none):FnOk P w K mg base CX0 1 f fd ["self", "signs"] (spO (gTR C_Reader)):=by
 refine fn_o F sc_take_run (fun C l ds Q h=>by obtain ⟨_,t,z,p,_,rfl,_⟩:=h; rfl) (by decide) fun cdv A outer s H E hr => ?_
 have hu1:=bv_ hr
 have hu0:=Nat.lt_of_succ_lt hu1
 refine ⟨_,(ac_ (ap_ fun F=>aw_ (i:=2) sc_take_run.nd rfl (Or.inl rfl) (XE.at (Ex:=noEx) F (ef_ (C:=C_Reader) cls_Reader na_Reader_place (pv 0))))
  (ac_ (xs_while PassesOwn.never (XW.pt (xw_and (ax_ op_lt ox_lt (ef_ (C:=C_Reader) cls_Reader na_Reader_place (pv 0)) (au_ (ba_ K) ct_ (by rfl) m_len PySem.boot_len (aa_ (ef_ (C:=C_Reader) cls_Reader na_Reader_text (pv 0)) ad_)) (nomark _)) (xw_and1 (ax_ op_in_str ox_inS (an_ K (ef_ (C:=C_Reader) cls_Reader na_Reader_text (pv 0)) (ef_ (C:=C_Reader) cls_Reader na_Reader_place (pv 0)) (fun _ _=>rfl)) (ab_ (pv 1)) (by with_unfolding_all rfl))))) (af_ (xs_fld (C:=C_Reader) cls_Reader na_Reader_place (pv 0) (bj_ (ef_ (C:=C_Reader) cls_Reader na_Reader_place (pv 0)) ae_))))
  (af_ (ai_ (xe_slice K (ef_ (C:=C_Reader) cls_Reader na_Reader_text (pv 0)) (xo_some (ab_ (pv 2))) (xo_some (ef_ (C:=C_Reader) cls_Reader na_Reader_place (pv 0)))))))),fun C a dx l ds Q h => ?_⟩
 obtain ⟨rfl,t,z,p,rfl,rfl,hp,hl,q⟩:=h
 refine ⟨rfl,?_⟩
 refine ⟨fun m ρ => ∃ k:Nat,p + k + m=t.length∧(∀ c∈((codes t).drop p).take k,inT z c=true)∧ρ=[.bo (.oi C a dx (rdr t (p + k))),.v (.tr (.str z)),.v (.tr (.int (p:Int)))],⟨t.length - p,0,by omega,fun c hc=>by simp at hc,rfl⟩,?_⟩
 rintro m ρ ⟨k,hk,hin,rfl⟩
 have hlc:=ao_ t
 refine ⟨rfl,rfl,by show t.length≤1000000; omega,?_⟩
 have stop:∀ n,runT z t p=((codes t).drop p).take n→n≤t.length - p→n=k→lentEndO C a dx Q (.tr (.str (Txt.slice t (some (p:Int)) (some ((p + k:Nat):Int))))) [.bo (.oi C a dx (rdr t (p + k))),.v (.tr (.str z)),.v (.tr (.int (p:Int)))]:=fun n hn hl2 e=>by
  subst e
  have hsl:Txt.slice t (some (p:Int)) (some ((p + n:Nat):Int))=⟨(runT z t p).toArray⟩:=by
   rw [beq_iff_eq.mp (PyProof.Rows.slice_closesL (x:=t) (i:=(p:Int)) (j:=((p + n:Nat):Int)) (by omega) (by omega) (by omega)),hn]
   congr 3
   omega
  have hll:(runT z t p).length=n:=by rw [hn,List.length_take,List.length_drop]; omega
  rw [hsl]
  rw [hll] at q
  exact ⟨rfl,rfl,rfl,q⟩
 by_cases hlt:p + k < t.length
 ·have hd:decide ((((p + k:Nat):Int)) < ((t.length:Nat):Int))=true:=decide_eq_true (by omega)
  refine (if_pos hd).mpr ?_
  obtain ⟨c,hc⟩ : ∃ c,(codes t)[p + k]? = some c:=⟨_,List.getElem?_eq_getElem (by omega)⟩
  have hat:atI t.cps.toList ((p + k:Nat):Int)=some c:=ck_ hc
  refine ⟨rfl,rfl,by show t.length≤1000000; omega,?_⟩
  show match atI t.cps.toList ((p + k:Nat):Int) with | some c=>_ | none=>False
  rw [hat]
  show if inT z c=true then _ else _
  have hdr:((codes t).drop p)[k]? = some c:=by rw [List.getElem?_drop]; exact hc
  cases hz:inT z c with
  | true =>
   refine (if_pos rfl).mpr ?_
   refine ⟨fun ρ' => ∃ m',m' < m∧∃ k:Nat,p + k + m'=t.length∧(∀ c∈((codes t).drop p).take k,inT z c=true)∧ρ'=[.bo (.oi C a dx (rdr t (p + k))),.v (.tr (.str z)),.v (.tr (.int (p:Int)))],fun ρ' h=>h,?_⟩
   refine ⟨rfl,rfl,(by show 2 < 1000; decide),fun o ho=>rdr_no ho,m - 1,by omega,k + 1,by omega,fun c' hc' => ?_,rfl⟩
   rw [List.take_succ,hdr] at hc'
   rcases List.mem_append.mp hc' with h | h
   ·exact hin c' h
   ·rw [List.mem_singleton.mp h]; exact hz
  | false =>
   refine (if_neg Bool.false_ne_true).mpr ?_
   exact ⟨rfl,rfl,(by show t.length≤1000000; omega),stop k (tw_stop hin fun c' h=>by rw [hdr] at h; cases h; exact hz) (by omega) rfl⟩
 ·have hd:¬ (decide ((((p + k:Nat):Int)) < ((t.length:Nat):Int))=true):=by rw [decide_eq_true_eq]; omega
  refine (if_neg hd).mpr ?_
  exact ⟨rfl,rfl,(by show t.length≤1000000; omega),stop k (tw_stop hin fun c' h=>by
   have:=(List.getElem?_eq_some_iff.mp h).1
   rw [List.length_drop] at this
   omega) (by omega) rfl⟩
end
theorem ge_ {n:Int} (h:0≤n):codes (txtI n)=(Nat.toDigits 10 n.toNat).map Char.toNat:=by
 have e:=PySem.W.KIN.signs_num n.toNat
 rw [Int.toNat_of_nonneg h] at e
 exact e
theorem fig_range:∀ c:Fin 10,inT figS (48 + c.val)=true:=by decide +kernel
theorem digit_fig {c:Nat} {m:Nat} (h:c∈(Nat.toDigits 10 m).map Char.toNat):inT figS c=true:=by
 obtain ⟨ch,hch,rfl⟩:=List.mem_map.mp h
 have r:=PyProof.Rows.digit_range (Nat.isDigit_of_mem_toDigits (by decide) (by decide) hch)
 have:=fig_range ⟨ch.toNat - 48,by omega⟩
 rwa [show 48 + (ch.toNat - 48)=ch.toNat by omega] at this
theorem digit_48:∀ d:Nat,d < 10→(Nat.digitChar d).toNat=48 + d:=by decide
theorem digits_head (m:Nat):∃ c r,(Nat.toDigits 10 m).map Char.toNat=c :: r∧(r=[]∨c≠48)∧(0 < m→c≠48):=by
 induction m using Nat.strongRecOn with
 | _ m ih =>
  by_cases h:m < 10
  ·rw [Nat.toDigits_of_lt_base h]
   have:=digit_48 m h
   exact ⟨_,[],rfl,.inl rfl,fun h0=>by omega⟩
  ·have hm:m % 10 < 10:=Nat.mod_lt m (by decide)
   have t:Nat.toDigits 10 (m / 10) ++ Nat.toDigits 10 (m % 10)=Nat.toDigits 10 (10 * (m / 10) + m % 10):=Nat.toDigits_append_toDigits (by decide) (by omega) hm
   rw [Nat.div_add_mod] at t
   obtain ⟨c,r,e,_,h3⟩:=ih (m / 10) (by omega)
   have hc:=h3 (by omega)
   rw [← t,List.map_append,e]
   exact ⟨c,r ++ (Nat.toDigits 10 (m % 10)).map Char.toNat,rfl,.inr hc,fun _=>hc⟩
theorem txt_fig {n:Int} (h:0≤n):(∀ c∈codes (txtI n),inT figS c=true)∧∃ c r,codes (txtI n)=c :: r∧(r=[]∨c≠48):=by
 rw [ge_ h]
 refine ⟨fun c hc=>digit_fig hc,?_⟩
 obtain ⟨c,r,e,h2,_⟩:=digits_head n.toNat
 exact ⟨c,r,e,h2⟩
theorem fy_ {n:Int} {k:Nat} (h:0≤n) (h1:n < 10 ^ k) (hk:0 < k):(txtI n).length≤k:=by
 rw [ao_,ge_ h,List.length_map]
 refine (Nat.length_toDigits_le_iff (by decide) hk).mpr ?_
 have e:(10:Int) ^ k=((10 ^ k:Nat):Int):=by push_cast; rfl
 rw [e] at h1
 omega
theorem txt_w {n:Int} {w:Nat} (h:0≤n) (hw:1≤w) (h1:n < 256 ^ w):(txtI n).length≤3 * w:=by
 refine fy_ h ?_ (by omega)
 have e:(10:Int) ^ (3 * w)=1000 ^ w:=by rw [Int.pow_mul]; rfl
 rw [e]
 have a:(256:Nat) ^ w≤1000 ^ w:=Nat.pow_le_pow_left (by decide) w
 have b:(256:Int) ^ w≤1000 ^ w:=by exact_mod_cast a
 omega
theorem txt_reads {n:Int} (h:0≤n) (h1:n < 18446744073709551616):PySem.intText? (txtI n)=some n:=by
 have hl:=fy_ (k:=20) h (by omega) (by decide)
 obtain ⟨m,rfl⟩:=Int.eq_ofNat_of_zero_le h
 have hd:PySem.NumText.AllDigits (txtI (m:Int)).cps.toList:=by
  intro c hc
  have e:=ge_ h
  unfold codes at e
  rw [e] at hc
  obtain ⟨ch,hch,e2⟩:=List.mem_map.mp hc
  have r:=PyProof.Rows.digit_range (Nat.isDigit_of_mem_toDigits (by decide) (by decide) hch)
  rw [← e2]
  exact r
 have hne:(txtI (m:Int)).cps.toList≠[]:=by
  obtain ⟨c,r,e,_⟩:=(txt_fig h).2
  unfold codes at e
  rw [e]
  exact List.cons_ne_nil _ _
 have e:=PySem.intText_digits hd hne (Nat.le_trans hl (by decide))
 have e2:=PySem.W.KIN.signs_num m
 have e3:(txtI (m:Int)).cps.toList=(Nat.toDigits 10 m).map Char.toNat:=e2
 rw [e3,PySem.W.KIN.val_back] at e
 exact e
def gTN6 (C0:Addr):GO:=fun C l ds Q=>C=C0∧∃ (t:Str) (p:Nat) (n m:Int),l=rdr t p∧ds=[.int m]∧p≤t.length∧t.length≤100000∧0≤n∧n < 18446744073709551616∧((txtI n).length:Int)≤m∧runT figS t p=codes (txtI n)∧Q (.tr (.int n)) (rdr t (p + (txtI n).length))
section
variable {P:Program} {w:World} {K:FG_} {mg:MG_} {base:Heap} {f:Addr} {fd:FuncData} {C_Reader:Addr}
theorem okx_af4 (F:Fun K "are_figures" "are_figures" do_ f fd) (m_len:mg "len" = none) (m_all:mg "all" = none) (c_FIGURES:∃ t,mg "FIGURES" = some (.str figS t)):FnOk P w K mg base CX0 1 f fd ["text"] (spX gAF4):=by
 refine fn_x F sc_are_figures (fun ds Q h=>by obtain ⟨_,rfl,_⟩:=h; rfl) (by decide) fun cdv A outer s H E hr => ?_
 have hu1:=bv_ hr
 have hu0:=Nat.lt_of_succ_lt hu1
 refine ⟨_,(ac_ (bf_ (XW.pt (fp_ (ax_ (br_ K hu0) dd_ (ab_ (pv 0)) ay_ (nomark _)) (dv_ (cl_ (bp_ (au_ (gn_ K (by rfl)) cx_all (by rfl) m_all bt_all (aa_ (cj_ (dsc:=defScope do_) (N:=["text"]) (tgs:=["sign"]) (outs:=[]) (N':=["sign"]) (by refine ⟨rfl,?_,?_,?_,rfl,?_,?_,?_⟩ <;> decide +kernel) (xi_str (ab_ (pv 0))) (fun _ _ _ _ _=>(aq_ (i:=0) (show (["sign"]:List Str).Nodup by decide +kernel) rfl (Or.inl rfl) (.inr rfl))) (bl_ (n:=1) (i:=0) (by decide)) (bk_ (by decide)) (fun _ _ _ _ _=>by_) (fun _ _ _ _ _=>(fr_ op_in_str ox_inS (ab_ (pv 0)) (hc_ (by rfl) c_FIGURES) (by with_unfolding_all rfl)))) ad_))))))) (af_ (ai_ fq_)) aj_)
  (af_ (ai_ (xe_or (fr_ (br_ K hu0) dd_ (au_ (ba_ K) ct_ (by rfl) m_len PySem.boot_len (aa_ (ab_ (pv 0)) ad_)) ae_ (nomark _)) (xe_one (fr_ (ez_ K hu0) hz_ (an_ K (ab_ (pv 0)) ae_ (fun _ _=>rfl)) ay_ (nomark _))))))),fun ds Q h => ?_⟩
 clear hu0 hu1
 obtain ⟨x,rfl,hxl,hall,⟨c,r,hc,hr2⟩,q⟩:=h
 have hne:x ≠ "" := fun z=>by rw [z] at hc; cases hc
 refine go_ifB false (ρ':=[.v (.tr (.str x))]) (fun Q q => ?_) (fun hb=>by cases hb) (fun hb => ?_)
 ·show if decide (x = "")=true then _ else _
  rw [decide_eq_false hne]
  show (sgX x).length≤1000000∧compX _ _ _ _ _ (sgX x) _ _
  have esg:sgX x=(codes x).map fun c=>Dx.str ⟨#[c]⟩:=rfl
  rw [esg]
  refine ⟨by rw [List.length_map,← ao_]; omega,?_⟩
  refine cb_ (fun c:Nat=>Dx.str ⟨#[c]⟩) (fun c=>.bl (inT figS c)) (fun c hm acc P p=>p) ?_
  refine ⟨(codes x).map (inT figS),by rw [List.map_map]; rfl,?_⟩
  have e:((codes x).map (inT figS)).all id=true:=by
   rw [List.all_eq_true]
   intro b hb
   obtain ⟨c',h1,rfl⟩:=List.mem_map.mp hb
   exact hall c' h1
  rw [e]
  exact q
 ·have hx0:atI x.cps.toList 0=some c:=ck_ (xs:=codes x) (j:=0) (by rw [hc]; rfl)
  have hlen:x.length=r.length + 1:=by rw [ao_,hc]; rfl
  refine ⟨by show x.length≤1000000; omega,?_⟩
  show if decide ((x.length:Int)=1)=true then _ else _
  by_cases h1:x.length=1
  ·rw [decide_eq_true (by omega)]
   exact q
  ·rw [decide_eq_false (by omega)]
   refine ⟨by show x.length≤1000000; omega,?_⟩
   show match atI x.cps.toList 0 with | some c=>_ | none=>False
   rw [hx0]
   have hc48:c≠48:=by
    rcases hr2 with h | h
    ·rw [h] at hlen; exact absurd hlen h1
    ·exact h
   have hne2:(⟨#[c]⟩ : Str) ≠ "0" := fun z=>hc48 (by
    have:=congrArg codes z
    exact (List.cons.inj (show [c]=[48] from this)).1)
   show Q (.tr (.bl (!decide ((⟨#[c]⟩ : Str) = "0"))))
   rw [decide_eq_false hne2]
   exact q
theorem ib_ (F:Fun K "take_number" "Reader.take_number" dn_ f fd) (CM_take_run:CalM P w K mg base 1 C_Reader "take_run" ["self", "signs"] (spO (gTR C_Reader))) (CAF:Cal P w K mg base 1 "are_figures" ["text"] (spX gAF4)) (m_len:mg "len" = none) (m_int:mg "int" = none) (c_FIGURES:∃ t,mg "FIGURES" = some (.str figS t)):FnOk P w K mg base CX0 2 f fd ["self", "most_figures"] (spO (gTN6 C_Reader)):=by
 refine fn_o F sc_take_number (fun C l ds Q h=>by obtain ⟨_,t,p,n,m,_,rfl,_⟩:=h; rfl) (by decide) fun cdv A outer s H E hr => ?_
 have hu1:=bv_ hr
 have hu0:=Nat.lt_of_succ_lt hu1
 refine ⟨_,(ac_ (ap_ fun F=>aw_ (i:=2) sc_take_number.nd rfl (Or.inl rfl) (XE.at (Ex:=noEx) F (cq_ (C:=C_Reader) (i:=0) CM_take_run (hr.mono (by omega)) (pv 0) (aa_ (hc_ (by rfl) c_FIGURES) ad_))))
  (ac_ (bf_ (XW.pt (fp_ (cl_ (bp_ (al_ CAF (hr.mono (by omega)) (aa_ (ab_ (pv 2)) ad_)))) (dv_ (ax_ op_gt ox_gt (au_ (ba_ K) ct_ (by rfl) m_len PySem.boot_len (aa_ (ab_ (pv 2)) ad_)) (ab_ (pv 1)) (nomark _))))) (af_ xs_no) aj_)
  (af_ (ai_ (ds_ call_intT cx_intT (by rfl) m_int bt_int (aa_ (ab_ (pv 2)) ad_)))))),fun C a dx l ds Q h => ?_⟩
 obtain ⟨rfl,t,p,n,m,rfl,rfl,hp,hl,h0,h1,hm,hrun,q⟩:=h
 obtain ⟨n1,n2⟩:=txt_fig h0
 have n3:=fy_ (k:=20) h0 (by omega) (by decide)
 have etx:(⟨(runT figS t p).toArray⟩ : Str)=txtI n:=fb_ (by rw [hrun]; rfl)
 have elen:(runT figS t p).length=(txtI n).length:=by rw [hrun,← ao_]
 refine ⟨⟨rfl,rfl⟩,rfl,t,figS,p,rfl,rfl,hp,hl,?_⟩
 rw [etx,elen]
 dsimp only
 change xSeq _ _ [.bo (.oi C a dx (rdr t (p + (txtI n).length))),.v (.tr (.int m)),.v (.tr (.str (txtI n)))] _
 refine di_ (ρ':=[.bo (.oi C a dx (rdr t (p + (txtI n).length))),.v (.tr (.int m)),.v (.tr (.str (txtI n)))]) (fun Q q => ?_) ?_
 ·refine ⟨txtI n,rfl,by omega,n1,n2,?_⟩
  refine ⟨by show (txtI n).length≤1000000; omega,?_⟩
  show Q (decide (m < ((txtI n).length:Int))) _
  rw [decide_eq_false (by omega)]
  exact q
 ·exact ⟨txtI n,n,rfl,by omega,txt_reads h0 h1,rfl,rfl,rfl,q⟩
end
def HaltD (r:List Nat):Prop := ∀ c l,r=c :: l→inT figS c=false
theorem tw_app {f:Nat→Bool} {l r:List Nat} (h:∀ c∈l,f c=true) (h2:∀ c r',r=c :: r'→f c=false):(l ++ r).takeWhile f=l:=by
 induction l with
 | nil =>
  cases r with
  | nil=>rfl
  | cons c r=>rw [List.nil_append,List.takeWhile_cons,h2 c r rfl]; rfl
 | cons a l ih=>rw [List.cons_append,List.takeWhile_cons,h a List.mem_cons_self,if_pos rfl,ih fun c hc=>h c (List.mem_cons_of_mem _ hc)]
theorem ea_:∀ k:Kd,1≤k.deep
 | .num _ _=>Nat.le_refl _
 | .row k n=>Nat.succ_le_succ (Nat.zero_le _)
 | .rcd fs=>Nat.succ_le_succ (Nat.zero_le _)
 | .cho ks=>Nat.succ_le_succ (Nat.zero_le _)
def fieldX (f:Str×Kd):Dx:=.tup [.str f.1,f.2.x]
theorem dg_ {t:Str} {p:Nat} {a r:List Nat} (h:(codes t).drop p=a ++ r):(codes t).drop (p + a.length)=r∧(p≤t.length→p + a.length≤t.length):=by
 refine ⟨by rw [← List.drop_drop,h,List.drop_left],fun hp => ?_⟩
 have:=congrArg List.length h
 rw [List.length_drop,List.length_append,← ao_] at this
 omega
theorem num_at {t:Str} {p:Nat} {n:Int} {r:List Nat} (h0:0≤n) (h:(codes t).drop p=codes (txtI n) ++ r) (hr:HaltD r):runT figS t p=codes (txtI n):=by
 unfold runT
 rw [h]
 exact tw_app (txt_fig h0).1 hr
theorem fz_ {a b:List Nat}:a.isPrefixOf (a ++ b)=true:=List.isPrefixOf_iff_prefix.mpr (List.prefix_append a b)
theorem owDs_snoc {o:Ow}:∀ {l:List Ow},owDs (l ++ [o])=owDs l ++ [o.d]
 | []=>by simp only [List.nil_append,owDs]
 | p :: r=>by simp only [List.cons_append,owDs,owDs_snoc]
theorem owDs_len:∀ {l:List Ow},(owDs l).length=l.length
 | []=>rfl
 | p :: r=>by simp only [owDs,List.length_cons,owDs_len]
theorem xF_snoc {f:Str×Kd}:∀ {l:List (Str×Kd)},xF (l ++ [f])=xF l ++ [fieldX f]
 | []=>by simp only [List.nil_append,xF,fieldX]
 | g :: l=>by simp only [List.cons_append,xF,xF_snoc]
theorem xK_snoc {f:Kd}:∀ {l:List Kd},xK (l ++ [f])=xK l ++ [f.x]
 | []=>by simp only [List.nil_append,xK]
 | g :: l=>by simp only [List.cons_append,xK,xK_snoc]
theorem xF_len:∀ {l:List (Str×Kd)},(xF l).length=l.length
 | []=>rfl
 | g :: l=>by simp only [xF,List.length_cons,xF_len]
theorem xK_len:∀ {l:List Kd},(xK l).length=l.length
 | []=>rfl
 | g :: l=>by simp only [xK,List.length_cons,xK_len]
def strIX:GC:=fun ds Q => ∃ n:Int,ds=[.int n]∧0≤n∧n < 18446744073709551616∧Q (.tr (.str (txtI n)))
theorem cx_strI:CallX (fun xs H Q => ∃ n:Int,xs=[.int n]∧0≤n∧n < 18446744073709551616∧Q (.str (txtI n)) H) strIX:=by
 intro F P H ds xs Q Qx R hs g k
 obtain ⟨n,rfl,h0,h1,q⟩:=g
 obtain ⟨y,rfl,hx⟩:=dk_ hs
 cases hx.int_eq
 exact ⟨n,rfl,h0,h1,k _ _ H (R.add (IsX.of_str _)) q⟩
theorem join_fold (g:List Nat):∀ (r:List Str) (acc:Array Nat),(r.foldl (fun acc p=>acc ++ g.toArray ++ p.cps) acc).toList=acc.toList ++ (r.map fun y=>g ++ codes y).flatten
 | [],acc=>by simp
 | y :: r,acc=>by
  rw [List.foldl_cons,join_fold g r]
  simp [codes]
theorem io_ (ys:List Str) (h:ys≠[]):codes (Txt.join comS ys)=(ys.map fun y=>44 :: 32 :: codes y).flatten.drop 2:=by
 cases ys with
 | nil=>exact absurd rfl h
 | cons y r =>
  show ((r).foldl (fun acc p=>acc ++ (Str.ofString ", ").cps ++ p.cps) y.cps).toList=_
  rw [show (Str.ofString ", ").cps=[44,32].toArray from by decide,join_fold]
  simp only [List.map_cons,List.flatten_cons,List.cons_append,List.drop_succ_cons,List.drop_zero,List.nil_append]
  rfl
theorem fl_:∀ {fs:List (Str×Kd)} {f:Str×Kd},fitF fs→f∈fs→Nm f.1∧f.2.Fit∧f.2.deep≤deepF fs
 | [],_,_,h=>absurd h List.not_mem_nil
 | g :: r,f,h,hf=>by
  rcases List.mem_cons.mp hf with rfl | hf
  ·exact ⟨h.1.1,h.1.2,Nat.le_max_left _ _⟩
  ·obtain ⟨a,b,c⟩:=fl_ h.2 hf
   exact ⟨a,b,Nat.le_trans c (Nat.le_max_right _ _)⟩
theorem gm_:∀ {ks:List Kd} {k:Kd},fitK ks→k∈ks→k.Fit∧k.deep≤deepK ks
 | [],_,_,h=>absurd h List.not_mem_nil
 | g :: r,f,h,hf=>by
  rcases List.mem_cons.mp hf with rfl | hf
  ·exact ⟨h.1,Nat.le_max_left _ _⟩
  ·obtain ⟨b,c⟩:=gm_ h.2 hf
   exact ⟨b,Nat.le_trans c (Nat.le_max_right _ _)⟩
theorem sum_le {B:Nat}:∀ {ys:List Str},(∀ y∈ys,y.length≤B)→(ys.map (·.length)).sum≤ys.length * B
 | [],_=>by simp
 | y :: r,h=>by
  have h1:=h y List.mem_cons_self
  have h2:=sum_le (ys:=r) fun z hz=>h z (List.mem_cons_of_mem _ hz)
  rw [List.map_cons,List.sum_cons,List.length_cons,Nat.add_mul,Nat.one_mul]
  omega
mutual
def Ow.Own:Ow→Prop
 | .tr d=>(∃ i,d=.int i)∨∃ x,d=.str x
 | .ol _ l=>ownL l
 | .ot l=>ownL l
 | .od _ l=>(∃ ks:List Str,l.map (·.1)=ks.map Sum.inr∧ks.Nodup∧(∀ k∈ks,Nm k)∧ks.length≤8)∧ownK l
 | _=>False
def ownL:List Ow→Prop
 | []=>True
 | o :: r=>o.Own∧ownL r
def ownK:List (Key×Ow)→Prop
 | []=>True
 | o :: r=>o.2.Own∧ownK r
end
theorem own_snoc {o:Ow}:∀ {l:List Ow},ownL l→o.Own→ownL (l ++ [o])
 | [],_,h=>by simp only [List.nil_append,ownL]; exact ⟨h,trivial⟩
 | p :: l,h,ho=>by simp only [List.cons_append,ownL] at h ⊢; exact ⟨h.1,own_snoc h.2 ho⟩
theorem ownK_snoc {o:Key×Ow}:∀ {l:List (Key×Ow)},ownK l→o.2.Own→ownK (l ++ [o])
 | [],_,h=>by simp only [List.nil_append,ownK]; exact ⟨h,trivial⟩
 | p :: l,h,ho=>by simp only [List.cons_append,ownK] at h ⊢; exact ⟨h.1,ownK_snoc h.2 ho⟩
def NumsX (l:List Dx):Prop := ∃ xs:List Int,l=xs.map Dx.int∧∀ x∈xs,0≤x
def gCA (K:FG_):GC:=fun ds Q => ∃ (ns:List Int) (k:Int),ds=[.scr K ns,.int k]∧0≤k∧∀ c:Int,Q (.tr (.int c))
def gNU:GC:=fun ds Q => ∃ (c m:Int),ds=[.int c,.int m]∧0≤m∧m≤300∧∀ xs:List Int,(xs.length:Int)=m→(∀ x∈xs,0≤x∧x < 720720)→Q (.ol (xs.map Dx.int))
def gTK:GB:=fun l ds Q => ∃ many:Int,ds=[.int many]∧NumsX l∧0 < many∧∀ (r:Int) (l':List Dx),0≤r→r < many→NumsX l'→Q (.int r) l'
section
variable {P:Program} {w:World} {K:FG_} {mg:MG_} {base:Heap} {f:Addr} {fd:FuncData}
theorem okx_ca (F:Fun K "_law_cell_at" "_law_cell_at" en_ f fd) (m_len:mg "len" = none):FnOk P w K mg base CX0 1 f fd ["script", "k"] (spX (gCA K)):=by
 refine fn_x F sc_law_cell_at (fun ds Q h=>by obtain ⟨ns,k,rfl,_⟩:=h; rfl) (by decide) fun cdv A outer s H E hr => ?_
 have hu1:=bv_ hr
 have hu0:=Nat.lt_of_succ_lt hu1
 refine ⟨_,(ac_ (bf_ (ax_ op_lt ox_lt (ab_ (pv 1)) (au_ (ba_ K) cx_lenZ (by rfl) m_len PySem.boot_len (aa_ (ab_ (pv 0)) ad_)) (nomark _)) (af_ (ai_ (xe_ixZ K (ab_ (pv 0)) (ab_ (pv 1)) (fun _ _=>rfl)))) aj_)
  (af_ (ai_ ae_))),fun ds Q h => ?_⟩
 clear hu0 hu1
 obtain ⟨ns,k,rfl,h0,q⟩:=h
 refine ⟨rfl,?_⟩
 refine ite2 (fun c => ?_) (fun c=>q 0)
 have c':=of_decide_eq_true c
 obtain ⟨v,hv,_⟩:=atI_of (l:=ns) h0 c'
 refine ⟨rfl,?_⟩
 rw [hv]
 exact q v
theorem okx_nu (F:Fun K "_law_numbers" "_law_numbers" em_ f fd) (m_range:mg "range" = none):FnOk P w K mg base CX0 1 f fd ["cell", "many"] (spX gNU):=by
 refine fn_x F sc_law_numbers (fun ds Q h=>by obtain ⟨ns,k,rfl,_⟩:=h; rfl) (by decide) fun cdv A outer s H E hr => ?_
 have hu1:=bv_ hr
 have hu0:=Nat.lt_of_succ_lt hu1
 refine ⟨_,(ac_ (ap_ fun F=>aw_ (i:=2) sc_law_numbers.nd rfl (Or.inl rfl) (XE.at (Ex:=noEx) F (dj_ ad_)))
  (ac_ (ap_ fun F=>aw_ (i:=3) sc_law_numbers.nd rfl (Or.inl rfl) (XE.at (Ex:=noEx) F (ab_ (pv 0))))
  (ac_ (ap_ fun F=>aw_ (i:=4) sc_law_numbers.nd rfl (Or.inl rfl) (XE.at (Ex:=noEx) F (gc_ (ab_ (pv 0)) ae_)))
  (ac_ (gb_ PassesOwn.never rfl (co_ m_range (aa_ (ab_ (pv 1)) ad_)) (aq_ (i:=5) sc_law_numbers.nd rfl (Or.inl rfl)) (bl_ (n:=99) (i:=5) (by decide)) (af_ (bf_ (XW.pt (xw_and (ax_ op_ge ox_ge (ab_ (pv 0)) (xe_pow ae_ ae_) (nomark _)) (xw_and1 (ax_ op_gt ox_gt (ab_ (pv 3)) ae_ (nomark _))))) (ac_ (xs_of fun F=>PS.weak (ht_ (pe_bm PySem.F.plainAttrs_list PySem.F.slot_list_append PySem.F.type_list_append gj_ (pv 2) (ar_ (XE.at (Ex:=noEx) F (gc_ (ab_ (pv 3)) ae_)) bi_))) tApp_x)
  (af_ (ap_ fun F=>aw_ (i:=3) sc_law_numbers.nd rfl (Or.inl rfl) (XE.at (Ex:=noEx) F (xe_fdiv (ab_ (pv 3)) ae_))))) (ac_ (ap_ fun F=>aw_ (i:=4) sc_law_numbers.nd rfl (Or.inl rfl) (XE.at (Ex:=noEx) F (gc_ (eu_ (bj_ (bj_ (ab_ (pv 4)) (eu_ ae_ (ab_ (pv 5)))) ae_) ae_) ae_)))
  (ac_ (ap_ fun F=>aw_ (i:=6) sc_law_numbers.nd rfl (Or.inl rfl) (XE.at (Ex:=noEx) F (gc_ (eu_ (gc_ (eu_ (ab_ (pv 4)) (ab_ (pv 4))) ae_) ae_) ae_)))
  (af_ (xs_of fun F=>PS.weak (ht_ (pe_bm PySem.F.plainAttrs_list PySem.F.slot_list_append PySem.F.type_list_append gj_ (pv 2) (ar_ (XE.at (Ex:=noEx) F (gc_ (xe_fdiv (ab_ (pv 6)) ae_) ae_)) bi_))) tApp_x)))))))
  (af_ (ai_ (cp_ (pv 2)))))))),fun ds Q h => ?_⟩
 clear hu0 hu1
 obtain ⟨c,m,rfl,m0,m1,q⟩:=h
 have cp:CPow 10 18:=⟨by decide,by decide,by decide⟩
 refine ⟨Nat.zero_le _,?_⟩
 dsimp only
 refine ⟨by show (0:Int) < 2147483647; decide,?_⟩
 dsimp only
 change xSeq _ _ [.v (.tr (.int c)),.v (.tr (.int m)),.v (.ol []),.v (.tr (.int c)),.v (.tr (.int (c % 2147483647))),.un,.un] _
 refine go_ (fun ρ => ∃ (xs:List Int) (y3 y4 y5 y6:Sl),(xs.length:Int)=m∧(∀ x∈xs,0≤x∧x < 720720)∧ρ=[.v (.tr (.int c)),.v (.tr (.int m)),.v (.ol (xs.map Dx.int)),y3,y4,y5,y6]) ?_ (fun nx hnx => ?_)
 ·rintro ρ ⟨xs,y3,y4,y5,y6,hl,hx,rfl⟩
  exact q xs hl hx
 refine ⟨⟨by omega,by omega⟩,?_⟩
 refine db_ (fun k:Nat=>Dx.int (0 + (k:Int))) (fun rest ρ => ∃ (xs:List Int) (re st:Int) (y5 y6:Sl),((xs.length + rest.length:Nat):Int)=m∧(∀ x∈xs,0≤x∧x < 720720)∧(∀ k∈rest,k < 300)∧0≤st∧st < 2147483647∧ρ=[.v (.tr (.int c)),.v (.tr (.int m)),.v (.ol (xs.map Dx.int)),.v (.tr (.int re)),.v (.tr (.int st)),y5,y6]) (fun ρ h => ?_) (fun k rest ρ Kn h hk => ?_) ⟨[],c,c % 2147483647,.un,.un,by rw [List.length_range,List.length_nil]; omega,fun x hx=>absurd hx List.not_mem_nil,fun k hk=>by have:=List.mem_range.mp hk; omega,Int.emod_nonneg _ (by decide),Int.emod_lt_of_pos _ (by decide),rfl⟩
 ·obtain ⟨xs,re,st,y5,y6,hl,hx,_,_,_,rfl⟩:=h
  exact hnx _ ⟨xs,_,_,_,_,hl,hx,rfl⟩
 obtain ⟨xs,re,st,y5,y6,hl,hx,hr200,hs0,hs1,rfl⟩:=h
 have hk200:=hr200 k List.mem_cons_self
 have hx6:(xs.map Dx.int).length < 1000000:=by rw [List.length_map]; omega
 have fin:∀ (x re' st':Int) (y6:Sl),0≤x∧x < 720720→0≤st'→st' < 2147483647→Kn [.v (.tr (.int c)),.v (.tr (.int m)),.v (.ol (xs.map Dx.int ++ [.int x])),.v (.tr (.int re')),.v (.tr (.int st')),.v (.tr (.int (0 + (k:Int)))),y6]:=fun x re' st' y6 h0 h1 h2=>by
  refine hk _ ⟨xs ++ [x],re',st',_,_,by rw [List.length_append,List.length_singleton]; rw [List.length_cons] at hl; omega,fun z hz => ?_,fun k' hk'=>hr200 k' (List.mem_cons_of_mem _ hk'),h1,h2,by rw [List.map_append]; rfl⟩
  rcases List.mem_append.mp hz with hz | hz
  ·exact hx z hz
  ·rw [List.mem_singleton.mp hz]; exact h0
 refine go_ifE (decide ((10:Int) ^ 18≤c) && decide (0 < re)) (ρ':=[.v (.tr (.int c)),.v (.tr (.int m)),.v (.ol (xs.map Dx.int)),.v (.tr (.int re)),.v (.tr (.int st)),.v (.tr (.int (0 + (k:Int)))),y6]) (fun Q q => ?_) (fun _ => ?_) (fun _ => ?_)
 ·refine ⟨cp,?_⟩
  refine ite2 (fun h => ?_) (fun h => ?_)
  ·have h':decide ((10:Int) ^ 18≤c)=true:=h
   rw [h',Bool.true_and] at q
   exact q
  ·have h':decide ((10:Int) ^ 18≤c)=false:=Bool.not_eq_true _ ▸ h
   rw [h',Bool.false_and] at q
   exact q
 ·refine ⟨rfl,by show (0:Int) < 64; decide,?_⟩
  dsimp only
  refine ⟨hx6,?_⟩
  refine go_setL ⟨by show CDivB re 64; exact ⟨by decide,by decide⟩,?_⟩
  exact fin (re % 64) _ _ _ ⟨Int.emod_nonneg _ (by decide),by have:=Int.emod_lt_of_pos re (show (0:Int) < 64 by decide); omega⟩ hs0 hs1
 ·refine ⟨⟨by decide,by omega⟩,⟨by omega,by decide⟩,by show (0:Int) < 2147483647; decide,?_⟩
  dsimp only
  have a0:(0:Int)≤(st + 7 * (0 + (k:Int)) + 3) * 48271 % 2147483647:=Int.emod_nonneg _ (by decide)
  have a1:(st + 7 * (0 + (k:Int)) + 3) * 48271 % 2147483647 < 2147483647:=Int.emod_lt_of_pos _ (by decide)
  generalize (st + 7 * (0 + (k:Int)) + 3) * 48271 % 2147483647=S at a0 a1 ⊢
  have b0:(0:Int)≤S * S % 2147483629:=Int.emod_nonneg _ (by decide)
  have b1:S * S % 2147483629 < 2147483629:=Int.emod_lt_of_pos _ (by decide)
  refine ⟨⟨by omega,by omega⟩,by show (0:Int) < 2147483629; decide,⟨by show (S * S % 2147483629).natAbs < 2 ^ 250; omega,by decide⟩,by show (0:Int) < 2147483587; decide,?_⟩
  refine ⟨rfl,⟨by decide,by decide⟩,by show (0:Int) < 720720; decide,hx6,?_⟩
  exact fin _ _ _ _ ⟨Int.emod_nonneg _ (by decide),Int.emod_lt_of_pos _ (by decide)⟩ a0 a1
theorem okx_tk (F:Fun K "_law_take" "_law_take" ei_ f fd):FnOk P w K mg base CX0 1 f fd ["deck", "many"] (spB gTK):=by
 refine fn_b F sc_law_take (fun l ds Q h=>by obtain ⟨m,rfl,_⟩:=h; rfl) (by decide) fun cdv A outer s H E hr => ?_
 have hu0:=Nat.lt_of_succ_lt (bv_ hr)
 refine ⟨_,(ac_ (bf_ (xt_pkEq K hu0 (pv 0) (dj_ ad_) (nomark _)) (af_ (ai_ ae_)) aj_)
  (af_ (ai_ (gc_ (fun F=>PE.weak (pe_bm0 PySem.F.plainAttrs_list PySem.F.slot_list_pop PySem.F.type_list_pop mt_pop (pv 0)) tPop_x) (ab_ (pv 1)))))),fun l ds Q h => ?_⟩
 obtain ⟨many,rfl,⟨xs,rfl,hx⟩,h2,q⟩:=h
 by_cases e:xs=[]
 ·subst e
  exact ⟨rfl,Nat.zero_le _,q 0 [] (by decide) h2 ⟨[],rfl,hx⟩⟩
 ·have hemp:(xs.map Dx.int).isEmpty=false:=by cases xs <;> first | rfl | exact absurd rfl e
  refine di_ (ρ':=[.bw (xs.map Dx.int),.v (.tr (.int many))]) (fun Q q => ?_) ?_
  ·refine ⟨rfl,Nat.zero_le _,?_⟩
   show Q (xs.map Dx.int).isEmpty _
   rw [hemp]
   exact q
  ·show match (xs.map Dx.int).getLast? with | some d=>_ | none=>False
   rw [List.getLast?_map,List.getLast?_eq_getLast e]
   refine ⟨h2,q _ _ (Int.emod_nonneg _ (by omega)) (Int.emod_lt_of_pos _ h2) ⟨xs.dropLast,by rw [List.map_dropLast],fun x hm=>hx x ((List.dropLast_sublist xs).subset hm)⟩⟩
theorem okx_dk (F:Fun K "_law_deck" "_law_deck" gq_ f fd) (CNU:Cal P w K mg base 1 "_law_numbers" ["cell", "many"] (spX gNU)):FnOk P w K mg base CX0 2 f fd ["cell", "many"] (spX gNU):=by
 refine fn_x F sc_law_deck (fun ds Q h=>by obtain ⟨ns,k,rfl,_⟩:=h; rfl) (by decide) fun cdv A outer s H E hr => ?_
 have hu1:=bv_ hr
 have hu0:=Nat.lt_of_succ_lt hu1
 refine ⟨_,(af_ (ai_ (xe_revL (al_ CNU (hr.mono (by omega)) (aa_ (ab_ (pv 0)) (aa_ (ab_ (pv 1)) ad_)))))),fun ds Q h => ?_⟩
 clear hu0 hu1
 obtain ⟨c,m,rfl,m0,m1,q⟩:=h
 refine ⟨c,m,rfl,m0,m1,fun xs hl hx => ?_⟩
 show Q (.ol (xs.map Dx.int).reverse)
 rw [← List.map_reverse]
 exact q xs.reverse (by rw [List.length_reverse]; exact hl) (fun x hm=>hx x (List.mem_reverse.mp hm))
end
abbrev n1S:Str := "abcdefgh"
abbrev n2S:Str := "nmlkjiop"
abbrev n3S:Str := "qrstuvwx"
def tabS (al:Int):Str:=if al=1 then n1S else if al=2 then n2S else n3S
def tabN (al k:Int):Nat:=((codes (tabS al))[k.toNat]?).getD 0
theorem tab_at:∀ (a:Fin 3) (k:Fin 8),(codes (tabS (a.val + 1:Nat)))[k.val]? = some (tabN (a.val + 1:Nat) (k.val:Nat))∧97≤tabN (a.val + 1:Nat) (k.val:Nat)∧tabN (a.val + 1:Nat) (k.val:Nat)≤122:=by decide +kernel
theorem tab_inj:∀ (a:Fin 3) (k l:Fin 8),tabN (a.val + 1:Nat) (k.val:Nat)=tabN (a.val + 1:Nat) (l.val:Nat)→k=l:=by decide +kernel
def NmK (al k:Int) (x:Str):Prop:=if al=0 then codes x=List.replicate (k.toNat + 1) 97 else (codes x).head? = some (tabN al k)
theorem nmK_inj {al k l:Int} {x:Str} (ha:0≤al) (ha3:al < 4) (hk:0≤k) (hk8:k < 8) (hl:0≤l) (hl8:l < 8) (h:NmK al k x) (h':NmK al l x):k=l:=by
 unfold NmK at h h'
 by_cases e:al=0
 ·rw [if_pos e] at h h'
  have:=congrArg List.length (h.symm.trans h')
  rw [List.length_replicate,List.length_replicate] at this
  omega
 ·rw [if_neg e] at h h'
  have e2:=Option.some.inj (h.symm.trans h')
  have:=tab_inj ⟨(al - 1).toNat,by omega⟩ ⟨k.toNat,by omega⟩ ⟨l.toNat,by omega⟩ (by
   show tabN (((al - 1).toNat + 1:Nat):Int) (k.toNat:Nat)=tabN (((al - 1).toNat + 1:Nat):Int) (l.toNat:Nat)
   rw [show (((al - 1).toNat + 1:Nat):Int)=al from by omega,show ((k.toNat:Nat):Int)=k from by omega,show ((l.toNat:Nat):Int)=l from by omega]
   exact e2)
  have:=congrArg Fin.val this
  dsimp only at this
  omega
theorem abc_at {r:Int} (h0:0≤r) (h1:r < 7):∃ c,atI (Str.ofString "abcxyzn").cps.toList r=some c∧97≤c∧c≤122:=by
 have h:∀ i:Fin 7,∃ c,((Str.ofString "abcxyzn").cps.toList)[i.val]? = some c∧97≤c∧c≤122:=fun i=>by
  have:∀ i:Fin 7,(match ((Str.ofString "abcxyzn").cps.toList)[i.val]? with | some c=>decide (97≤c∧c≤122) | none=>false)=true:=by decide +kernel
  have:=this i
  split at this
  ·rename_i c e; exact ⟨c,e,of_decide_eq_true this⟩
  ·cases this
 obtain ⟨c,h2,h3⟩:=h ⟨r.toNat,by omega⟩
 have q:=ck_ h2
 have e:((r.toNat:Nat):Int)=r:=by omega
 exact ⟨c,by rw [← e]; exact q,h3⟩
theorem three_inX {v:Dx} {a b c:Int} (h:v∈[Dx.int a,Dx.int b,Dx.int c]):∃ z,v=.int z∧(z=a∨z=b∨z=c):=by
 simp only [List.mem_cons,List.not_mem_nil,or_false] at h
 rcases h with rfl | rfl | rfl
 ·exact ⟨_,rfl,.inl rfl⟩
 ·exact ⟨_,rfl,.inr (.inl rfl)⟩
 ·exact ⟨_,rfl,.inr (.inr rfl)⟩
theorem tabS_at {al:Int} (h0:0 < al) (h1:al < 4):atI [Dx.str "abcdefgh",Dx.str "nmlkjiop",Dx.str "qrstuvwx"] (al - 1)=some (.str (tabS al)):=by
 have:al=1∨al=2∨al=3:=by omega
 rcases this with rfl | rfl | rfl
 ·exact ck_ (j:=0) rfl
 ·exact ck_ (j:=1) rfl
 ·exact ck_ (j:=2) rfl
theorem tabN_at {al k:Int} (h0:0 < al) (h1:al < 4) (k0:0≤k) (k1:k < 8):atI (tabS al).cps.toList k=some (tabN al k)∧97≤tabN al k∧tabN al k≤122:=by
 obtain ⟨e,h⟩:=tab_at ⟨(al - 1).toNat,by omega⟩ ⟨k.toNat,by omega⟩
 dsimp only at e h
 rw [show (((al - 1).toNat + 1:Nat):Int)=al from by omega,show ((k.toNat:Nat):Int)=k from by omega] at e h
 refine ⟨?_,h⟩
 have q:=ck_ e
 rw [show ((k.toNat:Nat):Int)=k from by omega] at q
 exact q
theorem tabS_len (al:Int):(tabS al).length≤1000000:=by
 unfold tabS
 split
 ·decide
 ·split <;> decide
def gNM4:GB:=fun l ds Q => ∃ k al:Int,ds=[.int k,.int al]∧NumsX l∧0≤k∧k < 8∧0≤al∧al < 4∧∀ (x:Str) (l':List Dx),Nm x→NmK al k x→NumsX l'→Q (.str x) l'
section
variable {P:Program} {w:World} {K:FG_} {mg:MG_} {base:Heap} {f:Addr} {fd:FuncData} {n j:Nat}
theorem okx_nm4 (F:Fun K "_law_name" "_law_name" ff_ f fd) (CTK:Cal P w K mg base 1 "_law_take" ["deck", "many"] (spB gTK)) (m_range:mg "range" = none):FnOk P w K mg base CX0 2 f fd ["deck", "k", "alike"] (spB gNM4):=by
 refine fn_b F sc_law_name (fun l ds Q h=>by obtain ⟨k,al,rfl,_⟩:=h; rfl) (by decide) fun cdv A outer s H E hr => ?_
 have hu1:=bv_ hr
 have hu0:=Nat.lt_of_succ_lt hu1
 refine ⟨_,(ac_ (bf_ (ax_ (br_ K hu0) dd_ (ab_ (pv 2)) ae_ (nomark _)) (af_ (ai_ (xe_slice K ay_ xo_none (xo_some (bj_ (ab_ (pv 1)) ae_))))) aj_)
  (ac_ (ap_ fun F=>aw_ (i:=3) sc_law_name.nd rfl (Or.inl rfl) (XE.at (Ex:=noEx) F (an_ K (an_ K (dj_ (aa_ ay_ (aa_ ay_ (aa_ ay_ ad_)))) (xe_sub (ab_ (pv 2)) ae_) (fun _ _=>rfl)) (ab_ (pv 1)) (fun _ _=>rfl))))
  (ac_ (gb_ PassesOwn.never rfl (co_ m_range (aa_ (bc_ (i:=0) CTK (hr.mono (by omega)) (pv 0) (aa_ (an_ K (dj_ (aa_ ae_ (aa_ ae_ (aa_ ae_ ad_)))) (bc_ (i:=0) CTK (hr.mono (by omega)) (pv 0) (aa_ ae_ ad_)) (fun _ _=>rfl)) ad_)) ad_)) (aq_ (i:=4) sc_law_name.nd rfl (Or.inl rfl)) (bl_ (n:=99) (i:=4) (by decide)) (af_ (ap_ fun F=>aw_ (i:=3) sc_law_name.nd rfl (Or.inl rfl) (XE.at (Ex:=noEx) F (bj_ (ab_ (pv 3)) (an_ K ay_ (bc_ (i:=0) CTK (hr.mono (by omega)) (pv 0) (aa_ ae_ ad_)) (fun _ _=>rfl)))))))
  (af_ (ai_ (cp_ (pv 3))))))),fun l ds Q h => ?_⟩
 clear hu0 hu1
 obtain ⟨k,al,rfl,hl,k0,k8,a0,a4,q⟩:=h
 refine go_ifB (decide (al=0)) (ρ':=[.bw l,.v (.tr (.int k)),.v (.tr (.int al)),.un,.un]) (fun Q q=>q) (fun hb => ?_) (fun hb => ?_)
 ·have ha:=of_decide_eq_true hb
  refine ⟨(by decide),?_⟩
  have ec:codes (Txt.slice "aaaaaaaa" none (some (k + 1)))=List.replicate (k.toNat + 1) 97:=by
   rw [codes_to (by omega) (by rw [show (codes "aaaaaaaa").length=8 from by decide]; omega),show codes "aaaaaaaa" = List.replicate 8 97 from by decide,List.take_replicate]
   congr 1
   omega
  refine q _ l ⟨by rw [ec,List.length_replicate]; omega,by rw [ec,List.length_replicate]; omega,fun c hc => ?_⟩ (by unfold NmK; rw [if_pos ha]; exact ec) hl
  rw [ec] at hc
  have:=(List.mem_replicate.mp hc).2
  omega
 ·have ha:al≠0:=fun e=>by rw [e] at hb; cases hb
  obtain ⟨e2,c0,c1⟩:=tabN_at (al:=al) (k:=k) (by omega) a4 k0 k8
  refine ⟨(by show 3≤1000000; decide),?_⟩
  show match atI [Dx.str "abcdefgh",Dx.str "nmlkjiop",Dx.str "qrstuvwx"] (al - 1) with | some d=>_ | none=>False
  rw [tabS_at (by omega) a4]
  refine ⟨tabS_len al,?_⟩
  show match atI (tabS al).cps.toList k with | some c=>_ | none=>False
  rw [e2]
  dsimp only
  change xSeq _ _ [.bw l,.v (.tr (.int k)),.v (.tr (.int al)),.v (.tr (.str ⟨#[tabN al k]⟩)),.un] _
  refine go_ (fun ρ => ∃ (x:Str) (l':List Dx) (y:Sl),Nm x∧NmK al k x∧NumsX l'∧ρ=[.bw l',.v (.tr (.int k)),.v (.tr (.int al)),.v (.tr (.str x)),y]) ?_ (fun nx hnx => ?_)
  ·rintro ρ ⟨x,l',y,h1,h2,h3,rfl⟩
   exact q x l' h1 h2 h3
  refine ⟨rfl,(by show 3≤1000000; decide),rfl,3,rfl,hl,by decide,fun r l1 r0 r1 hl1 => ?_⟩
  refine ha_ r0 r1 fun v hv => ?_
  obtain ⟨z,rfl,hz⟩:=three_inX hv
  refine ⟨z,rfl,hl1,by omega,fun m l2 m0 m1 hl2 => ?_⟩
  refine ⟨⟨by omega,by omega⟩,?_⟩
  have hne:¬ al=0:=ha
  refine db_ (fun i:Nat=>Dx.int (0 + (i:Int))) (fun rest ρ => ∃ (x:Str) (l':List Dx) (y:Sl),1≤(codes x).length∧(codes x).length + rest.length≤8∧Low (codes x)∧(codes x).head? = some (tabN al k)∧NumsX l'∧ρ=[.bw l',.v (.tr (.int k)),.v (.tr (.int al)),.v (.tr (.str x)),y]) (fun ρ h => ?_) (fun i rest ρ Kn h hk => ?_) ⟨⟨#[tabN al k]⟩,l2,.un,(by decide:1≤1),by rw [List.length_range]; show 1 + _≤8; omega,fun c hc=>by rw [List.mem_singleton.mp (show c∈[tabN al k] from hc)]; exact ⟨c0,c1⟩,rfl,hl2,rfl⟩
  ·obtain ⟨x,l',y,h1,h2,h3,h4,h5,rfl⟩:=h
   rw [List.length_nil] at h2
   exact hnx _ ⟨x,l',y,⟨h1,by omega,h3⟩,by unfold NmK; rw [if_neg hne]; exact h4,h5,rfl⟩
  ·obtain ⟨x,l',y,h1,h2,h3,h4,h5,rfl⟩:=h
   rw [List.length_cons] at h2
   refine ⟨rfl,7,rfl,h5,by decide,fun r l3 r0 r1 hl3 => ?_⟩
   obtain ⟨c,hc,hc0,hc1⟩:=abc_at r0 r1
   refine ⟨(by decide),?_⟩
   show match atI (Str.ofString "abcxyzn").cps.toList r with | some c=>_ | none=>False
   rw [hc]
   refine ⟨by show x.length + 1≤1000000; rw [ao_]; omega,hk _ ⟨x ++ ⟨#[c]⟩,l3,_,?_,?_,?_,?_,hl3,rfl⟩⟩
   ·rw [bo_,List.length_append]; omega
   ·rw [bo_,List.length_append]; show _ + 1 + _≤8; omega
   ·intro b hb
    rw [bo_] at hb
    rcases List.mem_append.mp hb with hb | hb
    ·exact h3 b hb
    ·rw [List.mem_singleton.mp (show b∈[c] from hb)]; exact ⟨hc0,hc1⟩
   ·rw [bo_]
    cases hx:codes x with
    | nil=>rw [hx] at h1; exact absurd h1 (by decide)
    | cons b r=>rw [hx] at h4; exact h4
end
def gKN (n:Nat):GB:=fun l ds Q => ∃ d:Int,ds=[.int d]∧NumsX l∧1≤d∧d≤n∧n≤5∧∀ (kd:Kd) (l':List Dx),kd.Fit→(kd.deep:Int)≤d→NumsX l'→Q kd.x l'
theorem fourX {v:Dx} (h:v∈[Dx.int 1,Dx.int 2,Dx.int 4,Dx.int 8]):∃ z,v=.int z∧(z=1∨z=2∨z=4∨z=8):=by
 simp only [List.mem_cons,List.not_mem_nil,or_false] at h
 rcases h with rfl | rfl | rfl | rfl
 ·exact ⟨_,rfl,by omega⟩
 ·exact ⟨_,rfl,by omega⟩
 ·exact ⟨_,rfl,by omega⟩
 ·exact ⟨_,rfl,by omega⟩
theorem eightX {v:Dx} (h:v∈[Dx.int 1,Dx.int 2,Dx.int 4,Dx.int 8,Dx.int 3,Dx.int 5,Dx.int 6,Dx.int 7]):∃ z,v=.int z∧1≤z∧z≤8:=by
 simp only [List.mem_cons,List.not_mem_nil,or_false] at h
 rcases h with rfl | rfl | rfl | rfl | rfl | rfl | rfl | rfl <;> exact ⟨_,rfl,by decide,by decide⟩
def mx (way:Int):Int:=if 5 < way then 6 else 8
theorem mx_at (way:Int):atI [Dx.int 8,Dx.int 6] (if decide (5 < way)=true then 1 else 0)=some (.int (mx way)):=by
 unfold mx
 by_cases h:5 < way
 ·rw [if_pos (decide_eq_true h),if_pos h]; exact ck_ (j:=1) rfl
 ·rw [if_neg (by rw [decide_eq_true_eq]; exact h),if_neg h]; exact ck_ (j:=0) rfl
theorem fit_at:∀ {ks:List Kd} {i:Nat} {k:Kd},fitK ks→ks[i]? = some k→k.Fit∧k.deep≤deepK ks
 | [],_,_,_,e=>by simp at e
 | k' :: r,0,k,h,e=>by simp at e; subst e; exact ⟨h.1,Nat.le_max_left _ _⟩
 | k' :: r,i + 1,k,h,e=>by obtain ⟨a,b⟩:=fit_at (i:=i) h.2 (by simpa using e); exact ⟨a,Nat.le_trans b (Nat.le_max_right _ _)⟩
theorem range_drop {N i k:Nat} {r:List Nat} (h:k :: r=(List.range N).drop i):k=i∧r=(List.range N).drop (i + 1)∧i < N:=by
 have e:(k :: r)[0]? = ((List.range N).drop i)[0]? := by rw [h]
 rw [List.getElem?_drop,List.getElem?_cons_zero] at e
 have hi:i < N:=by
  have:=(List.getElem?_eq_some_iff.mp e.symm).1
  rw [List.length_range] at this
  omega
 rw [Nat.add_zero,List.getElem?_range hi] at e
 refine ⟨Option.some.inj e,?_,hi⟩
 have e2:=congrArg List.tail h
 rw [List.tail_drop] at e2
 exact e2
theorem bxss {X:Cx} {Ex:ExT} {l:List Stmt} {G:XS} (h:Bx (XSs X Ex l G)):XSs X Ex l G:=h.out
section
variable {P:Program} {w:World} {K:FG_} {mg:MG_} {base:Heap} {f:Addr} {fd:FuncData} {n j:Nat}
theorem okx_kn (F:Fun K "_law_kind" "_law_kind" dp_ f fd) (CTK:Cal P w K mg base 1 "_law_take" ["deck", "many"] (spB gTK)) (CNM:Cal P w K mg base 2 "_law_name" ["deck", "k", "alike"] (spB gNM4)) (CKN:Cal P w K mg base (j + 2) "_law_kind" ["deck", "depth"] (spB (gKN n))) (m_range:mg "range" = none) (m_int:mg "int" = none):FnOk P w K mg base CX0 (j + 3) f fd ["deck", "depth"] (spB (gKN (n + 1))):=by
 refine fn_b F sc_law_kind (fun l ds Q h=>by obtain ⟨d,rfl,_⟩:=h; rfl) (by decide) fun cdv A outer s H E hr => ?_
 have hu1:=bv_ hr
 have hu0:=Nat.lt_of_succ_lt hu1
 refine ⟨_,(bxss (er_ (Bx.mk (ap_ fun F=>aw_ (i:=2) sc_law_kind.nd rfl (Or.inl rfl) (XE.at (Ex:=noEx) F (bc_ (i:=0) CTK (hr.mono (by omega)) (pv 0) (aa_ ae_ ad_)))))
  (er_ (bs_if (Bx.mk (XW.pt (fp_ (ax_ op_lt ox_lt (ab_ (pv 1)) ae_ (nomark _)) (dv_ (ax_ op_lt ox_lt (ab_ (pv 2)) ae_ (nomark _)))))) (bss_one (bs_ret (be_tup (cc_ be_str (cc_ (be_ix K (be_lst (cc_ ec_ (cc_ ec_ (cc_ ec_ (cc_ ec_ (cc_ ec_ (cc_ ec_ (cc_ ec_ (cc_ ec_ ba_nil))))))))) (be_callP (i:=0) CTK (hr.mono (by omega)) (pv 0) (cc_ ec_ ba_nil)) (fun _ _=>rfl)) (cc_ (be_ix K (be_lst (cc_ ec_ (cc_ ec_ (cc_ ec_ (cc_ ec_ ba_nil))))) (be_callP (i:=0) CTK (hr.mono (by omega)) (pv 0) (cc_ ec_ ba_nil)) (fun _ _=>rfl)) ba_nil)))))) bss_nil)
  (er_ (Bx.mk (bf_ (ax_ (br_ K hu0) dd_ (ab_ (pv 2)) ae_ (nomark _)) (bxss (bss_one (Bx.mk (ai_ (dw_ (aa_ ay_ (aa_ (bc_ (i:=0) CKN (hr.mono (by omega)) (pv 0) (aa_ (xe_sub (ab_ (pv 1)) ae_) ad_)) (aa_ (bj_ ae_ (bc_ (i:=0) CTK (hr.mono (by omega)) (pv 0) (aa_ (an_ K (dj_ (aa_ ae_ (aa_ ae_ (aa_ ae_ ad_)))) (bc_ (i:=0) CTK (hr.mono (by omega)) (pv 0) (aa_ ae_ ad_)) (fun _ _=>rfl)) ad_))) ad_)))))))) aj_))
  (er_ (Bx.mk (ap_ fun F=>aw_ (i:=3) sc_law_kind.nd rfl (Or.inl rfl) (XE.at (Ex:=noEx) F (bj_ ae_ (bc_ (i:=0) CTK (hr.mono (by omega)) (pv 0) (aa_ (an_ K (dj_ (aa_ ae_ (aa_ ae_ (aa_ ae_ (aa_ (an_ K (dj_ (aa_ ae_ (aa_ ae_ ad_))) (ds_ call_int1 cx_int (by rfl) m_int bt_int (aa_ (fr_ op_gt ox_gt (ab_ (pv 2)) ae_ (nomark _)) ad_)) (fun _ _=>rfl)) ad_))))) (bc_ (i:=0) CTK (hr.mono (by omega)) (pv 0) (aa_ ae_ ad_)) (fun _ _=>rfl)) ad_))))))
  (er_ (Bx.mk (ap_ fun F=>aw_ (i:=4) sc_law_kind.nd rfl (Or.inr rfl) (XE.at (Ex:=noEx) F (bc_ (i:=0) CTK (hr.mono (by omega)) (pv 0) (aa_ ae_ ad_)))))
  (er_ (Bx.mk (ap_ fun F=>aw_ (i:=5) sc_law_kind.nd rfl (Or.inr rfl) (XE.at (Ex:=noEx) F (cj_ (dsc:=defScope dp_) (N:=["deck", "depth", "way", "many", "alike", "parts"]) (tgs:=["k"]) (outs:=[0,1]) (N':=["k", "deck", "depth"]) (by refine ⟨rfl,?_,?_,?_,rfl,?_,?_,?_⟩ <;> decide +kernel) (co_ m_range (aa_ (ab_ (pv 3)) ad_)) (fun _ _ _ _ _=>(aq_ (i:=0) (show (["k", "deck", "depth"]:List Str).Nodup by decide +kernel) rfl (Or.inl rfl) (.inr rfl))) (bl_ (n:=1) (i:=0) (by decide)) (bk_ (by decide)) (fun _ _ _ _ _=>by_) (fun _ _ _ _ _=>(bc_ (i:=1) CKN (hr.mono (by omega)) (pv 1) (aa_ (xe_sub (ab_ (pv 2)) ae_) ad_)))))))
  (er_ (Bx.mk (bf_ (ax_ op_gt ox_gt (ab_ (pv 2)) ae_ (nomark _)) (bxss (bss_one (Bx.mk (ai_ (dw_ (aa_ ay_ (aa_ (ab_ (pv 5)) ad_))))))) aj_))
  (bss_one (Bx.mk (ai_ (dw_ (aa_ ay_ (aa_ (cj_ (dsc:=defScope dp_) (N:=["deck", "depth", "way", "many", "alike", "parts"]) (tgs:=["k"]) (outs:=[0,4,5]) (N':=["k", "deck", "alike", "parts"]) (by refine ⟨rfl,?_,?_,?_,rfl,?_,?_,?_⟩ <;> decide +kernel) (co_ m_range (aa_ (ab_ (pv 3)) ad_)) (fun _ _ _ _ _=>(aq_ (i:=0) (show (["k", "deck", "alike", "parts"]:List Str).Nodup by decide +kernel) rfl (Or.inl rfl) (.inr rfl))) (bl_ (n:=1) (i:=0) (by decide)) (bk_ (by decide)) (fun _ _ _ _ _=>by_) (fun _ _ _ _ _=>(dw_ (aa_ (bc_ (i:=1) CNM (hr.mono (by omega)) (pv 1) (aa_ (ab_ (pv 0)) (aa_ (ab_ (pv 2)) ad_))) (aa_ (an_ K (ab_ (pv 3)) (ab_ (pv 0)) (fun _ _=>rfl)) ad_))))) ad_)))))))))))))),fun l ds Q h => ?_⟩
 clear hu0 hu1
 obtain ⟨d,rfl,hl,d1,dn,n5,q⟩:=h
 refine ⟨rfl,8,rfl,hl,by decide,fun way l1 w0 w1 hl1 => ?_⟩
 dsimp only
 change xSeq _ _ [.bw l1,.v (.tr (.int d)),.v (.tr (.int way)),.un,.un,.un] _
 refine go_ifB (decide (d < 2) || decide (way < 3)) (ρ':=[.bw l1,.v (.tr (.int d)),.v (.tr (.int way)),.un,.un,.un]) (fun Q q => ?_) (fun hb => ?_) (fun hb => ?_)
 ·refine ite2 (fun h => ?_) (fun h => ?_)
  ·have h':decide (d < 2)=true:=h
   rw [h',Bool.true_or] at q
   exact q
  ·have h':decide (d < 2)=false:=Bool.not_eq_true _ ▸ h
   rw [h',Bool.false_or] at q
   exact q
 ·refine ⟨(by show 8≤1000000; decide),rfl,8,rfl,hl1,by decide,fun r l2 r0 r1 hl2 => ?_⟩
  refine ha_ r0 r1 fun v hv => ?_
  obtain ⟨x,rfl,x0,x1⟩:=eightX hv
  refine ⟨(by show 4≤1000000; decide),rfl,4,rfl,hl2,by decide,fun r l3 r0 r1 hl3 => ?_⟩
  refine ha_ r0 r1 fun v hv => ?_
  obtain ⟨m,rfl,hm⟩:=fourX hv
  exact ⟨(by show 3≤1000000; decide),q (.num x m) l3 ⟨x0,x1,hm⟩ (by show ((1:Nat):Int)≤d; omega) hl3⟩
 have hd2:2≤d:=by
  rw [Bool.or_eq_false_iff] at hb
  have:=of_decide_eq_false hb.1
  omega
 refine go_ifB (decide (way=3)) (ρ':=[.bw l1,.v (.tr (.int d)),.v (.tr (.int way)),.un,.un,.un]) (fun Q q=>q) (fun hb => ?_) (fun hb3 => ?_)
 ·refine ⟨rfl,d - 1,rfl,hl1,by omega,by omega,by omega,fun kd l2 hF hdp hl2 => ?_⟩
  refine ⟨rfl,(by show 3≤1000000; decide),rfl,3,rfl,hl2,by decide,fun r l3 r0 r1 hl3 => ?_⟩
  refine ha_ r0 r1 fun v hv => ?_
  obtain ⟨z,rfl,hz⟩:=three_inX hv
  refine ⟨z,rfl,hl3,by omega,fun m l4 m0 m1 hl4 => ?_⟩
  refine ⟨(by show 3≤1000000; decide),q (.row kd (1 + m)) l4 ⟨hF,by omega,by omega⟩ ?_ hl4⟩
  show ((kd.deep + 1:Nat):Int)≤d
  omega
 refine ⟨rfl,len2,?_⟩
 show match atI [Dx.int 8,Dx.int 6] (if decide (5 < way)=true then 1 else 0) with | some d=>_ | none=>False
 rw [mx_at]
 refine ⟨(by show 4≤1000000; decide),rfl,4,rfl,hl1,by decide,fun r l2 r0 r1 hl2 => ?_⟩
 have hmx:mx way=6∨mx way=8:=by unfold mx; split <;> omega
 refine ha_ r0 r1 fun v hv => ?_
 have hvz:∃ z,v=.int z∧0 < z∧z≤mx way:=by
  have hv':v∈[Dx.int 3,Dx.int 3,Dx.int 3,Dx.int (mx way)]:=hv
  simp only [List.mem_cons,List.not_mem_nil,or_false] at hv'
  rcases hv' with rfl | rfl | rfl | rfl
  ·exact ⟨_,rfl,by decide,by omega⟩
  ·exact ⟨_,rfl,by decide,by omega⟩
  ·exact ⟨_,rfl,by decide,by omega⟩
  ·exact ⟨_,rfl,by omega,by omega⟩
 obtain ⟨z,rfl,z0,z1⟩:=hvz
 refine ⟨z,rfl,hl2,z0,fun m l3 m0 m1 hl3 => ?_⟩
 refine ⟨rfl,4,rfl,hl3,by decide,fun al l4 a0 a1 hl4 => ?_⟩
 dsimp only
 change xSeq _ _ [.bw l4,.v (.tr (.int d)),.v (.tr (.int way)),.v (.tr (.int (1 + m))),.v (.tr (.int al)),.un] _
 have hdd:d - 1=((d - 1).toNat:Int):=by omega
 refine ⟨⟨by omega,by omega⟩,by show ((List.range _).map _).length≤_; rw [List.length_map,List.length_range]; omega,?_⟩
 refine cu_ (fun k:Nat=>Dx.int (0 + (k:Int))) (fun rest acc cs => ∃ (ks:List Kd) (l':List Dx),ks.length + rest.length=(1 + m).toNat∧acc=xK ks∧cs=[.bw l',.v (.tr (.int d))]∧fitK ks∧deepK ks≤(d - 1).toNat∧NumsX l') (fun acc cs h => ?_) (fun nm rest acc cs Pn h hk => ?_) ⟨[],l4,by rw [List.length_range]; simp,rfl,rfl,trivial,Nat.zero_le _,hl4⟩
 rotate_left
 ·obtain ⟨ks,l',e1,rfl,rfl,hF,hdp,hP6⟩:=h
  rw [List.length_cons] at e1
  exact ⟨rfl,d - 1,rfl,hP6,by omega,by omega,by omega,fun kd l6 hF6 hdp6 hP7=>hk _ _ ⟨ks ++ [kd],l6,by rw [List.length_append]; show ks.length + 1 + _=_; omega,by rw [xK_snoc]; rfl,rfl,fitK_snoc hF hF6,deepK_snoc hdp (by omega),hP7⟩⟩
 obtain ⟨ks,l',e1,rfl,rfl,hF,hdp,hP6⟩:=h
 rw [List.length_nil] at e1
 dsimp only
 change xSeq _ _ [.bw l',.v (.tr (.int d)),.v (.tr (.int way)),.v (.tr (.int (1 + m))),.v (.tr (.int al)),.v (.ol (xK ks))] _
 refine go_ifB (decide (5 < way)) (ρ':=[.bw l',.v (.tr (.int d)),.v (.tr (.int way)),.v (.tr (.int (1 + m))),.v (.tr (.int al)),.v (.ol (xK ks))]) (fun Q q=>q) (fun hb => ?_) (fun hb => ?_)
 ·have h5:=of_decide_eq_true hb
  have hm6:mx way=6:=by unfold mx; rw [if_pos h5]
  refine ⟨len2,q (.cho ks) l' ⟨hF,by omega,by omega⟩ ?_ hP6⟩
  show ((deepK ks + 1:Nat):Int)≤d
  omega
 refine ⟨⟨by omega,by omega⟩,by show ((List.range _).map _).length≤_; rw [List.length_map,List.length_range]; omega,?_⟩
 refine cu_ (fun k:Nat=>Dx.int (0 + (k:Int))) (fun rest acc cs => ∃ (fs:List (Str×Kd)) (l':List Dx) (sv:Sv),rest=(List.range (1 + m).toNat).drop fs.length∧fs.map (·.2)=ks.take fs.length∧fs.length≤ks.length∧acc=xF fs∧sv.d=.lst (xK ks)∧cs=[.bw l',.v (.tr (.int al)),.v sv]∧fitF fs∧deepF fs≤(d - 1).toNat∧(fs.map (·.1)).Nodup∧(∀ x∈fs.map (·.1),∃ i:Nat,i < fs.length∧NmK al i x)∧NumsX l') (fun acc cs h => ?_) (fun k rest acc cs Pn h hk => ?_) ⟨[],l',.ol (xK ks),rfl,rfl,Nat.zero_le _,rfl,rfl,rfl,trivial,Nat.zero_le _,List.nodup_nil,fun x hx=>absurd hx List.not_mem_nil,hP6⟩
 ·obtain ⟨fs,l',sv,e2,e3,e4,rfl,e5,rfl,hF2,hdp2,hnd,hnm,hP7⟩:=h
  have hfl:(1 + m).toNat≤fs.length:=by
   have:=congrArg List.length e2
   rw [List.length_nil,List.length_drop,List.length_range] at this
   omega
  refine ⟨len2,q (.rcd fs) l' ⟨hF2,by omega,by omega,hnd⟩ ?_ hP7⟩
  show ((deepF fs + 1:Nat):Int)≤d
  omega
 ·obtain ⟨fs,l',sv,e2,e3,e4,rfl,e5,rfl,hF2,hdp2,hnd,hnm,hP7⟩:=h
  obtain ⟨rfl,e2b,hlt⟩:=range_drop e2
  obtain ⟨kd,hkd⟩ : ∃ kd,ks[fs.length]? = some kd:=⟨_,List.getElem?_eq_getElem (by omega)⟩
  obtain ⟨hFk,hdk⟩:=fit_at hF hkd
  refine ⟨rfl,0 + (fs.length:Int),al,rfl,hP7,by omega,by omega,a0,a1,fun x l6 hx hxk hl6 => ?_⟩
  have hix:atI (xK ks) (0 + (fs.length:Int))=some kd.x:=by
   rw [Int.zero_add]
   exact ck_ (by rw [es_,List.getElem?_map,hkd]; rfl)
  dsimp only
  refine go_cons (go_op (to_tr (s:=sv) rfl e5 ?_))
  show match atI (xK ks) (0 + (fs.length:Int)) with | some d=>_ | none=>False
  rw [hix]
  rw [Int.zero_add] at hxk
  refine ⟨len2,hk _ _ ⟨fs ++ [(x,kd)],l6,.tr (.lst (xK ks)),by rw [List.length_append]; exact e2b,?_,by rw [List.length_append]; show fs.length + 1≤_; omega,by rw [xF_snoc]; rfl,rfl,rfl,fitF_snoc hF2 hx hFk,deepF_snoc hdp2 (by show kd.deep≤_; omega),?_,?_,hl6⟩⟩
  ·rw [List.map_append,e3,List.length_append]
   show ks.take fs.length ++ [kd]=ks.take (fs.length + 1)
   rw [List.take_succ,hkd]
   rfl
  ·rw [List.map_append]
   refine List.nodup_append.mpr ⟨hnd,by simp,fun y hy b hb e => ?_⟩
   have hbx:b=x:=List.mem_singleton.mp hb
   obtain ⟨i,hi,hyk⟩:=hnm y hy
   rw [e,hbx] at hyk
   have:=nmK_inj a0 a1 (by omega) (by omega) (by omega) (by omega) hyk hxk
   omega
  ·intro y hy
   rw [List.map_append] at hy
   rw [List.length_append]
   rcases List.mem_append.mp hy with hy | hy
   ·obtain ⟨i,hi,hyk⟩:=hnm y hy
    exact ⟨i,Nat.lt_of_lt_of_le hi (Nat.le_add_right _ _),hyk⟩
   ·have hyx:y=x:=List.mem_singleton.mp hy
    rw [hyx]
    exact ⟨fs.length,Nat.lt_succ_self _,hxk⟩
end
mutual
def Dx.deep:Dx→Nat
 | .tup l=>deepX l + 1
 | .lst l=>deepX l + 1
 | .dic l=>deepXk l + 1
 | _=>1
def deepX:List Dx→Nat
 | []=>0
 | d :: r=>max d.deep (deepX r)
def deepXk:List (Key×Dx)→Nat
 | []=>0
 | k :: r=>max k.2.deep (deepXk r)
end
mutual
def Dx.Sz:Dx→Prop
 | .tup l=>l.length≤100000∧szX l
 | .lst l=>l.length≤100000∧szX l
 | .dic l=>l.length≤100000∧(l.map (·.1)).Nodup∧szXk l
 | .str x=>x.length≤100000
 | .scr _ _=>False
 | .ins _ _=>False
 | .exc _=>False
 | _=>True
def szX:List Dx→Prop
 | []=>True
 | d :: r=>d.Sz∧szX r
def szXk:List (Key×Dx)→Prop
 | []=>True
 | k :: r=>k.2.Sz∧szXk r
end
theorem fa_:∀ {l:List Dx} {d:Dx},d∈l→d.deep≤deepX l
 | e :: r,d,h=>by
  show _≤max _ _
  rcases List.mem_cons.mp h with rfl | h
  ·exact Nat.le_max_left _ _
  ·exact Nat.le_trans (fa_ h) (Nat.le_max_right _ _)
theorem fo_:∀ {l:List (Key×Dx)} {p:Key×Dx},p∈l→p.2.deep≤deepXk l
 | e :: r,d,h=>by
  show _≤max _ _
  rcases List.mem_cons.mp h with rfl | h
  ·exact Nat.le_max_left _ _
  ·exact Nat.le_trans (fo_ h) (Nat.le_max_right _ _)
theorem szX_mem:∀ {l:List Dx} {d:Dx},szX l→d∈l→d.Sz
 | e :: r,d,hs,h=>by
  rcases List.mem_cons.mp h with rfl | h
  ·exact hs.1
  ·exact szX_mem hs.2 h
theorem szXk_mem:∀ {l:List (Key×Dx)} {p:Key×Dx},szXk l→p∈l→p.2.Sz
 | e :: r,d,hs,h=>by
  rcases List.mem_cons.mp h with rfl | h
  ·exact hs.1
  ·exact szXk_mem hs.2 h
def Dx.own:Dx→Sv
 | .lst l=>.ol l
 | .dic l=>.od l
 | d=>.tr d
theorem own_d (d:Dx):d.own.d=d:=by cases d <;> rfl
def gCP (n:Nat):GC:=fun ds Q => ∃ d,ds=[d]∧d.Sz∧d.deep≤n∧Q d.own
theorem map_one {α β:Type} {f:α→β}:∀ (l:List α),(l.map fun d=>[f d]).flatten=l.map f
 | []=>rfl
 | d :: l=>by simp [map_one l]
theorem flat_id (l:List Dx):[] ++ (l.map fun d=>[d]).flatten=l:=by simp [map_one (f:=fun d:Dx=>d)]
theorem putX_new {l:List (Key×Dx)} {k:Key} {d:Dx} (h:k∉l.map (·.1)):putX l k d=l ++ [(k,d)]:=by
 unfold putX
 have:(l.any fun kv=>decide (kv.1=k))=false:=by
  rw [List.any_eq_false]
  intro kv hkv z
  exact h (by rw [← of_decide_eq_true z]; exact List.mem_map_of_mem (f:=fun x:Key×Dx=>x.1) hkv)
 rw [this,if_neg Bool.false_ne_true]
theorem gu_:∀ {l:List (Key×Dx)} {p:Key×Dx},(l.map (·.1)).Nodup→p∈l→getK l p.1=some p.2
 | q :: l,p,hn,h=>by
  unfold getK
  rw [List.find?_cons]
  have hn':=List.nodup_cons.mp hn
  rcases List.mem_cons.mp h with rfl | h
  ·rw [decide_eq_true rfl]; rfl
  ·have hne:¬ q.1=p.1:=fun z=>hn'.1 (by show q.1∈_; rw [z]; exact List.mem_map_of_mem (f:=fun x:Key×Dx=>x.1) h)
   rw [decide_eq_false hne]
   exact gu_ hn'.2 h
theorem keyX_key (k:Key):keyD (keyX k)=some k:=by cases k <;> rfl
section
variable {P:Program} {w:World} {K:FG_} {mg:MG_} {base:Heap} {f:Addr} {fd:FuncData} {n j:Nat}
theorem ok_cp (F:Fun K "_law_copy" "_law_copy" dq_ f fd) (CCP:Cal P w K mg base j "_law_copy" ["thing"] (spX (gCP n))) (m_isinstance:mg "isinstance" = none) (m_list:mg "list" = none) (m_tuple:mg "tuple" = none) (m_dict:mg "dict" = none) :
  FnOk P w K mg base CX0 (j + 1) f fd ["thing"] (spX (gCP (n + 1))):=by
 refine fn_x F sc_law_copy (fun ds Q h=>by obtain ⟨d,rfl,_⟩:=h; rfl) (by decide) fun cdv A outer s H E hr => ?_
 have hu1:=bv_ hr
 refine ⟨_,(ac_ (bf_ (bp_ (as_ .list m_isinstance (ab_ (pv 0)) (bd_ (v:=.ty "list") rfl m_list ee_ rfl))) (af_ (ai_ (cj_ (dsc:=defScope dq_) (N:=["thing", "found", "name"]) (tgs:=["one"]) (outs:=[]) (N':=["one"]) (by refine ⟨rfl,?_,?_,?_,rfl,?_,?_,?_⟩ <;> decide +kernel) (cn_ (ab_ (pv 0))) (fun _ _ _ _ _=>(aq_ (i:=0) (show (["one"]:List Str).Nodup by decide +kernel) rfl (Or.inl rfl) (.inr rfl))) (bl_ (n:=1) (i:=0) (by decide)) (bk_ (by decide)) (fun _ _ _ _ _=>by_) (fun _ _ _ _ _=>(al_ CCP (hr.mono (by omega)) (aa_ (ab_ (pv 0)) ad_)))))) aj_)
  (ac_ (bf_ (bp_ (as_ .tuple m_isinstance (ab_ (pv 0)) (bd_ (v:=.ty "tuple") rfl m_tuple eb_ rfl))) (af_ (ai_ (ds_ (call_tupleA K) cx_tuple (by rfl) m_tuple eb_ (aa_ (cj_ (dsc:=defScope dq_) (N:=["thing", "found", "name"]) (tgs:=["one"]) (outs:=[]) (N':=["one"]) (by refine ⟨rfl,?_,?_,?_,rfl,?_,?_,?_⟩ <;> decide +kernel) (xi_tup (ab_ (pv 0))) (fun _ _ _ _ _=>(aq_ (i:=0) (show (["one"]:List Str).Nodup by decide +kernel) rfl (Or.inl rfl) (.inr rfl))) (bl_ (n:=1) (i:=0) (by decide)) (bk_ (by decide)) (fun _ _ _ _ _=>by_) (fun _ _ _ _ _=>(al_ CCP (hr.mono (by omega)) (aa_ (ab_ (pv 0)) ad_)))) ad_)))) aj_)
  (ac_ (bf_ (bp_ (as_ .dict m_isinstance (ab_ (pv 0)) (bd_ (v:=.ty "dict") rfl m_dict gw_ rfl))) (ac_ (ap_ fun F=>aw_ (i:=1) sc_law_copy.nd rfl (Or.inl rfl) (XE.at (Ex:=noEx) F xe_dnew))
  (ac_ (xs_forK PassesOwn.never rfl (pv 0) (aq_ (i:=2) sc_law_copy.nd rfl (Or.inl rfl)) (bl_ (n:=99) (i:=2) (by decide)) (af_ (xs_of fun F=>PS.weak (hu_ hu1 (pv 1) (XE.at (Ex:=noEx) F (ab_ (pv 2))) (XE.at (Ex:=noEx) F (al_ CCP (hr.mono (by omega)) (aa_ (fx_ hu1 (ab_ (pv 0)) (ab_ (pv 2)) (fun _ _=>rfl)) ad_))) rfl) tDPut_x)))
  (af_ (ai_ (cp_ (pv 1)))))) aj_)
  (af_ (ai_ (cp_ (pv 0))))))),fun ds Q h => ?_⟩
 clear hu1
 obtain ⟨d,rfl,hs,hd,q⟩:=h
 cases d with
 | scr _ _=>simp only [Dx.Sz] at hs
 | ins _ _=>simp only [Dx.Sz] at hs
 | exc _=>simp only [Dx.Sz] at hs
 | lst l =>
  show l.length≤1000000∧compX 1 (gxN 0) xYes (xCall (gCP n) (xCons (xVar 0) xNil)) _ l [] []
  simp only [Dx.Sz] at hs
  refine ⟨by omega,in_ (fun d=>[d]) (fun d hm acc P p => ?_) (by rw [flat_id]; exact q)⟩
  exact ⟨d,rfl,szX_mem hs.2 hm,by have:=fa_ hm; simp only [Dx.deep] at hd; omega,by show P (acc ++ [d.own.d]) []; rw [own_d]; exact p⟩
 | tup l =>
  show l.length≤1000000∧compX 1 (gxN 0) xYes (xCall (gCP n) (xCons (xVar 0) xNil)) _ l [] []
  simp only [Dx.Sz] at hs
  refine ⟨by omega,in_ (fun d=>[d]) (fun d hm acc P p => ?_) (by rw [flat_id]; exact q)⟩
  exact ⟨d,rfl,szX_mem hs.2 hm,by have:=fa_ hm; simp only [Dx.deep] at hd; omega,by show P (acc ++ [d.own.d]) []; rw [own_d]; exact p⟩
 | dic l =>
  simp only [Dx.Sz] at hs
  simp only [Dx.deep] at hd
  show forX _ _ _ (keysX l) _
  refine forX_ind (fun ks ρ => ∃ done rest x,l=done ++ rest∧ks=keysX rest∧ρ=[.v (.tr (.dic l)),.v (.od done),x]) (fun ρ h => ?_) (fun k ks ρ K h hk => ?_) ⟨[],l,.un,rfl,rfl,rfl⟩
  ·obtain ⟨done,rest,x,e1,e2,rfl⟩:=h
   have:rest=[]:=by cases rest with | nil=>rfl | cons a b=>simp [keysX] at e2
   subst this
   rw [List.append_nil] at e1
   subst e1
   exact q
  ·obtain ⟨done,rest,x,e1,e2,rfl⟩:=h
   cases rest with
   | nil=>simp [keysX] at e2
   | cons p rest =>
    simp only [keysX,List.map_cons,List.cons.injEq] at e2
    obtain ⟨rfl,rfl⟩:=e2
    have hm:p∈l:=by rw [e1]; exact List.mem_append_right _ List.mem_cons_self
    have hget:=gu_ hs.2.1 hm
    have hnew:p.1∉done.map (·.1):=by
     have:=hs.2.1
     rw [e1,List.map_append,List.nodup_append] at this
     exact fun z=>this.2.2 _ z _ (List.mem_map_of_mem (f:=fun x:Key×Dx=>x.1) List.mem_cons_self) rfl
    have hlen:done.length≤l.length:=by rw [e1,List.length_append]; omega
    have hk':=hk [.v (.tr (.dic l)),.v (.od (putX done p.1 p.2)),.v (.tr (keyX p.1))] ⟨done ++ [p],rest,.v (.tr (keyX p.1)),by rw [e1,List.append_assoc]; rfl,rfl,by rw [putX_new hnew]⟩
    have hk'':K [.v (.tr (.dic l)),.v (.od (putX done p.1 p.2.own.d)),.v (.tr (keyX p.1))]:=by rw [own_d]; exact hk'
    simp only [gxN,xDPut,xCall,xCons,xNil,xOp,xVar,List.getElem?_cons_zero,List.getElem?_cons_succ,List.set_cons_zero,List.set_cons_succ,Sv.d,List.map_cons,List.map_nil,dgX,keyX_key,hget]
    exact ⟨p.2,rfl,szXk_mem hs.2.2 hm,by have:=fo_ hm; omega,⟨done,rfl⟩,by omega,hk''⟩
 | non=>exact q
 | bl b=>exact q
 | int i=>exact q
 | str x=>exact q
end
def gUP:GC:=fun ds Q => ∃ n m:Int,ds=[.int n,.int m]∧0≤n∧n < 2 ^ 60∧0 < m∧m≤8∧Q (.tr (.int (up n m)))
def rb:Nat→Int
 | 0=>8
 | n + 1=>1000 * rb n
theorem rb_pos:∀ n,8≤rb n
 | 0=>by decide
 | n + 1=>by have:=rb_pos n; show 8≤1000 * rb n; omega
theorem rb_le:∀ {n:Nat},n≤4→rb n < 2 ^ 50:=by
 intro n h
 have:n=0∨n=1∨n=2∨n=3∨n=4:=by omega
 rcases this with rfl | rfl | rfl | rfl | rfl <;> decide
mutual
def Kd.lo:Kd→Nat
 | .num w _=>w.toNat
 | .row k n=>n.toNat * k.lo
 | .rcd fs=>loF fs
 | .cho ks=>loK ks
def loF:List (Str×Kd)→Nat
 | []=>0
 | f :: r=>f.2.lo + loF r
def loK:List Kd→Nat
 | []=>0
 | k :: r=>max k.lo (loK r)
end
theorem loK_le {M:Int}:∀ {ks:List Kd},0≤M→(∀ g∈ks,(g.lo:Int)≤M)→(loK ks:Int)≤M
 | [],h0,_=>by simp only [loK]; exact h0
 | k :: r,h0,h=>by
  have h1:=h k List.mem_cons_self
  have h2:=loK_le h0 fun g hg=>h g (List.mem_cons_of_mem _ hg)
  simp only [loK]
  omega
def gRM (n:Nat):GC:=fun ds Q => ∃ k:Kd,ds=[k.x]∧k.Fit∧k.deep≤n∧n≤5∧∀ a b:Int,(k.lo:Int)≤a→a≤rb n→1≤b→b≤8→Q (.tr (.tup [.int a,.int b]))
section
variable {P:Program} {w:World} {K:FG_} {mg:MG_} {base:Heap} {f:Addr} {fd:FuncData} {n j:Nat}
theorem okx_up (F:Fun K "_law_up" "_law_up" hg_ f fd):FnOk P w K mg base CX0 1 f fd ["number", "m"] (spX gUP):=by
 refine fn_x F sc_law_up (fun ds Q h=>by obtain ⟨_,_,rfl,_⟩:=h; rfl) (by decide) fun cdv A outer s H E hr => ?_
 have hu1:=bv_ hr
 have hu0:=Nat.lt_of_succ_lt hu1
 refine ⟨_,(af_ (ai_ (eu_ (xe_fdiv (xe_sub (bj_ (ab_ (pv 0)) (ab_ (pv 1))) ae_) (ab_ (pv 1))) (ab_ (pv 1))))),fun ds Q h => ?_⟩
 clear hu0 hu1
 obtain ⟨n,m,rfl,h0,h1,h2,h3,q⟩:=h
 have h4:(n + m - 1) / m≤n + m - 1:=Int.ediv_le_self _ (by omega)
 have h5:0≤(n + m - 1) / m:=Int.ediv_nonneg (by omega) (by omega)
 exact ⟨⟨h2,by omega⟩,⟨by omega,by omega⟩,q⟩
theorem okx_rm (F:Fun K "_law_room" "_law_room" cv_ f fd) (CRM:Cal P w K mg base (j + 1) "_law_room" ["kind"] (spX (gRM n))) (CUP:Cal P w K mg base 1 "_law_up" ["number", "m"] (spX gUP)) (m_max:mg "max" = none):FnOk P w K mg base CX0 (j + 2) f fd ["kind"] (spX (gRM (n + 1))):=by
 refine fn_x F sc_law_room (fun ds Q h=>by obtain ⟨_,rfl,_⟩:=h; rfl) (by decide) fun cdv A outer s H E hr => ?_
 have hu1:=bv_ hr
 have hu0:=Nat.lt_of_succ_lt hu1
 refine ⟨_,(ac_ (bf_ (ax_ (br_ K hu0) dd_ (an_ K (ab_ (pv 0)) ae_ (fun _ _=>rfl)) ay_ (nomark _)) (af_ (ai_ (dw_ (aa_ (an_ K (ab_ (pv 0)) ae_ (fun _ _=>rfl)) (aa_ (an_ K (ab_ (pv 0)) ae_ (fun _ _=>rfl)) ad_))))) aj_)
  (ac_ (bf_ (ax_ (br_ K hu0) dd_ (an_ K (ab_ (pv 0)) ae_ (fun _ _=>rfl)) ay_ (nomark _)) (ac_ (xs_asgP (ik_ (n:=99) (is:=[1,2]) rfl (by decide)) fun F=>ps_asg (XE.at (Ex:=noEx) F (al_ CRM (hr.mono (by omega)) (aa_ (an_ K (ab_ (pv 0)) ae_ (fun _ _=>rfl)) ad_))) (pg_tup rfl (bx_ (aq_ (i:=1) sc_law_room.nd rfl (Or.inl rfl)) (bx_ (aq_ (i:=2) sc_law_room.nd rfl (Or.inl rfl)) ga_))))
  (af_ (ai_ (dw_ (aa_ (eu_ (al_ CUP (hr.mono (by omega)) (aa_ (ab_ (pv 1)) (aa_ (ab_ (pv 2)) ad_))) (an_ K (ab_ (pv 0)) ae_ (fun _ _=>rfl))) (aa_ (ab_ (pv 2)) ad_)))))) aj_)
  (ac_ (ap_ fun F=>aw_ (i:=3) sc_law_room.nd rfl (Or.inl rfl) (XE.at (Ex:=noEx) F ae_))
  (ac_ (ap_ fun F=>aw_ (i:=4) sc_law_room.nd rfl (Or.inl rfl) (XE.at (Ex:=noEx) F ae_))
  (ac_ (bf_ (ax_ (br_ K hu0) dd_ (an_ K (ab_ (pv 0)) ae_ (fun _ _=>rfl)) ay_ (nomark _)) (ac_ (gb_ PassesOwn.never rfl (cn_ (an_ K (ab_ (pv 0)) ae_ (fun _ _=>rfl))) (pg_tup rfl (bx_ (aq_ (i:=5) sc_law_room.nd rfl (Or.inl rfl)) (bx_ (aq_ (i:=6) sc_law_room.nd rfl (Or.inl rfl)) ga_))) (ik_ (n:=99) (is:=[5,6]) rfl (by decide)) (ac_ (xs_asgP (ik_ (n:=99) (is:=[1,2]) rfl (by decide)) fun F=>ps_asg (XE.at (Ex:=noEx) F (al_ CRM (hr.mono (by omega)) (aa_ (ab_ (pv 6)) ad_))) (pg_tup rfl (bx_ (aq_ (i:=1) sc_law_room.nd rfl (Or.inl rfl)) (bx_ (aq_ (i:=2) sc_law_room.nd rfl (Or.inl rfl)) ga_))))
  (ac_ (ap_ fun F=>aw_ (i:=3) sc_law_room.nd rfl (Or.inl rfl) (XE.at (Ex:=noEx) F (bj_ (al_ CUP (hr.mono (by omega)) (aa_ (ab_ (pv 3)) (aa_ (ab_ (pv 2)) ad_))) (ab_ (pv 1)))))
  (af_ (ap_ fun F=>aw_ (i:=4) sc_law_room.nd rfl (Or.inl rfl) (XE.at (Ex:=noEx) F (au_ (call_max2 (by rfl)) cx_max2 (by rfl) m_max bt_max (aa_ (ab_ (pv 4)) (aa_ (ab_ (pv 2)) ad_)))))))))
  (af_ (ai_ (dw_ (aa_ (al_ CUP (hr.mono (by omega)) (aa_ (ab_ (pv 3)) (aa_ (ab_ (pv 4)) ad_))) (aa_ (ab_ (pv 4)) ad_)))))) aj_)
  (ac_ (xs_of fun F=>PS.weak (ps_setC (i:=7) sc_law_room.nd rfl rfl (dsc:=defScope cv_) (N:=["kind", "room", "m", "end", "most", "name", "part", "rooms"]) (tgs:=["part"]) (outs:=[]) (N':=["part"]) (by refine ⟨rfl,?_,?_,?_,rfl,?_,?_,?_⟩ <;> decide +kernel) (XIt.at (Ex:=noEx) F (cn_ (an_ K (ab_ (pv 0)) ae_ (fun _ _=>rfl)))) (fun _ _ _ _ _=>(aq_ (i:=0) (show (["part"]:List Str).Nodup by decide +kernel) rfl (Or.inl rfl) (.inr rfl))) (bk_ (by decide)) (fun a b c d e=>XCs.at (Ex:=noEx) F by_) (fun a b c d e=>XE.at (Ex:=noEx) F (al_ CRM (hr.mono (by omega)) (aa_ (ab_ (pv 0)) ad_)))) (setC_x (bl_ (n:=1) (i:=0) (by decide)) (by decide)))
  (ac_ (ap_ fun F=>aw_ (i:=4) sc_law_room.nd rfl (Or.inl rfl) (XE.at (Ex:=noEx) F (au_ (call_maxA K (by rfl)) cx_maxL (by rfl) m_max bt_max (aa_ (cj_ (dsc:=defScope cv_) (N:=["kind", "room", "m", "end", "most", "name", "part", "rooms"]) (tgs:=["room", "m"]) (outs:=[]) (N':=["room", "m"]) (by refine ⟨rfl,?_,?_,?_,rfl,?_,?_,?_⟩ <;> decide +kernel) (cn_ (ab_ (pv 7))) (fun _ _ _ _ _=>(pg_tupK K (n:=2) rfl rfl (bx_ (aq_ (i:=0) (show (["room", "m"]:List Str).Nodup by decide +kernel) rfl (Or.inl rfl) (.inr rfl)) (bx_ (aq_ (i:=1) (show (["room", "m"]:List Str).Nodup by decide +kernel) rfl (Or.inl rfl) (.inr rfl)) ga_)))) (ik_ (n:=2) (is:=[0,1]) rfl (by decide)) (tgt_tup (eh_ (by decide) (eh_ (by decide) tgts_nil eg_) (gp_ eg_))) (fun _ _ _ _ _=>by_) (fun _ _ _ _ _=>(ab_ (pv 1)))) ad_))))
  (af_ (ai_ (dw_ (aa_ (al_ CUP (hr.mono (by omega)) (aa_ (bj_ (al_ CUP (hr.mono (by omega)) (aa_ ae_ (aa_ (ab_ (pv 4)) ad_))) (au_ (call_maxA K (by rfl)) cx_maxL (by rfl) m_max bt_max (aa_ (cj_ (dsc:=defScope cv_) (N:=["kind", "room", "m", "end", "most", "name", "part", "rooms"]) (tgs:=["room", "m"]) (outs:=[]) (N':=["room", "m"]) (by refine ⟨rfl,?_,?_,?_,rfl,?_,?_,?_⟩ <;> decide +kernel) (cn_ (ab_ (pv 7))) (fun _ _ _ _ _=>(pg_tupK K (n:=2) rfl rfl (bx_ (aq_ (i:=0) (show (["room", "m"]:List Str).Nodup by decide +kernel) rfl (Or.inl rfl) (.inr rfl)) (bx_ (aq_ (i:=1) (show (["room", "m"]:List Str).Nodup by decide +kernel) rfl (Or.inl rfl) (.inr rfl)) ga_)))) (ik_ (n:=2) (is:=[0,1]) rfl (by decide)) (tgt_tup (eh_ (by decide) (eh_ (by decide) tgts_nil eg_) (gp_ eg_))) (fun _ _ _ _ _=>by_) (fun _ _ _ _ _=>(ab_ (pv 0)))) ad_))) (aa_ (ab_ (pv 4)) ad_))) (aa_ (ab_ (pv 4)) ad_)))))))))))),fun ds Q h => ?_⟩
 clear hu0 hu1
 obtain ⟨k,rfl,hF,hd,hn5,q⟩:=h
 have hp:=rb_pos n
 have hl:=rb_le (n:=n) (by omega)
 have e1:rb (n + 1)=1000 * rb n:=rfl
 rw [e1] at q
 cases k with
 | num v m =>
  simp only [Kd.Fit] at hF
  exact ⟨len2,q v m (by simp only [Kd.lo]; omega) (by omega) (by omega) (by omega)⟩
 | row k m =>
  simp only [Kd.Fit] at hF
  simp only [Kd.deep] at hd
  refine ⟨k,rfl,hF.1,by omega,by omega,fun a b a0 a1 b0 b1 => ?_⟩
  obtain ⟨u1,u2⟩:=ew_ (n:=a) (m:=b) (by omega)
  refine ⟨a,b,rfl,by omega,by omega,by omega,b1,?_⟩
  have hm:up a b * m≤(rb n + 8) * 20:=Int.mul_le_mul (by omega) (by omega) (by omega) (by omega)
  have hm0:0≤up a b * m:=Int.mul_nonneg (by omega) (by omega)
  have hlo:((Kd.row k m).lo:Int)≤up a b * m:=by
   have e:((Kd.row k m).lo:Int)=(k.lo:Int) * m:=by
    simp only [Kd.lo]
    rw [Int.natCast_mul,Int.toNat_of_nonneg (by omega),Int.mul_comm]
   rw [e]
   exact Int.mul_le_mul_of_nonneg_right (by omega) (by omega)
  exact ⟨⟨by omega,by omega⟩,len2,q _ b hlo (by omega) b0 b1⟩
 | rcd fs =>
  simp only [Kd.Fit] at hF
  simp only [Kd.deep] at hd
  refine di_ (ρ':=[.v (.tr (Kd.rcd fs).x),.un,.un,.un,.un,.un,.un,.un]) (fun Q q=>q) ?_
  refine di_ (ρ':=[.v (.tr (Kd.rcd fs).x),.un,.un,.un,.un,.un,.un,.un]) (fun Q q=>q) ?_
  refine go_set (go_c1 (go_set (go_c1 ?_)))
  refine go_ifB true (ρ':=[.v (.tr (Kd.rcd fs).x),.un,.un,.v (.tr (.int 0)),.v (.tr (.int 1)),.un,.un,.un]) (fun Q q=>q) (fun _ => ?_) (fun hb=>by cases hb)
  refine go_ (fun ρ => ∃ (e mo:Int) (y1 y2 y5 y6:Sl),(loF fs:Int)≤e∧e≤8 * (rb n + 8)∧1≤mo∧mo≤8∧ρ=[.v (.tr (Kd.rcd fs).x),y1,y2,.v (.tr (.int e)),.v (.tr (.int mo)),y5,y6,.un]) ?_ (fun nx hnx => ?_)
  ·rintro ρ ⟨e,mo,y1,y2,y5,y6,e0,e1,m0,m1,rfl⟩
   obtain ⟨u1,u2⟩:=ew_ (n:=e) (m:=mo) (by omega)
   exact ⟨e,mo,rfl,by omega,by omega,by omega,m1,len2,q _ mo (by simp only [Kd.lo]; omega) (by omega) m0 m1⟩
  show forX _ _ _ (xF fs) _
  rw [fs_]
  refine db_ (fun f=>Dx.tup [.str f.1,f.2.x]) (fun rest ρ=>(∀ g∈rest,g∈fs)∧∃ (c:Nat) (e mo:Int) (y1 y2 y5 y6:Sl),c + rest.length=fs.length∧(0≤e∧(loF fs:Int)≤e + loF rest)∧e≤(c:Int) * (rb n + 8)∧1≤mo∧mo≤8∧ρ=[.v (.tr (Kd.rcd fs).x),y1,y2,.v (.tr (.int e)),.v (.tr (.int mo)),y5,y6,.un]) (fun ρ h => ?_) (fun g rest ρ Kn h hk => ?_) ⟨fun g hg=>hg,0,0,1,.un,.un,.un,.un,by simp,⟨by decide,by omega⟩,by simp,by decide,by decide,rfl⟩
  ·obtain ⟨_,c,e,mo,y1,y2,y5,y6,hc,e0,e1,m0,m1,rfl⟩:=h
   rw [List.length_nil] at hc
   have:(c:Int) * (rb n + 8)≤8 * (rb n + 8):=Int.mul_le_mul_of_nonneg_right (by omega) (by omega)
   exact hnx _ ⟨e,mo,y1,y2,y5,y6,by have:=e0.2; simp only [loF] at this; omega,by omega,m0,m1,rfl⟩
  ·obtain ⟨hsub,c,e,mo,y1,y2,y5,y6,hc,e0,e1,m0,m1,rfl⟩:=h
   rw [List.length_cons] at hc
   obtain ⟨a1,a2,a3⟩:=fl_ hF.1 (hsub g List.mem_cons_self)
   have hcc:(c:Int) * (rb n + 8)≤8 * (rb n + 8):=Int.mul_le_mul_of_nonneg_right (by omega) (by omega)
   have hcs:((c + 1:Nat):Int) * (rb n + 8)=(c:Int) * (rb n + 8) + (rb n + 8):=by push_cast; rw [Int.add_mul,Int.one_mul]
   refine ⟨g.2,rfl,a2,by omega,by omega,fun a b a0 a1 b0 b1 => ?_⟩
   obtain ⟨u1,u2⟩:=ew_ (n:=e) (m:=b) (by omega)
   have e2:=e0.2
   simp only [loF] at e2
   refine ⟨e,b,rfl,e0.1,by omega,by omega,b1,?_⟩
   exact hk _ ⟨fun x hx=>hsub x (List.mem_cons_of_mem _ hx),c + 1,up e b + a,if b > mo then b else mo,_,_,_,_,by omega,⟨by omega,by omega⟩,by omega,by split <;> omega,by split <;> omega,rfl⟩
 | cho ks =>
  simp only [Kd.Fit] at hF
  simp only [Kd.deep] at hd
  have hne:ks≠[]:=fun e=>by rw [e] at hF; exact absurd hF.2.1 (by decide)
  refine di_ (ρ':=[.v (.tr (Kd.cho ks).x),.un,.un,.un,.un,.un,.un,.un]) (fun Q q=>q) ?_
  refine di_ (ρ':=[.v (.tr (Kd.cho ks).x),.un,.un,.un,.un,.un,.un,.un]) (fun Q q=>q) ?_
  refine go_set (go_c1 (go_set (go_c1 ?_)))
  refine di_ (ρ':=[.v (.tr (Kd.cho ks).x),.un,.un,.v (.tr (.int 0)),.v (.tr (.int 1)),.un,.un,.un]) (fun Q q=>q) ?_
  refine ⟨show (xK ks).length≤1000000 by rw [es_,List.length_map]; omega,show compX _ _ _ _ _ (xK ks) _ _ from ?_⟩
  rw [es_]
  refine cu_ Kd.x (fun rest acc cs=>(∀ g∈rest,g∈ks)∧∃ rs:List (Int×Int),rs.length + rest.length=ks.length∧(∀ g∈ks,g∈rest∨∃ r∈rs,(g.lo:Int)≤r.1)∧(∀ r∈rs,0≤r.1∧r.1≤rb n∧1≤r.2∧r.2≤8)∧acc=rs.map (fun r=>Dx.tup [.int r.1,.int r.2])∧cs=[]) (fun acc cs h => ?_) (fun g rest acc cs Pn h hk => ?_) ⟨fun g hg=>hg,[],by simp,fun g hg=>.inl hg,fun r hr=>absurd hr List.not_mem_nil,rfl,rfl⟩
  rotate_left
  ·obtain ⟨hsub,rs,hl1,hlo,hrs,rfl,rfl⟩:=h
   obtain ⟨a2,a3⟩:=gm_ hF.1 (hsub g List.mem_cons_self)
   refine ⟨g,rfl,a2,by omega,by omega,fun a b a0 a1 b0 b1=>hk _ _ ⟨fun x hx=>hsub x (List.mem_cons_of_mem _ hx),rs ++ [(a,b)],by rw [List.length_append]; rw [List.length_cons] at hl1; show rs.length + 1 + _=_; omega,fun g' hg' => ?_,fun r hr => ?_,by rw [List.map_append]; rfl,rfl⟩⟩
   ·rcases hlo g' hg' with h | ⟨r,h1,h2⟩
    ·rcases List.mem_cons.mp h with rfl | h
     ·exact .inr ⟨(a,b),List.mem_append_right _ List.mem_cons_self,a0⟩
     ·exact .inl h
    ·exact .inr ⟨r,List.mem_append_left _ h1,h2⟩
   rcases List.mem_append.mp hr with hr | hr
   ·exact hrs r hr
   ·rw [List.mem_singleton.mp hr]; exact ⟨by show 0≤a; omega,a1,b0,b1⟩
  obtain ⟨hsub,rs,hl1,hlo,hrs,rfl,rfl⟩:=h
  rw [List.length_nil] at hl1
  have hrne:rs≠[]:=fun e=>by rw [e,List.length_nil] at hl1; omega
  dsimp only
  change xSeq _ _ [.v (.tr (Kd.cho ks).x),.un,.un,.v (.tr (.int 0)),.v (.tr (.int 1)),.un,.un,.v (.ol (rs.map (fun r=>Dx.tup [.int r.1,.int r.2])))] _
  refine ⟨by show (rs.map _).length≤1000000; rw [List.length_map]; omega,show compX _ _ _ _ _ (rs.map fun r=>Dx.tup [.int r.1,.int r.2]) _ _ from ?_⟩
  refine cb_ (fun r:Int×Int=>Dx.tup [.int r.1,.int r.2]) (fun r=>.int r.2) (fun r _ acc P p=>p) ?_
  refine ⟨rs.map (·.2),by rw [List.map_map]; rfl,fun z=>hrne (List.map_eq_nil_iff.mp z),fun M hM _ => ?_⟩
  obtain ⟨r,hr2,rfl⟩:=List.mem_map.mp hM
  obtain ⟨c0,c1,c2,c3⟩:=hrs r hr2
  obtain ⟨u1,u2⟩:=ew_ (n:=1) (m:=r.2) (by omega)
  refine ⟨1,r.2,rfl,by decide,by decide,by omega,c3,?_⟩
  refine ⟨by show (rs.map _).length≤1000000; rw [List.length_map]; omega,show compX _ _ _ _ _ (rs.map fun r=>Dx.tup [.int r.1,.int r.2]) _ _ from ?_⟩
  refine cb_ (fun r:Int×Int=>Dx.tup [.int r.1,.int r.2]) (fun r=>.int r.1) (fun r _ acc P p=>p) ?_
  refine ⟨rs.map (·.1),by rw [List.map_map]; rfl,fun z=>hrne (List.map_eq_nil_iff.mp z),fun M hM hmx => ?_⟩
  obtain ⟨r',hr3,rfl⟩:=List.mem_map.mp hM
  obtain ⟨d0,d1,d2,d3⟩:=hrs r' hr3
  obtain ⟨v1,v2⟩:=ew_ (n:=up 1 r.2 + r'.1) (m:=r.2) (by omega)
  have hloK:(loK ks:Int)≤r'.1:=loK_le d0 fun g hg=>by
   rcases hlo g hg with h | ⟨r2,h1,h2⟩
   ·cases h
   ·exact Int.le_trans h2 (hmx _ (List.mem_map_of_mem h1))
  exact ⟨up 1 r.2 + r'.1,r.2,rfl,by omega,by omega,by omega,c3,len2,q _ r.2 (by simp only [Kd.lo]; omega) (by omega) c2 c3⟩
end
def gKW4:GB:=fun l ds Q => ∃ d mo:Int,ds=[.int d,.int mo]∧NumsX l∧1≤d∧d≤5∧160≤mo∧mo≤2000∧∀ (kd:Kd) (l':List Dx),kd.Fit→kd.deep≤5→kd.lo≤2000→NumsX l'→Q kd.x l'
section
variable {P:Program} {w:World} {K:FG_} {mg:MG_} {base:Heap} {f:Addr} {fd:FuncData} {n j:Nat}
theorem okx_kw4 (F:Fun K "_law_kind_within" "_law_kind_within" cw_ f fd) (CTK:Cal P w K mg base 1 "_law_take" ["deck", "many"] (spB gTK)) (CKN:Cal P w K mg base (j + 1) "_law_kind" ["deck", "depth"] (spB (gKN 5))) (CRM:Cal P w K mg base (j + 1) "_law_room" ["kind"] (spX (gRM 5))):FnOk P w K mg base CX0 (j + 2) f fd ["deck", "depth", "most"] (spB gKW4):=by
 refine fn_b F sc_law_kind_within (fun l ds Q h=>by obtain ⟨d,mo,rfl,_⟩:=h; rfl) (by decide) fun cdv A outer s H E hr => ?_
 have hu1:=bv_ hr
 have hu0:=Nat.lt_of_succ_lt hu1
 refine ⟨_,(ac_ (ap_ fun F=>aw_ (i:=3) sc_law_kind_within.nd rfl (Or.inl rfl) (XE.at (Ex:=noEx) F (bc_ (i:=0) CKN (hr.mono (by omega)) (pv 0) (aa_ (ab_ (pv 1)) ad_))))
  (ac_ (bf_ (XW.pt (xw_and (ax_ op_gt ox_gt (an_ K (al_ CRM (hr.mono (by omega)) (aa_ (ab_ (pv 3)) ad_)) ae_ (fun _ _=>rfl)) (ab_ (pv 2)) (nomark _)) (xw_and1 (ax_ op_lt ox_lt (ab_ (pv 2)) ae_ (nomark _))))) (af_ (ai_ (dw_ (aa_ ay_ (aa_ (bj_ ae_ (bc_ (i:=0) CTK (hr.mono (by omega)) (pv 0) (aa_ ae_ ad_))) (aa_ (an_ K (dj_ (aa_ ae_ (aa_ ae_ (aa_ ae_ (aa_ ae_ ad_))))) (bc_ (i:=0) CTK (hr.mono (by omega)) (pv 0) (aa_ ae_ ad_)) (fun _ _=>rfl)) ad_)))))) aj_)
  (ac_ (bf_ (ax_ op_gt ox_gt (an_ K (al_ CRM (hr.mono (by omega)) (aa_ (ab_ (pv 3)) ad_)) ae_ (fun _ _=>rfl)) (ab_ (pv 2)) (nomark _)) (af_ (ai_ (dw_ (aa_ ay_ (aa_ (dw_ (aa_ ay_ (aa_ (bj_ ae_ (bc_ (i:=0) CTK (hr.mono (by omega)) (pv 0) (aa_ ae_ ad_))) (aa_ ae_ ad_)))) (aa_ (bj_ ae_ (bc_ (i:=0) CTK (hr.mono (by omega)) (pv 0) (aa_ ae_ ad_))) ad_)))))) aj_)
  (af_ (ai_ (cp_ (pv 3))))))),fun l ds Q h => ?_⟩
 clear hu0 hu1
 obtain ⟨d,mo,rfl,hl,d1,d5,mo1,mo2,q⟩:=h
 refine ⟨rfl,d,rfl,hl,d1,by omega,by decide,fun kd l1 hF hdp hl1 => ?_⟩
 dsimp only
 change xSeq _ _ [.bw l1,.v (.tr (.int d)),.v (.tr (.int mo)),.v (.tr kd.x)] _
 refine ⟨kd,rfl,hF,by omega,by decide,fun a b _ _ _ _=>ite2 (fun h=>ite2 (fun h2 => ?_) (fun h2 => ?_)) (fun h => ?_)⟩
 ·refine ⟨rfl,8,rfl,hl1,by decide,fun r l2 r0 r1 hl2 => ?_⟩
  refine ⟨(by show 4≤1000000; decide),rfl,4,rfl,hl2,by decide,fun r3 l3 r30 r31 hl3 => ?_⟩
  refine ha_ r30 r31 fun v hv => ?_
  obtain ⟨m,rfl,hm⟩:=fourX hv
  exact ⟨(by show 3≤1000000; decide),q (.num (1 + r) m) l3 ⟨by omega,by omega,hm⟩ (by show 1≤5; decide) (by simp only [Kd.lo]; omega) hl3⟩
 ·refine ⟨kd,rfl,hF,by omega,by decide,fun a2 b2 a20 _ _ _=>ite2 (fun h => ?_) (fun h=>q kd l1 hF (by omega) (by have h5:¬ decide (mo < a2)=true:=h; rw [decide_eq_true_eq] at h5; omega) hl1)⟩
  refine ⟨rfl,8,rfl,hl1,by decide,fun r l2 r0 r1 hl2=>⟨(by show 3≤1000000; decide),rfl,20,rfl,hl2,by decide,fun r3 l3 r30 r31 hl3=>⟨(by show 3≤1000000; decide),?_⟩⟩⟩
  exact q (.row (.num (1 + r) 1) (1 + r3)) l3 ⟨⟨by omega,by omega,by omega⟩,by omega,by omega⟩ (by show 2≤5; decide) (by
   simp only [Kd.lo]
   have:=Nat.mul_le_mul (show (1 + r3).toNat≤20 by omega) (show (1 + r).toNat≤8 by omega)
   omega) hl3
 ·refine ⟨kd,rfl,hF,by omega,by decide,fun a2 b2 a20 _ _ _=>ite2 (fun h => ?_) (fun h=>q kd l1 hF (by omega) (by have h5:¬ decide (mo < a2)=true:=h; rw [decide_eq_true_eq] at h5; omega) hl1)⟩
  refine ⟨rfl,8,rfl,hl1,by decide,fun r l2 r0 r1 hl2=>⟨(by show 3≤1000000; decide),rfl,20,rfl,hl2,by decide,fun r3 l3 r30 r31 hl3=>⟨(by show 3≤1000000; decide),?_⟩⟩⟩
  exact q (.row (.num (1 + r) 1) (1 + r3)) l3 ⟨⟨by omega,by omega,by omega⟩,by omega,by omega⟩ (by show 2≤5; decide) (by
   simp only [Kd.lo]
   have:=Nat.mul_le_mul (show (1 + r3).toNat≤20 by omega) (show (1 + r).toNat≤8 by omega)
   omega) hl3
end
mutual
def Kd.vx:Kd→Vd→Dx
 | .num _ _,.num n=>.int n
 | .row k _,.row vs=>.lst (vs.map k.vx)
 | .rcd fs,.rcd vs=>.dic (vxF fs vs)
 | .cho ks,.cho j v=>.tup [.int (j:Int),vxK ks j v]
 | _,_=>.non
def vxF:List (Str×Kd)→List Vd→List (Key×Dx)
 | f :: r,v :: vs=>(Sum.inr f.1,f.2.vx v) :: vxF r vs
 | _,_=>[]
def vxK:List Kd→Nat→Vd→Dx
 | [],_,_=>.non
 | k :: _,0,v=>k.vx v
 | _ :: r,j + 1,v=>vxK r j v
end
theorem vxF_snoc:∀ {fs:List (Str×Kd)} {vs:List Vd} {f:Str×Kd} {v:Vd},vs.length=fs.length→vxF (fs ++ [f]) (vs ++ [v])=vxF fs vs ++ [(Sum.inr f.1,f.2.vx v)]
 | [],[],f,v,_=>by simp [vxF]
 | [],_ :: _,_,_,h=>by simp at h
 | _ :: _,[],_,_,h=>by simp at h
 | g :: r,u :: vs,f,v,h=>by simp only [List.cons_append,vxF]; rw [vxF_snoc (by simpa using h)]
theorem dx_:∀ {fs:List (Str×Kd)} {vs:List Vd},vs.length=fs.length→(vxF fs vs).map (·.1)=fs.map fun f=>(Sum.inr f.1:Key)
 | [],[],_=>by simp [vxF]
 | [],_ :: _,h=>by simp at h
 | _ :: _,[],h=>by simp at h
 | g :: r,u :: vs,h=>by simp only [vxF,List.map_cons]; rw [dx_ (by simpa using h)]
theorem gx_ {v:Vd}:∀ {ks:List Kd} {j:Nat} {k:Kd},ks[j]? = some k→vxK ks j v=k.vx v
 | [],_,_,e=>by simp at e
 | k' :: r,0,k,e=>by simp at e; subst e; simp only [vxK]
 | k' :: r,j + 1,k,e=>by simp only [vxK]; exact gx_ (j:=j) (by simpa using e)
theorem bz_:∀ {fs:List (Str×Kd)} {vs:List Vd},valF fs vs→vs.length=fs.length
 | [],[],_=>rfl
 | [],_ :: _,h=>by simp [valF] at h
 | _ :: _,[],h=>by simp [valF] at h
 | f :: r,v :: vs,h=>by simp only [valF] at h; simp [bz_ h.2]
theorem valF_snoc:∀ {fs:List (Str×Kd)} {vs:List Vd} {f:Str×Kd} {v:Vd},valF fs vs→f.2.Val v→valF (fs ++ [f]) (vs ++ [v])
 | [],[],f,v,_,h=>by simp only [List.nil_append,valF]; exact ⟨h,trivial⟩
 | [],_ :: _,_,_,h,_=>by simp [valF] at h
 | _ :: _,[],_,_,h,_=>by simp [valF] at h
 | g :: r,u :: vs,f,v,h,h'=>by simp only [List.cons_append,valF] at h ⊢; exact ⟨h.1,valF_snoc h.2 h'⟩
theorem valK_mk:∀ {ks:List Kd} {j:Nat} {k:Kd} {v:Vd},ks[j]? = some k→k.Val v→valK ks j v
 | [],_,_,_,e,_=>by simp at e
 | k' :: r,0,k,v,e,h=>by simp at e; subst e; simp only [valK]; exact h
 | k' :: r,j + 1,k,v,e,h=>by simp only [valK]; exact valK_mk (j:=j) (by simpa using e) h
theorem fitFx:∀ {fs:List (Str×Kd)} {f:Str×Kd},fitF fs→f∈fs→f.2.Fit∧f.2.deep≤deepF fs
 | g :: r,f,h,hm=>by
  rcases List.mem_cons.mp hm with rfl | hm
  ·exact ⟨h.1.2,Nat.le_max_left _ _⟩
  ·exact ⟨(fitFx h.2 hm).1,Nat.le_trans (fitFx h.2 hm).2 (Nat.le_max_right _ _)⟩
theorem fitKx:∀ {ks:List Kd} {k:Kd},fitK ks→k∈ks→k.Fit∧k.deep≤deepK ks
 | g :: r,f,h,hm=>by
  rcases List.mem_cons.mp hm with rfl | hm
  ·exact ⟨h.1,Nat.le_max_left _ _⟩
  ·exact ⟨(fitKx h.2 hm).1,Nat.le_trans (fitKx h.2 hm).2 (Nat.le_max_right _ _)⟩
theorem pow256 {i:Nat} (h:i≤8):(256:Int) ^ i≤256 ^ 8:=by
 have:=Nat.pow_le_pow_right (n:=256) (by decide) h
 exact_mod_cast this
theorem pow256' {i:Nat} (h:1≤i):(256:Int)≤256 ^ i:=by
 obtain ⟨k,rfl⟩ : ∃ k,i=k + 1:=⟨i - 1,by omega⟩
 rw [Int.pow_succ]
 have:(1:Int)≤256 ^ k:=Int.pow_pos (by decide)
 omega
theorem four_valX {v:Dx} {t a b:Int} (h:v∈[Dx.int 0,Dx.int t,Dx.int a,Dx.int b]) (ht:0≤t) (a0:0≤a) (a1:a≤t) (b0:0≤b) (b1:b≤t):∃ z,v=.int z∧0≤z∧z≤t:=by
 simp only [List.mem_cons,List.not_mem_nil,or_false] at h
 rcases h with rfl | rfl | rfl | rfl
 ·exact ⟨_,rfl,by omega,ht⟩
 ·exact ⟨_,rfl,ht,by omega⟩
 ·exact ⟨_,rfl,a0,a1⟩
 ·exact ⟨_,rfl,b0,b1⟩
theorem dz_:∀ {ks:List Kd} {j:Nat} {v:Vd},valK ks j v→∃ k,ks[j]? = some k∧k.Val v
 | [],_,_,h=>by simp [valK] at h
 | k :: _,0,v,h=>by simp only [valK] at h; exact ⟨k,rfl,h⟩
 | _ :: r,j + 1,v,h=>by simp only [valK] at h; obtain ⟨k,e,hk⟩:=dz_ h; exact ⟨k,by simpa using e,hk⟩
theorem getK_vx {fs:List (Str×Kd)} {vs:List Vd} {i:Nat} {f:Str×Kd} {v:Vd} (hn:(fs.map (·.1)).Nodup) (hl:vs.length=fs.length) (h1:fs[i]? = some f) (h2:vs[i]? = some v):getK (vxF fs vs) (Sum.inr f.1)=some (f.2.vx v):=by
 have hk:=dx_ hl
 have hnd:((vxF fs vs).map (·.1)).Nodup:=by
  rw [hk]
  have:(fs.map fun f=>(Sum.inr f.1:Key))=(fs.map (·.1)).map (fun x:Str=>(Sum.inr x:Key)):=by rw [List.map_map]; rfl
  rw [this]
  exact List.Pairwise.map _ (fun a b h e=>h (Sum.inr.inj e)) hn
 exact gu_ (p:=(Sum.inr f.1,f.2.vx v)) hnd (mem_vx h1 h2)
where mem_vx:∀ {fs:List (Str×Kd)} {vs:List Vd} {i:Nat} {f:Str×Kd} {v:Vd},fs[i]? = some f→vs[i]? = some v→((Sum.inr f.1,f.2.vx v):Key×Dx)∈vxF fs vs
 | [],_,_,_,_,h,_=>by simp at h
 | _ :: _,[],_,_,_,_,h=>by simp at h
 | g :: r,u :: vs,0,f,v,h1,h2=>by simp at h1 h2; subst h1 h2; simp only [vxF]; exact List.mem_cons_self
 | g :: r,u :: vs,i + 1,f,v,h1,h2=>by simp only [vxF]; exact List.mem_cons_of_mem _ (mem_vx (i:=i) (by simpa using h1) (by simpa using h2))
mutual
def Kd.vw:Kd→Vd→List Nat
 | .num _ _,.num n=>codes (txtI n)
 | .row k _,.row vs=>91 :: (((vs.map fun v=>44 :: 32 :: k.vw v).flatten.drop 2) ++ [93])
 | .rcd fs,.rcd vs=>123 :: ((vwF fs vs).drop 2 ++ [125])
 | .cho ks,.cho j v=>codes (txtI (j:Int)) ++ 58 :: vwK ks j v
 | _,_=>[]
def vwF:List (Str×Kd)→List Vd→List Nat
 | f :: r,v :: vs=>44 :: 32 :: (codes f.1 ++ 32 :: (f.2.vw v ++ vwF r vs))
 | _,_=>[]
def vwK:List Kd→Nat→Vd→List Nat
 | [],_,_=>[]
 | k :: _,0,v=>k.vw v
 | _ :: r,j + 1,v=>vwK r j v
end
def Kd.vs (k:Kd) (v:Vd):Str:=⟨(k.vw v).toArray⟩
theorem dy_ (k:Kd) (v:Vd):codes (k.vs v)=k.vw v:=by unfold Kd.vs codes; rfl
theorem ft_ (k:Kd) (v:Vd):(k.vs v).length=(k.vw v).length:=by rw [ao_,dy_]
theorem vwK_at {v:Vd}:∀ {ks:List Kd} {j:Nat} {k:Kd},ks[j]? = some k→vwK ks j v=k.vw v
 | [],_,_,e=>by simp at e
 | k' :: r,0,k,e=>by simp at e; subst e; simp only [vwK]
 | k' :: r,j + 1,k,e=>by simp only [vwK]; exact vwK_at (j:=j) (by simpa using e)
theorem vwF_flat:∀ {fs:List (Str×Kd)} {vs:List Vd},vwF fs vs=((fs.zip vs).map fun p=>44 :: 32 :: (codes p.1.1 ++ 32 :: p.1.2.vw p.2)).flatten
 | [],_=>by simp [vwF]
 | _ :: _,[]=>by simp [vwF]
 | f :: r,v :: vs=>by simp only [vwF,List.zip_cons_cons,List.map_cons,List.flatten_cons,vwF_flat (fs:=r) (vs:=vs),List.cons_append,List.append_assoc]
theorem flat_le {α:Type} {g:α→List Nat} {B:Nat}:∀ {l:List α},(∀ a∈l,(g a).length≤B)→((l.map g).flatten).length≤l.length * B
 | [],_=>by simp
 | a :: l,h=>by
  have h1:=h a List.mem_cons_self
  have h2:=flat_le fun b hb=>h b (List.mem_cons_of_mem a hb)
  rw [List.map_cons,List.flatten_cons,List.length_append,List.length_cons,Nat.add_mul,Nat.one_mul]
  omega
def cw (d:Nat):Nat:=3 + 16 * d
mutual
theorem Kd.lo_pos:∀ k:Kd,k.Fit→1≤k.lo
 | .num w m,h=>by simp only [Kd.Fit] at h; simp only [Kd.lo]; omega
 | .row k n,h=>by
  simp only [Kd.Fit] at h
  have a:=Kd.lo_pos k h.1
  simp only [Kd.lo]
  exact Nat.mul_pos (by omega) a
 | .rcd fs,h=>by
  simp only [Kd.Fit] at h
  simp only [Kd.lo]
  exact loF_pos fs h.1 h.2.1
 | .cho ks,h=>by
  simp only [Kd.Fit] at h
  simp only [Kd.lo]
  exact loK_pos ks h.1 h.2.1
theorem loF_pos:∀ fs:List (Str×Kd),fitF fs→1≤fs.length→1≤loF fs
 | [],_,h=>absurd h (by simp)
 | f :: r,h,_=>by simp only [fitF] at h; have:=Kd.lo_pos f.2 h.1.2; simp only [loF]; omega
theorem loK_pos:∀ ks:List Kd,fitK ks→1≤ks.length→1≤loK ks
 | [],_,h=>absurd h (by simp)
 | k :: r,h,_=>by simp only [fitK] at h; have:=Kd.lo_pos k h.1; simp only [loK]; omega
end
mutual
theorem Kd.vw_len:∀ (k:Kd) (v:Vd),k.Fit→k.Val v→(k.vw v).length≤cw k.deep * k.lo
 | .num w m,v,h,hv=>by
  cases v with
  | num n =>
   simp only [Kd.Fit] at h
   simp only [Kd.Val] at hv
   have:=txt_w (n:=n) (w:=w.toNat) hv.1 (by omega) hv.2
   rw [ao_] at this
   simp only [Kd.vw,Kd.lo,Kd.deep,cw]
   omega
  | _=>simp only [Kd.Val] at hv
 | .row k m,v,h,hv=>by
  cases v with
  | row vs =>
   simp only [Kd.Fit] at h
   simp only [Kd.Val] at hv
   have hb:∀ v∈vs,(44 :: 32 :: k.vw v).length≤(cw k.deep + 2) * k.lo:=fun v hm=>by
    have:=Kd.vw_len k v h.1 (hv.2 v hm)
    have hp:=Kd.lo_pos k h.1
    rw [List.length_cons,List.length_cons,Nat.add_mul]
    omega
   have hf:=flat_le hb
   have e:vs.length=m.toNat:=by omega
   have hp:=Kd.lo_pos k h.1
   have hm1:k.lo≤m.toNat * k.lo:=Nat.le_mul_of_pos_left _ (by omega)
   have e1:cw (k.deep + 1) * (m.toNat * k.lo)=m.toNat * ((cw k.deep + 2) * k.lo) + 14 * (m.toNat * k.lo):=by
    rw [show cw (k.deep + 1)=cw k.deep + 2 + 14 from by unfold cw; omega,Nat.add_mul,Nat.mul_left_comm (cw k.deep + 2)]
   simp only [Kd.vw,Kd.lo,Kd.deep,List.length_cons,List.length_append,List.length_drop,List.length_nil]
   rw [show k.deep + 1=k.deep + 1 from rfl,e1]
   rw [e] at hf
   omega
  | _=>simp only [Kd.Val] at hv
 | .rcd fs,v,h,hv=>by
  cases v with
  | rcd vs =>
   simp only [Kd.Fit] at h
   simp only [Kd.Val] at hv
   have hp:=loF_pos fs h.1 h.2.1
   have hf:=vwF_len fs vs (deepF fs) h.1 hv (Nat.le_refl _)
   have e1:cw (deepF fs + 1) * loF fs=(cw (deepF fs) + 11) * loF fs + 5 * loF fs:=by
    rw [show cw (deepF fs + 1)=cw (deepF fs) + 11 + 5 from by unfold cw; omega,Nat.add_mul]
   simp only [Kd.vw,Kd.lo,Kd.deep,List.length_cons,List.length_append,List.length_drop,List.length_nil]
   rw [e1]
   omega
  | _=>simp only [Kd.Val] at hv
 | .cho ks,v,h,hv=>by
  cases v with
  | cho j v =>
   simp only [Kd.Fit] at h
   simp only [Kd.Val] at hv
   have hp:=loK_pos ks h.1 h.2.1
   obtain ⟨h1,h2⟩:=vwK_len ks j v (deepK ks) h.1 hv (Nat.le_refl _)
   have ht:=fy_ (n:=(j:Int)) (k:=1) (by omega) (by omega) (by decide)
   rw [ao_] at ht
   have e1:cw (deepK ks + 1) * loK ks=cw (deepK ks) * loK ks + 16 * loK ks:=by
    rw [show cw (deepK ks + 1)=cw (deepK ks) + 16 from by unfold cw; omega,Nat.add_mul]
   simp only [Kd.vw,Kd.lo,Kd.deep,List.length_cons,List.length_append]
   rw [e1]
   omega
  | _=>simp only [Kd.Val] at hv
theorem vwF_len:∀ (fs:List (Str×Kd)) (vs:List Vd) (D:Nat),fitF fs→valF fs vs→deepF fs≤D→(vwF fs vs).length≤(cw D + 11) * loF fs
 | [],vs,D,_,_,_=>by simp [vwF]
 | f :: r,[],D,_,hv,_=>by simp [valF] at hv
 | f :: r,v :: vs,D,h,hv,hd=>by
  simp only [fitF] at h
  simp only [valF] at hv
  simp only [deepF] at hd
  have h1:=Kd.vw_len f.2 v h.1.2 hv.1
  have h2:=vwF_len r vs D h.2 hv.2 (by omega)
  have hp:=Kd.lo_pos f.2 h.1.2
  have h3:cw f.2.deep * f.2.lo≤cw D * f.2.lo:=Nat.mul_le_mul_right _ (by unfold cw; omega)
  have h4:=h.1.1.2.1
  simp only [vwF,loF,List.length_cons,List.length_append,Nat.mul_add,Nat.add_mul]
  rw [Nat.add_mul] at h2
  omega
theorem vwK_len:∀ (ks:List Kd) (j:Nat) (v:Vd) (D:Nat),fitK ks→valK ks j v→deepK ks≤D→(vwK ks j v).length≤cw D * loK ks∧j < ks.length
 | [],j,v,D,_,hv,_=>by simp [valK] at hv
 | k :: r,0,v,D,h,hv,hd=>by
  simp only [fitK] at h
  simp only [valK] at hv
  simp only [deepK] at hd
  have h1:=Kd.vw_len k v h.1 hv
  have h3:cw k.deep * k.lo≤cw D * loK (k :: r):=Nat.mul_le_mul (by unfold cw; omega) (by simp only [loK]; omega)
  simp only [vwK]
  exact ⟨by omega,by simp⟩
 | k :: r,j + 1,v,D,h,hv,hd=>by
  simp only [fitK] at h
  simp only [valK] at hv
  simp only [deepK] at hd
  obtain ⟨h1,h2⟩:=vwK_len r j v D h.2 hv (by omega)
  have h3:cw D * loK r≤cw D * loK (k :: r):=Nat.mul_le_mul_left _ (by simp only [loK]; omega)
  simp only [vwK]
  exact ⟨by omega,by simp; omega⟩
end
theorem cw5 {d:Nat} (h:d≤5):cw d≤83:=by unfold cw; omega
theorem ev_ {k:Kd} {v:Vd} (h:k.Fit) (hv:k.Val v) (hd:k.deep≤5) (hl:k.lo≤2000):(k.vw v).length≤166000:=Nat.le_trans (k.vw_len v h hv) (Nat.mul_le_mul (cw5 hd) hl)
def gPW:GC:=fun ds Q => ∃ w:Int,ds=[.int w]∧0≤w∧w≤8∧Q (.tr (.int (256 ^ w.toNat)))
def gVA (n:Nat):GB:=fun l ds Q => ∃ kd:Kd,ds=[kd.x]∧NumsX l∧kd.Fit∧kd.deep≤n∧n≤5∧∀ (vd:Vd) (l':List Dx),kd.Val vd→NumsX l'→Q (kd.vx vd) l'
section
variable {P:Program} {w:World} {K:FG_} {mg:MG_} {base:Heap} {f:Addr} {fd:FuncData} {n j:Nat}
theorem okx_pw (F:Fun K "_law_power" "_law_power" el_ f fd) (m_range:mg "range" = none):FnOk P w K mg base CX0 1 f fd ["width"] (spX gPW):=by
 refine fn_x F sc_law_power (fun ds Q h=>by obtain ⟨w,rfl,_⟩:=h; rfl) (by decide) fun cdv A outer s H E hr => ?_
 refine ⟨_,(ac_ (ap_ fun F=>aw_ (i:=1) sc_law_power.nd rfl (Or.inl rfl) (XE.at (Ex:=noEx) F ae_))
  (ac_ (gb_ PassesOwn.never rfl (co_ m_range (aa_ (ab_ (pv 0)) ad_)) (aq_ (i:=2) sc_law_power.nd rfl (Or.inl rfl)) (bl_ (n:=99) (i:=2) (by decide)) (af_ (ap_ fun F=>aw_ (i:=1) sc_law_power.nd rfl (Or.inl rfl) (XE.at (Ex:=noEx) F (eu_ (ab_ (pv 1)) ae_)))))
  (af_ (ai_ (cp_ (pv 1)))))),fun ds Q h => ?_⟩
 obtain ⟨w,rfl,h0,h8,q⟩:=h
 refine ⟨⟨by omega,by omega⟩,?_⟩
 refine db_ (fun k:Nat=>Dx.int (0 + (k:Int))) (fun rest ρ => ∃ (i:Nat) (y:Sl),i + rest.length=w.toNat∧ρ=[.v (.tr (.int w)),.v (.tr (.int (256 ^ i))),y]) (fun ρ h => ?_) (fun k rest ρ Kn h hk => ?_) ⟨0,.un,by rw [List.length_range]; simp,rfl⟩
 ·obtain ⟨i,y,e,rfl⟩:=h
  rw [List.length_nil,Nat.add_zero] at e
  subst e
  exact q
 ·obtain ⟨i,y,e,rfl⟩:=h
  rw [List.length_cons] at e
  have hp2:(256:Int) ^ i≤256 ^ 7:=by
   have:=Nat.pow_le_pow_right (n:=256) (by decide) (show i≤7 by omega)
   exact_mod_cast this
  have hp0:(0:Int)≤256 ^ i:=Int.pow_nonneg (by decide)
  exact ⟨⟨by omega,by omega⟩,hk _ ⟨i + 1,.v (.tr (.int (0 + (k:Int)))),by omega,by rw [Int.pow_succ]; rfl⟩⟩
theorem okx_va (F:Fun K "_law_value" "_law_value" dt_ f fd) (CTK:Cal P w K mg base 1 "_law_take" ["deck", "many"] (spB gTK)) (CPW:Cal P w K mg base 1 "_law_power" ["width"] (spX gPW)) (CVA:Cal P w K mg base j "_law_value" ["kind", "deck"] (spB2 (gVA n))) (m_range:mg "range" = none) (m_len:mg "len" = none) (h1:1≤j) :
  FnOk P w K mg base CX0 (j + 1) f fd ["kind", "deck"] (spB2 (gVA (n + 1))):=by
 refine fn_b2 F sc_law_value (fun l ds Q h=>by obtain ⟨kd,rfl,_⟩:=h; rfl) (by decide) (by decide) fun cdv A outer s H E hr => ?_
 have hu1:=bv_ hr
 have hu0:=Nat.lt_of_succ_lt hu1
 refine ⟨_,(ac_ (bf_ (ax_ (br_ K hu0) dd_ (an_ K (ab_ (pv 0)) ae_ (fun _ _=>rfl)) ay_ (nomark _)) (ac_ (ap_ fun F=>aw_ (i:=2) sc_law_value.nd rfl (Or.inl rfl) (XE.at (Ex:=noEx) F (al_ CPW (hr.mono (by omega)) (aa_ (an_ K (ab_ (pv 0)) ae_ (fun _ _=>rfl)) ad_))))
  (ac_ (ap_ fun F=>aw_ (i:=3) sc_law_value.nd rfl (Or.inl rfl) (XE.at (Ex:=noEx) F (bc_ (i:=1) CTK (hr.mono (by omega)) (pv 1) (aa_ ae_ ad_))))
  (af_ (ai_ (an_ K (dj_ (aa_ ae_ (aa_ (xe_sub (ab_ (pv 2)) ae_) (aa_ (gc_ (bc_ (i:=1) CTK (hr.mono (by omega)) (pv 1) (aa_ ae_ ad_)) (ab_ (pv 2))) (aa_ (gc_ (eu_ (eu_ (bc_ (i:=1) CTK (hr.mono (by omega)) (pv 1) (aa_ ae_ ad_)) ae_) ae_) (ab_ (pv 2))) ad_))))) (ab_ (pv 3)) (fun _ _=>rfl)))))) aj_)
  (ac_ (bf_ (ax_ (br_ K hu0) dd_ (an_ K (ab_ (pv 0)) ae_ (fun _ _=>rfl)) ay_ (nomark _)) (af_ (ai_ (cj_ (dsc:=defScope dt_) (N:=["kind", "deck", "most", "way", "found", "name", "part", "k"]) (tgs:=["k"]) (outs:=[0,1]) (N':=["k", "kind", "deck"]) (by refine ⟨rfl,?_,?_,?_,rfl,?_,?_,?_⟩ <;> decide +kernel) (co_ m_range (aa_ (an_ K (ab_ (pv 0)) ae_ (fun _ _=>rfl)) ad_)) (fun _ _ _ _ _=>(aq_ (i:=0) (show (["k", "kind", "deck"]:List Str).Nodup by decide +kernel) rfl (Or.inl rfl) (.inr rfl))) (bl_ (n:=1) (i:=0) (by decide)) (bk_ (by decide)) (fun _ _ _ _ _=>by_) (fun _ _ _ _ _=>(ho_ (i:=2) CVA (hr.mono (by omega)) (an_ K (ab_ (pv 1)) ae_ (fun _ _=>rfl)) (pv 2)))))) aj_)
  (ac_ (bf_ (ax_ (br_ K hu0) dd_ (an_ K (ab_ (pv 0)) ae_ (fun _ _=>rfl)) ay_ (nomark _)) (ac_ (ap_ fun F=>aw_ (i:=4) sc_law_value.nd rfl (Or.inl rfl) (XE.at (Ex:=noEx) F xe_dnew))
  (ac_ (gb_ PassesOwn.never rfl (cn_ (an_ K (ab_ (pv 0)) ae_ (fun _ _=>rfl))) (pg_tup rfl (bx_ (aq_ (i:=5) sc_law_value.nd rfl (Or.inl rfl)) (bx_ (aq_ (i:=6) sc_law_value.nd rfl (Or.inl rfl)) ga_))) (ik_ (n:=99) (is:=[5,6]) rfl (by decide)) (af_ (xs_of fun F=>PS.weak (hu_ hu1 (pv 4) (XE.at (Ex:=noEx) F (ab_ (pv 5))) (XE.at (Ex:=noEx) F (ho_ (i:=1) CVA (hr.mono (by omega)) (ab_ (pv 6)) (pv 1))) rfl) tDPut_x)))
  (af_ (ai_ (cp_ (pv 4)))))) aj_)
  (ac_ (ap_ fun F=>aw_ (i:=7) sc_law_value.nd rfl (Or.inl rfl) (XE.at (Ex:=noEx) F (bc_ (i:=1) CTK (hr.mono (by omega)) (pv 1) (aa_ (au_ (ba_ K) ct_ (by rfl) m_len PySem.boot_len (aa_ (an_ K (ab_ (pv 0)) ae_ (fun _ _=>rfl)) ad_)) ad_))))
  (af_ (ai_ (dw_ (aa_ (ab_ (pv 7)) (aa_ (ho_ (i:=1) CVA (hr.mono (by omega)) (an_ K (an_ K (ab_ (pv 0)) ae_ (fun _ _=>rfl)) (ab_ (pv 7)) (fun _ _=>rfl)) (pv 1)) ad_))))))))),fun l d Q h => ?_⟩
 obtain ⟨kd,e,hN,hfit,hdp,hn,q⟩:=h
 cases e
 cases kd with
 | num wd m =>
  obtain ⟨a1,a2,_⟩:=hfit
  have g1:=pow256 (show wd.toNat≤8 by omega)
  have g2:=pow256' (show 1≤wd.toNat by omega)
  refine ⟨wd,rfl,by omega,by omega,?_⟩
  refine ⟨rfl,4,rfl,hN,by decide,fun r l1 r0 r1 hN1 => ?_⟩
  refine ⟨rfl,64,rfl,hN1,by decide,fun x1 l2 x10 x11 hN2 => ?_⟩
  have z1:=Int.emod_nonneg x1 (show (256:Int) ^ wd.toNat≠0 by omega)
  have z2:=Int.emod_lt_of_pos x1 (show (0:Int) < 256 ^ wd.toNat by omega)
  refine ⟨(by omega:(0:Int) < 256 ^ wd.toNat),?_⟩
  refine ⟨rfl,720720,rfl,hN2,by decide,fun x2 l3 x20 x21 hN3 => ?_⟩
  have z3:=Int.emod_nonneg (x2 * 48271 * 69621) (show (256:Int) ^ wd.toNat≠0 by omega)
  have z4:=Int.emod_lt_of_pos (x2 * 48271 * 69621) (show (0:Int) < 256 ^ wd.toNat by omega)
  refine ⟨⟨by omega,by omega⟩,⟨by omega,by omega⟩,(by omega:(0:Int) < 256 ^ wd.toNat),lenA (by show 4≤1000000; decide),?_⟩
  refine go_var (s:=.tr (.int r)) rfl ?_
  show ixX (.lst [.int 0,.int (256 ^ wd.toNat - 1),.int (x1 % 256 ^ wd.toNat),.int (x2 * 48271 * 69621 % 256 ^ wd.toNat)]) (.int r) _
  refine ha_ r0 r1 fun v hv => ?_
  obtain ⟨z,rfl,z0,z1⟩:=four_valX hv (by omega) z1 (by omega) z3 (by omega)
  exact q (.num z) l3 (by simp only [Kd.Val]; exact ⟨z0,by omega⟩) hN3
 | row k m =>
  obtain ⟨f1,m1,m2⟩:=hfit
  have hdp':k.deep + 1≤n + 1:=hdp
  refine ⟨⟨by omega,by omega⟩,by show ((List.range _).map _).length≤_; rw [List.length_map,List.length_range]; omega,?_⟩
  refine cu_ (fun k:Nat=>Dx.int (0 + (k:Int))) (fun rest acc cs => ∃ (vs:List Vd) (l':List Dx),vs.length + rest.length=m.toNat∧acc=vs.map k.vx∧cs=[.v (.tr (Kd.row k m).x),.bw l']∧(∀ v∈vs,k.Val v)∧NumsX l') (fun acc cs h => ?_) (fun nm rest acc cs Pn h hk => ?_) ⟨[],l,by rw [List.length_range]; simp,rfl,rfl,(fun v hv=>nomatch hv),hN⟩
  ·obtain ⟨vs,l',e1,rfl,rfl,hv,hP6⟩:=h
   rw [List.length_nil] at e1
   have:=q (.row vs) l' (by simp only [Kd.Val]; exact ⟨by omega,hv⟩) hP6
   simp only [Kd.vx] at this
   exact this
  ·obtain ⟨vs,l',e1,rfl,rfl,hv,hP6⟩:=h
   rw [List.length_cons] at e1
   refine ⟨k,rfl,hP6,f1,by omega,by omega,fun vd l6 hv6 hP7=>hk _ _ ⟨vs ++ [vd],l6,by rw [List.length_append,List.length_singleton]; omega,by rw [List.map_append]; rfl,rfl,fun v hm => ?_,hP7⟩⟩
   rcases List.mem_append.mp hm with hm | hm
   ·exact hv v hm
   ·rw [List.mem_singleton.mp hm]; exact hv6
 | rcd fs =>
  obtain ⟨f1,m1,m2,hnd⟩:=hfit
  have hdp':deepF fs + 1≤n + 1:=hdp
  show forX _ _ _ (xF fs) _
  rw [fs_]
  refine db_ _ (fun rest ρ => ∃ (done:List (Str×Kd)) (vs:List Vd) (l':List Dx) (y4 y5:Sl),fs=done ++ rest∧ρ=[.v (.tr (Kd.rcd fs).x),.bw l',.un,.un,.v (.od (vxF done vs)),y4,y5,.un]∧valF done vs∧NumsX l') (fun ρ h => ?_) (fun f rest ρ Kn h hk => ?_) ⟨[],[],l,.un,.un,rfl,by simp only [vxF]; rfl,by simp only [valF],hN⟩
  ·obtain ⟨done,vs,l',y4,y5,e1,rfl,hv,hP6⟩:=h
   rw [List.append_nil] at e1
   subst e1
   have:=q (.rcd vs) l' (by simp only [Kd.Val]; exact hv) hP6
   simp only [Kd.vx] at this
   exact this
  ·obtain ⟨done,vs,l',y4,y5,e1,rfl,hv,hP6⟩:=h
   have hm:f∈fs:=by rw [e1]; exact List.mem_append_right _ List.mem_cons_self
   have hlen:done.length + (rest.length + 1)=fs.length:=by rw [e1,List.length_append,List.length_cons]
   obtain ⟨ff,fd'⟩:=fitFx f1 hm
   have hvl:=bz_ hv
   have hnew:(Sum.inr f.1:Key)∉(vxF done vs).map (·.1):=by
    rw [dx_ hvl]
    intro z
    obtain ⟨g,hg,e⟩:=List.mem_map.mp z
    rw [e1,List.map_append,List.nodup_append] at hnd
    exact hnd.2.2 g.1 (List.mem_map_of_mem (f:=fun x:Str×Kd=>x.1) hg) f.1 (List.mem_map_of_mem (f:=fun x:Str×Kd=>x.1) List.mem_cons_self) (Sum.inr.inj e)
   have hvx:(vxF done vs).length=done.length:=by have:=congrArg List.length (dx_ hvl); simpa using this
   refine ⟨f.2,rfl,hP6,ff,by omega,by omega,fun vd l6 hv6 hP7=>⟨⟨_,rfl⟩,?_⟩⟩
   refine ⟨show (vxF done vs).length < 1000000 by omega,hk _ ⟨done ++ [f],vs ++ [vd],l6,.v (.tr (.str f.1)),.v (.tr f.2.x),by rw [e1,List.append_assoc]; rfl,?_,valF_snoc hv hv6,hP7⟩⟩
   rw [vxF_snoc hvl,← putX_new hnew]
   rfl
 | cho ks =>
  obtain ⟨f1,m1,m2⟩:=hfit
  have hdp':deepK ks + 1≤n + 1:=hdp
  have hlk:(xK ks).length=ks.length:=by rw [es_,List.length_map]
  refine ⟨rfl,((xK ks).length:Int),rfl,hN,by omega,fun r l1 r0 r1 hP1 => ?_⟩
  have hr':r.toNat < ks.length:=by omega
  have hk':=List.getElem?_eq_getElem hr'
  generalize ks[r.toNat]=kc at hk'
  obtain ⟨kf,kdp⟩:=fitKx f1 (List.mem_of_getElem? hk')
  have hxk:(xK ks)[r.toNat]? = some kc.x:=by rw [es_,List.getElem?_map,hk']; rfl
  have hat:=ck_ hxk
  rw [Int.toNat_of_nonneg r0] at hat
  show match atI (xK ks) r with | some d=>_ | none=>False
  rw [hat]
  refine ⟨kc,rfl,hP1,kf,by omega,by omega,fun vd l6 hv6 hP7=>⟨len2,?_⟩⟩
  have:=q (.cho r.toNat vd) l6 (by simp only [Kd.Val]; exact valK_mk hk' hv6) hP7
  simp only [Kd.vx] at this
  rw [gx_ hk',Int.toNat_of_nonneg r0] at this
  exact this
end
mutual
def Kd.isv:Kd→Vd→Dx→Prop
 | .num _ _,.num n,d=>d=.int n
 | .row k _,.row vs,d => ∃ ds,d=.lst ds∧All2 k.isv vs ds
 | .rcd fs,.rcd vs,d => ∃ kvs,d=.dic kvs∧kvs.length=fs.length∧(∀ kv∈kvs,∃ x,kv.1=Sum.inr x)∧isvF fs vs kvs
 | .cho ks,.cho j x,d => ∃ u,d=.tup [.int (j:Int),u]∧isvK ks j x u
 | _,_,_=>False
def isvF:List (Str×Kd)→List Vd→List (Key×Dx)→Prop
 | [],[],_=>True
 | f :: r,v :: vs,kvs=>(∃ x,getK kvs (Sum.inr f.1)=some x∧f.2.isv v x)∧isvF r vs kvs
 | _,_,_=>False
def isvK:List Kd→Nat→Vd→Dx→Prop
 | [],_,_,_=>False
 | k :: _,0,v,u=>k.isv v u
 | _ :: r,j + 1,v,u=>isvK r j v u
end
theorem hm_:∀ {fs:List (Str×Kd)} {vs:List Vd} {kvs:List (Key×Dx)} {p:(Str×Kd)×Vd},isvF fs vs kvs→p∈fs.zip vs→∃ x,getK kvs (Sum.inr p.1.1)=some x∧p.1.2.isv p.2 x
 | [],_,_,_,_,h=>by simp at h
 | _ :: _,[],_,_,h,_=>by simp [isvF] at h
 | f :: r,v :: vs,kvs,p,h,hm=>by
  simp only [isvF] at h
  rw [List.zip_cons_cons] at hm
  rcases List.mem_cons.mp hm with rfl | hm
  ·exact h.1
  ·exact hm_ h.2 hm
theorem isvK_at:∀ {ks:List Kd} {j:Nat} {v:Vd} {u:Dx},isvK ks j v u→∃ k,ks[j]? = some k∧k.isv v u
 | [],_,_,_,h=>by simp [isvK] at h
 | k :: _,0,v,u,h=>by simp only [isvK] at h; exact ⟨k,rfl,h⟩
 | _ :: r,j + 1,v,u,h=>by simp only [isvK] at h; obtain ⟨k,e,hk⟩:=isvK_at h; exact ⟨k,by simpa using e,hk⟩
theorem gd_:∀ {fs:List (Str×Kd)} {vs:List Vd} {p:(Str×Kd)×Vd},okF fs→valF fs vs→p∈fs.zip vs→p.1.2.Ok∧p.1.2.Val p.2∧p.1.2.deep≤deepF fs
 | [],_,_,_,_,h=>by simp at h
 | _ :: _,[],_,_,h,_=>by simp [valF] at h
 | f :: r,v :: vs,p,ho,h,hm=>by
  simp only [valF] at h
  rw [List.zip_cons_cons] at hm
  rcases List.mem_cons.mp hm with rfl | hm
  ·exact ⟨ho.1,h.1,Nat.le_max_left _ _⟩
  ·obtain ⟨a,b,c⟩:=gd_ ho.2 h.2 hm
   exact ⟨a,b,Nat.le_trans c (Nat.le_max_right _ _)⟩
theorem valK_mem {ks:List Kd} {j:Nat} {v:Vd} {k:Kd} (h:valK ks j v) (e:ks[j]? = some k):k.Val v:=by
 obtain ⟨k',e',h'⟩:=dz_ h
 rw [e] at e'
 cases e'
 exact h'
theorem hn_ {α β:Type} {g:α→β→Prop}:∀ {l:List α} {m:List β},All2 g l m→∀ p∈l.zip m,g p.1 p.2
 | [],_,_,p,h=>by simp at h
 | a :: l,_,⟨b,r,e,h1,h2⟩,p,h=>by
  subst e
  rw [List.zip_cons_cons] at h
  rcases List.mem_cons.mp h with rfl | h
  ·exact h1
  ·exact hn_ h2 p h
theorem bits_leX {i w:Int} (h0:0≤i) (hw:0≤w) (h:i < 256 ^ w.toNat):((Builtin.Int.intBits i:Nat):Int)≤8 * w:=by
 have e:(256:Int) ^ w.toNat=((2 ^ (8 * w.toNat):Nat):Int):=by
  rw [Nat.pow_mul]
  simp
 rw [e] at h
 have:Builtin.Int.intBits i≤8 * w.toNat:=intBits_le_iff.mpr (by omega)
 omega
theorem ip_ {n:Nat} {Q:Sv→Prop} (q:Q (.tr (.bl true))):allX [.lst (List.replicate n (.bl true))] Q:=⟨List.replicate n true,by rw [List.map_replicate],by
 have:(List.replicate n true).all id=true:=by rw [List.all_eq_true]; intro x hx; rw [(List.mem_replicate.mp hx).2]; rfl
 rw [this]
 exact q⟩
theorem ep_ {α:Type} {d:Dx} (l:List α):(l.map fun _=>d)=List.replicate l.length d:=List.map_const'
def gIW:GC:=fun ds Q => ∃ i:Int,ds=[.int i]∧Q (.tr (.bl true))
def gIV (n:Nat):GC:=fun ds Q => ∃ (kd:Kd) (vd:Vd) (d:Dx),ds=[kd.x,d]∧kd.isv vd d∧kd.Ok∧kd.Val vd∧kd.deep≤n∧n≤12∧Q (.tr (.bl true))
def gIRV (n:Nat):GC:=fun ds Q => ∃ (k:Kd) (m:Int) (vs:List Vd) (d:Dx),ds=[k.x,.int m,d]∧(Kd.row k m).isv (.row vs) d∧(Kd.row k m).Ok∧(Kd.row k m).Val (.row vs)∧k.deep≤n∧n≤12∧Q (.tr (.bl true))
def gIDV (n:Nat):GC:=fun ds Q => ∃ (fs:List (Str×Kd)) (vs:List Vd) (d:Dx),ds=[.lst (xF fs),d]∧(Kd.rcd fs).isv (.rcd vs) d∧(Kd.rcd fs).Ok∧(Kd.rcd fs).Val (.rcd vs)∧deepF fs≤n∧n≤12∧Q (.tr (.bl true))
def gICV (n:Nat):GC:=fun ds Q => ∃ (ks:List Kd) (jj:Nat) (v:Vd) (d:Dx),ds=[.lst (xK ks),d]∧(Kd.cho ks).isv (.cho jj v) d∧(Kd.cho ks).Ok∧(Kd.cho ks).Val (.cho jj v)∧deepK ks≤n∧n≤12∧Q (.tr (.bl true))
section
variable {P:Program} {w:World} {K:FG_} {mg:MG_} {base:Heap} {f:Addr} {fd:FuncData} {n j:Nat}
theorem okx_iw (F:Fun K "is_whole" "is_whole" fg_ f fd) (m_isinstance:mg "isinstance" = none) (m_int:mg "int" = none) (m_bool:mg "bool" = none):FnOk P w K mg base CX0 1 f fd ["thing"] (spX gIW):=by
 refine fn_x F sc_is_whole (fun ds Q h=>by obtain ⟨_,rfl,_⟩:=h; rfl) (by decide) fun cdv A outer s H E hr => ?_
 refine ⟨_,(af_ (ai_ (hp_ (as_ .int m_isinstance (ab_ (pv 0)) (bd_ (v:=.ty "int") rfl m_int bt_int rfl)) (xe_one (xe_not (as_ .bool m_isinstance (ab_ (pv 0)) (bd_ (v:=.ty "bool") rfl m_bool bt_bool rfl))))))),fun ds Q h => ?_⟩
 obtain ⟨i,rfl,q⟩:=h
 exact q
theorem okx_irv (F:Fun K "is_row_value" "is_row_value" cm_ f fd) (CIV:Cal P w K mg base j "is_value" ["kind", "thing"] (spX (gIV n))) (m_isinstance:mg "isinstance" = none) (m_list:mg "list" = none) (m_len:mg "len" = none) (m_all:mg "all" = none):FnOk P w K mg base CX0 (j + 1) f fd ["kind", "n", "thing"] (spX (gIRV n)):=by
 refine fn_x F hr_ (fun ds Q h=>by obtain ⟨_,_,_,_,rfl,_⟩:=h; rfl) (by decide) fun cdv A outer s H E hr => ?_
 have hu1:=bv_ hr
 have hu0:=Nat.lt_of_succ_lt hu1
 refine ⟨_,(ac_ (bf_ (XW.pt (fp_ (cl_ (bp_ (as_ .list m_isinstance (ab_ (pv 2)) (bd_ (v:=.ty "list") rfl m_list ee_ rfl)))) (dv_ (ax_ (ez_ K hu0) hz_ (au_ (ba_ K) ct_ (by rfl) m_len PySem.boot_len (aa_ (ab_ (pv 2)) ad_)) (ab_ (pv 1)) (nomark _))))) (af_ (ai_ fq_)) aj_)
  (af_ (ai_ (au_ (gn_ K (by rfl)) cx_all (by rfl) m_all bt_all (aa_ (cj_ (dsc:=defScope cm_) (N:=["kind", "n", "thing"]) (tgs:=["each"]) (outs:=[0]) (N':=["each", "kind"]) (by refine ⟨rfl,?_,?_,?_,rfl,?_,?_,?_⟩ <;> decide +kernel) (cn_ (ab_ (pv 2))) (fun _ _ _ _ _=>(aq_ (i:=0) (show (["each", "kind"]:List Str).Nodup by decide +kernel) rfl (Or.inl rfl) (.inr rfl))) (bl_ (n:=1) (i:=0) (by decide)) (bk_ (by decide)) (fun _ _ _ _ _=>by_) (fun _ _ _ _ _=>(al_ CIV (hr.mono (by omega)) (aa_ (ab_ (pv 1)) (aa_ (ab_ (pv 0)) ad_))))) ad_))))),fun ds Q h => ?_⟩
 clear hu0 hu1
 obtain ⟨k,m,vs,d,rfl,hi,hok,hval,hd,hn,q⟩:=h
 simp only [Kd.isv] at hi
 obtain ⟨ds,rfl,ha⟩:=hi
 simp only [Kd.Val] at hval
 have hlen:ds.length=vs.length:=ha.len
 have hm:=hok.2
 have e:decide ((ds.length:Int)=m)=true:=decide_eq_true (by omega)
 show if (!decide ((ds.length:Int)=m))=true then _ else _
 rw [e]
 refine ⟨show ds.length≤_ by omega,show compX _ _ _ _ _ ds _ _ from ?_⟩
 have ez:ds=(vs.zip ds).map (·.2):=by rw [List.map_snd_zip (by omega)]
 rw [ez]
 refine cb_ _ (fun _:Vd×Dx=>.bl true) (fun p hp acc P pp => ?_) ?_
 ·exact ⟨k,p.1,p.2,rfl,hn_ ha p hp,hok.1,hval.2 p.1 (List.of_mem_zip hp).1,hd,hn,pp⟩
 ·rw [List.nil_append,ep_]
  exact ip_ q
theorem okx_idv (F:Fun K "is_record_value" "is_record_value" bm_ f fd) (CIV:Cal P w K mg base j "is_value" ["kind", "thing"] (spX (gIV n))) (m_isinstance:mg "isinstance" = none) (m_dict:mg "dict" = none) (m_str:mg "str" = none) (m_len:mg "len" = none) (m_all:mg "all" = none):FnOk P w K mg base CX0 (j + 1) f fd ["fields", "thing"] (spX (gIDV n)):=by
 refine fn_x F gf_ (fun ds Q h=>by obtain ⟨_,_,_,rfl,_⟩:=h; rfl) (by decide) fun cdv A outer s H E hr => ?_
 have hu1:=bv_ hr
 have hu0:=Nat.lt_of_succ_lt hu1
 refine ⟨_,(ac_ (bf_ (XW.pt (fp_ (cl_ (bp_ (as_ .dict m_isinstance (ab_ (pv 1)) (bd_ (v:=.ty "dict") rfl m_dict gw_ rfl)))) (dv_ (ax_ (ez_ K hu0) hz_ (au_ (ba_ K) ct_ (by rfl) m_len PySem.boot_len (aa_ (ab_ (pv 1)) ad_)) (au_ (ba_ K) ct_ (by rfl) m_len PySem.boot_len (aa_ (ab_ (pv 0)) ad_)) (nomark _))))) (af_ (ai_ fq_)) aj_)
  (ac_ (bf_ (cl_ (bp_ (au_ (gn_ K (by rfl)) cx_all (by rfl) m_all bt_all (aa_ (xe_compK (dsc:=defScope bm_) (N:=["fields", "thing"]) (tgs:=["key"]) (outs:=[]) (N':=["key"]) (by refine ⟨rfl,?_,?_,?_,rfl,?_,?_,?_⟩ <;> decide +kernel) (pv 1) (fun _ _ _ _ _=>(aq_ (i:=0) (show (["key"]:List Str).Nodup by decide +kernel) rfl (Or.inl rfl) (.inr rfl))) (bl_ (n:=1) (i:=0) (by decide)) (bk_ (by decide)) (fun _ _ _ _ _=>by_) (fun _ _ _ _ _=>(as_ .str m_isinstance (ab_ (pv 0)) (bd_ (v:=.ty "str") rfl m_str fv_ rfl)))) ad_)))) (af_ (ai_ fq_)) aj_)
  (af_ (ai_ (au_ (gn_ K (by rfl)) cx_all (by rfl) m_all bt_all (aa_ (cj_ (dsc:=defScope bm_) (N:=["fields", "thing"]) (tgs:=["field"]) (outs:=[1]) (N':=["field", "thing"]) (by refine ⟨rfl,?_,?_,?_,rfl,?_,?_,?_⟩ <;> decide +kernel) (cn_ (ab_ (pv 0))) (fun _ _ _ _ _=>(aq_ (i:=0) (show (["field", "thing"]:List Str).Nodup by decide +kernel) rfl (Or.inl rfl) (.inr rfl))) (bl_ (n:=1) (i:=0) (by decide)) (bk_ (by decide)) (fun _ _ _ _ _=>by_) (fun _ _ _ _ _=>(hp_ (xe_din hu1 (an_ K (ab_ (pv 0)) ae_ (fun _ _=>rfl)) (ab_ (pv 1)) (by with_unfolding_all rfl)) (xe_one (al_ CIV (hr.mono (by omega)) (aa_ (an_ K (ab_ (pv 0)) ae_ (fun _ _=>rfl)) (aa_ (fx_ hu1 (ab_ (pv 1)) (an_ K (ab_ (pv 0)) ae_ (fun _ _=>rfl)) (fun _ _=>rfl)) ad_))))))) ad_)))))),fun ds Q h => ?_⟩
 clear hu0 hu1
 obtain ⟨fs,vs,d,rfl,hi,hok,hval,hd,hn,q⟩:=h
 simp only [Kd.isv] at hi
 obtain ⟨kvs,rfl,hl,hk,ha⟩:=hi
 simp only [Kd.Val] at hval
 have hvl:=bz_ hval
 have hm:=hok.2
 have hxl:(xF fs).length=fs.length:=by rw [fs_,List.length_map]
 have e:decide ((kvs.length:Int)=((xF fs).length:Int))=true:=decide_eq_true (by omega)
 show if (!decide ((kvs.length:Int)=((xF fs).length:Int)))=true then _ else _
 rw [e]
 refine ⟨show kvs.length≤_ by omega,show compX _ _ _ _ _ (keysX kvs) _ _ from ?_⟩
 refine cb_ (fun p:Key×Dx=>keyX p.1) (fun _=>.bl true) (fun p hp acc P pp => ?_) ?_
 ·obtain ⟨x,hx⟩:=hk p hp
  rw [hx]
  exact pp
 rw [List.nil_append,ep_]
 simp only [xNil,List.map_cons,List.map_nil,Sv.d]
 refine ip_ ?_
 refine ⟨show (xF fs).length≤_ by omega,show compX _ _ _ _ _ (xF fs) _ _ from ?_⟩
 have exf:xF fs=(fs.zip vs).map fun p=>.tup [.str p.1.1,p.1.2.x]:=by
  rw [fs_]
  have:fs=(fs.zip vs).map (·.1):=by rw [List.map_fst_zip (by omega)]
  conv=>lhs; rw [this]
  rw [List.map_map]
  rfl
 rw [exf]
 refine cb_ _ (fun _:(Str×Kd)×Vd=>.bl true) (fun p hp acc P pp => ?_) ?_
 ·obtain ⟨x,hx,hix⟩:=hm_ ha hp
  obtain ⟨o1,o2,o3⟩:=gd_ hok.1 hval hp
  simp only [stepX,xSeq,xNext,xIf,xB,xOp,xVar,xC,xRet,xCall,xCons,xNil,xComp,xiL,xOr,xNot,xAndV,xIs,ixX,dgX,neX,eqS,lenX,gxN,retB,lentEnd,startX,startB,lent_bw,lent_ol,len3,at10,at20,at21,at30,at31,at32,at40,at41,at42,at43,ix30,ix31,ix32,List.getElem?_cons_zero,List.getElem?_cons_succ,List.set_cons_zero,List.set_cons_succ,Sv.d,List.map_cons,List.map_nil,Option.bind_some,Option.isSome_some,List.cons_append,List.nil_append,List.length_cons,List.length_nil,List.replicate_succ,List.replicate_zero,Nat.reduceAdd,Nat.reduceSub,Nat.reduceLeDiff,true_and,decide_eq_true_eq,cut,caps,back,xYes,Option.getD_some,if_true,↓reduceIte,List.drop_succ_cons,List.drop_zero,dinX,keyD,hx]
  exact ⟨p.1.2,p.2,x,rfl,hix,o1,o2,by omega,hn,pp⟩
 ·rw [List.nil_append,ep_]
  exact ip_ q
theorem okx_icv (F:Fun K "is_choice_value" "is_choice_value" cg_ f fd) (CIV:Cal P w K mg base j "is_value" ["kind", "thing"] (spX (gIV n))) (CIW:Cal P w K mg base 1 "is_whole" ["thing"] (spX gIW)) (m_isinstance:mg "isinstance" = none) (m_tuple:mg "tuple" = none) (m_len:mg "len" = none) (hj:1≤j):FnOk P w K mg base CX0 (j + 1) f fd ["kinds", "thing"] (spX (gICV n)):=by
 refine fn_x F gg_ (fun ds Q h=>by obtain ⟨_,_,_,_,rfl,_⟩:=h; rfl) (by decide) fun cdv A outer s H E hr => ?_
 have hu1:=bv_ hr
 have hu0:=Nat.lt_of_succ_lt hu1
 refine ⟨_,(ac_ (bf_ (XW.pt (fp_ (cl_ (bp_ (as_ .tuple m_isinstance (ab_ (pv 1)) (bd_ (v:=.ty "tuple") rfl m_tuple eb_ rfl)))) (dv_ (ax_ (ez_ K hu0) hz_ (au_ (ba_ K) ct_ (by rfl) m_len PySem.boot_len (aa_ (ab_ (pv 1)) ad_)) ae_ (nomark _))))) (af_ (ai_ fq_)) aj_)
  (ac_ (bf_ (XW.pt (fp_ (cl_ (bp_ (al_ CIW (hr.mono (by omega)) (aa_ (an_ K (ab_ (pv 1)) ae_ (fun _ _=>rfl)) ad_)))) (dv_ (cl_ (xt_chain op_le ox_le op_lt ox_lt ae_ (an_ K (ab_ (pv 1)) ae_ (fun _ _=>rfl)) (au_ (ba_ K) ct_ (by rfl) m_len PySem.boot_len (aa_ (ab_ (pv 0)) ad_))))))) (af_ (ai_ fq_)) aj_)
  (af_ (ai_ (al_ CIV (hr.mono (by omega)) (aa_ (an_ K (ab_ (pv 0)) (an_ K (ab_ (pv 1)) ae_ (fun _ _=>rfl)) (fun _ _=>rfl)) (aa_ (an_ K (ab_ (pv 1)) ae_ (fun _ _=>rfl)) ad_))))))),fun ds Q h => ?_⟩
 clear hu0 hu1 hj
 obtain ⟨ks,jj,v,d,rfl,hi,hok,hval,hd,hn,q⟩:=h
 simp only [Kd.isv] at hi
 obtain ⟨u,rfl,ha⟩:=hi
 simp only [Kd.Val] at hval
 obtain ⟨k,hk,hik⟩:=isvK_at ha
 obtain ⟨o1,o2⟩:=ok_at hok.1 hk
 have hjl:jj < ks.length:=(List.getElem?_eq_some_iff.mp hk).1
 have hxl:(xK ks).length=ks.length:=by rw [es_,List.length_map]
 have hxk:(xK ks)[jj]? = some k.x:=by rw [es_,List.getElem?_map,hk]; rfl
 have hat:=ck_ hxk
 have e1:((0:Int)≤(jj:Int))=True:=eq_true (by omega)
 have e2:((jj:Int) < ((xK ks).length:Int))=True:=eq_true (by omega)
 simp only [xSeq,xNext,xIf,xB,xOp,xVar,xC,xRet,xCall,xCons,xNil,xOr,xNot,xIs,ixX,gI,neX,eqS,lenX,retB,lentEnd,startX,startB,lent_bw,lent_ol,len3,at10,at20,at21,at30,at31,at32,at40,at41,at42,at43,ix30,ix31,ix32,List.getElem?_cons_zero,List.getElem?_cons_succ,List.set_cons_zero,List.set_cons_succ,Sv.d,List.map_cons,List.map_nil,Option.bind_some,Option.isSome_some,List.cons_append,List.nil_append,List.length_cons,List.length_nil,List.replicate_succ,List.replicate_zero,Nat.reduceAdd,Nat.reduceSub,Nat.reduceLeDiff,true_and,decide_eq_true_eq,cut,caps,back,Option.getD_some,if_true,↓reduceIte,List.drop_succ_cons,List.drop_zero,isT,xChain,e1,e2,hat,Bool.not_true,Bool.not_false,decide_true,Bool.false_eq_true]
 exact ⟨_,rfl,k,v,u,rfl,hik,o1,valK_mem hval hk,by omega,hn,q⟩
theorem okx_iv (F:Fun K "is_value" "is_value" fh_ f fd) (CIW:Cal P w K mg base 1 "is_whole" ["thing"] (spX gIW)) (CIRV:Cal P w K mg base j "is_row_value" ["kind", "n", "thing"] (spX (gIRV n))) (CIDV:Cal P w K mg base j "is_record_value" ["fields", "thing"] (spX (gIDV n))) (CICV:Cal P w K mg base j "is_choice_value" ["kinds", "thing"] (spX (gICV n))) (c_BITS_OF_A_BYTE:∃ t,mg "BITS_OF_A_BYTE" = some (.int 8 t)) (hj:1≤j) :
  FnOk P w K mg base CX0 (j + 1) f fd ["kind", "thing"] (spX (gIV (n + 1))):=by
 refine fn_x F sc_is_value (fun ds Q h=>by obtain ⟨_,_,_,rfl,_⟩:=h; rfl) (by decide) fun cdv A outer s H E hr => ?_
 have hu1:=bv_ hr
 have hu0:=Nat.lt_of_succ_lt hu1
 refine ⟨_,(ac_ (bf_ (ax_ (br_ K hu0) dd_ (an_ K (ab_ (pv 0)) ae_ (fun _ _=>rfl)) ay_ (nomark _)) (af_ (ai_ (hp_ (al_ CIW (hr.mono (by omega)) (aa_ (ab_ (pv 1)) ad_)) (hp_ (fr_ op_ge ox_ge (ab_ (pv 1)) ae_ (nomark _)) (xe_one (fr_ op_le ox_le (fun F=>PE.weak (pe_bm0 PySem.F.plainAttrs_int PySem.F.slot_int_bit_length PySem.F.type_int_bit_length mt_bit_length (XE.at (Ex:=noEx) F (ab_ (pv 1)))) bits_x) (eu_ (xe_glob (by rfl) c_BITS_OF_A_BYTE) (an_ K (ab_ (pv 0)) ae_ (fun _ _=>rfl))) (nomark _))))))) aj_)
  (ac_ (bf_ (ax_ (br_ K hu0) dd_ (an_ K (ab_ (pv 0)) ae_ (fun _ _=>rfl)) ay_ (nomark _)) (af_ (ai_ (al_ CIRV (hr.mono (by omega)) (aa_ (an_ K (ab_ (pv 0)) ae_ (fun _ _=>rfl)) (aa_ (an_ K (ab_ (pv 0)) ae_ (fun _ _=>rfl)) (aa_ (ab_ (pv 1)) ad_)))))) aj_)
  (ac_ (bf_ (ax_ (br_ K hu0) dd_ (an_ K (ab_ (pv 0)) ae_ (fun _ _=>rfl)) ay_ (nomark _)) (af_ (ai_ (al_ CIDV (hr.mono (by omega)) (aa_ (an_ K (ab_ (pv 0)) ae_ (fun _ _=>rfl)) (aa_ (ab_ (pv 1)) ad_))))) aj_)
  (af_ (ai_ (al_ CICV (hr.mono (by omega)) (aa_ (an_ K (ab_ (pv 0)) ae_ (fun _ _=>rfl)) (aa_ (ab_ (pv 1)) ad_)))))))),fun ds Q h => ?_⟩
 clear hu0 hu1 hj
 obtain ⟨kd,vd,d,rfl,hi,hok,hval,hd,hn,q⟩:=h
 cases kd with
 | num wd m =>
  cases vd with
  | num i =>
   simp only [Kd.isv] at hi
   subst hi
   simp only [Kd.Val] at hval
   obtain ⟨a1,a2,a3,a4⟩:=hok
   have hb:=bits_leX hval.1 (by omega) hval.2
   refine ⟨i,rfl,?_⟩
   show if decide ((0:Int)≤i)=true then _ else _
   rw [if_pos (decide_eq_true hval.1)]
   refine ⟨⟨by decide,by omega⟩,?_⟩
   show Q (.tr (.bl (decide (_≤_))))
   rw [decide_eq_true hb]
   exact q
  | _=>simp [Kd.Val] at hval
 | row k m =>
  have hd':k.deep + 1≤n + 1:=hd
  cases vd with
  | row vs=>exact ⟨k,m,vs,d,rfl,hi,hok,hval,by omega,by omega,q⟩
  | _=>simp [Kd.Val] at hval
 | rcd fs =>
  have hd':deepF fs + 1≤n + 1:=hd
  cases vd with
  | rcd vs=>exact ⟨fs,vs,d,rfl,hi,hok,hval,by omega,by omega,q⟩
  | _=>simp [Kd.Val] at hval
 | cho ks =>
  have hd':deepK ks + 1≤n + 1:=hd
  cases vd with
  | cho jj v=>exact ⟨ks,jj,v,d,rfl,hi,hok,hval,by omega,by omega,q⟩
  | _=>simp [Kd.Val] at hval
end
theorem vxF_zip:∀ {fs:List (Str×Kd)} {vs:List Vd},vxF fs vs=(fs.zip vs).map fun p=>(Sum.inr p.1.1,p.1.2.vx p.2)
 | [],_=>by simp [vxF]
 | _ :: _,[]=>by simp [vxF]
 | g :: r,u :: vs=>by simp only [vxF,List.zip_cons_cons,List.map_cons]; rw [vxF_zip]
theorem isvF_of:∀ {fs:List (Str×Kd)} {vs:List Vd} {kvs:List (Key×Dx)},vs.length=fs.length→(∀ p∈fs.zip vs,∃ x,getK kvs (Sum.inr p.1.1)=some x∧p.1.2.isv p.2 x)→isvF fs vs kvs
 | [],[],_,_,_=>by simp only [isvF]
 | [],_ :: _,_,h,_=>by simp at h
 | _ :: _,[],_,h,_=>by simp at h
 | f :: r,v :: vs,kvs,hl,h=>by
  simp only [isvF]
  exact ⟨h (f,v) (by rw [List.zip_cons_cons]; exact List.mem_cons_self),isvF_of (by simpa using hl) fun p hp=>h p (by rw [List.zip_cons_cons]; exact List.mem_cons_of_mem _ hp)⟩
theorem isvK_of {v:Vd} {u:Dx}:∀ {ks:List Kd} {j:Nat} {k:Kd},ks[j]? = some k→k.isv v u→isvK ks j v u
 | [],_,_,e,_=>by simp at e
 | k' :: r,0,k,e,h=>by simp at e; subst e; simp only [isvK]; exact h
 | k' :: r,j + 1,k,e,h=>by simp only [isvK]; exact isvK_of (j:=j) (by simpa using e) h
theorem all2_map {α:Type} {g:α→Dx→Prop} {φ:α→Dx}:∀ {l:List α},(∀ a∈l,g a (φ a))→All2 g l (l.map φ)
 | [],_=>rfl
 | a :: l,h=>⟨_,_,rfl,h a List.mem_cons_self,all2_map fun b hb=>h b (List.mem_cons_of_mem _ hb)⟩
theorem zip_names {fs:List (Str×Kd)} {vs:List Vd} (hvl:vs.length=fs.length) (hnd:(fs.map (·.1)).Nodup):((fs.zip vs).map fun p=>p.1.1).Nodup:=by
 have:((fs.zip vs).map fun p=>p.1.1)=fs.map (·.1):=by
  have e:fs.map (·.1)=((fs.zip vs).map (·.1)).map (·.1):=by rw [List.map_fst_zip (by omega)]
  rw [e,List.map_map]
  rfl
 rw [this]
 exact hnd
theorem getK_zip {L:List ((Str×Kd)×Vd)} {φ:(Str×Kd)×Vd→Dx} (hn:(L.map fun p=>p.1.1).Nodup) {p:(Str×Kd)×Vd} (hp:p∈L):getK (L.map fun p=>((Sum.inr p.1.1,φ p):Key×Dx)) (Sum.inr p.1.1)=some (φ p):=by
 refine gu_ (p:=(Sum.inr p.1.1,φ p)) ?_ (List.mem_map_of_mem (f:=fun p=>((Sum.inr p.1.1,φ p):Key×Dx)) hp)
 rw [List.map_map]
 have:(L.map ((fun x:Key×Dx=>x.1) ∘ fun p=>((Sum.inr p.1.1,φ p):Key×Dx)))=(L.map fun p=>p.1.1).map (fun x:Str=>(Sum.inr x:Key)):=by rw [List.map_map]; rfl
 rw [this]
 exact List.Pairwise.map _ (fun a b h e=>h (Sum.inr.inj e)) hn
mutual
theorem isv_vx:∀ (kd:Kd) (vd:Vd),kd.Fit→kd.Val vd→kd.isv vd (kd.vx vd)
 | .num w m,vd,hf,hv=>by
  cases vd with
  | num i=>simp only [Kd.isv,Kd.vx]
  | _=>simp [Kd.Val] at hv
 | .row k m,vd,hf,hv=>by
  cases vd with
  | row vs =>
   simp only [Kd.Val] at hv
   simp only [Kd.isv,Kd.vx]
   exact ⟨_,rfl,all2_map fun v h=>isv_vx k v hf.1 (hv.2 v h)⟩
  | _=>simp [Kd.Val] at hv
 | .rcd fs,vd,hf,hv=>by
  cases vd with
  | rcd vs =>
   simp only [Kd.Val] at hv
   obtain ⟨f1,f2,f3,hnd⟩:=hf
   have hvl:=bz_ hv
   have hz:=isv_vxF fs vs f1 hv
   simp only [Kd.isv,Kd.vx]
   rw [vxF_zip]
   refine ⟨_,rfl,by rw [List.length_map,List.length_zip]; omega,fun kv h => ?_,isvF_of hvl fun p hp=>⟨_,getK_zip (φ:=fun p=>p.1.2.vx p.2) (zip_names hvl hnd) hp,hz p hp⟩⟩
   obtain ⟨p,_,rfl⟩:=List.mem_map.mp h
   exact ⟨_,rfl⟩
  | _=>simp [Kd.Val] at hv
 | .cho ks,vd,hf,hv=>by
  cases vd with
  | cho jj v =>
   simp only [Kd.Val] at hv
   obtain ⟨k,hk,hvk⟩:=dz_ hv
   simp only [Kd.isv,Kd.vx]
   exact ⟨_,rfl,isvK_of hk (by rw [gx_ hk]; exact isv_vxK ks hf.1 k (List.mem_of_getElem? hk) v hvk)⟩
  | _=>simp [Kd.Val] at hv
theorem isv_vxF:∀ (fs:List (Str×Kd)) (vs:List Vd),fitF fs→valF fs vs→∀ p∈fs.zip vs,p.1.2.isv p.2 (p.1.2.vx p.2)
 | [],_,_,_,p,h=>by simp at h
 | _ :: _,[],_,h,_,_=>by simp [valF] at h
 | f :: r,v :: vs,hf,hv,p,h=>by
  simp only [valF] at hv
  rw [List.zip_cons_cons] at h
  rcases List.mem_cons.mp h with rfl | h
  ·exact isv_vx f.2 v hf.1.2 hv.1
  ·exact isv_vxF r vs hf.2 hv.2 p h
theorem isv_vxK:∀ (ks:List Kd),fitK ks→∀ k∈ks,∀ v,k.Val v→k.isv v (k.vx v)
 | [],_,k,h,_,_=>by simp at h
 | k' :: r,hf,k,h,v,hv=>by
  by_cases e:k=k'
  ·rw [e] at hv ⊢; exact isv_vx k' v hf.1 hv
  ·exact isv_vxK r hf.2 k ((List.mem_cons.mp h).resolve_left e) v hv
end
theorem szX_of:∀ {l:List Dx},(∀ d∈l,d.Sz)→szX l
 | [],_=>trivial
 | d :: r,h=>⟨h d List.mem_cons_self,szX_of fun e he=>h e (List.mem_cons_of_mem _ he)⟩
theorem szXk_of:∀ {l:List (Key×Dx)},(∀ p∈l,p.2.Sz)→szXk l
 | [],_=>trivial
 | d :: r,h=>⟨h d List.mem_cons_self,szXk_of fun e he=>h e (List.mem_cons_of_mem _ he)⟩
theorem deepX_le {n:Nat}:∀ {l:List Dx},(∀ d∈l,d.deep≤n)→deepX l≤n
 | [],_=>Nat.zero_le _
 | d :: r,h=>Nat.max_le.mpr ⟨h d List.mem_cons_self,deepX_le fun e he=>h e (List.mem_cons_of_mem _ he)⟩
theorem deepXk_le {n:Nat}:∀ {l:List (Key×Dx)},(∀ p∈l,p.2.deep≤n)→deepXk l≤n
 | [],_=>Nat.zero_le _
 | d :: r,h=>Nat.max_le.mpr ⟨h d List.mem_cons_self,deepXk_le fun e he=>h e (List.mem_cons_of_mem _ he)⟩
mutual
theorem Kd.vx_sz:∀ (kd:Kd) (vd:Vd),kd.Fit→kd.Val vd→(kd.vx vd).Sz∧(kd.vx vd).deep≤kd.deep
 | .num w m,vd,hf,hv=>by
  cases vd with
  | num i=>simp only [Kd.vx,Dx.Sz,Dx.deep,Kd.deep]; exact ⟨trivial,by omega⟩
  | _=>simp [Kd.Val] at hv
 | .row k m,vd,hf,hv=>by
  cases vd with
  | row vs =>
   simp only [Kd.Val] at hv
   have f3:=hf.2.2
   have z:∀ d∈vs.map k.vx,d.Sz∧d.deep≤k.deep:=fun d hd=>by
    obtain ⟨v,hm,rfl⟩:=List.mem_map.mp hd
    exact Kd.vx_sz k v hf.1 (hv.2 v hm)
   simp only [Kd.vx,Dx.Sz,Dx.deep,Kd.deep]
   have:=deepX_le fun d hd=>(z d hd).2
   exact ⟨⟨by rw [List.length_map]; omega,szX_of fun d hd=>(z d hd).1⟩,by omega⟩
  | _=>simp [Kd.Val] at hv
 | .rcd fs,vd,hf,hv=>by
  cases vd with
  | rcd vs =>
   simp only [Kd.Val] at hv
   obtain ⟨f1,f2,f3,hnd⟩:=hf
   have hvl:=bz_ hv
   have z:=vxF_sz fs vs f1 hv
   simp only [Kd.vx,Dx.Sz,Dx.deep,Kd.deep]
   have hk:=dx_ hvl
   have hlen:(vxF fs vs).length=fs.length:=by have:=congrArg List.length hk; simpa using this
   have:=deepXk_le fun d hd=>(z d hd).2
   refine ⟨⟨by omega,?_,szXk_of fun d hd=>(z d hd).1⟩,by omega⟩
   rw [hk]
   have e:(fs.map fun f=>(Sum.inr f.1:Key))=(fs.map (·.1)).map (fun x:Str=>(Sum.inr x:Key)):=by rw [List.map_map]; rfl
   rw [e]
   exact List.Pairwise.map _ (fun a b h e=>h (Sum.inr.inj e)) hnd
  | _=>simp [Kd.Val] at hv
 | .cho ks,vd,hf,hv=>by
  cases vd with
  | cho jj v =>
   simp only [Kd.Val] at hv
   obtain ⟨k,hk,hvk⟩:=dz_ hv
   obtain ⟨a,b⟩:=vxK_sz ks hf.1 k (List.mem_of_getElem? hk) v hvk
   simp only [Kd.vx,Dx.Sz,Dx.deep,Kd.deep,szX,deepX,List.length_cons,List.length_nil]
   rw [gx_ hk]
   have:=Kd.deep_pos k
   have hle:=(fitKx hf.1 (List.mem_of_getElem? hk)).2
   exact ⟨⟨by omega,trivial,a,trivial⟩,by omega⟩
  | _=>simp [Kd.Val] at hv
theorem vxF_sz:∀ (fs:List (Str×Kd)) (vs:List Vd),fitF fs→valF fs vs→∀ p∈vxF fs vs,p.2.Sz∧p.2.deep≤deepF fs
 | [],_,_,_,p,h=>by simp [vxF] at h
 | _ :: _,[],_,h,_,_=>by simp [valF] at h
 | f :: r,v :: vs,hf,hv,p,h=>by
  simp only [valF] at hv
  simp only [vxF] at h
  have e:deepF (f :: r)=max f.2.deep (deepF r):=rfl
  rcases List.mem_cons.mp h with rfl | h
  ·obtain ⟨a,b⟩:=Kd.vx_sz f.2 v hf.1.2 hv.1
   exact ⟨a,Nat.le_trans b (by omega)⟩
  ·obtain ⟨a,b⟩:=vxF_sz r vs hf.2 hv.2 p h
   exact ⟨a,by omega⟩
theorem vxK_sz:∀ (ks:List Kd),fitK ks→∀ k∈ks,∀ v,k.Val v→(k.vx v).Sz∧(k.vx v).deep≤k.deep
 | [],_,k,h,_,_=>by simp at h
 | k' :: r,hf,k,h,v,hv=>by
  by_cases e:k=k'
  ·rw [e] at hv ⊢; exact Kd.vx_sz k' v hf.1 hv
  ·exact vxK_sz r hf.2 k ((List.mem_cons.mp h).resolve_left e) v hv
end
theorem Nm.sz {x:Str} (h:Nm x):x.length≤1000:=by rw [ao_]; exact Nat.le_trans h.2.1 (by decide)
mutual
theorem Kd.xz:∀ (k:Kd),k.Fit→k.x.Sz
 | .num w m,h=>by simp only [Kd.x,Dx.Sz,szX,List.length_cons,List.length_nil]; exact ⟨by decide,by decide +kernel,trivial,trivial,trivial⟩
 | .row k n,h=>by simp only [Kd.x,Dx.Sz,szX,List.length_cons,List.length_nil]; exact ⟨by decide,by decide +kernel,Kd.xz k h.1,trivial,trivial⟩
 | .rcd fs,h=>by
  have:=h.2.2.1
  simp only [Kd.x,Dx.Sz,szX,List.length_cons,List.length_nil]
  exact ⟨by decide,by decide +kernel,⟨by rw [fs_,List.length_map]; omega,xFz fs h.1⟩,trivial⟩
 | .cho ks,h=>by
  have:=h.2.2
  simp only [Kd.x,Dx.Sz,szX,List.length_cons,List.length_nil]
  exact ⟨by decide,by decide +kernel,⟨by rw [es_,List.length_map]; omega,xKz ks h.1⟩,trivial⟩
theorem xFz:∀ (fs:List (Str×Kd)),fitF fs→szX (xF fs)
 | [],_=>by simp only [xF,szX]
 | f :: r,h=>by
  simp only [xF,szX,Dx.Sz,List.length_cons,List.length_nil]
  exact ⟨⟨by decide,Nat.le_trans h.1.1.sz (by decide),Kd.xz f.2 h.1.2,trivial⟩,xFz r h.2⟩
theorem xKz:∀ (ks:List Kd),fitK ks→szX (xK ks)
 | [],_=>by simp only [xK,szX]
 | k :: r,h=>by simp only [xK,szX]; exact ⟨Kd.xz k h.1,xKz r h.2⟩
end
mutual
theorem dp_deep:∀ d:Dx,d.dp≤d.deep
 | .int _=>by simp only [Dx.dp,Dx.deep]; omega
 | .str _=>by simp only [Dx.dp,Dx.deep]; omega
 | .bl _=>by simp only [Dx.dp,Dx.deep]; omega
 | .non=>by simp only [Dx.dp,Dx.deep]; omega
 | .scr _ _=>by simp only [Dx.dp,Dx.deep]; omega
 | .ins _ _=>by simp only [Dx.dp,Dx.deep]; omega
 | .exc _=>by simp only [Dx.dp,Dx.deep]; omega
 | .tup l=>by have:=dpX_deep l; simp only [Dx.dp,Dx.deep]; omega
 | .lst l=>by have:=dpX_deep l; simp only [Dx.dp,Dx.deep]; omega
 | .dic l=>by have:=dpK_deep l; simp only [Dx.dp,Dx.deep]; omega
theorem dpX_deep:∀ l:List Dx,dpX l≤deepX l
 | []=>by simp only [dpX,deepX]; omega
 | d :: r=>by have h1:=dp_deep d; have h2:=dpX_deep r; simp only [dpX,deepX]; omega
theorem dpK_deep:∀ l:List (Key×Dx),dpK l≤deepXk l
 | []=>by simp only [dpK,deepXk]; omega
 | d :: r=>by have h1:=dp_deep d.2; have h2:=dpK_deep r; simp only [dpK,deepXk]; omega
end
mutual
theorem Kd.xpd:∀ k:Kd,k.Fit→k.x.Pd∧k.x.deep≤3 * k.deep
 | .num w m,h=>by
  simp only [Kd.x,Dx.Pd,pdX,Dx.deep,deepX,Kd.deep,List.length_cons,List.length_nil]
  exact ⟨⟨by decide,trivial,trivial,trivial,trivial⟩,by decide⟩
 | .row k n,h=>by
  simp only [Kd.Fit] at h
  obtain ⟨a,b⟩:=Kd.xpd k h.1
  simp only [Kd.x,Dx.Pd,pdX,Dx.deep,deepX,Kd.deep,List.length_cons,List.length_nil]
  refine ⟨⟨by decide,trivial,a,trivial,trivial⟩,?_⟩
  omega
 | .rcd fs,h=>by
  simp only [Kd.Fit] at h
  obtain ⟨a,b⟩:=xpdF fs h.1
  have hl:(xF fs).length≤100000:=by rw [xF_len]; omega
  simp only [Kd.x,Dx.Pd,pdX,Dx.deep,deepX,Kd.deep,List.length_cons,List.length_nil]
  refine ⟨⟨by decide,trivial,⟨hl,a⟩,trivial⟩,?_⟩
  omega
 | .cho ks,h=>by
  simp only [Kd.Fit] at h
  obtain ⟨a,b⟩:=xpdK ks h.1
  have hl:(xK ks).length≤100000:=by rw [xK_len]; omega
  simp only [Kd.x,Dx.Pd,pdX,Dx.deep,deepX,Kd.deep,List.length_cons,List.length_nil]
  refine ⟨⟨by decide,trivial,⟨hl,a⟩,trivial⟩,?_⟩
  omega
theorem xpdF:∀ fs:List (Str×Kd),fitF fs→pdX (xF fs)∧deepX (xF fs)≤3 * deepF fs + 1
 | [],h=>⟨by simp only [xF,pdX],by simp only [xF,deepX]; omega⟩
 | f :: r,h=>by
  simp only [fitF] at h
  obtain ⟨a,b⟩:=Kd.xpd f.2 h.1.2
  obtain ⟨c,d⟩:=xpdF r h.2
  have e:=ea_ f.2
  simp only [xF,pdX,Dx.Pd,deepX,Dx.deep,deepF,List.length_cons,List.length_nil]
  refine ⟨⟨⟨by decide,trivial,a,trivial⟩,c⟩,?_⟩
  omega
theorem xpdK:∀ ks:List Kd,fitK ks→pdX (xK ks)∧deepX (xK ks)≤3 * deepK ks + 1
 | [],h=>⟨by simp only [xK,pdX],by simp only [xK,deepX]; omega⟩
 | k :: r,h=>by
  simp only [fitK] at h
  obtain ⟨a,b⟩:=Kd.xpd k h.1
  obtain ⟨c,d⟩:=xpdK r h.2
  simp only [xK,pdX,deepX,deepK]
  refine ⟨⟨a,c⟩,?_⟩
  omega
end
theorem pdX_of:∀ {l:List Dx},(∀ d∈l,d.Pd)→pdX l
 | [],_=>trivial
 | d :: r,h=>⟨h d List.mem_cons_self,pdX_of fun e he=>h e (List.mem_cons_of_mem _ he)⟩
theorem pdK_of:∀ {l:List (Key×Dx)},(∀ p∈l,p.2.Pd)→pdK l
 | [],_=>trivial
 | d :: r,h=>⟨h d List.mem_cons_self,pdK_of fun e he=>h e (List.mem_cons_of_mem _ he)⟩
mutual
theorem Kd.vxpd:∀ (kd:Kd) (vd:Vd),kd.Fit→kd.Val vd→(kd.vx vd).Pd
 | .num w m,vd,hf,hv=>by
  cases vd with
  | num i=>simp only [Kd.vx,Dx.Pd]
  | _=>simp [Kd.Val] at hv
 | .row k m,vd,hf,hv=>by
  cases vd with
  | row vs =>
   simp only [Kd.Val] at hv
   have f3:=hf.2.2
   simp only [Kd.vx,Dx.Pd]
   refine ⟨by rw [List.length_map]; omega,pdX_of fun d hd => ?_⟩
   obtain ⟨v,hm,rfl⟩:=List.mem_map.mp hd
   exact Kd.vxpd k v hf.1 (hv.2 v hm)
  | _=>simp [Kd.Val] at hv
 | .rcd fs,vd,hf,hv=>by
  cases vd with
  | rcd vs =>
   simp only [Kd.Val] at hv
   obtain ⟨f1,f2,f3,hnd⟩:=hf
   have hk:=dx_ (bz_ hv)
   have hlen:(vxF fs vs).length=fs.length:=by have:=congrArg List.length hk; simpa using this
   simp only [Kd.vx,Dx.Pd]
   exact ⟨by omega,⟨fs.map (·.1),hnd,by rw [hk,List.map_map]; rfl⟩,pdK_of (vxFpd fs vs f1 hv)⟩
  | _=>simp [Kd.Val] at hv
 | .cho ks,vd,hf,hv=>by
  cases vd with
  | cho jj v =>
   simp only [Kd.Val] at hv
   obtain ⟨k,hk,hvk⟩:=dz_ hv
   have a:=vxKpd ks hf.1 k (List.mem_of_getElem? hk) v hvk
   simp only [Kd.vx,Dx.Pd,pdX,List.length_cons,List.length_nil]
   rw [gx_ hk]
   exact ⟨by omega,trivial,a,trivial⟩
  | _=>simp [Kd.Val] at hv
theorem vxFpd:∀ (fs:List (Str×Kd)) (vs:List Vd),fitF fs→valF fs vs→∀ p∈vxF fs vs,p.2.Pd
 | [],_,_,_,p,h=>by simp [vxF] at h
 | _ :: _,[],_,h,_,_=>by simp [valF] at h
 | f :: r,v :: vs,hf,hv,p,h=>by
  simp only [valF] at hv
  simp only [vxF] at h
  rcases List.mem_cons.mp h with rfl | h
  ·exact Kd.vxpd f.2 v hf.1.2 hv.1
  ·exact vxFpd r vs hf.2 hv.2 p h
theorem vxKpd:∀ (ks:List Kd),fitK ks→∀ k∈ks,∀ v,k.Val v→(k.vx v).Pd
 | [],_,k,h,_,_=>by simp at h
 | k' :: r,hf,k,h,v,hv=>by
  by_cases e:k=k'
  ·rw [e] at hv ⊢
   exact Kd.vxpd k' v hf.1 hv
  ·exact vxKpd r hf.2 k ((List.mem_cons.mp h).resolve_left e) v hv
end
theorem lo_row {k:Kd} {m:Int} (h:1≤m):k.lo≤(Kd.row k m).lo:=by simp only [Kd.lo]; exact Nat.le_mul_of_pos_left _ (by omega)
theorem lo_rcd:∀ {fs:List (Str×Kd)} {f:Str×Kd},f∈fs→f.2.lo≤loF fs
 | g :: r,f,h=>by
  simp only [loF]
  rcases List.mem_cons.mp h with rfl | h
  ·omega
  ·have:=lo_rcd h; omega
theorem lo_cho:∀ {ks:List Kd} {k:Kd},k∈ks→k.lo≤loK ks
 | g :: r,f,h=>by
  simp only [loK]
  rcases List.mem_cons.mp h with rfl | h
  ·omega
  ·have:=lo_cho h; omega
def fvS (p:(Str×Kd)×Vd):Str:=p.1.1 ++ " " ++ p.1.2.vs p.2
theorem il_ (p:(Str×Kd)×Vd):codes (fvS p)=codes p.1.1 ++ 32 :: p.1.2.vw p.2:=by
 unfold fvS
 rw [bo_,bo_,dy_,show codes " " = [32] from by decide,List.append_assoc]
 rfl
theorem row_vs {k:Kd} {m:Int} {vs:List Vd} (h:vs≠[]):("[" ++ Txt.join comS (vs.map k.vs) ++ "]" : Str)=(Kd.row k m).vs (.row vs):=fb_ (by
 rw [dy_,bo_,bo_,io_ _ (fun z=>h (List.map_eq_nil_iff.mp z)),show codes "[" = [91] from by decide,show codes "]" = [93] from by decide,List.map_map]
 simp only [Kd.vw,List.cons_append,List.nil_append,List.append_assoc]
 congr 5)
theorem rcd_vs {fs:List (Str×Kd)} {vs:List Vd} (h:fs.zip vs≠[]):("{" ++ Txt.join comS ((fs.zip vs).map fvS) ++ "}" : Str)=(Kd.rcd fs).vs (.rcd vs):=fb_ (by
 rw [dy_,bo_,bo_,io_ _ (fun z=>h (List.map_eq_nil_iff.mp z)),show codes "{" = [123] from by decide,show codes "}" = [125] from by decide,List.map_map]
 simp only [Kd.vw,vwF_flat,List.cons_append,List.nil_append,List.append_assoc]
 congr 5
 funext p
 show 44 :: 32 :: codes (fvS p)=_
 rw [il_])
theorem cho_vs {ks:List Kd} {j:Nat} {k:Kd} {v:Vd} (h:ks[j]? = some k):(txtI (j:Int) ++ ":" ++ k.vs v:Str)=(Kd.cho ks).vs (.cho j v):=fb_ (by
 rw [dy_,bo_,bo_,dy_,show codes ":" = [58] from by decide]
 simp only [Kd.vw,List.append_assoc,vwK_at h]
 rfl)
theorem num_vs {w m n:Int}:txtI n=(Kd.num w m).vs (.num n):=fb_ (by rw [dy_]; simp only [Kd.vw])
def gSV (n:Nat):GC:=fun ds Q => ∃ (kd:Kd) (vd:Vd) (d:Dx),ds=[kd.x,d]∧kd.isv vd d∧kd.Fit∧kd.Val vd∧kd.deep≤n∧n≤5∧kd.lo≤2000∧Q (.tr (.str (kd.vs vd)))
section
variable {P:Program} {w:World} {K:FG_} {mg:MG_} {base:Heap} {f:Addr} {fd:FuncData} {n j:Nat}
theorem okx_sv (F:Fun K "shown_value" "shown_value" ce_ f fd) (CSW:Cal P w K mg base j "shown_value" ["kind", "value"] (spX (gSV n))) (m_str:mg "str" = none) (c_COMMA:∃ t,mg "COMMA" = some (.str comS t)):FnOk P w K mg base CX0 (j + 1) f fd ["kind", "value"] (spX (gSV (n + 1))):=by
 refine fn_x F sc_shown_value (fun ds Q h=>by obtain ⟨_,_,_,rfl,_⟩:=h; rfl) (by decide) fun cdv A outer s H E hr => ?_
 have hu1:=bv_ hr
 have hu0:=Nat.lt_of_succ_lt hu1
 refine ⟨_,(ac_ (bf_ (ax_ (br_ K hu0) dd_ (an_ K (ab_ (pv 0)) ae_ (fun _ _=>rfl)) ay_ (nomark _)) (af_ (ai_ (ds_ fc_ cx_strI (by rfl) m_str fv_ (aa_ (ab_ (pv 1)) ad_)))) aj_)
  (ac_ (bf_ (ax_ (br_ K hu0) dd_ (an_ K (ab_ (pv 0)) ae_ (fun _ _=>rfl)) ay_ (nomark _)) (af_ (ai_ (bj_ (bj_ ay_ (xe_joinG (by rfl) c_COMMA (cj_ (dsc:=defScope ce_) (N:=["kind", "value"]) (tgs:=["each"]) (outs:=[0]) (N':=["each", "kind"]) (by refine ⟨rfl,?_,?_,?_,rfl,?_,?_,?_⟩ <;> decide +kernel) (cn_ (ab_ (pv 1))) (fun _ _ _ _ _=>(aq_ (i:=0) (show (["each", "kind"]:List Str).Nodup by decide +kernel) rfl (Or.inl rfl) (.inr rfl))) (bl_ (n:=1) (i:=0) (by decide)) (bk_ (by decide)) (fun _ _ _ _ _=>by_) (fun _ _ _ _ _=>(al_ CSW (hr.mono (by omega)) (aa_ (an_ K (ab_ (pv 1)) ae_ (fun _ _=>rfl)) (aa_ (ab_ (pv 0)) ad_))))))) ay_))) aj_)
  (ac_ (bf_ (ax_ (br_ K hu0) dd_ (an_ K (ab_ (pv 0)) ae_ (fun _ _=>rfl)) ay_ (nomark _)) (af_ (ai_ (bj_ (bj_ ay_ (xe_joinG (by rfl) c_COMMA (cj_ (dsc:=defScope ce_) (N:=["kind", "value"]) (tgs:=["field"]) (outs:=[1]) (N':=["field", "value"]) (by refine ⟨rfl,?_,?_,?_,rfl,?_,?_,?_⟩ <;> decide +kernel) (cn_ (an_ K (ab_ (pv 0)) ae_ (fun _ _=>rfl))) (fun _ _ _ _ _=>(aq_ (i:=0) (show (["field", "value"]:List Str).Nodup by decide +kernel) rfl (Or.inl rfl) (.inr rfl))) (bl_ (n:=1) (i:=0) (by decide)) (bk_ (by decide)) (fun _ _ _ _ _=>by_) (fun _ _ _ _ _=>(bj_ (bj_ (an_ K (ab_ (pv 0)) ae_ (fun _ _=>rfl)) ay_) (al_ CSW (hr.mono (by omega)) (aa_ (an_ K (ab_ (pv 0)) ae_ (fun _ _=>rfl)) (aa_ (fx_ hu1 (ab_ (pv 1)) (an_ K (ab_ (pv 0)) ae_ (fun _ _=>rfl)) (fun _ _=>rfl)) ad_)))))))) ay_))) aj_)
  (af_ (ai_ (bj_ (bj_ (ds_ fc_ cx_strI (by rfl) m_str fv_ (aa_ (an_ K (ab_ (pv 1)) ae_ (fun _ _=>rfl)) ad_)) ay_) (al_ CSW (hr.mono (by omega)) (aa_ (an_ K (an_ K (ab_ (pv 0)) ae_ (fun _ _=>rfl)) (an_ K (ab_ (pv 1)) ae_ (fun _ _=>rfl)) (fun _ _=>rfl)) (aa_ (an_ K (ab_ (pv 1)) ae_ (fun _ _=>rfl)) ad_))))))))),fun ds Q h => ?_⟩
 clear hu0 hu1
 obtain ⟨kd,vd,d,rfl,hi,hF,hV,hd,hn5,hlo,q⟩:=h
 have hlen:=ev_ hF hV (by omega) hlo
 have hvl0:=ft_ kd vd
 cases kd with
 | num wd m =>
  cases vd with
  | num i =>
   simp only [Kd.isv] at hi
   subst hi
   simp only [Kd.Val] at hV
   simp only [Kd.Fit] at hF
   have g1:=pow256 (show wd.toNat≤8 by omega)
   have g2:(256:Int) ^ 8=18446744073709551616:=by decide
   rw [← num_vs] at q
   exact ⟨i,rfl,hV.1,by omega,q⟩
  | _=>simp only [Kd.Val] at hV
 | row k m =>
  cases vd with
  | row vs =>
   simp only [Kd.isv] at hi
   obtain ⟨ds,rfl,ha⟩:=hi
   simp only [Kd.Val] at hV
   simp only [Kd.Fit] at hF
   simp only [Kd.deep] at hd
   have hlk:=Nat.le_trans (lo_row (k:=k) hF.2.1) hlo
   have hl2:ds.length=vs.length:=ha.len
   have hne:vs≠[]:=fun z=>by rw [z] at hV; have:=hV.1; simp at this; omega
   rw [← row_vs hne] at q hvl0
   rw [ca_,ca_] at hvl0
   have hvl1:1 + (Txt.join comS (vs.map k.vs)).length + 1=_:=hvl0
   have hfd:∀ y∈vs.map k.vs,y.length≤166000:=fun y hy=>by
    obtain ⟨v,hm,rfl⟩:=List.mem_map.mp hy
    rw [ft_]
    exact ev_ hF.1 (hV.2 v hm) (by omega) hlk
   have hsum:=sum_le hfd
   rw [List.length_map] at hsum
   refine ⟨show ds.length≤1000000 by omega,show compX _ _ _ _ _ ds _ _ from ?_⟩
   have ez:ds=(vs.zip ds).map (·.2):=by rw [List.map_snd_zip (by omega)]
   rw [ez]
   refine cb_ _ (fun p:Vd×Dx=>.str (k.vs p.1)) (fun p hp acc P pp => ?_) ?_
   ·exact ⟨k,p.1,p.2,rfl,hn_ ha p hp,hF.1,hV.2 p.1 (List.of_mem_zip hp).1,by omega,by omega,hlk,pp⟩
   ·refine ⟨vs.map k.vs,?_,?_,(by show 1 + (Txt.join comS (vs.map k.vs)).length≤1000000; omega),(by show ("[" ++ Txt.join comS (vs.map k.vs):Str).length + 1≤1000000; rw [ca_]; show 1 + _ + 1≤_; omega),q⟩
    ·rw [List.nil_append]
     have e2:vs=(vs.zip ds).map (·.1):=by rw [List.map_fst_zip (by omega)]
     conv=>rhs; rw [e2]
     rw [List.map_map,List.map_map]
     rfl
    ·rw [List.length_map]
     show _ + vs.length * 2≤16777216
     have:vs.length * 166000≤20 * 166000:=Nat.mul_le_mul_right _ (by omega)
     omega
  | _=>simp only [Kd.Val] at hV
 | rcd fs =>
  cases vd with
  | rcd vs =>
   simp only [Kd.isv] at hi
   obtain ⟨kvs,rfl,hl,hk,ha⟩:=hi
   simp only [Kd.Val] at hV
   have hok:=hF.ok
   simp only [Kd.Fit] at hF
   simp only [Kd.deep] at hd
   have hvl:=bz_ hV
   have hzl:(fs.zip vs).length=fs.length:=by rw [List.length_zip,hvl]; omega
   have hne:fs.zip vs≠[]:=fun z=>by rw [z] at hzl; have:=hF.2.1; simp at hzl; omega
   rw [← rcd_vs hne] at q hvl0
   rw [ca_,ca_] at hvl0
   have hvl1:1 + (Txt.join comS ((fs.zip vs).map fvS)).length + 1=_:=hvl0
   have hgd:∀ p∈fs.zip vs,Nm p.1.1∧p.1.2.Fit∧p.1.2.deep≤deepF fs∧p.1.2.Val p.2∧p.1.2.lo≤2000:=fun p hp=>by
    obtain ⟨a1,a2,a3⟩:=fl_ hF.1 (List.of_mem_zip hp).1
    exact ⟨a1,a2,a3,(gd_ hok.1 hV hp).2.1,Nat.le_trans (lo_rcd (List.of_mem_zip hp).1) hlo⟩
   have hfd:∀ y∈(fs.zip vs).map fvS,y.length≤166020:=fun y hy=>by
    obtain ⟨p,hm,rfl⟩:=List.mem_map.mp hy
    obtain ⟨a1,a2,a3,a4,a5⟩:=hgd p hm
    have:=ev_ a2 a4 (by omega) a5
    have h8:=a1.2.1
    rw [ao_,il_,List.length_append,List.length_cons]
    omega
   have hsum:=sum_le hfd
   rw [List.length_map,hzl] at hsum
   have hxl:(xF fs).length=fs.length:=xF_len
   refine ⟨show (xF fs).length≤1000000 by omega,show compX _ _ _ _ _ (xF fs) _ _ from ?_⟩
   have exf:xF fs=(fs.zip vs).map fun p=>.tup [.str p.1.1,p.1.2.x]:=by
    rw [fs_]
    have:fs=(fs.zip vs).map (·.1):=by rw [List.map_fst_zip (by omega)]
    conv=>lhs; rw [this]
    rw [List.map_map]
    rfl
   rw [exf]
   refine cb_ _ (fun p:(Str×Kd)×Vd=>.str (fvS p)) (fun p hp acc P pp => ?_) ?_
   ·obtain ⟨x,hx,hix⟩:=hm_ ha hp
    obtain ⟨a1,a2,a3,a4,a5⟩:=hgd p hp
    have h3:=ev_ a2 a4 (by omega) a5
    have h4:=ft_ p.1.2 p.2
    have h8:=a1.2.1
    rw [← ao_] at h8
    refine ⟨(by show p.1.1.length + 1≤1000000; omega),?_⟩
    show match getK kvs (Sum.inr p.1.1) with | some d=>_ | none=>False
    rw [hx]
    exact ⟨p.1.2,p.2,x,rfl,hix,a2,a4,by omega,by omega,a5,(by show (p.1.1 ++ " " : Str).length + (p.1.2.vs p.2).length≤1000000; rw [ca_]; show _ + 1 + _≤_; omega),pp⟩
   ·refine ⟨(fs.zip vs).map fvS,by rw [List.nil_append,List.map_map]; rfl,?_,(by show 1 + (Txt.join comS ((fs.zip vs).map fvS)).length≤1000000; omega),(by show ("{" ++ Txt.join comS ((fs.zip vs).map fvS):Str).length + 1≤1000000; rw [ca_]; show 1 + _ + 1≤_; omega),q⟩
    rw [List.length_map,hzl]
    show _ + fs.length * 2≤16777216
    have:fs.length * 166020≤8 * 166020:=Nat.mul_le_mul_right _ hF.2.2.1
    omega
  | _=>simp only [Kd.Val] at hV
 | cho ks =>
  cases vd with
  | cho jj v =>
   simp only [Kd.isv] at hi
   obtain ⟨u,rfl,ha⟩:=hi
   simp only [Kd.Val] at hV
   simp only [Kd.Fit] at hF
   simp only [Kd.deep] at hd
   obtain ⟨k,hk,hik⟩:=isvK_at ha
   have hvk:=valK_mem hV hk
   have hm:=List.mem_of_getElem? hk
   obtain ⟨a2,a3⟩:=gm_ hF.1 hm
   have hlk:=Nat.le_trans (lo_cho hm) hlo
   have hjl:=(List.getElem?_eq_some_iff.mp hk).1
   have h3:=ev_ a2 hvk (by omega) hlk
   have h4:=ft_ k v
   have ht:=fy_ (n:=(jj:Int)) (k:=1) (by omega) (by omega) (by decide)
   have hat:atI (xK ks) (jj:Int)=some k.x:=ck_ (by rw [es_,List.getElem?_map,hk]; rfl)
   rw [← cho_vs hk] at q
   refine ⟨(jj:Int),rfl,by omega,by omega,(by show (txtI (jj:Int)).length + 1≤1000000; omega),?_⟩
   show match atI (xK ks) (jj:Int) with | some d=>_ | none=>False
   rw [hat]
   exact ⟨k,v,u,rfl,hik,a2,hvk,by omega,by omega,hlk,(by show (txtI (jj:Int) ++ ":" : Str).length + (k.vs v).length≤1000000; rw [ca_]; show _ + 1 + _≤_; omega),q⟩
  | _=>simp only [Kd.Val] at hV
theorem okx_lw (F:Fun K "_law_written" "_law_written" cf_ f fd) (CWR:Cal P w K mg base j "_law_written" ["kind", "value"] (spX (gSV n))) (m_str:mg "str" = none):FnOk P w K mg base CX0 (j + 1) f fd ["kind", "value"] (spX (gSV (n + 1))):=by
 refine fn_x F sc_law_written (fun ds Q h=>by obtain ⟨_,_,_,rfl,_⟩:=h; rfl) (by decide) fun cdv A outer s H E hr => ?_
 have hu1:=bv_ hr
 have hu0:=Nat.lt_of_succ_lt hu1
 refine ⟨_,(ac_ (bf_ (ax_ (br_ K hu0) dd_ (an_ K (ab_ (pv 0)) ae_ (fun _ _=>rfl)) ay_ (nomark _)) (af_ (ai_ (ds_ fc_ cx_strI (by rfl) m_str fv_ (aa_ (ab_ (pv 1)) ad_)))) aj_)
  (ac_ (bf_ (ax_ (br_ K hu0) dd_ (an_ K (ab_ (pv 0)) ae_ (fun _ _=>rfl)) ay_ (nomark _)) (af_ (ai_ (bj_ (bj_ (ds_ fc_ cx_strI (by rfl) m_str fv_ (aa_ (an_ K (ab_ (pv 1)) ae_ (fun _ _=>rfl)) ad_)) ay_) (al_ CWR (hr.mono (by omega)) (aa_ (an_ K (an_ K (ab_ (pv 0)) ae_ (fun _ _=>rfl)) (an_ K (ab_ (pv 1)) ae_ (fun _ _=>rfl)) (fun _ _=>rfl)) (aa_ (an_ K (ab_ (pv 1)) ae_ (fun _ _=>rfl)) ad_)))))) aj_)
  (ac_ (bf_ (ax_ (br_ K hu0) dd_ (an_ K (ab_ (pv 0)) ae_ (fun _ _=>rfl)) ay_ (nomark _)) (af_ (ai_ (bj_ (bj_ ay_ (xe_join (cj_ (dsc:=defScope cf_) (N:=["kind", "value"]) (tgs:=["name", "part"]) (outs:=[1]) (N':=["name", "part", "value"]) (by refine ⟨rfl,?_,?_,?_,rfl,?_,?_,?_⟩ <;> decide +kernel) (cn_ (an_ K (ab_ (pv 0)) ae_ (fun _ _=>rfl))) (fun _ _ _ _ _=>(pg_tupK K (n:=2) rfl rfl (bx_ (aq_ (i:=0) (show (["name", "part", "value"]:List Str).Nodup by decide +kernel) rfl (Or.inl rfl) (.inr rfl)) (bx_ (aq_ (i:=1) (show (["name", "part", "value"]:List Str).Nodup by decide +kernel) rfl (Or.inl rfl) (.inr rfl)) ga_)))) (ik_ (n:=2) (is:=[0,1]) rfl (by decide)) (tgt_tup (eh_ (by decide) (eh_ (by decide) tgts_nil eg_) (gp_ eg_))) (fun _ _ _ _ _=>by_) (fun _ _ _ _ _=>(bj_ (bj_ (ab_ (pv 0)) ay_) (al_ CWR (hr.mono (by omega)) (aa_ (ab_ (pv 1)) (aa_ (fx_ hu1 (ab_ (pv 2)) (ab_ (pv 0)) (fun _ _=>rfl)) ad_)))))))) ay_))) aj_)
  (af_ (ai_ (bj_ (bj_ ay_ (xe_join (cj_ (dsc:=defScope cf_) (N:=["kind", "value"]) (tgs:=["one"]) (outs:=[0]) (N':=["one", "kind"]) (by refine ⟨rfl,?_,?_,?_,rfl,?_,?_,?_⟩ <;> decide +kernel) (cn_ (ab_ (pv 1))) (fun _ _ _ _ _=>(aq_ (i:=0) (show (["one", "kind"]:List Str).Nodup by decide +kernel) rfl (Or.inl rfl) (.inr rfl))) (bl_ (n:=1) (i:=0) (by decide)) (bk_ (by decide)) (fun _ _ _ _ _=>by_) (fun _ _ _ _ _=>(al_ CWR (hr.mono (by omega)) (aa_ (an_ K (ab_ (pv 1)) ae_ (fun _ _=>rfl)) (aa_ (ab_ (pv 0)) ad_))))))) ay_)))))),fun ds Q h => ?_⟩
 clear hu0 hu1
 obtain ⟨kd,vd,d,rfl,hi,hF,hV,hd,hn5,hlo,q⟩:=h
 have hlen:=ev_ hF hV (by omega) hlo
 have hvl0:=ft_ kd vd
 cases kd with
 | num wd m =>
  cases vd with
  | num i =>
   simp only [Kd.isv] at hi
   subst hi
   simp only [Kd.Val] at hV
   simp only [Kd.Fit] at hF
   have g1:=pow256 (show wd.toNat≤8 by omega)
   have g2:(256:Int) ^ 8=18446744073709551616:=by decide
   rw [← num_vs] at q
   exact ⟨i,rfl,hV.1,by omega,q⟩
  | _=>simp only [Kd.Val] at hV
 | row k m =>
  cases vd with
  | row vs =>
   simp only [Kd.isv] at hi
   obtain ⟨ds,rfl,ha⟩:=hi
   simp only [Kd.Val] at hV
   simp only [Kd.Fit] at hF
   simp only [Kd.deep] at hd
   have hlk:=Nat.le_trans (lo_row (k:=k) hF.2.1) hlo
   have hl2:ds.length=vs.length:=ha.len
   have hne:vs≠[]:=fun z=>by rw [z] at hV; have:=hV.1; simp at this; omega
   rw [← row_vs hne] at q hvl0
   rw [ca_,ca_] at hvl0
   have hvl1:1 + (Txt.join comS (vs.map k.vs)).length + 1=_:=hvl0
   have hfd:∀ y∈vs.map k.vs,y.length≤166000:=fun y hy=>by
    obtain ⟨v,hm,rfl⟩:=List.mem_map.mp hy
    rw [ft_]
    exact ev_ hF.1 (hV.2 v hm) (by omega) hlk
   have hsum:=sum_le hfd
   rw [List.length_map] at hsum
   refine ⟨show ds.length≤1000000 by omega,show compX _ _ _ _ _ ds _ _ from ?_⟩
   have ez:ds=(vs.zip ds).map (·.2):=by rw [List.map_snd_zip (by omega)]
   rw [ez]
   refine cb_ _ (fun p:Vd×Dx=>.str (k.vs p.1)) (fun p hp acc P pp => ?_) ?_
   ·exact ⟨k,p.1,p.2,rfl,hn_ ha p hp,hF.1,hV.2 p.1 (List.of_mem_zip hp).1,by omega,by omega,hlk,pp⟩
   ·refine ⟨vs.map k.vs,?_,?_,(by show 1 + (Txt.join comS (vs.map k.vs)).length≤1000000; omega),(by show ("[" ++ Txt.join comS (vs.map k.vs):Str).length + 1≤1000000; rw [ca_]; show 1 + _ + 1≤_; omega),q⟩
    ·rw [List.nil_append]
     have e2:vs=(vs.zip ds).map (·.1):=by rw [List.map_fst_zip (by omega)]
     conv=>rhs; rw [e2]
     rw [List.map_map,List.map_map]
     rfl
    ·rw [List.length_map]
     show _ + vs.length * 2≤16777216
     have:vs.length * 166000≤20 * 166000:=Nat.mul_le_mul_right _ (by omega)
     omega
  | _=>simp only [Kd.Val] at hV
 | rcd fs =>
  cases vd with
  | rcd vs =>
   simp only [Kd.isv] at hi
   obtain ⟨kvs,rfl,hl,hk,ha⟩:=hi
   simp only [Kd.Val] at hV
   have hok:=hF.ok
   simp only [Kd.Fit] at hF
   simp only [Kd.deep] at hd
   have hvl:=bz_ hV
   have hzl:(fs.zip vs).length=fs.length:=by rw [List.length_zip,hvl]; omega
   have hne:fs.zip vs≠[]:=fun z=>by rw [z] at hzl; have:=hF.2.1; simp at hzl; omega
   rw [← rcd_vs hne] at q hvl0
   rw [ca_,ca_] at hvl0
   have hvl1:1 + (Txt.join comS ((fs.zip vs).map fvS)).length + 1=_:=hvl0
   have hgd:∀ p∈fs.zip vs,Nm p.1.1∧p.1.2.Fit∧p.1.2.deep≤deepF fs∧p.1.2.Val p.2∧p.1.2.lo≤2000:=fun p hp=>by
    obtain ⟨a1,a2,a3⟩:=fl_ hF.1 (List.of_mem_zip hp).1
    exact ⟨a1,a2,a3,(gd_ hok.1 hV hp).2.1,Nat.le_trans (lo_rcd (List.of_mem_zip hp).1) hlo⟩
   have hfd:∀ y∈(fs.zip vs).map fvS,y.length≤166020:=fun y hy=>by
    obtain ⟨p,hm,rfl⟩:=List.mem_map.mp hy
    obtain ⟨a1,a2,a3,a4,a5⟩:=hgd p hm
    have:=ev_ a2 a4 (by omega) a5
    have h8:=a1.2.1
    rw [ao_,il_,List.length_append,List.length_cons]
    omega
   have hsum:=sum_le hfd
   rw [List.length_map,hzl] at hsum
   have hxl:(xF fs).length=fs.length:=xF_len
   refine ⟨show (xF fs).length≤1000000 by omega,show compX _ _ _ _ _ (xF fs) _ _ from ?_⟩
   have exf:xF fs=(fs.zip vs).map fun p=>.tup [.str p.1.1,p.1.2.x]:=by
    rw [fs_]
    have:fs=(fs.zip vs).map (·.1):=by rw [List.map_fst_zip (by omega)]
    conv=>lhs; rw [this]
    rw [List.map_map]
    rfl
   rw [exf]
   refine cb_ _ (fun p:(Str×Kd)×Vd=>.str (fvS p)) (fun p hp acc P pp => ?_) ?_
   ·obtain ⟨x,hx,hix⟩:=hm_ ha hp
    obtain ⟨a1,a2,a3,a4,a5⟩:=hgd p hp
    have h3:=ev_ a2 a4 (by omega) a5
    have h4:=ft_ p.1.2 p.2
    have h8:=a1.2.1
    rw [← ao_] at h8
    refine ⟨(by show p.1.1.length + 1≤1000000; omega),?_⟩
    show match getK kvs (Sum.inr p.1.1) with | some d=>_ | none=>False
    rw [hx]
    exact ⟨p.1.2,p.2,x,rfl,hix,a2,a4,by omega,by omega,a5,(by show (p.1.1 ++ " " : Str).length + (p.1.2.vs p.2).length≤1000000; rw [ca_]; show _ + 1 + _≤_; omega),pp⟩
   ·refine ⟨(fs.zip vs).map fvS,by rw [List.nil_append,List.map_map]; rfl,?_,(by show 1 + (Txt.join comS ((fs.zip vs).map fvS)).length≤1000000; omega),(by show ("{" ++ Txt.join comS ((fs.zip vs).map fvS):Str).length + 1≤1000000; rw [ca_]; show 1 + _ + 1≤_; omega),q⟩
    rw [List.length_map,hzl]
    show _ + fs.length * 2≤16777216
    have:fs.length * 166020≤8 * 166020:=Nat.mul_le_mul_right _ hF.2.2.1
    omega
  | _=>simp only [Kd.Val] at hV
 | cho ks =>
  cases vd with
  | cho jj v =>
   simp only [Kd.isv] at hi
   obtain ⟨u,rfl,ha⟩:=hi
   simp only [Kd.Val] at hV
   simp only [Kd.Fit] at hF
   simp only [Kd.deep] at hd
   obtain ⟨k,hk,hik⟩:=isvK_at ha
   have hvk:=valK_mem hV hk
   have hm:=List.mem_of_getElem? hk
   obtain ⟨a2,a3⟩:=gm_ hF.1 hm
   have hlk:=Nat.le_trans (lo_cho hm) hlo
   have hjl:=(List.getElem?_eq_some_iff.mp hk).1
   have h3:=ev_ a2 hvk (by omega) hlk
   have h4:=ft_ k v
   have ht:=fy_ (n:=(jj:Int)) (k:=1) (by omega) (by omega) (by decide)
   have hat:atI (xK ks) (jj:Int)=some k.x:=ck_ (by rw [es_,List.getElem?_map,hk]; rfl)
   rw [← cho_vs hk] at q
   refine ⟨(jj:Int),rfl,by omega,by omega,(by show (txtI (jj:Int)).length + 1≤1000000; omega),?_⟩
   show match atI (xK ks) (jj:Int) with | some d=>_ | none=>False
   rw [hat]
   exact ⟨k,v,u,rfl,hik,a2,hvk,by omega,by omega,hlk,(by show (txtI (jj:Int) ++ ":" : Str).length + (k.vs v).length≤1000000; rw [ca_]; show _ + 1 + _≤_; omega),q⟩
  | _=>simp only [Kd.Val] at hV
theorem okx_shv (F:Fun K "show_value" "show_value" ex_ f fd) (CSW:Cal P w K mg base j "shown_value" ["kind", "value"] (spX (gSV 5))) (CIV:Cal P w K mg base j "is_value" ["kind", "thing"] (spX (gIV 5))):FnOk P w K mg base CX0 (j + 1) f fd ["kind", "thing"] (spX (gSV 5)):=by
 refine fn_x F sc_show_value (fun ds Q h=>by obtain ⟨_,_,_,rfl,_⟩:=h; rfl) (by decide) fun cdv A outer s H E hr => ?_
 have hu1:=bv_ hr
 have hu0:=Nat.lt_of_succ_lt hu1
 refine ⟨_,(ac_ (bf_ (cl_ (bp_ (al_ CIV (hr.mono (by omega)) (aa_ (ab_ (pv 0)) (aa_ (ab_ (pv 1)) ad_))))) (af_ xs_no) aj_)
  (af_ (ai_ (al_ CSW (hr.mono (by omega)) (aa_ (ab_ (pv 0)) (aa_ (ab_ (pv 1)) ad_)))))),fun ds Q h => ?_⟩
 clear hu0 hu1
 obtain ⟨kd,vd,d,rfl,hi,hF,hV,hd,hn,hlo,q⟩:=h
 exact ⟨kd,vd,d,rfl,hi,hF.ok,hV,hd,by decide,kd,vd,d,rfl,hi,hF,hV,hd,by decide,hlo,q⟩
end
def sortDX:GC:=fun ds Q => ∃ (l:List (Key×Dx)) (ks:List Str),ds=[.dic l]∧l.map (·.1)=ks.map Sum.inr∧ks.length < 64∧∀ ss:List Str,ss.Perm ks→Q (.ol (ss.map Dx.str))
theorem cx_sortD:CallX rSortD sortDX:=by
 intro F P H ds xs Q Qx R hs g k
 obtain ⟨l,ks,rfl,hk,h64,q⟩:=g
 obtain ⟨y,rfl,hx⟩:=dk_ hs
 obtain ⟨a,ws,rfl,h1,h2⟩:=hx.dic_eq
 refine ⟨a,ws,ks,rfl,rd_hv R h1,(iq_ h2).trans hk,h64,fun ss hp _ p hn=>k _ _ _ (R.newL (l:=ss.map Dx.str) hn (strs_isx ss)) (q ss hp)⟩
theorem nodup_inj {L:List ((Str×Kd)×Vd)} {p p':(Str×Kd)×Vd} (hn:(L.map fun p=>p.1.1).Nodup) (h:p∈L) (h':p'∈L) (e:p.1.1=p'.1.1):p=p':=by
 induction L with
 | nil=>simp at h
 | cons q r ih =>
  rw [List.map_cons,List.nodup_cons] at hn
  rcases List.mem_cons.mp h with h | h
  ·rcases List.mem_cons.mp h' with h' | h'
   ·rw [h,h']
   ·exact absurd (List.mem_map.mpr ⟨p',h',by rw [← e,h]⟩) hn.1
  ·rcases List.mem_cons.mp h' with h' | h'
   ·exact absurd (List.mem_map.mpr ⟨p,h,by rw [e,h']⟩) hn.1
   ·exact ih hn.2 h h'
def gTU (n:Nat):GC:=fun ds Q => ∃ (kd:Kd) (vd:Vd),ds=[kd.vx vd]∧kd.Fit∧kd.Val vd∧kd.deep≤n∧∀ s:Sv,kd.isv vd s.d→Q s
section
variable {P:Program} {w:World} {K:FG_} {mg:MG_} {base:Heap} {f:Addr} {fd:FuncData} {n j:Nat}
theorem okx_tu (F:Fun K "_law_turned" "_law_turned" dc_ f fd) (CTU:Cal P w K mg base j "_law_turned" ["value"] (spX (gTU n))) (m_isinstance:mg "isinstance" = none) (m_list:mg "list" = none) (m_tuple:mg "tuple" = none) (m_dict:mg "dict" = none) (m_sorted:mg "sorted" = none) :
  FnOk P w K mg base CX0 (j + 1) f fd ["value"] (spX (gTU (n + 1))):=by
 refine fn_x F sc_law_turned (fun ds Q h=>by obtain ⟨_,_,rfl,_⟩:=h; rfl) (by decide) fun cdv A outer s H E hr => ?_
 have hu1:=bv_ hr
 have hu0:=Nat.lt_of_succ_lt hu1
 refine ⟨_,(ac_ (bf_ (bp_ (as_ .list m_isinstance (ab_ (pv 0)) (bd_ (v:=.ty "list") rfl m_list ee_ rfl))) (af_ (ai_ (cj_ (dsc:=defScope dc_) (N:=["value", "found", "name"]) (tgs:=["one"]) (outs:=[]) (N':=["one"]) (by refine ⟨rfl,?_,?_,?_,rfl,?_,?_,?_⟩ <;> decide +kernel) (cn_ (ab_ (pv 0))) (fun _ _ _ _ _=>(aq_ (i:=0) (show (["one"]:List Str).Nodup by decide +kernel) rfl (Or.inl rfl) (.inr rfl))) (bl_ (n:=1) (i:=0) (by decide)) (bk_ (by decide)) (fun _ _ _ _ _=>by_) (fun _ _ _ _ _=>(al_ CTU (hr.mono (by omega)) (aa_ (ab_ (pv 0)) ad_)))))) aj_)
  (ac_ (bf_ (bp_ (as_ .tuple m_isinstance (ab_ (pv 0)) (bd_ (v:=.ty "tuple") rfl m_tuple eb_ rfl))) (af_ (ai_ (dw_ (aa_ (an_ K (ab_ (pv 0)) ae_ (fun _ _=>rfl)) (aa_ (al_ CTU (hr.mono (by omega)) (aa_ (an_ K (ab_ (pv 0)) ae_ (fun _ _=>rfl)) ad_)) ad_))))) aj_)
  (ac_ (bf_ (cl_ (bp_ (as_ .dict m_isinstance (ab_ (pv 0)) (bd_ (v:=.ty "dict") rfl m_dict gw_ rfl)))) (af_ (ai_ (cp_ (pv 0)))) aj_)
  (ac_ (ap_ fun F=>aw_ (i:=1) sc_law_turned.nd rfl (Or.inl rfl) (XE.at (Ex:=noEx) F xe_dnew))
  (ac_ (gb_ PassesOwn.never rfl (cn_ (xe_revL (au_ (hb_ rfl) cx_sortD (by rfl) m_sorted bt_sorted (aa_ (ab_ (pv 0)) ad_)))) (aq_ (i:=2) sc_law_turned.nd rfl (Or.inl rfl)) (bl_ (n:=99) (i:=2) (by decide)) (af_ (xs_of fun F=>PS.weak (hu_ hu1 (pv 1) (XE.at (Ex:=noEx) F (ab_ (pv 2))) (XE.at (Ex:=noEx) F (al_ CTU (hr.mono (by omega)) (aa_ (fx_ hu1 (ab_ (pv 0)) (ab_ (pv 2)) (fun _ _=>rfl)) ad_))) rfl) tDPut_x)))
  (af_ (ai_ (cp_ (pv 1))))))))),fun ds Q h => ?_⟩
 clear hu0 hu1
 obtain ⟨kd,vd,rfl,hfit,hval,hd,q⟩:=h
 cases kd with
 | num wd m =>
  cases vd with
  | num i =>
   have:=q (.tr (.int i)) (by simp only [Kd.isv,Sv.d])
   simp only [Kd.vx]
   exact this
  | _=>simp [Kd.Val] at hval
 | row k m =>
  cases vd with
  | row vs =>
   have hd':k.deep + 1≤n + 1:=hd
   obtain ⟨f1,f2,f3⟩:=hfit
   simp only [Kd.Val] at hval
   simp only [Kd.vx]
   refine ⟨show (vs.map k.vx).length≤_ by rw [List.length_map]; omega,show compX _ _ _ _ _ (vs.map k.vx) _ _ from ?_⟩
   refine cu_ k.vx (fun rest acc cs => ∃ done:List Vd,vs=done ++ rest∧All2 k.isv done acc∧cs=[]) (fun acc cs h => ?_) (fun v rest acc cs Pn h hk => ?_) ⟨[],rfl,rfl,rfl⟩
   ·obtain ⟨done,e1,h2,rfl⟩:=h
    rw [List.append_nil] at e1
    subst e1
    exact q (.ol acc) (by simp only [Kd.isv,Sv.d]; exact ⟨acc,rfl,h2⟩)
   ·obtain ⟨done,e1,h2,rfl⟩:=h
    have hv:v∈vs:=by rw [e1]; exact List.mem_append_right _ List.mem_cons_self
    refine ⟨k,v,rfl,f1,hval.2 v hv,by omega,fun s hs=>hk _ _ ⟨done ++ [v],by rw [e1,List.append_assoc]; rfl,?_,rfl⟩⟩
    exact All2.snoc hs h2
  | _=>simp [Kd.Val] at hval
 | cho ks =>
  cases vd with
  | cho jj v =>
   have hd':deepK ks + 1≤n + 1:=hd
   obtain ⟨f1,f2,f3⟩:=hfit
   simp only [Kd.Val] at hval
   obtain ⟨k,hk,hvk⟩:=dz_ hval
   obtain ⟨kf,kdp⟩:=fitKx f1 (List.mem_of_getElem? hk)
   simp only [Kd.vx]
   rw [gx_ hk]
   refine ⟨k,v,rfl,kf,hvk,by omega,fun s hs=>⟨len2,?_⟩⟩
   refine q (.tr (.tup [.int (jj:Int),s.d])) ?_
   simp only [Kd.isv,Sv.d]
   exact ⟨s.d,rfl,isvK_of hk hs⟩
  | _=>simp [Kd.Val] at hval
 | rcd fs =>
  cases vd with
  | rcd vs =>
   have hd':deepF fs + 1≤n + 1:=hd
   have hok:=hfit.ok
   obtain ⟨f1,f2,f3,hnd⟩:=hfit
   simp only [Kd.Val] at hval
   have hvl:=bz_ hval
   have hkeys:=dx_ hvl
   have hndz:=zip_names hvl hnd
   have hz1:(fs.zip vs).map (fun p=>p.1.1)=fs.map (·.1):=by
    have e:fs.map (·.1)=((fs.zip vs).map (·.1)).map (·.1):=by rw [List.map_fst_zip (by omega)]
    rw [e,List.map_map]
    rfl
   simp only [Kd.vx]
   refine ⟨vxF fs vs,fs.map (·.1),rfl,by rw [hkeys,List.map_map]; rfl,by rw [List.length_map]; omega,fun ss hperm => ?_⟩
   show forX _ _ _ ((ss.map Dx.str).reverse) _
   rw [← List.map_reverse]
   have hpr:ss.reverse.Perm (fs.map (·.1)):=(List.reverse_perm ss).trans hperm
   have hssn:ss.reverse.Nodup:=hpr.nodup_iff.mpr hnd
   generalize ss.reverse=rr at hpr hssn
   refine db_ Dx.str (fun rest ρ => ∃ (us:List (Str×Dx)) (y:Sl),rr=us.map (·.1) ++ rest∧(∀ u∈us,∃ p∈fs.zip vs,p.1.1=u.1∧p.1.2.isv p.2 u.2)∧ρ=[.v (.tr (.dic (vxF fs vs))),.v (.od (us.map fun u=>((Sum.inr u.1:Key),u.2))),y]) (fun ρ h => ?_) (fun nm rest ρ Kn h hk => ?_) ⟨[],.un,rfl,fun u hu=>absurd hu List.not_mem_nil,rfl⟩
   ·obtain ⟨us,y,e1,h2,rfl⟩:=h
    rw [List.append_nil] at e1
    have hul:us.length=fs.length:=by have:=hpr.length_eq; rw [e1,List.length_map,List.length_map] at this; exact this
    have hun:(us.map (·.1)).Nodup:=e1 ▸ hssn
    refine q (.od (us.map fun u=>((Sum.inr u.1:Key),u.2))) ?_
    simp only [Kd.isv,Sv.d]
    refine ⟨_,rfl,by rw [List.length_map]; exact hul,fun kv hkv => ?_,isvF_of hvl fun p hp => ?_⟩
    ·obtain ⟨u,_,rfl⟩:=List.mem_map.mp hkv
     exact ⟨u.1,rfl⟩
    ·have hpm:p.1.1∈us.map (·.1):=by
      rw [← e1]
      refine hpr.mem_iff.mpr ?_
      rw [← hz1]
      exact List.mem_map.mpr ⟨p,hp,rfl⟩
     obtain ⟨u,hu,eu⟩:=List.mem_map.mp hpm
     obtain ⟨p',hp',ep,hi⟩:=h2 u hu
     have:p'=p:=nodup_inj hndz hp' hp (ep.trans eu)
     subst this
     refine ⟨u.2,?_,hi⟩
     have hg:=gu_ (l:=us.map fun u=>((Sum.inr u.1:Key),u.2)) (p:=(Sum.inr u.1,u.2)) (by
      rw [List.map_map]
      have:us.map ((fun x:Key×Dx=>x.1) ∘ fun u:Str×Dx=>((Sum.inr u.1:Key),u.2))=(us.map (·.1)).map (fun x:Str=>(Sum.inr x:Key)):=by rw [List.map_map]; rfl
      rw [this]
      exact List.Pairwise.map _ (fun a b h e=>h (Sum.inr.inj e)) hun) (List.mem_map.mpr ⟨u,hu,rfl⟩)
     rw [← eu]
     exact hg
   ·obtain ⟨us,y,e1,h2,rfl⟩:=h
    have hnm:nm∈(fs.zip vs).map (fun p=>p.1.1):=by
     rw [hz1]
     refine hpr.mem_iff.mp ?_
     rw [e1]
     exact List.mem_append_right _ List.mem_cons_self
    obtain ⟨p,hp,rfl⟩:=List.mem_map.mp hnm
    obtain ⟨i,hi⟩:=List.mem_iff_getElem?.mp hp
    obtain ⟨g1,g2⟩:=List.getElem?_zip_eq_some.mp hi
    have hget:=getK_vx hnd hvl g1 g2
    obtain ⟨ff,fdp⟩:=fitFx f1 (List.mem_of_getElem? g1)
    have hvv:=(gd_ hok.1 hval hp).2.1
    have hlen:us.length + (rest.length + 1)=fs.length:=by
     have:=hpr.length_eq
     rw [e1,List.length_append,List.length_map,List.length_cons,List.length_map] at this
     exact this
    have hnew:(Sum.inr p.1.1:Key)∉(us.map fun u=>((Sum.inr u.1:Key),u.2)).map (·.1):=by
     intro z
     obtain ⟨kv,hkv,ekv⟩:=List.mem_map.mp z
     obtain ⟨u,hu,rfl⟩:=List.mem_map.mp hkv
     have e5:u.1=p.1.1:=Sum.inr.inj ekv
     rw [e1,List.nodup_append] at hssn
     exact hssn.2.2 u.1 (List.mem_map_of_mem (f:=fun u:Str×Dx=>u.1) hu) p.1.1 List.mem_cons_self e5
    show match getK (vxF fs vs) (Sum.inr p.1.1) with | some d=>_ | none=>False
    rw [hget]
    refine ⟨p.1.2,p.2,rfl,ff,hvv,by omega,fun s hs=>⟨⟨_,rfl⟩,show (us.map fun u=>((Sum.inr u.1:Key),u.2)).length < 1000000 by rw [List.length_map]; omega,hk _ ⟨us ++ [(p.1.1,s.d)],.v (.tr (.str p.1.1)),?_,fun u hu => ?_,?_⟩⟩⟩
    ·rw [List.map_append,e1,List.append_assoc]
     rfl
    ·rcases List.mem_append.mp hu with hu | hu
     ·exact h2 u hu
     ·rw [List.mem_singleton.mp hu]
      exact ⟨p,hp,rfl,hs⟩
    ·rw [List.map_append,List.map_cons,List.map_nil,← putX_new hnew]
     rfl
  | _=>simp [Kd.Val] at hval
end
def sepV (k:Kd) (vs:List Vd):List Nat:=(vs.map fun v=>44 :: 32 :: k.vw v).flatten
def OutV (t:Str) (p:Nat) (kd:Kd) (vd:Vd) (Q:Sv→FsO→Prop):Prop := ∀ (s:Sv) (o:Ow),s.o? = some o→o.Own→o.d=kd.vx vd→Q s (rdr t (p + (kd.vw vd).length))
def gTV (C0:Addr) (n:Nat):GO:=fun C l ds Q=>C=C0∧∃ (t:Str) (p:Nat) (kd:Kd) (vd:Vd) (rest:List Nat),l=rdr t p∧ds=[kd.x]∧t.length≤100000∧kd.Fit∧kd.Val vd∧kd.deep≤n∧(codes t).drop p=kd.vw vd ++ rest∧HaltD rest∧p≤t.length∧OutV t p kd vd Q
def gTNU (C0:Addr):GO:=fun C l ds Q=>C=C0∧∃ (t:Str) (p:Nat) (w m i:Int) (rest:List Nat),l=rdr t p∧ds=[(Kd.num w m).x]∧t.length≤100000∧(Kd.num w m).Fit∧(Kd.num w m).Val (.num i)∧(codes t).drop p=codes (txtI i) ++ rest∧HaltD rest∧p≤t.length∧Q (.tr (.int i)) (rdr t (p + (txtI i).length))
def gTRW (C0:Addr) (n:Nat):GO:=fun C l ds Q=>C=C0∧∃ (t:Str) (p:Nat) (k:Kd) (m:Int) (vs:List Vd) (rest:List Nat),l=rdr t p∧ds=[k.x,.int m]∧t.length≤100000∧(Kd.row k m).Fit∧(Kd.row k m).Val (.row vs)∧k.deep≤n∧(codes t).drop p=(Kd.row k m).vw (.row vs) ++ rest∧p≤t.length∧OutV t p (.row k m) (.row vs) Q
def gTRC (C0:Addr) (n:Nat):GO:=fun C l ds Q=>C=C0∧∃ (t:Str) (p:Nat) (fs:List (Str×Kd)) (vs:List Vd) (rest:List Nat),l=rdr t p∧ds=[.lst (xF fs)]∧t.length≤100000∧(Kd.rcd fs).Fit∧(Kd.rcd fs).Val (.rcd vs)∧deepF fs≤n∧(codes t).drop p=(Kd.rcd fs).vw (.rcd vs) ++ rest∧p≤t.length∧OutV t p (.rcd fs) (.rcd vs) Q
def gTCH (C0:Addr) (n:Nat):GO:=fun C l ds Q=>C=C0∧∃ (t:Str) (p:Nat) (ks:List Kd) (jj:Nat) (v:Vd) (rest:List Nat),l=rdr t p∧ds=[.lst (xK ks)]∧t.length≤100000∧(Kd.cho ks).Fit∧(Kd.cho ks).Val (.cho jj v)∧deepK ks≤n∧(codes t).drop p=(Kd.cho ks).vw (.cho jj v) ++ rest∧HaltD rest∧p≤t.length∧OutV t p (.cho ks) (.cho jj v) Q
theorem go_if1 {c:XC} {G:XS} {ρ ρ':En} {D:XD} (hc:∀ Q:Bool→En→Prop,Q true ρ'→c ρ Q) (h:G ρ' D):xIf c G xNext ρ D:=hc _ h
theorem halt_sep (k:Kd) (vs:List Vd) (rest:List Nat):HaltD (sepV k vs ++ 93 :: rest):=fun c l e=>by
 cases vs with
 | nil=>cases e; decide +kernel
 | cons v r=>simp only [sepV,List.map_cons,List.flatten_cons,List.cons_append] at e; cases e; decide +kernel
section
variable {P:Program} {w:World} {K:FG_} {mg:MG_} {base:Heap} {f:Addr} {fd:FuncData} {C_Reader:Addr} {n j:Nat}
theorem okx_tnu (F:Fun K "taken_number" "taken_number" cz_ f fd) (CM_take_number:CalM P w K mg base 2 C_Reader "take_number" ["self", "most_figures"] (spO (gTN6 C_Reader))) (CIV:Cal P w K mg base j "is_value" ["kind", "thing"] (spX (gIV 5))) (c_FIGURES_OF_A_BYTE:∃ t,mg "FIGURES_OF_A_BYTE" = some (.int 3 t)) (hj:2≤j):FnOk P w K mg base CX0 (j + 1) f fd ["reader", "kind"] (spO (gTNU C_Reader)):=by
 refine fn_o F sc_taken_number (fun C l ds Q h=>by obtain ⟨_,_,_,_,_,_,_,_,rfl,_⟩:=h; rfl) (by decide) fun cdv A outer s H E hr => ?_
 have hu1:=bv_ hr
 have hu0:=Nat.lt_of_succ_lt hu1
 refine ⟨_,(ac_ (ap_ fun F=>aw_ (i:=2) sc_taken_number.nd rfl (Or.inl rfl) (XE.at (Ex:=noEx) F (cq_ (C:=C_Reader) (i:=0) CM_take_number (hr.mono (by omega)) (pv 0) (aa_ (eu_ (xe_glob (by rfl) c_FIGURES_OF_A_BYTE) (an_ K (ab_ (pv 1)) ae_ (fun _ _=>rfl))) ad_))))
  (ac_ (bf_ (cl_ (bp_ (al_ CIV (hr.mono (by omega)) (aa_ (ab_ (pv 1)) (aa_ (ab_ (pv 2)) ad_))))) (af_ xs_no) aj_)
  (af_ (ai_ (cp_ (pv 2)))))),fun C a dx l ds Q h => ?_⟩
 obtain ⟨rfl,t,p,wd,m,i,rest,rfl,rfl,htl,hF,hV,hw,hh,hp,q⟩:=h
 have hV':=hV
 have hF':=hF
 simp only [Kd.Val] at hV
 simp only [Kd.Fit] at hF
 have g1:=pow256 (show wd.toNat≤8 by omega)
 have g2:(256:Int) ^ 8=18446744073709551616:=by decide
 have hl:=txt_w (n:=i) (w:=wd.toNat) hV.1 (by omega) hV.2
 refine ⟨⟨rfl,rfl⟩,⟨by omega,by omega⟩,rfl,t,p,i,3 * wd,rfl,rfl,hp,htl,hV.1,by omega,by omega,num_at hV.1 hw hh,?_⟩
 exact ⟨.num wd m,.num i,.int i,rfl,by simp only [Kd.isv],hF'.ok,hV',by simp only [Kd.deep]; omega,by decide,rfl,rfl,rfl,q⟩
theorem okx_trw (F:Fun K "taken_row" "taken_row" ek_ f fd) (CTV:Cal P w K mg base j "taken_value" ["reader", "kind"] (spO (gTV C_Reader n))) (CM_take:CalM P w K mg base 2 C_Reader "take" ["self", "signs"] (spO (gTA C_Reader))) (m_range:mg "range" = none) (c_COMMA:∃ t,mg "COMMA" = some (.str comS t)) (hj:2≤j):FnOk P w K mg base CX0 (j + 1) f fd ["reader", "kind", "n"] (spO (gTRW C_Reader n)):=by
 refine fn_o F sc_taken_row (fun C l ds Q h=>by obtain ⟨_,_,_,_,_,_,_,_,rfl,_⟩:=h; rfl) (by decide) fun cdv A outer s H E hr => ?_
 have hu1:=bv_ hr
 have hu0:=Nat.lt_of_succ_lt hu1
 refine ⟨_,(ac_ (fw_ (cq_ (C:=C_Reader) (i:=0) CM_take (hr.mono (by omega)) (pv 0) (aa_ ay_ ad_)))
  (ac_ (ap_ fun F=>aw_ (i:=3) sc_taken_row.nd rfl (Or.inl rfl) (XE.at (Ex:=noEx) F (xe_lstO ad_)))
  (ac_ (gb_ PassesOwn.never rfl (co_ m_range (aa_ (ab_ (pv 2)) ad_)) (aq_ (i:=4) sc_taken_row.nd rfl (Or.inl rfl)) (bl_ (n:=99) (i:=4) (by decide)) (ac_ (bf_ (ax_ op_gt ox_gt (ab_ (pv 4)) ae_ (nomark _)) (af_ (fw_ (cq_ (C:=C_Reader) (i:=0) CM_take (hr.mono (by omega)) (pv 0) (aa_ (hc_ (by rfl) c_COMMA) ad_)))) aj_)
  (af_ (xs_of fun F=>PS.weak (ht_ (pe_bm PySem.F.plainAttrs_list PySem.F.slot_list_append PySem.F.type_list_append gj_ (pv 3) (ar_ (XE.at (Ex:=noEx) F (dl_ (i:=0) CTV (hr.mono (by omega)) (pv 0) (aa_ (ab_ (pv 1)) ad_))) bi_))) tAppO_x))))
  (ac_ (fw_ (cq_ (C:=C_Reader) (i:=0) CM_take (hr.mono (by omega)) (pv 0) (aa_ ay_ ad_)))
  (af_ (ai_ (cp_ (pv 3)))))))),fun C a dx l ds Q h => ?_⟩
 obtain ⟨rfl,t,p,k,m,vs,rest,rfl,rfl,htl,hF,hV,hdn,hw,hp,q⟩:=h
 simp only [Kd.Val] at hV
 simp only [Kd.Fit] at hF
 have hw2:(codes t).drop p=[91] ++ ((sepV k vs).drop 2 ++ 93 :: rest):=by rw [hw]; simp only [Kd.vw,sepV,List.cons_append,List.append_assoc,List.nil_append]
 obtain ⟨h2,h2'⟩:=dg_ hw2
 refine ⟨⟨rfl,rfl⟩,rfl,t, "[",p,rfl,rfl,hp,htl,by rw [hw2]; exact fz_ (a:=[91]),?_⟩
 refine ⟨[],rfl,(by show 0≤1000000; decide),fun a0 => ?_⟩
 dsimp only
 change xSeq _ _ [.bo (.oi C a dx (rdr t (p + 1))),.v (.tr k.x),.v (.tr (.int m)),.v (.ow (.ol a0 [])),.un] _
 refine go_ (fun ρ => ∃ (os:List Ow) (y:Sl),ownL os∧owDs os=vs.map k.vx∧(codes t).drop (p + ((Kd.row k m).vw (.row vs)).length - 1)=93 :: rest∧p + ((Kd.row k m).vw (.row vs)).length - 1≤t.length∧ρ=[.bo (.oi C a dx (rdr t (p + ((Kd.row k m).vw (.row vs)).length - 1))),.v (.tr k.x),.v (.tr (.int m)),.v (.ow (.ol a0 os)),y]) ?_ (fun nx hnx => ?_)
 ·rintro ρ ⟨os,y,hos,hod,hdr,hx,rfl⟩
  have hdr1:(codes t).drop (p + ((Kd.row k m).vw (.row vs)).length - 1)=[93] ++ rest:=hdr
  refine ⟨⟨rfl,rfl⟩,rfl,t, "]",_,rfl,rfl,hx,htl,by rw [hdr1]; exact fz_ (a:=[93]),?_⟩
  refine ⟨rfl,rfl,rfl,?_⟩
  have q':=q (.ow (.ol a0 os)) (.ol a0 os) rfl (by simp only [Ow.Own]; exact hos) (by simp only [Ow.d,Kd.vx,hod])
  have e1:1≤((Kd.row k m).vw (.row vs)).length:=by simp only [Kd.vw,List.length_cons]; omega
  have e:p + ((Kd.row k m).vw (.row vs)).length - 1 + 1=p + ((Kd.row k m).vw (.row vs)).length:=by omega
  have e2:("]" : Str).length=1:=by decide
  rw [← e] at q'
  exact q'
 ·have eN:vs.length=m.toNat:=by omega
  have hvne:vs≠[]:=fun z=>by rw [z] at eN; simp at eN; omega
  have eL:((Kd.row k m).vw (.row vs)).length=((sepV k vs).drop 2).length + 2:=by simp only [Kd.vw,sepV,List.length_cons,List.length_append,List.length_nil]
  generalize hLd:((Kd.row k m).vw (.row vs)).length=L at hnx eL
  refine ⟨⟨by omega,by omega⟩,?_⟩
  show forX _ _ _ ((List.range m.toNat).map fun k:Nat=>Dx.int (0 + (k:Int))) _
  generalize hNN:m.toNat=N at eN
  refine db_ (fun k:Nat=>Dx.int (0 + (k:Int))) (fun rg ρ => ∃ (dn td:List Vd) (os:List Ow) (x c:Nat) (y:Sl),vs=dn ++ td∧rg=(List.range N).drop dn.length∧(c=2∧dn=[]∨c=0∧dn≠[])∧ownL os∧owDs os=dn.map k.vx∧(codes t).drop x=(sepV k td).drop c ++ 93 :: rest∧x≤t.length∧x + ((sepV k td).drop c).length + 1=p + L∧ρ=[.bo (.oi C a dx (rdr t x)),.v (.tr k.x),.v (.tr (.int m)),.v (.ow (.ol a0 os)),y]) (fun ρ h => ?_) (fun k0 rg ρ Kn h hk => ?_) ⟨[],vs,[],p + 1,2,.un,rfl,by rw [List.length_nil,List.drop_zero],.inl ⟨rfl,rfl⟩,by simp only [ownL],by simp only [owDs,List.map_nil],h2,h2' hp,by omega,rfl⟩
  ·obtain ⟨dn,td,os,x,c,y,e1,e2,hc,hos,hod,hdr,hx,hxe,rfl⟩:=h
   have hdl:N≤dn.length:=by
    have:=congrArg List.length e2
    rw [List.length_drop,List.length_range,List.length_nil] at this
    omega
   have htd:td=[]:=by
    have:=congrArg List.length e1
    rw [List.length_append] at this
    exact List.length_eq_zero_iff.mp (by omega)
   subst htd
   rw [List.append_nil] at e1
   subst e1
   have ez:(sepV k []).drop c=[]:=by simp [sepV]
   rw [ez] at hdr hxe
   have ex:p + L - 1=x:=by simp only [List.length_nil] at hxe; omega
   refine hnx _ ⟨os,y,hos,hod,?_,?_,?_⟩
   ·rw [ex]; exact hdr
   ·rw [ex]; exact hx
   ·rw [ex]
  ·obtain ⟨dn,td,os,x,c,y,e1,e2,hc,hos,hod,hdr,hx,hxe,rfl⟩:=h
   obtain ⟨ek,er,hlt⟩:=range_drop e2
   have hosl:os.length=dn.length:=by
    have:=congrArg List.length hod
    rw [owDs_len,List.length_map] at this
    exact this
   have htn:=congrArg List.length e1
   rw [List.length_append] at htn
   cases td with
   | nil=>simp only [List.length_nil] at htn; omega
   | cons v tr =>
    have hv:v∈vs:=by rw [e1]; exact List.mem_append_right _ List.mem_cons_self
    have es:sepV k (v :: tr)=44 :: 32 :: (k.vw v ++ sepV k tr):=by simp only [sepV,List.map_cons,List.flatten_cons,List.cons_append]
    refine xSeq_mid (M:=fun ρ => ∃ x',(codes t).drop x'=k.vw v ++ (sepV k tr ++ 93 :: rest)∧x'≤t.length∧x' + (k.vw v).length + (sepV k tr).length + 1=p + L∧ρ=[.bo (.oi C a dx (rdr t x')),.v (.tr k.x),.v (.tr (.int m)),.v (.ow (.ol a0 os)),.v (.tr (.int (0 + (k0:Int))))]) ?_ ?_
    ·rintro ρ ⟨x',hd',hx',he',rfl⟩
     obtain ⟨h4,h4'⟩:=dg_ hd'
     refine ⟨trivial,rfl,rfl,t,x',k,v,sepV k tr ++ 93 :: rest,rfl,rfl,htl,hF.1,hV.2 v hv,hdn,hd',halt_sep k tr rest,hx',fun s o hso ho hod2 => ?_⟩
     refine ⟨o,hso,by omega,hk _ ⟨dn ++ [v],tr,os ++ [o],x' + (k.vw v).length,0,_,by rw [e1,List.append_assoc]; rfl,by rw [er,List.length_append]; rfl,.inr ⟨rfl,by simp⟩,own_snoc hos ho,by rw [owDs_snoc,hod,hod2,List.map_append]; rfl,by rw [List.drop_zero]; exact h4,h4' hx',by rw [List.drop_zero]; omega,rfl⟩⟩
    ·intro D' hD'
     rcases hc with ⟨rfl,rfl⟩ | ⟨rfl,hdn⟩
     ·refine go_last (ρ':=[.bo (.oi C a dx (rdr t x)),.v (.tr k.x),.v (.tr (.int m)),.v (.ow (.ol a0 os)),.v (.tr (.int (0 + (k0:Int))))]) (fun Q q => ?_) ?_
      ·show Q (decide ((0:Int) < 0 + (k0:Int))) _
       rw [decide_eq_false (by rw [ek]; simp)]
       exact q
      ·rw [es,List.drop_succ_cons,List.drop_succ_cons,List.drop_zero] at hdr hxe
       rw [List.length_append] at hxe
       exact hD' _ ⟨x,by rw [hdr,List.append_assoc],hx,by omega,rfl⟩
     ·have hk0:0 < k0:=by rw [ek]; exact List.length_pos_iff.mpr hdn
      rw [es,List.drop_zero] at hdr hxe
      have hdr2:(codes t).drop x=[44,32] ++ (k.vw v ++ (sepV k tr ++ 93 :: rest)):=by rw [hdr]; simp only [List.cons_append,List.nil_append,List.append_assoc]
      obtain ⟨h3,h3'⟩:=dg_ hdr2
      refine go_if1 (ρ':=[.bo (.oi C a dx (rdr t x)),.v (.tr k.x),.v (.tr (.int m)),.v (.ow (.ol a0 os)),.v (.tr (.int (0 + (k0:Int))))]) (fun Q q => ?_) ?_
      ·show Q (decide ((0:Int) < 0 + (k0:Int))) _
       rw [decide_eq_true (by omega)]
       exact q
      ·refine ⟨⟨rfl,rfl⟩,rfl,t,comS,x,rfl,rfl,hx,htl,by rw [hdr2]; exact fz_ (a:=[44,32]),?_⟩
       simp only [List.length_cons,List.length_append] at hxe
       exact hD' _ ⟨x + 2,h3,h3' hx,by omega,rfl⟩
end
theorem o?_d {s:Sv} {o:Ow} (h:s.o? = some o):s.d=o.d:=by
 cases s with
 | tr d=>cases h; rfl
 | ow o'=>cases h; rfl
 | ol l=>cases h
 | od l=>cases h
theorem halt_fs (fs:List (Str×Kd)) (vs:List Vd) (rest:List Nat):HaltD (vwF fs vs ++ 125 :: rest):=fun c l e=>by
 cases fs with
 | nil=>simp only [vwF,List.nil_append] at e; cases e; decide +kernel
 | cons f r =>
  cases vs with
  | nil=>simp only [vwF,List.nil_append] at e; cases e; decide +kernel
  | cons v vr=>simp only [vwF,List.cons_append] at e; cases e; decide +kernel
theorem owDk_snoc {o:Key×Ow}:∀ {l:List (Key×Ow)},owDk (l ++ [o])=owDk l ++ [(o.1,o.2.d)]
 | []=>rfl
 | p :: l=>by simp only [List.cons_append,owDk,owDk_snoc]
theorem owDk_len:∀ {l:List (Key×Ow)},(owDk l).length=l.length
 | []=>rfl
 | p :: l=>by simp only [owDk,List.length_cons,owDk_len]
theorem vxF_len {fs:List (Str×Kd)} {vs:List Vd} (h:vs.length=fs.length):(vxF fs vs).length=fs.length:=by have:=congrArg List.length (dx_ h); simpa using this
theorem valF_split:∀ {a b:List (Str×Kd)} {va vb:List Vd},va.length=a.length→valF (a ++ b) (va ++ vb)→valF b vb
 | [],b,[],vb,_,h=>h
 | [],_,_ :: _,_,h,_=>by simp at h
 | _ :: _,_,[],_,h,_=>by simp at h
 | f :: a,b,v :: va,vb,hl,h=>by
  simp only [List.cons_append,valF] at h
  exact valF_split (by simpa using hl) h.2
section
variable {P:Program} {w:World} {K:FG_} {mg:MG_} {base:Heap} {f:Addr} {fd:FuncData} {C_Reader:Addr} {n j:Nat}
theorem okx_tch (F:Fun K "taken_choice" "taken_choice" da_ f fd) (CTV:Cal P w K mg base j "taken_value" ["reader", "kind"] (spO (gTV C_Reader n))) (CM_take:CalM P w K mg base 2 C_Reader "take" ["self", "signs"] (spO (gTA C_Reader))) (CM_take_number:CalM P w K mg base 2 C_Reader "take_number" ["self", "most_figures"] (spO (gTN6 C_Reader))) (m_len:mg "len" = none) (c_FIGURES_OF_A_BYTE:∃ t,mg "FIGURES_OF_A_BYTE" = some (.int 3 t)) (hj:2≤j):FnOk P w K mg base CX0 (j + 1) f fd ["reader", "kinds"] (spO (gTCH C_Reader n)):=by
 refine fn_o F sc_taken_choice (fun C l ds Q h=>by obtain ⟨_,_,_,_,_,_,_,_,rfl,_⟩:=h; rfl) (by decide) fun cdv A outer s H E hr => ?_
 have hu1:=bv_ hr
 have hu0:=Nat.lt_of_succ_lt hu1
 refine ⟨_,(ac_ (ap_ fun F=>aw_ (i:=2) sc_taken_choice.nd rfl (Or.inl rfl) (XE.at (Ex:=noEx) F (cq_ (C:=C_Reader) (i:=0) CM_take_number (hr.mono (by omega)) (pv 0) (aa_ (xe_glob (by rfl) c_FIGURES_OF_A_BYTE) ad_))))
  (ac_ (bf_ (ax_ op_ge ox_ge (ab_ (pv 2)) (au_ (ba_ K) ct_ (by rfl) m_len PySem.boot_len (aa_ (ab_ (pv 1)) ad_)) (nomark _)) (af_ xs_no) aj_)
  (ac_ (fw_ (cq_ (C:=C_Reader) (i:=0) CM_take (hr.mono (by omega)) (pv 0) (aa_ ay_ ad_)))
  (af_ (ai_ (xe_tupO (aa_ (ab_ (pv 2)) (aa_ (dl_ (i:=0) CTV (hr.mono (by omega)) (pv 0) (aa_ (an_ K (ab_ (pv 1)) (ab_ (pv 2)) (fun _ _=>rfl)) ad_)) ad_)))))))),fun C a dx l ds Q h => ?_⟩
 obtain ⟨rfl,t,p,ks,jj,v,rest,rfl,rfl,htl,hF,hV,hdn,hw,hh,hp,q⟩:=h
 simp only [Kd.Val] at hV
 simp only [Kd.Fit] at hF
 obtain ⟨k,hk,hvk⟩:=dz_ hV
 have hjl:=(List.getElem?_eq_some_iff.mp hk).1
 obtain ⟨a2,a3⟩:=gm_ hF.1 (List.mem_of_getElem? hk)
 have ht:=fy_ (n:=(jj:Int)) (k:=1) (by omega) (by omega) (by decide)
 have hxl:(xK ks).length=ks.length:=xK_len
 have hat:atI (xK ks) (jj:Int)=some k.x:=ck_ (by rw [es_,List.getElem?_map,hk]; rfl)
 have hw2:(codes t).drop p=codes (txtI (jj:Int)) ++ ([58] ++ (k.vw v ++ rest)):=by rw [hw]; simp only [Kd.vw,vwK_at hk,List.cons_append,List.append_assoc,List.nil_append]
 obtain ⟨h2,h2'⟩:=dg_ hw2
 obtain ⟨h3,h3'⟩:=dg_ h2
 rw [← ao_] at h2 h2' h3 h3'
 refine ⟨⟨rfl,rfl⟩,rfl,t,p,(jj:Int),3,rfl,rfl,hp,htl,by omega,by omega,by omega,num_at (by omega) hw2 (fun c l e=>by cases e; decide +kernel),?_⟩
 dsimp only
 change xSeq _ _ [.bo (.oi C a dx (rdr t (p + (txtI (jj:Int)).length))),.v (.tr (.lst (xK ks))),.v (.tr (.int (jj:Int)))] _
 refine di_ (ρ':=[.bo (.oi C a dx (rdr t (p + (txtI (jj:Int)).length))),.v (.tr (.lst (xK ks))),.v (.tr (.int (jj:Int)))]) (fun Q q => ?_) ?_
 ·show Q (decide (((xK ks).length:Int)≤(jj:Int))) _
  rw [decide_eq_false (by omega)]
  exact q
 refine ⟨⟨rfl,rfl⟩,rfl,t, ":",p + (txtI (jj:Int)).length,rfl,rfl,h2' hp,htl,by rw [h2]; exact fz_ (a:=[58]),?_⟩
 refine ⟨rfl,?_⟩
 show match atI (xK ks) (jj:Int) with | some d=>_ | none=>False
 rw [hat]
 refine ⟨rfl,t,p + (txtI (jj:Int)).length + 1,k,v,rest,rfl,rfl,htl,a2,hvk,by omega,h3,hh,h3' (h2' hp),fun s o hso ho hod => ?_⟩
 refine ⟨[.tr (.int (jj:Int)),o],by show [some (Ow.tr (.int (jj:Int))),s.o?]=_; rw [hso]; rfl,(by show 2≤1000000; decide),rfl,rfl,rfl,?_⟩
 have q':=q (.ow (.ot [.tr (.int (jj:Int)),o])) (.ot [.tr (.int (jj:Int)),o]) rfl (by simp only [Ow.Own,ownL]; exact ⟨.inl ⟨_,rfl⟩,ho,trivial⟩) (by simp only [Ow.d,owDs,hod,Kd.vx,gx_ hk])
 have e:p + ((Kd.cho ks).vw (.cho jj v)).length=p + (txtI (jj:Int)).length + 1 + (k.vw v).length:=by
  rw [ao_]
  (simp only [Kd.vw,vwK_at hk,List.length_cons,List.length_append]) <;> omega
 rw [e] at q'
 exact q'
theorem okx_tsf (F:Fun K "taken_some_fields" "taken_some_fields" bt_ f fd) (CTV:Cal P w K mg base j "taken_value" ["reader", "kind"] (spO (gTV C_Reader n))) (CM_take:CalM P w K mg base 2 C_Reader "take" ["self", "signs"] (spO (gTA C_Reader))) (CM_passes:CalM P w K mg base 1 C_Reader "passes" ["self", "signs"] (spO (gPA C_Reader))) (m_len:mg "len" = none) (c_COMMA:∃ t,mg "COMMA" = some (.str comS t)) (hj:2≤j):FnOk P w K mg base CX0 (j + 1) f fd ["reader", "fields"] (spO (gTRC C_Reader n)):=by
 refine fn_o F sc_taken_some_fields (fun C l ds Q h=>by obtain ⟨_,_,_,_,_,_,_,rfl,_⟩:=h; rfl) (by decide) fun cdv A outer s H E hr => ?_
 have hu1:=bv_ hr
 have hu0:=Nat.lt_of_succ_lt hu1
 refine ⟨_,(ac_ (fw_ (cq_ (C:=C_Reader) (i:=0) CM_take (hr.mono (by omega)) (pv 0) (aa_ ay_ ad_)))
  (ac_ (ap_ fun F=>aw_ (i:=2) sc_taken_some_fields.nd rfl (Or.inl rfl) (XE.at (Ex:=noEx) F xe_dnewO))
  (ac_ (gb_ PassesOwn.never rfl (cn_ (ab_ (pv 1))) (aq_ (i:=3) sc_taken_some_fields.nd rfl (Or.inl rfl)) (bl_ (n:=99) (i:=3) (by decide)) (ac_ (ap_ fun F=>aw_ (i:=4) sc_taken_some_fields.nd rfl (Or.inl rfl) (XE.at (Ex:=noEx) F (xe_ifExp (ax_ op_gt ox_gt (xe_lenPk K (i:=2) (pv 2) m_len) ae_ (nomark _)) (hc_ (by rfl) c_COMMA) ay_)))
  (af_ (bf_ (bp_ (cq_ (C:=C_Reader) (i:=0) CM_passes (hr.mono (by omega)) (pv 0) (aa_ (bj_ (bj_ (ab_ (pv 4)) (an_ K (ab_ (pv 3)) ae_ (fun _ _=>rfl))) ay_) ad_))) (af_ (xs_of fun F=>PS.weak (hu_ hu1 (pv 2) (XE.at (Ex:=noEx) F (an_ K (ab_ (pv 3)) ae_ (fun _ _=>rfl))) (XE.at (Ex:=noEx) F (dl_ (i:=0) CTV (hr.mono (by omega)) (pv 0) (aa_ (an_ K (ab_ (pv 3)) ae_ (fun _ _=>rfl)) ad_))) rfl) tDPut_xO)) aj_))))
  (ac_ (fw_ (cq_ (C:=C_Reader) (i:=0) CM_take (hr.mono (by omega)) (pv 0) (aa_ ay_ ad_)))
  (af_ (ai_ (cp_ (pv 2)))))))),fun C a dx l ds Q h => ?_⟩
 obtain ⟨rfl,t,p,fs,vs,rest,rfl,rfl,htl,hF,hV,hdn,hw,hp,q⟩:=h
 simp only [Kd.Val] at hV
 simp only [Kd.Fit] at hF
 have hvl:=bz_ hV
 have hw2:(codes t).drop p=[123] ++ ((vwF fs vs).drop 2 ++ 125 :: rest):=by rw [hw]; simp only [Kd.vw,List.cons_append,List.append_assoc,List.nil_append]
 obtain ⟨h2,h2'⟩:=dg_ hw2
 have eL:((Kd.rcd fs).vw (.rcd vs)).length=((vwF fs vs).drop 2).length + 2:=by simp only [Kd.vw,List.length_cons,List.length_append,List.length_nil]
 unfold OutV at q
 generalize hLd:((Kd.rcd fs).vw (.rcd vs)).length=L at q eL
 refine ⟨⟨rfl,rfl⟩,rfl,t, "{",p,rfl,rfl,hp,htl,by rw [hw2]; exact fz_ (a:=[123]),?_⟩
 intro a0
 dsimp only
 change xSeq _ _ [.bo (.oi C a dx (rdr t (p + 1))),.v (.tr (.lst (xF fs))),.v (.ow (.od a0 [])),.un,.un] _
 refine go_ (fun ρ => ∃ (l:List (Key×Ow)) (y3 y4:Sl),ownK l∧l.map (·.1)=(fs.map (·.1)).map Sum.inr∧owDk l=vxF fs vs∧(codes t).drop (p + L - 1)=125 :: rest∧p + L - 1≤t.length∧ρ=[.bo (.oi C a dx (rdr t (p + L - 1))),.v (.tr (.lst (xF fs))),.v (.ow (.od a0 l)),y3,y4]) ?_ (fun nx hnx => ?_)
 ·rintro ρ ⟨l,y3,y4,hol,hlk,hod,hdr,hx,rfl⟩
  have hdr1:(codes t).drop (p + L - 1)=[125] ++ rest:=hdr
  refine ⟨⟨rfl,rfl⟩,rfl,t, "}",_,rfl,rfl,hx,htl,by rw [hdr1]; exact fz_ (a:=[125]),?_⟩
  refine ⟨rfl,rfl,rfl,?_⟩
  have q':=q (.ow (.od a0 l)) (.od a0 l) rfl (by simp only [Ow.Own]; exact ⟨⟨fs.map (·.1),hlk,hF.2.2.2,(fun x hx=>by obtain ⟨g,hg,rfl⟩:=List.mem_map.mp hx; exact (fl_ hF.1 hg).1),by rw [List.length_map]; exact hF.2.2.1⟩,hol⟩) (by simp only [Ow.d,Kd.vx,hod])
  have e:p + L - 1 + 1=p + L:=by omega
  rw [← e] at q'
  exact q'
 ·show forX _ _ _ (xF fs) _
  rw [fs_]
  refine db_ (fun f:Str×Kd=>Dx.tup [.str f.1,f.2.x]) (fun td ρ => ∃ (dn:List (Str×Kd)) (vd vt:List Vd) (l:List (Key×Ow)) (x c:Nat) (y3 y4:Sl),fs=dn ++ td∧vs=vd ++ vt∧vd.length=dn.length∧(c=2∧dn=[]∨c=0∧dn≠[])∧ownK l∧l.map (·.1)=(dn.map (·.1)).map Sum.inr∧owDk l=vxF dn vd∧(codes t).drop x=(vwF td vt).drop c ++ 125 :: rest∧x≤t.length∧x + ((vwF td vt).drop c).length + 1=p + L∧ρ=[.bo (.oi C a dx (rdr t x)),.v (.tr (.lst (fs.map fun f:Str×Kd=>Dx.tup [.str f.1,f.2.x]))),.v (.ow (.od a0 l)),y3,y4]) (fun ρ h => ?_) (fun g tr ρ Kn h hk => ?_) ⟨[],[],vs,[],p + 1,2,.un,.un,rfl,rfl,rfl,.inl ⟨rfl,rfl⟩,by simp only [ownK],rfl,by simp only [owDk,vxF],h2,h2' hp,by omega,rfl⟩
  ·obtain ⟨dn,vd,vt,l,x,c,y3,y4,e1,e2,e3,hc,hol,hlk,hod,hdr,hx,hxe,rfl⟩:=h
   rw [List.append_nil] at e1
   subst e1
   have hvt:vt=[]:=by
    have:=congrArg List.length e2
    rw [List.length_append] at this
    exact List.length_eq_zero_iff.mp (by omega)
   subst hvt
   rw [List.append_nil] at e2
   subst e2
   have ez:(vwF [] []).drop c=[]:=by simp [vwF]
   rw [ez] at hdr hxe
   have ex:p + L - 1=x:=by simp only [List.length_nil] at hxe; omega
   refine hnx _ ⟨l,y3,y4,hol,hlk,hod,by rw [ex]; exact hdr,by rw [ex]; exact hx,by rw [ex,fs_]⟩
  ·obtain ⟨dn,vd,vt,l,x,c,y3,y4,e1,e2,e3,hc,hol,hlk,hod,hdr,hx,hxe,rfl⟩:=h
   have hg:g∈fs:=by rw [e1]; exact List.mem_append_right _ List.mem_cons_self
   obtain ⟨gn,gf,gd⟩:=fl_ hF.1 hg
   have hV2:=hV
   rw [e1,e2] at hV2
   have hV3:=valF_split e3 hV2
   cases vt with
   | nil=>simp [valF] at hV3
   | cons v vr =>
    simp only [valF] at hV3
    have hll:l.length=dn.length:=by have:=congrArg List.length hlk; rw [List.length_map,List.length_map,List.length_map] at this; exact this
    have hfl:dn.length≤8:=by have:=congrArg List.length e1; rw [List.length_append] at this; have:=hF.2.2.1; omega
    have es:vwF (g :: tr) (v :: vr)=[44,32] ++ ((codes g.1 ++ [32]) ++ (g.2.vw v ++ vwF tr vr)):=by simp only [vwF,List.cons_append,List.nil_append,List.append_assoc]
    refine xSeq_mid (M:=fun ρ => ∃ (ah:Str),(codes ah=[44,32]∧c=0∨codes ah=[]∧c=2)∧ρ=[.bo (.oi C a dx (rdr t x)),.v (.tr (.lst (fs.map fun f:Str×Kd=>Dx.tup [.str f.1,f.2.x]))),.v (.ow (.od a0 l)),.v (.tr (.tup [.str g.1,g.2.x])),.v (.tr (.str ah))]) ?_ ?_
    ·rintro ρ ⟨ah,hah,rfl⟩
     have hahl:ah.length≤2:=by rw [ao_]; rcases hah with ⟨h,_⟩ | ⟨h,_⟩ <;> rw [h] <;> decide
     have hgl:=gn.2.1
     rw [← ao_] at hgl
     have hy:codes (ah ++ g.1 ++ " ")=codes ah ++ (codes g.1 ++ [32]):=by rw [bo_,bo_,show codes " " = [32] from by decide,List.append_assoc]
     have hdr2:(codes t).drop x=codes (ah ++ g.1 ++ " ") ++ (g.2.vw v ++ (vwF tr vr ++ 125 :: rest)):=by
      rw [hdr,hy,es]
      rcases hah with ⟨h,rfl⟩ | ⟨h,rfl⟩
      ·rw [h]; simp only [List.drop_zero,List.cons_append,List.nil_append,List.append_assoc]
      ·rw [h]; simp only [List.cons_append,List.nil_append,List.drop_succ_cons,List.drop_zero,List.append_assoc]
     obtain ⟨h3,h3'⟩:=dg_ hdr2
     obtain ⟨h4,h4'⟩:=dg_ h3
     rw [← ao_] at h3 h3' h4 h4'
     have hxe2:x + (ah ++ g.1 ++ " ").length + (g.2.vw v).length + (vwF tr vr).length + 1=p + L:=by
      rw [ao_,hy]
      rw [es] at hxe
      rcases hah with ⟨h,rfl⟩ | ⟨h,rfl⟩
      ·rw [h]; simp only [List.drop_zero,List.length_cons,List.length_append,List.length_nil] at hxe ⊢; omega
      ·rw [h]; simp only [List.cons_append,List.nil_append,List.drop_succ_cons,List.drop_zero,List.length_cons,List.length_append,List.length_nil] at hxe ⊢; omega
     refine ⟨⟨rfl,rfl⟩,(by show ah.length + g.1.length≤1000000; omega),(by show (ah ++ g.1:Str).length + 1≤1000000; rw [ca_]; omega),rfl,t,ah ++ g.1 ++ " ",x,rfl,rfl,hx,htl,fun b hb => ?_⟩
     have hb1:b=true:=by rw [hb,hdr2]; exact fz_
     subst hb1
     refine ⟨rfl,rfl,t,x + (ah ++ g.1 ++ " ").length,g.2,v,vwF tr vr ++ 125 :: rest,rfl,rfl,htl,gf,hV3.1,by omega,h3,halt_fs tr vr rest,h3' hx,fun s o hso ho hod2 => ?_⟩
     have hnew:(Sum.inr g.1:Key)∉l.map (·.1):=by
      rw [hlk]
      intro z
      obtain ⟨y,hy1,hy2⟩:=List.mem_map.mp z
      cases hy2
      have hnd:=hF.2.2.2
      rw [e1,List.map_append,List.nodup_append] at hnd
      exact hnd.2.2 g.1 hy1 g.1 (by rw [List.map_cons]; exact List.mem_cons_self) rfl
     refine ⟨⟨a0,l,rfl⟩,a0,l,Sum.inr g.1,o,rfl,rfl,hso,hnew,by omega,hk _ ⟨dn ++ [g],vd ++ [v],vr,l ++ [(Sum.inr g.1,o)],_,0,_,_,by rw [e1,List.append_assoc]; rfl,by rw [e2,List.append_assoc]; rfl,by rw [List.length_append,List.length_append,e3]; rfl,.inr ⟨rfl,by simp⟩,ownK_snoc hol ho,by rw [List.map_append,hlk,List.map_append,List.map_append]; rfl,by rw [owDk_snoc,hod,vxF_snoc e3,hod2],by rw [List.drop_zero]; exact h4,h4' (h3' hx),by rw [List.drop_zero]; omega,rfl⟩⟩
    ·intro D' hD'
     refine ⟨_,rfl,.inl ⟨owDk l,by simp only [Sv.d,Ow.d],?_⟩⟩
     rcases hc with ⟨rfl,rfl⟩ | ⟨rfl,hdn⟩
     ·have hl0:l=[]:=List.length_eq_zero_iff.mp hll
      subst hl0
      exact hD' _ ⟨"",.inr ⟨by decide,rfl⟩,rfl⟩
     ·have hdp:=List.length_pos_iff.mpr hdn
      have hol2:(owDk l).length=l.length:=owDk_len
      show if decide ((0:Int) < ((owDk l).length:Int))=true then _ else _
      rw [if_pos (decide_eq_true (by omega))]
      exact hD' _ ⟨comS,.inl ⟨by decide,rfl⟩,rfl⟩
theorem okx_trc (F:Fun K "taken_record" "taken_record" cy_ f fd) (CTSF:Cal P w K mg base j "taken_some_fields" ["reader", "fields"] (spO (gTRC C_Reader n))) (m_len:mg "len" = none):FnOk P w K mg base CX0 (j + 1) f fd ["reader", "fields"] (spO (gTRC C_Reader n)):=by
 refine fn_o F sc_taken_record (fun C l ds Q h=>by obtain ⟨_,_,_,_,_,_,_,rfl,_⟩:=h; rfl) (by decide) fun cdv A outer s H E hr => ?_
 have hu1:=bv_ hr
 have hu0:=Nat.lt_of_succ_lt hu1
 refine ⟨_,(ac_ (ap_ fun F=>aw_ (i:=2) sc_taken_record.nd rfl (Or.inl rfl) (XE.at (Ex:=noEx) F (dl_ (i:=0) CTSF (hr.mono (by omega)) (pv 0) (aa_ (ab_ (pv 1)) ad_))))
  (ac_ (bf_ (ax_ op_lt ox_lt (xe_lenPk K (i:=2) (pv 2) m_len) (au_ (ba_ K) ct_ (by rfl) m_len PySem.boot_len (aa_ (ab_ (pv 1)) ad_)) (nomark _)) (af_ xs_no) aj_)
  (af_ (ai_ (cp_ (pv 2)))))),fun C a dx l ds Q h => ?_⟩
 obtain ⟨rfl,t,p,fs,vs,rest,rfl,rfl,htl,hF,hV,hdn,hw,hp,q⟩:=h
 have hvl:vs.length=fs.length:=by have:=hV; simp only [Kd.Val] at this; exact bz_ this
 refine ⟨rfl,rfl,t,p,fs,vs,rest,rfl,rfl,htl,hF,hV,hdn,hw,hp,fun s o hso ho hod => ?_⟩
 have hsd:s.d=.dic (vxF fs vs):=by rw [o?_d hso,hod]; simp only [Kd.vx]
 dsimp only
 change xSeq _ _ [.bo (.oi C a dx (rdr t (p + ((Kd.rcd fs).vw (.rcd vs)).length))),.v (.tr (.lst (xF fs))),.v s] _
 refine di_ (ρ':=[.bo (.oi C a dx (rdr t (p + ((Kd.rcd fs).vw (.rcd vs)).length))),.v (.tr (.lst (xF fs))),.v s]) (fun Q q => ?_) ?_
 ·refine ⟨s,rfl,.inl ⟨vxF fs vs,hsd,?_⟩⟩
  show Q (decide (((vxF fs vs).length:Int) < ((xF fs).length:Int))) _
  have e1:=vxF_len hvl
  have e2:(xF fs).length=fs.length:=xF_len
  rw [decide_eq_false (by omega)]
  exact q
 exact ⟨rfl,rfl,rfl,q s o hso ho hod⟩
end
def gRV:GC:=fun ds Q => ∃ (kd:Kd) (vd:Vd),ds=[kd.x,.str (kd.vs vd)]∧kd.Fit∧kd.Val vd∧kd.deep≤5∧(kd.vs vd).length≤100000∧∀ (s:Sv) (o:Ow),s.o? = some o→o.Own→o.d=kd.vx vd→Q s
section
variable {P:Program} {w:World} {K:FG_} {mg:MG_} {base:Heap} {f:Addr} {fd:FuncData} {C_Reader:Addr} {n j:Nat}
theorem okx_tv (F:Fun K "taken_value" "taken_value" dm_ f fd) (CTNU:Cal P w K mg base j "taken_number" ["reader", "kind"] (spO (gTNU C_Reader))) (CTRW:Cal P w K mg base j "taken_row" ["reader", "kind", "n"] (spO (gTRW C_Reader n))) (CTRC:Cal P w K mg base j "taken_record" ["reader", "fields"] (spO (gTRC C_Reader n))) (CTCH:Cal P w K mg base j "taken_choice" ["reader", "kinds"] (spO (gTCH C_Reader n))):FnOk P w K mg base CX0 (j + 1) f fd ["reader", "kind"] (spO (gTV C_Reader (n + 1))):=by
 refine fn_o F sc_taken_value (fun C l ds Q h=>by obtain ⟨_,_,_,_,_,_,_,rfl,_⟩:=h; rfl) (by decide) fun cdv A outer s H E hr => ?_
 have hu1:=bv_ hr
 have hu0:=Nat.lt_of_succ_lt hu1
 refine ⟨_,(ac_ (bf_ (ax_ (br_ K hu0) dd_ (an_ K (ab_ (pv 1)) ae_ (fun _ _=>rfl)) ay_ (nomark _)) (af_ (ai_ (dl_ (i:=0) CTNU (hr.mono (by omega)) (pv 0) (aa_ (ab_ (pv 1)) ad_)))) aj_)
  (ac_ (bf_ (ax_ (br_ K hu0) dd_ (an_ K (ab_ (pv 1)) ae_ (fun _ _=>rfl)) ay_ (nomark _)) (af_ (ai_ (dl_ (i:=0) CTRW (hr.mono (by omega)) (pv 0) (aa_ (an_ K (ab_ (pv 1)) ae_ (fun _ _=>rfl)) (aa_ (an_ K (ab_ (pv 1)) ae_ (fun _ _=>rfl)) ad_))))) aj_)
  (ac_ (bf_ (ax_ (br_ K hu0) dd_ (an_ K (ab_ (pv 1)) ae_ (fun _ _=>rfl)) ay_ (nomark _)) (af_ (ai_ (dl_ (i:=0) CTRC (hr.mono (by omega)) (pv 0) (aa_ (an_ K (ab_ (pv 1)) ae_ (fun _ _=>rfl)) ad_)))) aj_)
  (af_ (ai_ (dl_ (i:=0) CTCH (hr.mono (by omega)) (pv 0) (aa_ (an_ K (ab_ (pv 1)) ae_ (fun _ _=>rfl)) ad_))))))),fun C a dx l ds Q h => ?_⟩
 obtain ⟨rfl,t,p,kd,vd,rest,rfl,rfl,htl,hF,hV,hdn,hw,hh,hp,q⟩:=h
 cases kd with
 | num wd m =>
  cases vd with
  | num i =>
   have q':=q (.tr (.int i)) (.tr (.int i)) rfl (by simp only [Ow.Own]; exact .inl ⟨_,rfl⟩) (by simp only [Ow.d,Kd.vx])
   have e:((Kd.num wd m).vw (.num i)).length=(txtI i).length:=by rw [ao_]; simp only [Kd.vw]
   rw [e] at q'
   exact ⟨rfl,rfl,t,p,wd,m,i,rest,rfl,rfl,htl,hF,hV,by rw [hw]; simp only [Kd.vw],hh,hp,rfl,rfl,rfl,q'⟩
  | _=>simp only [Kd.Val] at hV
 | row k m =>
  cases vd with
  | row vs =>
   simp only [Kd.deep] at hdn
   exact ⟨rfl,rfl,t,p,k,m,vs,rest,rfl,rfl,htl,hF,hV,by omega,hw,hp,fun s o h1 h2 h3=>⟨rfl,rfl,rfl,q s o h1 h2 h3⟩⟩
  | _=>simp only [Kd.Val] at hV
 | rcd fs =>
  cases vd with
  | rcd vs =>
   simp only [Kd.deep] at hdn
   exact ⟨rfl,rfl,t,p,fs,vs,rest,rfl,rfl,htl,hF,hV,by omega,hw,hp,fun s o h1 h2 h3=>⟨rfl,rfl,rfl,q s o h1 h2 h3⟩⟩
  | _=>simp only [Kd.Val] at hV
 | cho ks =>
  cases vd with
  | cho jj v =>
   simp only [Kd.deep] at hdn
   exact ⟨rfl,rfl,t,p,ks,jj,v,rest,rfl,rfl,htl,hF,hV,by omega,hw,hh,hp,fun s o h1 h2 h3=>⟨rfl,rfl,rfl,q s o h1 h2 h3⟩⟩
  | _=>simp only [Kd.Val] at hV
theorem okx_rv (F:Fun K "read_value" "read_value" ey_ f fd) (CK_Reader:CalK P w K mg base 1 C_Reader ["self", "text"] (spO (gIN C_Reader))) (M_Reader:mg "Reader" = some (.ref C_Reader)) (CTV:Cal P w K mg base (j + 3) "taken_value" ["reader", "kind"] (spO (gTV C_Reader 5))) (CM_take_end:CalM P w K mg base 1 C_Reader "take_end" ["self"] (spO (gTE C_Reader))):FnOk P w K mg base CX0 (j + 4) f fd ["kind", "text"] (spX gRV):=by
 refine fn_x F sc_read_value (fun ds Q h=>by obtain ⟨_,_,rfl,_⟩:=h; rfl) (by decide) fun cdv A outer s H E hr => ?_
 have hu1:=bv_ hr
 have hu0:=Nat.lt_of_succ_lt hu1
 refine ⟨_,(ac_ (ap_ fun F=>aw_ (i:=2) sc_read_value.nd rfl (Or.inl rfl) (XE.at (Ex:=noEx) F (xe_makeO CK_Reader (hr.mono (by omega)) M_Reader (aa_ (ab_ (pv 1)) ad_))))
  (ac_ (ap_ fun F=>aw_ (i:=3) sc_read_value.nd rfl (Or.inl rfl) (XE.at (Ex:=noEx) F (dl_ (i:=2) CTV (hr.mono (by omega)) (pv 2) (aa_ (ab_ (pv 0)) ad_))))
  (ac_ (fw_ (xe_methO0 (C:=C_Reader) (i:=2) CM_take_end (hr.mono (by omega)) (pv 2)))
  (af_ (ai_ (cp_ (pv 3))))))),fun ds Q h => ?_⟩
 clear hu0 hu1
 obtain ⟨kd,vd,rfl,hF,hV,hd,hl,q⟩:=h
 have hwl:=ft_ kd vd
 intro a dx
 refine ⟨rfl,rfl,kd.vs vd,rfl,rfl,?_⟩
 refine ⟨rfl,rfl,kd.vs vd,0,kd,vd,[],rfl,rfl,hl,hF,hV,hd,by rw [List.drop_zero,dy_,List.append_nil],(fun c l e=>by cases e),Nat.zero_le _,fun s o hso ho hod => ?_⟩
 have e0:0 + (kd.vw vd).length=(kd.vs vd).length:=by omega
 rw [e0]
 refine ⟨⟨rfl,rfl⟩,rfl,kd.vs vd,rfl,rfl,hl,?_⟩
 exact q s o hso ho hod
end
theorem pdX_mem:∀ {l:List Dx} {d:Dx},pdX l→d∈l→d.Pd
 | e :: r,d,hs,h=>by
  rcases List.mem_cons.mp h with rfl | h
  ·exact hs.1
  ·exact pdX_mem hs.2 h
theorem pdK_mem:∀ {l:List (Key×Dx)} {p:Key×Dx},pdK l→p∈l→p.2.Pd
 | e :: r,d,hs,h=>by
  rcases List.mem_cons.mp h with rfl | h
  ·exact hs.1
  ·exact pdK_mem hs.2 h
def gAK6 (n:Nat):GC:=fun ds Q => ∃ d:Dx,ds=[d,d]∧d.Pd∧d.deep≤n∧Q (.tr (.bl true))
section
variable {P:Program} {w:World} {K:FG_} {mg:MG_} {base:Heap} {f:Addr} {fd:FuncData} {n j:Nat}
theorem okx_ak6 (F:Fun K "_law_alike" "_law_alike" cx_ f fd) (CAL:Cal P w K mg base j "_law_alike" ["found", "due"] (spX (gAK6 n))) (m_isinstance:mg "isinstance" = none) (m_dict:mg "dict" = none) (m_tuple:mg "tuple" = none) (m_list:mg "list" = none) (m_len:mg "len" = none) (m_range:mg "range" = none) (m_str:mg "str" = none) (m_int:mg "int" = none) (m_bool:mg "bool" = none):FnOk P w K mg base CX0 (j + 1) f fd ["found", "due"] (spX (gAK6 (n + 1))):=by
 refine fn_x F sc_law_alike (fun ds Q h=>by obtain ⟨_,rfl,_⟩:=h; rfl) (by decide) fun cdv A outer s H E hr => ?_
 have hu1:=bv_ hr
 have hu0:=Nat.lt_of_succ_lt hu1
 refine ⟨_,(ac_ (bf_ (bp_ (as_ .dict m_isinstance (ab_ (pv 1)) (bd_ (v:=.ty "dict") rfl m_dict gw_ rfl))) (ac_ (bf_ (XW.pt (fp_ (cl_ (bp_ (as_ .dict m_isinstance (ab_ (pv 0)) (bd_ (v:=.ty "dict") rfl m_dict gw_ rfl)))) (dv_ (ax_ (ez_ K hu0) hz_ (au_ (ba_ K) ct_ (by rfl) m_len PySem.boot_len (aa_ (ab_ (pv 0)) ad_)) (au_ (ba_ K) ct_ (by rfl) m_len PySem.boot_len (aa_ (ab_ (pv 1)) ad_)) (nomark _))))) (af_ (ai_ fq_)) aj_)
  (af_ (ai_ (fr_ (br_ K hu0) dd_ (xe_compK (dsc:=defScope cx_) (N:=["found", "due"]) (tgs:=["name"]) (outs:=[0,1]) (N':=["name", "found", "due"]) (by refine ⟨rfl,?_,?_,?_,rfl,?_,?_,?_⟩ <;> decide +kernel) (pv 1) (fun _ _ _ _ _=>(aq_ (i:=0) (show (["name", "found", "due"]:List Str).Nodup by decide +kernel) rfl (Or.inl rfl) (.inr rfl))) (bl_ (n:=1) (i:=0) (by decide)) (bk_ (by decide)) (fun _ _ _ _ _=>(xcs_one (XW.pt (fp_ (xt_dnotin hu1 (ab_ (pv 0)) (ab_ (pv 1)) (by with_unfolding_all rfl)) (dv_ (cl_ (bp_ (al_ CAL (hr.mono (by omega)) (aa_ (fx_ hu1 (ab_ (pv 1)) (ab_ (pv 0)) (fun _ _=>rfl)) (aa_ (fx_ hu1 (ab_ (pv 2)) (ab_ (pv 0)) (fun _ _=>rfl)) ad_)))))))))) (fun _ _ _ _ _=>(ab_ (pv 0)))) (dj_ ad_) (nomark _))))) aj_)
  (ac_ (bf_ (XW.pt (fp_ (bp_ (as_ .tuple m_isinstance (ab_ (pv 1)) (bd_ (v:=.ty "tuple") rfl m_tuple eb_ rfl))) (dv_ (bp_ (as_ .list m_isinstance (ab_ (pv 1)) (bd_ (v:=.ty "list") rfl m_list ee_ rfl)))))) (ac_ (bf_ (XW.pt (fp_ (ax_ (ez_ K hu0) hz_ (as_ .tuple m_isinstance (ab_ (pv 0)) (bd_ (v:=.ty "tuple") rfl m_tuple eb_ rfl)) (as_ .tuple m_isinstance (ab_ (pv 1)) (bd_ (v:=.ty "tuple") rfl m_tuple eb_ rfl)) (nomark _)) (dv_ (ax_ (ez_ K hu0) hz_ (as_ .list m_isinstance (ab_ (pv 0)) (bd_ (v:=.ty "list") rfl m_list ee_ rfl)) (as_ .list m_isinstance (ab_ (pv 1)) (bd_ (v:=.ty "list") rfl m_list ee_ rfl)) (nomark _))))) (af_ (ai_ fq_)) aj_)
  (ac_ (bf_ (ax_ (ez_ K hu0) hz_ (au_ (ba_ K) ct_ (by rfl) m_len PySem.boot_len (aa_ (ab_ (pv 0)) ad_)) (au_ (ba_ K) ct_ (by rfl) m_len PySem.boot_len (aa_ (ab_ (pv 1)) ad_)) (nomark _)) (af_ (ai_ fq_)) aj_)
  (af_ (ai_ (fr_ (br_ K hu0) dd_ (cj_ (dsc:=defScope cx_) (N:=["found", "due"]) (tgs:=["k"]) (outs:=[0,1]) (N':=["k", "found", "due"]) (by refine ⟨rfl,?_,?_,?_,rfl,?_,?_,?_⟩ <;> decide +kernel) (co_ m_range (aa_ (au_ (ba_ K) ct_ (by rfl) m_len PySem.boot_len (aa_ (ab_ (pv 1)) ad_)) ad_)) (fun _ _ _ _ _=>(aq_ (i:=0) (show (["k", "found", "due"]:List Str).Nodup by decide +kernel) rfl (Or.inl rfl) (.inr rfl))) (bl_ (n:=1) (i:=0) (by decide)) (bk_ (by decide)) (fun _ _ _ _ _=>(xcs_one (cl_ (bp_ (al_ CAL (hr.mono (by omega)) (aa_ (an_ K (ab_ (pv 1)) (ab_ (pv 0)) (fun _ _=>rfl)) (aa_ (an_ K (ab_ (pv 2)) (ab_ (pv 0)) (fun _ _=>rfl)) ad_))))))) (fun _ _ _ _ _=>(ab_ (pv 0)))) (dj_ ad_) (nomark _)))))) aj_)
  (ac_ (bf_ (bp_ (as_ .str m_isinstance (ab_ (pv 1)) (bd_ (v:=.ty "str") rfl m_str fv_ rfl))) (af_ (ai_ (hp_ (as_ .str m_isinstance (ab_ (pv 0)) (bd_ (v:=.ty "str") rfl m_str fv_ rfl)) (xe_one (fr_ (br_ K hu0) dd_ (ab_ (pv 0)) (ab_ (pv 1)) (nomark _)))))) aj_)
  (af_ (ai_ (hp_ (as_ .int m_isinstance (ab_ (pv 0)) (bd_ (v:=.ty "int") rfl m_int bt_int rfl)) (hp_ (xe_not (as_ .bool m_isinstance (ab_ (pv 0)) (bd_ (v:=.ty "bool") rfl m_bool bt_bool rfl))) (xe_one (fr_ (br_ K hu0) dd_ (ab_ (pv 0)) (ab_ (pv 1)) (nomark _)))))))))),fun ds Q h => ?_⟩
 clear hu0 hu1
 obtain ⟨d,rfl,hp,hd,q⟩:=h
 cases d with
 | int i =>
  show Q (.tr (.bl (decide (i=i))))
  rw [decide_eq_true rfl]
  exact q
 | str x =>
  show Q (.tr (.bl (decide (x=x))))
  rw [decide_eq_true rfl]
  exact q
 | tup xs =>
  simp only [Dx.Pd] at hp
  simp only [Dx.deep] at hd
  show if (!decide ((xs.length:Int)=(xs.length:Int)))=true then _ else _
  rw [decide_eq_true rfl]
  refine ⟨⟨by omega,by omega⟩,?_⟩
  rw [show ((xs.length:Nat):Int).toNat=xs.length from by omega]
  have hlen:(rngX 0 xs.length).length≤1000000:=by unfold rngX; rw [List.length_map,List.length_range]; omega
  refine ⟨hlen,?_⟩
  show compX _ _ _ _ _ ((List.range xs.length).map fun t:Nat=>Dx.int (0 + (t:Int))) _ _
  refine cu_ (fun t:Nat=>Dx.int (0 + (t:Int))) (fun rest acc cs=>(∀ t∈rest,t < xs.length)∧acc=[]∧cs=[.v (.tr (.tup xs)),.v (.tr (.tup xs))]) (fun acc cs h => ?_) (fun t rest acc cs Pn h hk => ?_) ⟨fun t ht=>List.mem_range.mp ht,rfl,rfl⟩
  ·obtain ⟨_,rfl,rfl⟩:=h
   exact ⟨Nat.zero_le _,q⟩
  ·obtain ⟨ht,rfl,rfl⟩:=h
   have htx:=ht t List.mem_cons_self
   obtain ⟨d,hd1,hd2⟩:=atI_of (l:=xs) (i:=0 + (t:Int)) (by omega) (by omega)
   have hm:d∈xs:=List.mem_of_getElem? hd2
   have hdm:=fa_ hm
   show match atI xs (0 + (t:Int)) with | some d=>_ | none=>False
   rw [hd1]
   show match atI xs (0 + (t:Int)) with | some d=>_ | none=>False
   rw [hd1]
   exact ⟨d,rfl,pdX_mem hp.2 hm,by omega,hk _ _ ⟨fun t' h'=>ht t' (List.mem_cons_of_mem _ h'),rfl,rfl⟩⟩
 | lst xs =>
  simp only [Dx.Pd] at hp
  simp only [Dx.deep] at hd
  show if (!decide ((xs.length:Int)=(xs.length:Int)))=true then _ else _
  rw [decide_eq_true rfl]
  refine ⟨⟨by omega,by omega⟩,?_⟩
  rw [show ((xs.length:Nat):Int).toNat=xs.length from by omega]
  have hlen:(rngX 0 xs.length).length≤1000000:=by unfold rngX; rw [List.length_map,List.length_range]; omega
  refine ⟨hlen,?_⟩
  show compX _ _ _ _ _ ((List.range xs.length).map fun t:Nat=>Dx.int (0 + (t:Int))) _ _
  refine cu_ (fun t:Nat=>Dx.int (0 + (t:Int))) (fun rest acc cs=>(∀ t∈rest,t < xs.length)∧acc=[]∧cs=[.v (.tr (.lst xs)),.v (.tr (.lst xs))]) (fun acc cs h => ?_) (fun t rest acc cs Pn h hk => ?_) ⟨fun t ht=>List.mem_range.mp ht,rfl,rfl⟩
  ·obtain ⟨_,rfl,rfl⟩:=h
   exact ⟨Nat.zero_le _,q⟩
  ·obtain ⟨ht,rfl,rfl⟩:=h
   have htx:=ht t List.mem_cons_self
   obtain ⟨d,hd1,hd2⟩:=atI_of (l:=xs) (i:=0 + (t:Int)) (by omega) (by omega)
   have hm:d∈xs:=List.mem_of_getElem? hd2
   have hdm:=fa_ hm
   show match atI xs (0 + (t:Int)) with | some d=>_ | none=>False
   rw [hd1]
   show match atI xs (0 + (t:Int)) with | some d=>_ | none=>False
   rw [hd1]
   exact ⟨d,rfl,pdX_mem hp.2 hm,by omega,hk _ _ ⟨fun t' h'=>ht t' (List.mem_cons_of_mem _ h'),rfl,rfl⟩⟩
 | non=>simp only [Dx.Pd] at hp
 | bl b=>simp only [Dx.Pd] at hp
 | dic l =>
  simp only [Dx.Pd] at hp
  simp only [Dx.deep] at hd
  obtain ⟨hl,⟨xs,hxs,hkx⟩,hpk⟩:=hp
  have hnd:(l.map (·.1)).Nodup:=by rw [hkx]; exact List.Pairwise.map _ (fun a b h e=>h (Sum.inr.inj e)) hxs
  refine (show if (!decide ((l.length:Int)=(l.length:Int)))=true then _ else _ from ?_)
  rw [decide_eq_true rfl]
  refine ⟨show l.length≤_ by omega,show compX _ _ _ _ _ (keysX l) _ _ from ?_⟩
  refine cu_ (fun p:Key×Dx=>keyX p.1) (fun rest acc cs=>(∀ p∈rest,p∈l)∧acc=[]∧cs=[.v (.tr (.dic l)),.v (.tr (.dic l))]) (fun acc cs h => ?_) (fun p rest acc cs Pn h hk => ?_) ⟨fun p hp=>hp,rfl,rfl⟩
  ·obtain ⟨_,rfl,rfl⟩:=h
   exact ⟨Nat.zero_le _,q⟩
  ·obtain ⟨hsub,rfl,rfl⟩:=h
   have hm:=hsub p List.mem_cons_self
   have hg:=gu_ hnd hm
   have hdm:=fo_ hm
   obtain ⟨pk,pd⟩:=p
   have hx:∃ x,pk=Sum.inr x:=by
    have:pk∈l.map (·.1):=List.mem_map.mpr ⟨(pk,pd),hm,rfl⟩
    rw [hkx] at this
    obtain ⟨x,_,e⟩:=List.mem_map.mp this
    exact ⟨x,e.symm⟩
   obtain ⟨x,rfl⟩:=hx
   have hg':getK l (Sum.inr x)=some pd:=hg
   show if (!(getK l (Sum.inr x)).isSome)=true then _ else _
   rw [hg']
   show match getK l (Sum.inr x) with | some d=>_ | none=>False
   rw [hg']
   show match getK l (Sum.inr x) with | some d=>_ | none=>False
   rw [hg']
   exact ⟨pd,rfl,pdK_mem hpk hm,by have:pd.deep≤deepXk l:=hdm; omega,hk _ _ ⟨fun p' h'=>hsub p' (List.mem_cons_of_mem _ h'),rfl,rfl⟩⟩
 | scr _ _=>simp only [Dx.Pd] at hp
 | ins _ _=>simp only [Dx.Pd] at hp
 | exc _=>simp only [Dx.Pd] at hp
end
theorem oks_get {G H:Hp}:∀ {os:List Ow} {vs:List V},OwOks G H os vs↔vs.length=os.length∧∀ (j:Nat) o x,os[j]? = some o→vs[j]? = some x→OwOk G H o x
 | [],vs=>by
  simp only [OwOks,List.length_nil,List.length_eq_zero_iff]
  exact ⟨fun h=>⟨h,fun j o x h1 _=>by simp at h1⟩,fun h=>h.1⟩
 | o :: os,vs=>by
  simp only [OwOks]
  constructor
  ·rintro ⟨v,vr,rfl,h1,h2⟩
   obtain ⟨hl,h3⟩:=oks_get.mp h2
   refine ⟨by rw [List.length_cons,List.length_cons,hl],fun j o' x e1 e2 => ?_⟩
   cases j with
   | zero=>cases e1; cases e2; exact h1
   | succ j=>exact h3 j o' x (by simpa using e1) (by simpa using e2)
  ·rintro ⟨hl,h⟩
   cases vs with
   | nil=>simp at hl
   | cons v vr=>exact ⟨v,vr,rfl,h 0 o v rfl rfl,oks_get.mpr ⟨by simpa using hl,fun j o' x e1 e2=>h (j + 1) o' x (by simpa using e1) (by simpa using e2)⟩⟩
theorem hj_:∀ {os:List Ow},owDs os=os.map Ow.d
 | []=>by simp only [owDs,List.map_nil]
 | o :: r=>by simp only [owDs,List.map_cons,hj_]
theorem de_:∀ {os:List Ow},owFs os=os.flatMap Ow.fp
 | []=>by simp only [owFs,List.flatMap_nil]
 | o :: r=>by simp only [owFs,List.flatMap_cons,de_]
theorem owFk_map:∀ {l:List (Key×Ow)},owFk l=owFs (l.map (·.2))
 | []=>by simp only [owFk,List.map_nil,owFs]
 | q :: r=>by simp only [owFk,List.map_cons,owFs,owFk_map]
theorem owDk_map:∀ {l:List (Key×Ow)},owDk l=l.map fun q=>(q.1,q.2.d)
 | []=>by simp only [owDk,List.map_nil]
 | q :: r=>by simp only [owDk,List.map_cons,owDk_map]
theorem okk_oks {G H:Hp}:∀ {l:List (Key×Ow)} {ws:List (Key×V)},OwOkk G H l ws↔l.map (·.1)=ws.map (·.1)∧OwOks G H (l.map (·.2)) (ws.map (·.2))
 | [],ws=>by
  simp only [OwOkk,List.map_nil,OwOks]
  constructor
  ·rintro rfl; exact ⟨rfl,rfl⟩
  ·rintro ⟨h,_⟩
   exact List.map_eq_nil_iff.mp h.symm
 | q :: r,ws=>by
  simp only [OwOkk,List.map_cons,OwOks]
  constructor
  ·rintro ⟨w,wr,rfl,h1,h2⟩
   obtain ⟨h3,h4⟩:=okk_oks.mp h2
   exact ⟨by rw [List.map_cons,h1.1,h3],w.2,wr.map (·.2),rfl,h1.2,h4⟩
  ·rintro ⟨h1,v,vr,h2,h3,h4⟩
   cases ws with
   | nil=>simp at h2
   | cons w wr =>
    have e1:=List.cons.inj h1
    have e2:=List.cons.inj h2
    exact ⟨w,wr,rfl,⟨e1.1,(show w.2=v from e2.1) ▸ h3⟩,okk_oks.mpr ⟨e1.2,(show wr.map (·.2)=vr from e2.2) ▸ h4⟩⟩
theorem ownL_mem:∀ {os:List Ow},ownL os→∀ o∈os,o.Own
 | [],_,o,h=>by simp at h
 | p :: r,h,o,ho=>by
  simp only [ownL] at h
  rcases List.mem_cons.mp ho with rfl | ho
  ·exact h.1
  ·exact ownL_mem h.2 o ho
theorem deep_in {ds:List Dx} {d:Dx} (h:d∈ds):d.deep≤deepX ds:=by
 induction ds with
 | nil=>simp at h
 | cons e r ih =>
  simp only [deepX]
  rcases List.mem_cons.mp h with rfl | h
  ·exact Nat.le_max_left _ _
  ·exact Nat.le_trans (ih h) (Nat.le_max_right _ _)
theorem dp1 (d:Dx):1≤d.deep:=by cases d <;> simp only [Dx.deep] <;> omega
theorem fs_take_le {os:List Ow} {i:Nat}:(owFs (os.take i)).length≤(owFs os).length:=by
 have e:owFs os=owFs (os.take i) ++ owFs (os.drop i):=by
  rw [de_,de_,de_,← List.flatMap_append,List.take_append_drop]
 rw [e,List.length_append]
 omega
theorem ownK_mem:∀ {l:List (Key×Ow)},ownK l→∀ q∈l,q.2.Own
 | [],_,o,h=>by simp at h
 | p :: r,h,o,ho=>by
  simp only [ownK] at h
  rcases List.mem_cons.mp ho with rfl | ho
  ·exact h.1
  ·exact ownK_mem h.2 o ho
theorem ownL_of:∀ {os:List Ow},(∀ o∈os,o.Own)→ownL os
 | [],_=>by simp only [ownL]
 | o :: r,h=>by simp only [ownL]; exact ⟨h o List.mem_cons_self,ownL_of fun p hp=>h p (List.mem_cons_of_mem _ hp)⟩
def spH (n:Nat):Sp:=fun vs H Q _ => ∃ (v:V) (o:Ow) (G:Hp),vs=[v]∧Same G H∧OwOk G H o v∧o.Own∧o.d.deep≤n∧o.fp.length≤100000 ∧
 ∀ (H':Hp) (l:Addr) (ad:List Addr),H l=none→Same H H'→ad.Perm o.fp→H' l=some (.lst (ad.map V.ref))→Q (.ref l) H'
theorem spH_zero {vs:List V} {H:Hp} {Q:VK} {E:XK} (h:spH 0 vs H Q E):False:=by
 obtain ⟨v,o,G,_,_,_,_,hd,_⟩:=h
 have:=dp1 o.d
 omega
theorem bh_ {H:Hp} {a:Addr} {u:HO} (h:H a=none):Same H (upd H a u):=fun b x hb=>by
 rw [ag_ fun z=>by rw [z,h] at hb; cases hb]
 exact hb
section
variable {P:Program} {w:World} {K:FG_} {mg:MG_} {base:Heap} {f:Addr} {fd:FuncData} {n j:Nat}
theorem eq_:PySem.W.kitOne K (.type "dict") (.type "list")=some false:=et_ (by decide +kernel) (by decide +kernel) (by decide +kernel)
theorem kit_dict_tuple:PySem.W.kitOne K (.type "dict") (.type "tuple")=some false:=et_ (by decide +kernel) (by decide +kernel) (by decide +kernel)
theorem valV_at:∀ {ws:List (Key×V)} {ks:List Str} {j:Nat} {k:Str} {w:Key×V},ws.map (·.1)=ks.map Sum.inr→ks.Nodup→ks[j]? = some k→ws[j]? = some w→valV ws (.inr k)=some w.2
 | [],_,_,_,_,_,_,_,h=>by simp at h
 | q :: ws,[],_,_,_,h,_,_,_=>by simp at h
 | q :: ws,k0 :: ks,0,k,w,h,_,h1,h2=>by
  cases h1; cases h2
  have e:=(List.cons.inj h).1
  unfold valV
  rw [List.find?_cons_of_pos (by exact decide_eq_true e)]
  rfl
 | q :: ws,k0 :: ks,j + 1,k,w,h,hn,h1,h2=>by
  have e:=List.cons.inj h
  have hne:¬ q.1=Sum.inr k:=fun z=>by
   have z2:k0=k:=Sum.inr.inj ((show q.1=Sum.inr k0 from e.1).symm.trans z)
   exact (List.nodup_cons.mp hn).1 (by rw [z2]; exact List.mem_of_getElem? (show ks[j]? = some k by simpa using h1))
  have ih:=valV_at e.2 (List.nodup_cons.mp hn).2 (show ks[j]? = some k by simpa using h1) (show ws[j]? = some w by simpa using h2)
  unfold valV at ih ⊢
  rw [List.find?_cons_of_neg (by simpa using hne)]
  exact ih
theorem idx_at {ks:List Str} {k:Str} (h:k∈ks):ks[ks.idxOf k]? = some k:=by
 have hl:=List.idxOf_lt_length_iff.mpr h
 rw [List.getElem?_eq_getElem hl,List.getElem_idxOf]
theorem ok_ho (F:Fun K "_law_holders" "_law_holders" cr_ f fd) (CHO:Cal P w K mg base j "_law_holders" ["thing"] (spH n)) (m_isinstance:mg "isinstance" = none) (m_list:mg "list" = none) (m_tuple:mg "tuple" = none) (m_dict:mg "dict" = none) (m_sorted:mg "sorted" = none):FnOk P w K mg base CX0 (j + 1) f fd ["thing"] (spH (n + 1)):=by
 refine F.ok sc_law_holders (fun vs H Q E h => ?_) (fun cdv A outer s H vs Q E hr h => ?_)
 ·obtain ⟨_,_,_,rfl,_⟩:=h
  rfl
 have hu1:=bv_ hr
 have hu0:=Nat.lt_of_succ_lt hu1
 refine ⟨_,(cs_ (aw_ (i:=1) sc_law_holders.nd rfl (Or.inl rfl) (hw_ bi_))
  (cs_ (aw_ (i:=2) sc_law_holders.nd rfl (Or.inl rfl) (hw_ bi_))
  (cs_ (ps_if (pt_val (ch_ (dh_ (h:=rfl)) rfl m_isinstance ci_ (ar_ (pv 0) (ar_ (bd_ (v:=.ty "dict") rfl m_dict gw_ rfl) bi_)))) (cs_ (aw_ (i:=2) sc_law_holders.nd rfl (Or.inl rfl) (hw_ (ar_ (pv 0) bi_)))
  (ed_ (ps_setC (i:=1) sc_law_holders.nd rfl rfl (dsc:=defScope cr_) (N:=["thing", "parts", "found", "part"]) (tgs:=["name"]) (outs:=[0]) (N':=["name", "thing"]) ⟨rfl,by decide +kernel,by decide +kernel,by decide +kernel,rfl,by decide +kernel,by decide +kernel,by decide +kernel⟩ (pi_list (ch_ (hb_ rfl) rfl m_sorted bt_sorted (ar_ (pv 0) bi_))) (fun _ _ _ _ _=>(aq_ (i:=0) (show (["name", "thing"]:List Str).Nodup by decide +kernel) rfl (Or.inl rfl) (.inr rfl))) (bk_ (by decide)) (fun _ _ _ _ _=>pcs_nil) (fun _ _ _ _ _=>(pe_dget hu1 (pv 1) (pv 0) (fun _ _=>rfl)))))) pss_nil)
  (cs_ (ps_if (PW.pt (pw_or (pt_val (ch_ (dh_ (h:=rfl)) rfl m_isinstance ci_ (ar_ (pv 0) (ar_ (bd_ (v:=.ty "list") rfl m_list ee_ rfl) bi_)))) (pw_or1 (pt_val (ch_ (dh_ (h:=rfl)) rfl m_isinstance ci_ (ar_ (pv 0) (ar_ (bd_ (v:=.ty "tuple") rfl m_tuple eb_ rfl) bi_))))))) (ed_ (aw_ (i:=1) sc_law_holders.nd rfl (Or.inl rfl) (hy_ call_list_of rfl m_list ee_ (ar_ (pv 0) bi_)))) pss_nil)
  (cs_ (ps_if (pt_val (ch_ (dh_ (h:=rfl)) rfl m_isinstance ci_ (ar_ (pv 0) (ar_ (bd_ (v:=.ty "list") rfl m_list ee_ rfl) bi_)))) (ed_ (aw_ (i:=2) sc_law_holders.nd rfl (Or.inl rfl) (hw_ (ar_ (pv 0) bi_)))) pss_nil)
  (cs_ (ps_for PassesOwn.never rfl (pi_list (pv 1)) (aq_ (i:=3) sc_law_holders.nd rfl (Or.inl rfl)) (ed_ (aw_ (i:=2) sc_law_holders.nd rfl (Or.inl rfl) (pe_op op_cat (pv 2) (gh_ CHO hr (ar_ (pv 3) bi_))))))
  (ed_ (ps_ret (pv 2))))))))),?_⟩
 obtain ⟨v,o,G,rfl,hG,ho,hown,hd,hl,q⟩:=h
 have loop:∀ (H1:Hp) (p0 f0:Addr) (vs:List V) (os:List Ow) (pre:List Addr) (y3:Option V),Same H H1→H1 p0=some (.lst vs)→H1 f0=some (.lst (pre.map V.ref))→H f0=none→OwOks G H os vs→ownL os→deepX (owDs os)≤n→(pre ++ owFs os).Perm o.fp→tSeq (tFor (iList K (tVar 1)) (gName 3) (tAsg (tOp rCat (tVar 2) (tCall (spH n) [] E0 (tCons (tVar 3) tNil))) (gName 2))) (tRet (tVar 2)) { nx:=fun _ H'=>Q .non H',rt:=Q } [some v,some (.ref p0),some (.ref f0),y3] H1:=fun H1 p0 f0 vs os pre y3 hS hp hf hfn hok hown hdp hfp=>by
  obtain ⟨hvl,hoks⟩:=oks_get.mp hok
  refine ⟨.ref p0,rfl,p0,rfl,⟨vs,SqL.of hp⟩,?_⟩
  refine for_list (xs:=vs) (fun i σ' H' => ∃ (f1:Addr) (y3:Option V) (ad:List Addr),σ'=[some v,some (.ref p0),some (.ref f1),y3]∧Same H1 H'∧H' f1=some (.lst (ad.map V.ref))∧ad.Perm (pre ++ owFs (os.take i))∧H f1=none) ⟨f0,y3,pre,rfl,fun _ _ z=>z,hf,by rw [List.take_zero]; simp only [owFs,List.append_nil]; exact .refl _,hfn⟩ (fun i σ' H' hi ⟨f1,y3,ad,e,k1,k2,k4,k3⟩=>SqL.of (k1 _ _ hp)) (fun i x σ' H' hx ⟨f1,y3,ad,e,k1,k2,k4,k3⟩ => ?_) (fun σ' H' ⟨f1,y3,ad,e,k1,k2,k4,k3⟩ => ?_)
  ·subst e
   have hil:=(List.getElem?_eq_some_iff.mp hx).1
   obtain ⟨oi,hoi⟩ : ∃ oi,os[i]? = some oi:=⟨_,List.getElem?_eq_getElem (by omega)⟩
   have hm:=List.mem_of_getElem? hoi
   have hokI:=hoks i oi x hoi hx
   have hfl:(pre ++ owFs os).length≤100000:=by rw [hfp.length_eq]; exact hl
   have htk:owFs (os.take (i + 1))=owFs (os.take i) ++ oi.fp:=by
    rw [List.take_succ,hoi,de_,de_,List.flatMap_append]
    simp only [Option.toList,List.flatMap_cons,List.flatMap_nil,List.append_nil]
   have hle:(owFs (os.take (i + 1))).length≤(owFs os).length:=fs_take_le
   have hsub:oi.fp.length≤(owFs os).length:=by rw [htk,List.length_append] at hle; omega
   rw [List.length_append] at hfl
   refine ⟨.ref f1,rfl,x,rfl,x,oi,G,rfl,fun b u hb=>k1 b u (hS b u (hG b u hb)),OwOk.mono (.of fun _ _ z=>z) oi x (fun b hb => ?_) hokI,ownL_mem hown oi hm,Nat.le_trans (deep_in (by rw [hj_]; exact List.mem_map_of_mem hm)) hdp,by omega,fun H2 l ad2 hln hS2 hp2 hl2 => ?_⟩
   ·obtain ⟨u,hu,_⟩:=OwOk.there oi x hokI b hb
    rw [hu]
    exact k1 b u (hS b u hu)
   ·have hal:=k4.length_eq
    rw [List.length_append] at hal
    have hal2:=hp2.length_eq
    refine ⟨f1,l,_,_,rfl,rfl,hS2 _ _ k2,hl2,?_,fun p hpn => ?_⟩
    ·rw [List.length_map,List.length_map,sizeLine_eq]
     rw [htk,List.length_append] at hle
     omega
    ·refine ⟨p,_,ad ++ ad2,rfl,fun b u hb=>(bh_ hpn) b u (hS2 b u (k1 b u hb)),by rw [upd_same,List.map_append],?_,?_⟩
     ·rw [htk,← List.append_assoc]
      exact k4.append hp2
     ·cases hz:H p with
      | none=>rfl
      | some u=>rw [hS2 p u (k1 p u (hS p u hz))] at hpn; cases hpn
  ·subst e
   refine ⟨.ref f1,rfl,?_⟩
   rw [hvl,List.take_length] at k4
   exact q H' f1 ad k3 (fun b u hb=>k1 b u (hS b u hb)) (k4.trans hfp) k2
 refine ⟨by show 0≤sizeLine; decide,fun p0 hp0=>⟨by show 0≤sizeLine; decide,fun f0 hf0 => ?_⟩⟩
 have hpf:p0≠f0:=fun z=>by rw [← z,upd_same] at hf0; cases hf0
 have hf0':H f0=none:=by rw [ag_ fun z=>hpf z.symm] at hf0; exact hf0
 have hS:Same H (upd (upd H p0 (.lst [])) f0 (.lst [])):=fun b u hb=>bh_ hf0 b u (bh_ hp0 b u hb)
 generalize hH1:upd (upd H p0 (.lst [])) f0 (.lst [])=H1 at hS
 have h1p:H1 p0=some (.lst []):=by rw [← hH1,ag_ hpf,upd_same]
 have h1f:H1 f0=some (.lst []):=by rw [← hH1,upd_same]
 cases o with
 | tr d =>
  simp only [Ow.Own] at hown
  rcases hown with ⟨i,rfl⟩ | ⟨x,rfl⟩
  ·simp only [OwOk,IsX] at ho
   subst ho
   refine ⟨_,rfl,_,_,_,_,rfl,.int _,kit_int_dict,_,rfl,iteF ?_⟩
   refine ⟨_,rfl,_,_,_,_,rfl,.int _,gz_,_,rfl,iteF ?_⟩
   refine ⟨_,rfl,_,_,_,_,rfl,.int _,kit_int_tuple,_,rfl,iteF ?_⟩
   refine ⟨_,rfl,_,_,_,_,rfl,.int _,gz_,_,rfl,iteF ?_⟩
   exact loop H1 p0 f0 [] [] [] _ hS h1p h1f hf0' (by simp only [OwOks]) (by simp only [ownL]) (by simp only [owDs,deepX]; omega) (by simp only [owFs,Ow.fp,List.append_nil]; exact .refl _)
  ·simp only [OwOk,IsX] at ho
   subst ho
   refine ⟨_,rfl,_,_,_,_,rfl,.str _,kit_str_dict,_,rfl,iteF ?_⟩
   refine ⟨_,rfl,_,_,_,_,rfl,.str _,gy_,_,rfl,iteF ?_⟩
   refine ⟨_,rfl,_,_,_,_,rfl,.str _,kit_str_tuple,_,rfl,iteF ?_⟩
   refine ⟨_,rfl,_,_,_,_,rfl,.str _,gy_,_,rfl,iteF ?_⟩
   exact loop H1 p0 f0 [] [] [] _ hS h1p h1f hf0' (by simp only [OwOks]) (by simp only [ownL]) (by simp only [owDs,deepX]; omega) (by simp only [owFs,Ow.fp,List.append_nil]; exact .refl _)
 | oi C a dx l=>simp only [Ow.Own] at hown
 | od a l =>
  simp only [Ow.Own] at hown
  obtain ⟨⟨ks,hks,hksn,_,hk8⟩,hown⟩:=hown
  simp only [OwOk] at ho
  obtain ⟨rfl,ws,ha,hokk⟩:=ho
  obtain ⟨hkw,hoks⟩:=okk_oks.mp hokk
  simp only [Ow.d,Dx.deep] at hd
  have ha1:=hS _ _ ha
  have hwk:ws.map (·.1)=ks.map Sum.inr:=hkw.symm.trans hks
  have hkl:ks.length=l.length:=by have:=congrArg List.length hks; rw [List.length_map,List.length_map] at this; exact this.symm
  have hwl:ws.length=l.length:=by have:=congrArg List.length hkw; rw [List.length_map,List.length_map] at this; exact this.symm
  refine ⟨_,rfl,_,_,_,_,rfl,.dK ha1,fk_ _,_,rfl,iteT ?_⟩
  refine ⟨_,rfl,by show 1≤sizeLine; decide,fun f1 hf1 => ?_⟩
  have hS2:Same H (upd H1 f1 (.lst [.ref a])):=fun b u hb=>bh_ hf1 b u (hS b u hb)
  have hff:upd H1 f1 (.lst [.ref a]) f1=some (.lst [.ref a]):=upd_same
  have hfn:H f1=none:=by
   cases hz:H f1 with
   | none=>rfl
   | some u=>rw [hS f1 u hz] at hf1; cases hf1
  generalize hH2:upd H1 f1 (.lst [.ref a])=H2 at hS2 hff
  have ha2:=hS2 _ _ ha
  refine ⟨_,rfl,a,ws,ks,rfl,.inl ha2,hwk,by omega,fun ss hperm hsrt ll hl=>⟨ll,rfl,⟨_,SqL.of upd_same⟩,?_⟩⟩
  have hS3:Same H (upd H2 ll (.lst (ss.map V.str))):=fun b u hb=>bh_ hl b u (hS2 b u hb)
  have hff3:upd H2 ll (.lst (ss.map V.str)) f1=some (.lst [.ref a]):=bh_ hl _ _ hff
  have hll3:upd H2 ll (.lst (ss.map V.str)) ll=some (.lst (ss.map V.str)):=upd_same
  generalize hH3:upd H2 ll (.lst (ss.map V.str))=H3 at hS3 hff3 hll3
  have ha3:=hS3 _ _ ha
  let φ:Str→Ow:=fun k=>((l.map (·.2))[ks.idxOf k]?).getD (.tr .non)
  let ψ:Str→V:=fun k=>((ws.map (·.2))[ks.idxOf k]?).getD .non
  have hmem:∀ k∈ss,k∈ks:=fun k hk=>hperm.mem_iff.mp hk
  have hφ:∀ k∈ks,(l.map (·.2))[ks.idxOf k]? = some (φ k):=fun k hk=>by
   have hj:=(List.getElem?_eq_some_iff.mp (idx_at hk)).1
   show _=some (((l.map (·.2))[ks.idxOf k]?).getD _)
   rw [List.getElem?_eq_getElem (by rw [List.length_map]; omega)]
   rfl
  have hψ:∀ k∈ks,(ws.map (·.2))[ks.idxOf k]? = some (ψ k):=fun k hk=>by
   have hj:=(List.getElem?_eq_some_iff.mp (idx_at hk)).1
   show _=some (((ws.map (·.2))[ks.idxOf k]?).getD _)
   rw [List.getElem?_eq_getElem (by rw [List.length_map]; omega)]
   rfl
  have hmφ:ks.map φ=l.map (·.2):=by
   refine List.ext_getElem? fun i => ?_
   by_cases hi:i < ks.length
   ·rw [List.getElem?_map,List.getElem?_eq_getElem hi,Option.map_some]
    have h5:=hφ ks[i] (List.getElem_mem hi)
    rw [List.Nodup.idxOf_getElem hksn i hi] at h5
    exact h5.symm
   ·rw [List.getElem?_eq_none (by rw [List.length_map]; omega),List.getElem?_eq_none (by rw [List.length_map]; omega)]
  have hpφ:(ss.map φ).Perm (l.map (·.2)):=by rw [← hmφ]; exact hperm.map φ
  have hssl:ss.length≤8:=by rw [hperm.length_eq]; exact hk8
  refine comp_list (xs:=ss.map V.str) (fun i acc H'=>H'=H3∧acc=(ss.take i).map ψ) (by rw [List.length_map]; omega) ⟨rfl,rfl⟩ (fun i acc H' hi ⟨e1,e2⟩=>⟨by rw [e1]; exact SqL.of hll3,by rw [e2,List.length_map,List.length_take]; omega⟩) (fun i x acc H' hx ⟨e1,e2⟩ => ?_) (fun acc H' ⟨e1,e2⟩ => ?_)
  ·subst e1
   rw [List.getElem?_map] at hx
   obtain ⟨nm,hnm,rfl⟩:=Option.map_eq_some_iff.mp hx
   have hkm:=hmem nm (List.mem_of_getElem? hnm)
   obtain ⟨wj,hwj,ewj⟩ : ∃ wj,ws[ks.idxOf nm]? = some wj∧wj.2=ψ nm:=by
    have:=hψ nm hkm
    rw [List.getElem?_map] at this
    obtain ⟨wj,h1,h2⟩:=Option.map_eq_some_iff.mp this
    exact ⟨wj,h1,h2⟩
   unfold gName
   refine yesT ?_
   refine ⟨_,rfl,.str nm,rfl,a,wj.2,rfl,(by rw [← valV_at hwk hksn (idx_at hkm) hwj]; exact DGet.k (k:=.inr nm) ha3),rfl,?_⟩
   rw [e2,List.take_succ,hnm,List.map_append,ewj]
   rfl
  rw [List.length_map,List.take_length] at e2
  subst e1 e2
  intro p1 hp1
  have hS4:Same H (upd H' p1 (.lst (ss.map ψ))):=fun b u hb=>bh_ hp1 b u (hS3 b u hb)
  have ha4:=hS4 _ _ ha
  refine ⟨_,rfl,_,_,_,_,rfl,.dK ha4,eq_,_,rfl,iteF ?_⟩
  refine ⟨_,rfl,_,_,_,_,rfl,.dK ha4,kit_dict_tuple,_,rfl,iteF ?_⟩
  refine ⟨_,rfl,_,_,_,_,rfl,.dK ha4,eq_,_,rfl,iteF ?_⟩
  obtain ⟨hvl0,hoks0⟩:=oks_get.mp hoks
  refine loop _ p1 f1 (ss.map ψ) (ss.map φ) [a] _ hS4 upd_same (bh_ hp1 _ _ hff3) hfn (oks_get.mpr ⟨by rw [List.length_map,List.length_map],fun i o x e1 e2 => ?_⟩) ?_ ?_ ?_
  ·rw [List.getElem?_map] at e1 e2
   obtain ⟨k,hk1,rfl⟩:=Option.map_eq_some_iff.mp e1
   rw [hk1] at e2
   cases e2
   have hkm:=hmem k (List.mem_of_getElem? hk1)
   exact hoks0 (ks.idxOf k) _ _ (hφ k hkm) (hψ k hkm)
  ·refine ownL_of fun o ho => ?_
   obtain ⟨q,hq,rfl⟩:=List.mem_map.mp (hpφ.mem_iff.mp ho)
   exact ownK_mem hown q hq
  ·refine deepX_le fun d hd' => ?_
   rw [hj_] at hd'
   obtain ⟨o,ho,rfl⟩:=List.mem_map.mp hd'
   obtain ⟨q,hq,rfl⟩:=List.mem_map.mp (hpφ.mem_iff.mp ho)
   have:=fo_ (l:=owDk l) (p:=(q.1,q.2.d)) (by rw [owDk_map]; exact List.mem_map.mpr ⟨q,hq,rfl⟩)
   have h5:q.2.d.deep≤deepXk (owDk l):=this
   omega
  ·simp only [Ow.fp]
   rw [owFk_map,List.singleton_append]
   refine List.Perm.cons a ?_
   rw [de_,de_]
   exact hpφ.flatMap_right _
 | ol a os =>
  simp only [Ow.Own] at hown
  simp only [OwOk] at ho
  obtain ⟨rfl,vs,ha,hoks⟩:=ho
  simp only [Ow.d,Dx.deep] at hd
  have ha1:=hS _ _ ha
  refine ⟨_,rfl,_,_,_,_,rfl,.lst ha1,kit_list_dict,_,rfl,iteF ?_⟩
  refine ⟨_,rfl,_,_,_,_,rfl,.lst ha1,fk_ _,_,rfl,iteT ?_⟩
  refine iteT ?_
  refine ⟨_,rfl,a,vs,rfl,.inl (SqL.of ha1),fun l hl => ?_⟩
  have ha2:upd H1 l (.lst vs) a=some (.lst vs):=bh_ hl _ _ ha1
  refine ⟨_,rfl,_,_,_,_,rfl,.lst ha2,fk_ _,_,rfl,iteT ?_⟩
  refine ⟨_,rfl,by show 1≤sizeLine; decide,fun f1 hf1 => ?_⟩
  have hS2:Same H (upd (upd H1 l (.lst vs)) f1 (.lst [.ref a])):=fun b u hb=>bh_ hf1 b u (bh_ hl b u (hS b u hb))
  have hlf:l≠f1:=fun z=>by rw [← z,upd_same] at hf1; cases hf1
  refine loop _ l f1 vs os [a] _ hS2 (by rw [ag_ hlf,upd_same]) (by rw [upd_same]; rfl) ?_ hoks hown (by omega) (by simp only [Ow.fp]; exact .refl _)
  cases hz:H f1 with
  | none=>rfl
  | some u=>rw [bh_ hl f1 u (hS f1 u hz)] at hf1; cases hf1
 | ot os =>
  simp only [Ow.Own] at hown
  simp only [OwOk] at ho
  obtain ⟨a,vs,rfl,ha,hoks⟩:=ho
  simp only [Ow.d,Dx.deep] at hd
  have ha1:=hS _ _ (hG _ _ ha)
  refine ⟨_,rfl,_,_,_,_,rfl,.tup ha1,kit_tuple_dict,_,rfl,iteF ?_⟩
  refine ⟨_,rfl,_,_,_,_,rfl,.tup ha1,fu_,_,rfl,iteF ?_⟩
  refine ⟨_,rfl,_,_,_,_,rfl,.tup ha1,fk_ _,_,rfl,iteT ?_⟩
  refine ⟨_,rfl,a,vs,rfl,.inr (SqT.of ha1),fun l hl => ?_⟩
  have ha2:upd H1 l (.lst vs) a=some (.tup vs):=bh_ hl _ _ ha1
  refine ⟨_,rfl,_,_,_,_,rfl,.tup ha2,fu_,_,rfl,iteF ?_⟩
  have hS2:Same H (upd H1 l (.lst vs)):=fun b u hb=>bh_ hl b u (hS b u hb)
  exact loop _ l f0 vs os [] _ hS2 upd_same (bh_ hl _ _ h1f) hf0' hoks hown (by omega) (by simp only [Ow.fp,List.nil_append]; exact .refl _)
end
theorem nm_txt {k:Str} {n:Int} (hk:Nm k) (h0:0≤n):k≠txtI n:=fun e=>by
 obtain ⟨c,r,ec,_⟩:=(txt_fig h0).2
 have h1:=hk.2.2 c (by rw [e,ec]; exact List.mem_cons_self)
 have h2:c∈(Nat.toDigits 10 n.toNat).map Char.toNat:=by rw [← ge_ h0,ec]; exact List.mem_cons_self
 obtain ⟨ch,hch,rfl⟩:=List.mem_map.mp h2
 have r:=PyProof.Rows.digit_range (Nat.isDigit_of_mem_toDigits (by decide) (by decide) hch)
 omega
def Hol (u:HO):Prop:=(∃ xs:List V,u=.lst xs∧xs.length≤100000)∨∃ (ws:List (Key×V)) (ks:List Str),u=.dK ws∧ws.map (·.1)=ks.map Sum.inr∧(∀ k∈ks,Nm k)∧ws.length≤100000
def hsz:HO→Nat
 | .lst xs=>xs.length
 | .dK ws=>ws.length
 | _=>0
def hmk (t:Nat):HO→HO
 | .lst xs=>.lst (xs ++ [.int (t:Int)])
 | .dK ws=>.dK (ws ++ [(Sum.inr (txtI (t:Int)),.int (t:Int))])
 | u=>u
theorem hmk_sz {u:HO} {t:Nat} (h:Hol u):hsz (hmk t u)=hsz u + 1:=by
 rcases h with ⟨xs,rfl,_⟩ | ⟨ws,ks,rfl,_⟩
 ·simp only [hmk,hsz,List.length_append,List.length_cons,List.length_nil]
 ·simp only [hmk,hsz,List.length_append,List.length_cons,List.length_nil]
mutual
theorem ia_ {G H:Hp}:∀ (o:Ow) (v:V),o.Own→o.d.Pd→OwOk G H o v→∀ b∈o.fp,∃ u,H b=some u∧Hol u
 | .tr d,v,_,_,_,b,hb=>by simp only [Ow.fp,List.not_mem_nil] at hb
 | .oi C a dx l,v,h,_,_,b,hb=>by simp only [Ow.Own] at h
 | .od a l,v,h,hp,ho,b,hb=>by
  simp only [Ow.Own] at h
  simp only [Ow.d,Dx.Pd] at hp
  simp only [OwOk] at ho
  obtain ⟨_,ws,ha,hos⟩:=ho
  obtain ⟨⟨ks,hks,_,hnm,hk8⟩,hown⟩:=h
  simp only [Ow.fp] at hb
  rcases List.mem_cons.mp hb with rfl | hb
  ·obtain ⟨hkw,_⟩:=okk_oks.mp hos
   have hwk:ws.map (·.1)=ks.map Sum.inr:=hkw.symm.trans hks
   have hl:ws.length=ks.length:=by have:=congrArg List.length hwk; rw [List.length_map,List.length_map] at this; exact this
   exact ⟨_,ha,.inr ⟨ws,ks,rfl,hwk,hnm,by omega⟩⟩
  ·exact ownk_there l ws hown hp.2.2 hos b hb
 | .ol a l,v,h,hp,ho,b,hb=>by
  simp only [Ow.Own] at h
  simp only [Ow.d,Dx.Pd] at hp
  simp only [OwOk] at ho
  obtain ⟨_,vs,ha,hos⟩:=ho
  simp only [Ow.fp] at hb
  rcases List.mem_cons.mp hb with rfl | hb
  ·refine ⟨_,ha,.inl ⟨vs,rfl,?_⟩⟩
   rw [(oks_get.mp hos).1]
   have:=hp.1
   rw [hj_,List.length_map] at this
   exact this
  ·exact gr_ l vs h hp.2 hos b hb
 | .ot l,v,h,hp,ho,b,hb=>by
  simp only [Ow.Own] at h
  simp only [Ow.d,Dx.Pd] at hp
  simp only [OwOk] at ho
  obtain ⟨a,vs,_,_,hos⟩:=ho
  simp only [Ow.fp] at hb
  exact gr_ l vs h hp.2 hos b hb
theorem gr_ {G H:Hp}:∀ (l:List Ow) (vs:List V),ownL l→pdX (owDs l)→OwOks G H l vs→∀ b∈owFs l,∃ u,H b=some u∧Hol u
 | [],vs,_,_,_,b,hb=>by simp only [owFs,List.not_mem_nil] at hb
 | o :: r,vs,h,hp,ho,b,hb=>by
  simp only [ownL] at h
  simp only [owDs,pdX] at hp
  simp only [OwOks] at ho
  obtain ⟨v,vr,_,h1,h2⟩:=ho
  simp only [owFs] at hb
  rcases List.mem_append.mp hb with hb | hb
  ·exact ia_ o v h.1 hp.1 h1 b hb
  ·exact gr_ r vr h.2 hp.2 h2 b hb
theorem ownk_there {G H:Hp}:∀ (l:List (Key×Ow)) (ws:List (Key×V)),ownK l→pdK (owDk l)→OwOkk G H l ws→∀ b∈owFk l,∃ u,H b=some u∧Hol u
 | [],vs,_,_,_,b,hb=>by simp only [owFk,List.not_mem_nil] at hb
 | o :: r,vs,h,hp,ho,b,hb=>by
  simp only [ownK] at h
  simp only [owDk,pdK] at hp
  simp only [OwOkk] at ho
  obtain ⟨v,vr,_,h1,h2⟩:=ho
  simp only [owFk] at hb
  rcases List.mem_append.mp hb with hb | hb
  ·exact ia_ o.2 v.2 h.1 hp.1 h1.2 b hb
  ·exact ownk_there r vr h.2 hp.2 h2 b hb
end
def spA (n:Nat):Sp:=fun vs H Q _ => ∃ (v:V) (o:Ow) (G:Hp),vs=[v]∧Same G H∧OwOk G H o v∧o.Own∧o.d.Pd∧o.fp.Nodup∧o.d.deep≤n∧o.fp.length≤100000 ∧
 ∀ H',(∀ b u,b∉o.fp→H b=some u→H' b=some u)→(∀ b∈o.fp,∃ u,H' b=some u)→Q (.bl true) H'
theorem len_hol {K:FG_} {H:Hp} {b:Addr} {u:HO} {Q:VK} (hu:Hol u∨∃ u0 t,Hol u0∧u=hmk t u0) (hb:H b=some u) (q:Q (.int (hsz u:Int)) H):rLen K [.ref b] H Q:=by
 rcases hu with (⟨xs,rfl,_⟩ | ⟨ws,ks,rfl,_⟩) | ⟨u0,t,(⟨xs,rfl,_⟩ | ⟨ws,ks,rfl,_⟩),rfl⟩
 ·exact .inl ⟨b,xs,rfl,.inl (SqL.of hb),q⟩
 ·exact .inr (.inr ⟨b,ws,rfl,.inl hb,q⟩)
 ·exact .inl ⟨b,_,rfl,.inl (SqL.of hb),q⟩
 ·exact .inr (.inr ⟨b,_,rfl,.inl hb,q⟩)
section
variable {P:Program} {w:World} {K:FG_} {mg:MG_} {base:Heap} {f:Addr} {fd:FuncData} {n j:Nat}
theorem ok_ap (F:Fun K "_law_apart" "_law_apart" du_ f fd) (CHO:Cal P w K mg base j "_law_holders" ["thing"] (spH n)) (m_isinstance:mg "isinstance" = none) (m_list:mg "list" = none) (m_len:mg "len" = none) (m_range:mg "range" = none) (m_str:mg "str" = none):FnOk P w K mg base CX0 (j + 1) f fd ["told"] (spA n):=by
 refine F.ok sc_law_apart (fun vs H Q E h => ?_) (fun cdv A outer s H vs Q E hr h => ?_)
 ·obtain ⟨_,_,_,rfl,_⟩:=h
  rfl
 have hu1:=bv_ hr
 have hu0:=Nat.lt_of_succ_lt hu1
 refine ⟨_,(cs_ (aw_ (i:=1) sc_law_apart.nd rfl (Or.inr rfl) (gh_ CHO hr (ar_ (pv 0) bi_)))
  (cs_ (aw_ (i:=2) sc_law_apart.nd rfl (Or.inr rfl) (hx_ (dsc:=defScope du_) (N:=["told", "holders", "sizes", "k"]) (tgs:=["one"]) (outs:=[]) (N':=["one"]) ⟨rfl,by decide +kernel,by decide +kernel,by decide +kernel,rfl,by decide +kernel,by decide +kernel,by decide +kernel⟩ (pi_list (pv 1)) (fun _ _ _ _ _=>(aq_ (i:=0) (show (["one"]:List Str).Nodup by decide +kernel) rfl (Or.inl rfl) (.inr rfl))) (bk_ (by decide)) (fun _ _ _ _ _=>pcs_nil) (fun _ _ _ _ _=>(ch_ (ba_ K) rfl m_len PySem.boot_len (ar_ (pv 0) bi_)))))
  (cs_ (ps_for PassesOwn.never rfl (hv_ rfl m_range (ar_ (ch_ call_len_seq rfl m_len PySem.boot_len (ar_ (pv 1) bi_)) bi_)) (aq_ (i:=3) sc_law_apart.nd rfl (Or.inl rfl)) (ed_ (ps_if (pt_val (ch_ (dh_ (h:=rfl)) rfl m_isinstance ci_ (ar_ (pe_ix ix_list (pv 1) (pv 3) (fun _ _=>rfl)) (ar_ (bd_ (v:=.ty "list") rfl m_list ee_ rfl) bi_)))) (ed_ (ht_ (pe_bm PySem.F.plainAttrs_list PySem.F.slot_list_append PySem.F.type_list_append gj_ (pe_ix ix_list (pv 1) (pv 3) (fun _ _=>rfl)) (ar_ (pv 3) bi_)))) (ed_ (hu_ hu1 (pe_ix ix_list (pv 1) (pv 3) (fun _ _=>rfl)) (hy_ fc_ rfl m_str fv_ (ar_ (pv 3) bi_)) (pv 3) rfl)))))
  (ed_ (ps_ret (pe_cmpR (op_eqNil hu0) (hx_ (dsc:=defScope du_) (N:=["told", "holders", "sizes", "k"]) (tgs:=["k"]) (outs:=[1,2]) (N':=["k", "holders", "sizes"]) ⟨rfl,by decide +kernel,by decide +kernel,by decide +kernel,rfl,by decide +kernel,by decide +kernel,by decide +kernel⟩ (hv_ rfl m_range (ar_ (ch_ call_len_seq rfl m_len PySem.boot_len (ar_ (pv 1) bi_)) bi_)) (fun _ _ _ _ _=>(aq_ (i:=0) (show (["k", "holders", "sizes"]:List Str).Nodup by decide +kernel) rfl (Or.inl rfl) (.inr rfl))) (bk_ (by decide)) (fun _ _ _ _ _=>(pcs_one (pt_cmpR op_ne (ch_ (ba_ K) rfl m_len PySem.boot_len (ar_ (pe_ix (hk_ K) (pv 1) (pv 0) (fun _ _=>rfl)) bi_)) (pe_op op_add (pe_ix (hk_ K) (pv 2) (pv 0) (fun _ _=>rfl)) pe_int) (nomark _)))) (fun _ _ _ _ _=>(pv 0))) (hw_ bi_) (nomark _))))))),?_⟩
 obtain ⟨v,o,G,rfl,hG,ho,hown,hpl,hnd,hd,hl,q⟩:=h
 refine ⟨v,rfl,v,o,G,rfl,hG,ho,hown,hd,hl,fun H1 l fp hln hS hperm hl1 => ?_⟩
 obtain ⟨ob,hob⟩ : ∃ ob:Addr→HO,∀ b∈fp,H b=some (ob b)∧Hol (ob b):=by
  have h0:=ia_ o v hown hpl ho
  refine ⟨fun b=>(H b).getD (.lst []),fun b hb => ?_⟩
  obtain ⟨u,e,hu⟩:=h0 b (hperm.mem_iff.mp hb)
  dsimp only
  rw [e]
  exact ⟨rfl,hu⟩
 have hmf:∀ b,b∈fp↔b∈o.fp:=fun b=>hperm.mem_iff
 have hnd:=hperm.nodup_iff.mpr hnd
 have hl:fp.length≤100000:=by rw [hperm.length_eq]; exact hl
 have q:∀ H',(∀ b u,b∉fp→H b=some u→H' b=some u)→(∀ b∈fp,∃ u,H' b=some u)→Q (.bl true) H':=fun H' h1 h2=>q H' (fun b u hb=>h1 b u (fun z=>hb ((hmf b).mp z))) (fun b hb=>h2 b ((hmf b).mpr hb))
 clear hd ho hown hpl hperm hmf
 have hlf:l∉fp:=fun z=>by rw [(hob l z).1] at hln; cases hln
 have hvl:(fp.map V.ref).length=fp.length:=List.length_map _
 refine ⟨.ref l,rfl,l,rfl,⟨_,SqL.of hl1⟩,?_⟩
 refine comp_list (xs:=fp.map V.ref) (fun i acc H'=>H'=H1∧acc=(fp.take i).map fun b=>V.int (hsz (ob b):Nat)) (by omega) ⟨rfl,rfl⟩ (fun i acc H' hi ⟨e1,e2⟩=>⟨by rw [e1]; exact SqL.of hl1,by rw [e2,List.length_map,List.length_take]; omega⟩) (fun i x acc H' hx ⟨e1,e2⟩ => ?_) (fun acc H' ⟨e1,e2⟩ => ?_)
 ·subst e1
  rw [List.getElem?_map] at hx
  obtain ⟨b,hb,rfl⟩:=Option.map_eq_some_iff.mp hx
  have hbm:=List.mem_of_getElem? hb
  unfold gName
  refine yesT ?_
  refine ⟨.ref b,rfl,?_⟩
  unfold tNil
  dsimp only
  refine len_hol (.inl (hob b hbm).2) (hS _ _ (hob b hbm).1) ⟨rfl,?_⟩
  rw [e2,List.take_succ,hb,List.map_append]
  rfl
 rw [hvl,List.take_length] at e2
 subst e1 e2
 intro s hs
 have hS1:=bh_ (u:=.lst (fp.map fun b=>V.int (hsz (ob b):Nat))) hs
 have h2s:upd H' s (.lst (fp.map fun b=>V.int (hsz (ob b):Nat))) s=_:=upd_same
 generalize hH2:upd H' s (.lst (fp.map fun b=>V.int (hsz (ob b):Nat)))=H2 at hS1 h2s
 have hsf:s∉fp:=fun z=>by rw [hS _ _ (hob s z).1] at hs; cases hs
 have h2l:H2 l=some (.lst (fp.map V.ref)):=hS1 _ _ hl1
 have at0:∀ {α:Type} {xs:List α} {i:Nat} {x:α},xs[i]? = some x→atI xs ((0:Int) + (i:Nat))=some x:=fun h=>by rw [Int.zero_add]; exact ck_ h
 refine ⟨.ref l,rfl,l,fp.map V.ref,rfl,.inl (SqL.of h2l),_,rfl,by omega,by omega,?_⟩
 have eN:((fp.map V.ref).length:Int).toNat=fp.length:=by rw [hvl]; exact Int.toNat_natCast _
 show _
 rw [eN]
 refine for_range (n:=fp.length) (fun i σ' Hc=>(∃ y,σ'=[some v,some (.ref l),some (.ref s),y])∧(∀ b u,b∉fp→H2 b=some u→Hc b=some u)∧∀ (t:Nat) b,fp[t]? = some b→Hc b=some (if t < i then hmk t (ob b) else ob b)) ⟨⟨_,rfl⟩,fun _ _ _ z=>z,fun t b hb=>by rw [if_neg (Nat.not_lt_zero _)]; exact hS1 _ _ (hS _ _ (hob b (List.mem_of_getElem? hb)).1)⟩ (fun i σ' Hc hi ⟨⟨y,e⟩,k1,k2⟩ => ?_) (fun σ' Hc ⟨⟨y,e⟩,k1,k2⟩ => ?_)
 ·subst e
  obtain ⟨b,hb⟩ : ∃ b,fp[i]? = some b:=⟨_,List.getElem?_eq_getElem hi⟩
  have hbm:=List.mem_of_getElem? hb
  have hat:atI (fp.map V.ref) ((0:Int) + (i:Nat))=some (.ref b):=at0 (by rw [List.getElem?_map,hb]; rfl)
  have hcl:=k1 _ _ hlf h2l
  have hcb:=k2 i b hb
  rw [if_neg (Nat.lt_irrefl _)] at hcb
  have next:∀ u,u=hmk i (ob b)→(∃ y,[some v,some (.ref l),some (.ref s),some (.int ((0:Int) + (i:Nat)))]=[some v,some (.ref l),some (.ref s),y])∧(∀ c u',c∉fp→H2 c=some u'→upd Hc b u c=some u')∧∀ (t:Nat) c,fp[t]? = some c→upd Hc b u c=some (if t < i + 1 then hmk t (ob c) else ob c):=fun u eu=>by
   refine ⟨⟨_,rfl⟩,fun c u hc hu=>by rw [ag_ (show c≠b from fun z=>hc (z ▸ hbm))]; exact k1 c u hc hu,fun t c hc => ?_⟩
   by_cases z:c=b
   ·subst z
    have e:=(List.getElem?_inj hi hnd).mp (hb.trans hc.symm)
    subst e
    rw [upd_same,if_pos (Nat.lt_succ_self _),eu]
   ·rw [ag_ z,k2 t c hc]
    have hti:t≠i:=fun e=>z (by subst e; rw [hc] at hb; exact Option.some.inj hb)
    by_cases hlt:t < i
    ·rw [if_pos hlt,if_pos (by omega)]
    ·rw [if_neg hlt,if_neg (by omega)]
  rcases (hob b hbm).2 with ⟨xs,exs,hxl⟩ | ⟨ws,ks,exs,hwk,hnm,hwl⟩
  ·rw [exs] at hcb next
   refine ⟨.ref l,rfl,.int (0 + (i:Nat)),rfl,l,_,_,.ref b,rfl,rfl,SqL.of hcl,hat,_,_,_,_,rfl,.lst hcb,fk_ _,_,rfl,iteT ?_⟩
   refine ⟨.ref l,rfl,.int (0 + (i:Nat)),rfl,l,_,_,.ref b,rfl,rfl,SqL.of hcl,hat,?_⟩
   refine ⟨.inl ⟨rfl,_,SqL.of hcb⟩,.int (0 + (i:Nat)),rfl,b,xs,.int (0 + (i:Nat)),rfl,rfl,hcb,by rw [sizeLine_eq]; omega,?_⟩
   exact next _ (by simp only [hmk,Int.zero_add])
  ·rw [exs] at hcb next
   refine ⟨.ref l,rfl,.int (0 + (i:Nat)),rfl,l,_,_,.ref b,rfl,rfl,SqL.of hcl,hat,_,_,_,_,rfl,.dK hcb,eq_,_,rfl,iteF ?_⟩
   have hput:putK ws (.inr (txtI (0 + (i:Nat)))) (.int (0 + (i:Nat)))=ws ++ [(.inr (txtI (0 + (i:Nat))),.int (0 + (i:Nat)))]:=by
    unfold putK
    rw [if_neg]
    intro z
    obtain ⟨qq,hq,e⟩:=List.any_eq_true.mp z
    have h5:Sum.inr (txtI (0 + (i:Nat)))∈ws.map (·.1):=List.mem_map.mpr ⟨qq,hq,of_decide_eq_true e⟩
    rw [hwk] at h5
    obtain ⟨k5,h6,h7⟩:=List.mem_map.mp h5
    exact nm_txt (hnm k5 h6) (by omega) (Sum.inr.inj h7)
   refine ⟨.int (0 + (i:Nat)),rfl,.ref l,rfl,.int (0 + (i:Nat)),rfl,l,_,_,.ref b,rfl,rfl,SqL.of hcl,hat,?_⟩
   refine ⟨_,rfl,0 + (i:Nat),rfl,by omega,by omega,b,_,rfl,DPut.k (k:=.inr (txtI (0 + (i:Nat)))) hcb (by rw [sizeLine_eq]; omega),?_⟩
   rw [hput]
   exact next _ (by simp only [hmk,Int.zero_add])
 ·subst e
  have hcl:=k1 _ _ hlf h2l
  have hcs:=k1 _ _ hsf h2s
  refine ⟨.ref l,rfl,l,fp.map V.ref,rfl,.inl (SqL.of hcl),_,rfl,by omega,by omega,?_⟩
  show _
  rw [eN]
  refine comp_range (n:=fp.length) (fun i acc H'=>H'=Hc∧acc=[]) (by omega) ⟨rfl,rfl⟩ (fun i acc H' hi ⟨e1,e2⟩=>by rw [e2]; exact Nat.zero_le _) (fun i acc H' hi ⟨e1,e2⟩ => ?_) (fun acc H' ⟨e1,e2⟩ => ?_)
  ·subst e1 e2
   obtain ⟨b,hb⟩ : ∃ b,fp[i]? = some b:=⟨_,List.getElem?_eq_getElem hi⟩
   have hbm:=List.mem_of_getElem? hb
   have hat:atI (fp.map V.ref) ((0:Int) + (i:Nat))=some (.ref b):=at0 (by rw [List.getElem?_map,hb]; rfl)
   have hat2:atI (fp.map fun b=>V.int (hsz (ob b):Nat)) ((0:Int) + (i:Nat))=some (.int (hsz (ob b):Nat)):=at0 (by rw [List.getElem?_map,hb]; rfl)
   have hcb:=k2 i b hb
   rw [if_pos hi] at hcb
   have hsz1:=hmk_sz (t:=i) (hob b hbm).2
   refine ⟨.ref l,rfl,.int (0 + (i:Nat)),rfl,l,_,_,.ref b,rfl,rfl,SqL.of hcl,hat,?_⟩
   unfold tNil
   dsimp only
   refine len_hol (.inr ⟨ob b,i,(hob b hbm).2,rfl⟩) hcb ?_
   refine ⟨.ref s,rfl,.int (0 + (i:Nat)),rfl,s,_,_,_,rfl,rfl,SqL.of hcs,hat2,_,_,rfl,rfl,rfl,_,rfl,?_⟩
   rw [hsz1,decide_eq_true (show V.int (((hsz (ob b) + 1:Nat)):Int)=V.int ((hsz (ob b):Int) + 1) from by rw [Int.natCast_add]; rfl)]
   exact iteF ⟨rfl,rfl⟩
  ·subst e1 e2
   intro r hr
   refine ⟨by show 0≤sizeLine; decide,fun p hp => ?_⟩
   have hrp:r≠p:=fun z=>by rw [← z,upd_same] at hp; cases hp
   refine ⟨r,p,[],rfl,rfl,SqL.of (by rw [ag_ hrp,upd_same]),SqL.of upd_same,?_⟩
   refine q _ (fun b u hb hu=>bh_ hp _ _ (bh_ hr _ _ (k1 b u hb (hS1 _ _ (hS _ _ hu))))) fun b hb => ?_
   obtain ⟨t,ht⟩:=List.getElem?_of_mem hb
   exact ⟨_,bh_ hp _ _ (bh_ hr _ _ (k2 t b ht))⟩
end
mutual
def Dx.nl:Dx→Nat
 | .tup l=>nlX l
 | .lst l=>1 + nlX l
 | .dic l=>1 + nlK l
 | _=>0
def nlX:List Dx→Nat
 | []=>0
 | d :: r=>d.nl + nlX r
def nlK:List (Key×Dx)→Nat
 | []=>0
 | d :: r=>d.2.nl + nlK r
end
mutual
theorem own_nl:∀ o:Ow,o.Own→o.fp.length=o.d.nl
 | .tr d,h=>by
  simp only [Ow.Own] at h
  rcases h with ⟨i,rfl⟩ | ⟨x,rfl⟩ <;> simp only [Ow.fp,Ow.d,Dx.nl,List.length_nil]
 | .ol a l,h=>by simp only [Ow.Own] at h; simp only [Ow.fp,Ow.d,Dx.nl,List.length_cons,ownL_nl l h]; omega
 | .ot l,h=>by simp only [Ow.Own] at h; simp only [Ow.fp,Ow.d,Dx.nl,ownL_nl l h]
 | .od a l,h=>by simp only [Ow.Own] at h; simp only [Ow.fp,Ow.d,Dx.nl,List.length_cons,ownK_nl l h.2]; omega
 | .oi _ _ _ _,h=>by simp only [Ow.Own] at h
theorem ownL_nl:∀ l:List Ow,ownL l→(owFs l).length=nlX (owDs l)
 | [],_=>by simp only [owFs,owDs,nlX,List.length_nil]
 | o :: r,h=>by simp only [ownL] at h; simp only [owFs,owDs,nlX,List.length_append,own_nl o h.1,ownL_nl r h.2]
theorem ownK_nl:∀ l:List (Key×Ow),ownK l→(owFk l).length=nlK (owDk l)
 | [],_=>by simp only [owFk,owDk,nlK,List.length_nil]
 | o :: r,h=>by simp only [ownK] at h; simp only [owFk,owDk,nlK,List.length_append,own_nl o.2 h.1,ownK_nl r h.2]
end
theorem nlX_le {k:Kd}:∀ {vs:List Vd},(∀ v∈vs,(k.vx v).nl≤(k.vw v).length)→nlX (vs.map k.vx) + 2 * vs.length≤(sepV k vs).length
 | [],_=>by simp [nlX,sepV]
 | v :: r,h=>by
  have h1:=h v List.mem_cons_self
  have h2:=nlX_le fun u hu=>h u (List.mem_cons_of_mem _ hu)
  simp only [sepV] at h2
  simp only [List.map_cons,nlX,sepV,List.flatten_cons,List.length_append,List.length_cons]
  omega
mutual
theorem Kd.nl_le:∀ (kd:Kd) (vd:Vd),kd.Fit→kd.Val vd→(kd.vx vd).nl≤(kd.vw vd).length
 | .num w m,vd,hf,hv=>by
  cases vd with
  | num i=>simp only [Kd.vx,Dx.nl]; omega
  | _=>simp only [Kd.Val] at hv
 | .row k m,vd,hf,hv=>by
  cases vd with
  | row vs =>
   simp only [Kd.Val] at hv
   simp only [Kd.Fit] at hf
   have h1:=nlX_le (k:=k) (vs:=vs) fun v hm=>Kd.nl_le k v hf.1 (hv.2 v hm)
   simp only [sepV] at h1
   simp only [Kd.vx,Dx.nl,Kd.vw,List.length_cons,List.length_append,List.length_drop,List.length_nil]
   omega
  | _=>simp only [Kd.Val] at hv
 | .rcd fs,vd,hf,hv=>by
  cases vd with
  | rcd vs =>
   simp only [Kd.Val] at hv
   simp only [Kd.Fit] at hf
   have h1:=nlF_le fs vs hf.1 hv
   simp only [Kd.vx,Dx.nl,Kd.vw,List.length_cons,List.length_append,List.length_drop,List.length_nil]
   omega
  | _=>simp only [Kd.Val] at hv
 | .cho ks,vd,hf,hv=>by
  cases vd with
  | cho jj v =>
   simp only [Kd.Val] at hv
   simp only [Kd.Fit] at hf
   obtain ⟨k,hk,hvk⟩:=dz_ hv
   have h1:=nlC_le ks hf.1 k (List.mem_of_getElem? hk) v hvk
   simp only [Kd.vx,Dx.nl,nlX,Kd.vw,List.length_cons,List.length_append]
   rw [gx_ hk,vwK_at hk]
   omega
  | _=>simp only [Kd.Val] at hv
theorem nlF_le:∀ (fs:List (Str×Kd)) (vs:List Vd),fitF fs→valF fs vs→nlK (vxF fs vs) + 2 * fs.length≤(vwF fs vs).length
 | [],vs,_,_=>by simp [nlK,vxF,vwF]
 | f :: r,[],_,hv=>by simp [valF] at hv
 | f :: r,v :: vs,hf,hv=>by
  simp only [fitF] at hf
  simp only [valF] at hv
  have h1:=Kd.nl_le f.2 v hf.1.2 hv.1
  have h2:=nlF_le r vs hf.2 hv.2
  simp only [vxF,nlK,vwF,List.length_cons,List.length_append]
  omega
theorem nlC_le:∀ (ks:List Kd),fitK ks→∀ k∈ks,∀ v,k.Val v→(k.vx v).nl≤(k.vw v).length
 | [],_,k,h,_,_=>by simp at h
 | k' :: r,hf,k,h,v,hv=>by
  by_cases e:k=k'
  ·rw [e] at hv ⊢
   exact Kd.nl_le k' v hf.1 hv
  ·exact nlC_le r hf.2 k ((List.mem_cons.mp h).resolve_left e) v hv
end
def xApart (n i:Nat):XT:=fun ρ Q => ∃ s o,ρ[i]? = some (.v s)∧s.o? = some o∧o.Own∧o.d.Pd∧o.d.deep≤n∧o.d.nl≤100000∧Q (.tr (.bl true)) (ρ.set i .un)
theorem xe_apart {X:Cx} {Ex:ExT} {n i j:Nat} {x:Str} {p p1 pos:Pos} (C:Cal X.prog X.w X.K X.mg X.base j "_law_apart" ["told"] (spA n)) (hr:Room j X.A) (hv:PE X (.Name x p1) (tVar i)) (hg:Gl X "_law_apart" := by rfl) (hdb:(("_law_apart" : Str) == ("__debug__" : Str))=false:=by decide)
  (he:starEach [.Name x p1] X.env=(false,eval (.Name x p1) X.env) :: starEach [] X.env:=by rfl) (hpl:(backTo pos (starEach [] X.env)).any (·.1)=false:=by rfl) :
  XE X Ex (.Call (.Name "_law_apart" p) [.Name x p1] [] pos) (xApart n i):=fun F=>(gh_ C hr (ar_ hv bi_ he) hg hdb he hpl).weak fun σ H Q=>by
 rintro ⟨ρ,fr,Qx,E,⟨s,o,hsl,hso,hown,hp,hd,hn,q⟩,k⟩
 obtain ⟨v,hv,hi,R0⟩:=be_ E hsl
 obtain ⟨v,rfl,_⟩:=R0.head
 have R:=R0.toOw hso
 obtain ⟨y,ey,hok⟩:=R.ok _ List.mem_cons_self
 cases ey
 have eA:owns [((.v (.ow o),some v):Rw)]=o.fp:=by simp only [owns,List.flatMap_cons,List.flatMap_nil,ownA,List.append_nil]
 have R':Rep F ([((.v (.ow o),some v):Rw)] ++ ((ρ.zip σ).eraseIdx i ++ fr)) H:=R
 have hnd:=R'.nd
 rw [bg_,eA] at hnd
 refine ⟨v,hv,v,o,_,rfl,R.hv,hok,hown,hp,(List.nodup_append.mp hnd).1,hd,by rw [own_nl o hown]; exact hn,fun H' k1 k2 => ?_⟩
 have R2:Rep F (([]:List Rw) ++ ((ρ.zip σ).eraseIdx i ++ fr)) H':=R'.alter List.nodup_nil (fun a ha=>by simp [owns] at ha) (fun r hr=>by rw [List.mem_singleton.mp hr]; exact ⟨_,rfl⟩) (fun r hr=>by simp at hr) (fun b u hb hu=>k1 b u (by rw [eA] at hb; exact hb) hu) (fun b hb=>k2 b (by rw [eA] at hb; exact hb)) (fun r hr=>by simp at hr)
 refine k _ _ H' (ρ.set i .un) (EOk.back (by rw [List.length_set]; exact E.len) (Rep.add ?_ (IsX.of_bl _))) q
 exact ((show Rep F ((ρ.zip σ).eraseIdx i ++ fr) H' from R2).addU (x:=some v)).perm (((bw_ E.len hi hv).append_right fr).symm)
def rd_law (K : FG_) : XS := (xSeq (xFor (xiR1 (xCons (xCall max2X (xCons (xC (.int 1)) (xCons (xCall min2X (xCons (xCall (lenZ K) (xCons (xVar 0) xNil)) (xCons (xC (.int 8)) xNil))) xNil))) xNil)) (gxN 1) (xSeq (xSet 2 (xCall gNU (xCons (xCall (gCA K) (xCons (xVar 0) (xCons (xVar 1) xNil))) (xCons (xC (.int 140)) xNil))))
    (xSeq (xSet 3 (xOp ixX (xLst (xCons (xC (.int 400)) (xCons (xC (.int 400)) (xCons (xC (.int 400)) (xCons (xC (.int 2000)) xNil))))) (xCallB gTK 2 (xCons (xC (.int 4)) xNil))))
    (xSeq (xSet 4 (xCallB gKW4 2 (xCons (xOp addX (xC (.int 1)) (xCallB gTK 2 (xCons (xC (.int 5)) xNil))) (xCons (xVar 3) xNil))))
    (xSeq (xSet 5 (xCallT2 (gVA 5) (xVar 4) (xSl (xCall gNU (xCons (xCall (gCA K) (xCons (xVar 0) (xCons (xVar 1) xNil))) (xCons (xC (.int 240)) xNil))) (xoS (xC (.int 140))) xoN)))
    (xSeq (xSet 6 (xCall (gSV 5) (xCons (xVar 4) (xCons (xVar 5) xNil))))
    (xSeq (xSet 7 (xLst (xCons (xCall (gCP 20) (xCons (xVar 4) xNil)) (xCons (xCall (gCP 20) (xCons (xVar 5) xNil)) xNil))))
    (xSeq (xSet 8 (xCall (gSV 5) (xCons (xOp ixX (xVar 7) (xC (.int 0))) (xCons (xOp ixX (xVar 7) (xC (.int 1))) xNil))))
    (xSeq (xIf (xOr (xNot (xB (xIs .str (xVar 8)))) (xOr (xB (xOp neX (xVar 8) (xVar 6))) (xB (xOp neD (xVar 7) (xLst (xCons (xVar 4) (xCons (xVar 5) xNil))))))) (xRet (xC (.bl false))) xNext)
    (xSeq (xIf (xB (xOp neX (xCall (gSV 5) (xCons (xVar 4) (xCons (xCall (gTU 5) (xCons (xVar 5) xNil)) xNil))) (xVar 6))) (xRet (xC (.bl false))) xNext)
    (xIf (xB (xOp leX (xCall lenX (xCons (xVar 6) xNil)) (xC (.int 3000)))) (xSeq (xSet 9 (xCall gRV (xCons (xOp ixX (xVar 7) (xC (.int 0))) (xCons (xVar 6) xNil))))
    (xSeq (xIf (xOr (xNot (xB (xCallPk (gAK6 8) 9 (xCons (xVar 5) xNil)))) (xOr (xNot (xB (xApart 8 9))) (xB (xOp neD (xVar 7) (xLst (xCons (xVar 4) (xCons (xVar 5) xNil))))))) (xRet (xC (.bl false))) xNext)
    (xIf (xOr (xNot (xB (xCall (gAK6 8) (xCons (xCall gRV (xCons (xVar 4) (xCons (xVar 6) xNil))) (xCons (xVar 5) xNil))))) (xB (xOp neX (xCall (gSV 5) (xCons (xOp ixX (xVar 7) (xC (.int 0))) (xCons (xOp ixX (xVar 7) (xC (.int 1))) xNil))) (xVar 6)))) (xRet (xC (.bl false))) xNext))) xNext)))))))))))
    (xRet (xC (.bl true))))
section
variable {P:Program} {w:World} {K:FG_} {mg:MG_} {base:Heap} {f:Addr} {fd:FuncData} {L:Nat}
theorem der_law (CCA:Cal P w K mg base 1 "_law_cell_at" ["script", "k"] (spX (gCA K))) (CDK:Cal P w K mg base 2 "_law_deck" ["cell", "many"] (spX gNU)) (CNU:Cal P w K mg base 1 "_law_numbers" ["cell", "many"] (spX gNU)) (CTK:Cal P w K mg base 1 "_law_take" ["deck", "many"] (spB gTK)) (CKW:Cal P w K mg base L "_law_kind_within" ["deck", "depth", "most"] (spB gKW4)) (CVA:Cal P w K mg base L "_law_value" ["kind", "deck"] (spB2 (gVA 5))) (CWR:Cal P w K mg base L "_law_written" ["kind", "value"] (spX (gSV 5))) (CSV:Cal P w K mg base L "show_value" ["kind", "thing"] (spX (gSV 5))) (CCP:Cal P w K mg base L "_law_copy" ["thing"] (spX (gCP 20))) (CTU:Cal P w K mg base L "_law_turned" ["value"] (spX (gTU 5))) (CAL:Cal P w K mg base L "_law_alike" ["found", "due"] (spX (gAK6 8))) (CRV:Cal P w K mg base L "read_value" ["kind", "text"] (spX gRV)) (CAP:Cal P w K mg base L "_law_apart" ["told"] (spA 8))
  (m_max:mg "max" = none) (m_min:mg "min" = none) (m_range:mg "range" = none) (m_len:mg "len" = none) (m_isinstance:mg "isinstance" = none) (m_str:mg "str" = none) (hL:2≤L)
  {cdv:Value} {A:Around} {outer:List Env} {s:Shared} {H:Hp} {E:XK} (hr:Room L (A.deeper (PyProof.Rows.envOfC "law" (defScope s_law) s.heap.objs.size f cdv))) :
  XSs (cxOf CX0 P w K mg base (["script", "k", "deck", "most", "kind", "value", "due", "handed", "found", "told"]:List Str) "law" (defScope s_law) f cdv A outer s H E).nox noEx (defBody s_law) (rd_law K):=by
 have hu1:=bv_ hr
 have hu0:=Nat.lt_of_succ_lt hu1
 exact (ac_ (gb_ PassesOwn.never rfl (co_ m_range (aa_ (au_ (call_max2 (by rfl)) cx_max2 (by rfl) m_max bt_max (aa_ ae_ (aa_ (au_ (call_min2 (by rfl)) cx_min2 (by rfl) m_min bt_min (aa_ (au_ (ba_ K) cx_lenZ (by rfl) m_len PySem.boot_len (aa_ (ab_ (pv 0)) ad_)) (aa_ ae_ ad_))) ad_))) ad_)) (aq_ (i:=1) sc_law.nd rfl (Or.inl rfl)) (bl_ (n:=99) (i:=1) (by decide)) (ac_ (ap_ fun F=>aw_ (i:=2) sc_law.nd rfl (Or.inl rfl) (XE.at (Ex:=noEx) F (al_ CDK (hr.mono (by omega)) (aa_ (al_ CCA (hr.mono (by omega)) (aa_ (ab_ (pv 0)) (aa_ (ab_ (pv 1)) ad_))) (aa_ ae_ ad_)))))
  (ac_ (ap_ fun F=>aw_ (i:=3) sc_law.nd rfl (Or.inl rfl) (XE.at (Ex:=noEx) F (an_ K (dj_ (aa_ ae_ (aa_ ae_ (aa_ ae_ (aa_ ae_ ad_))))) (bc_ (i:=2) CTK (hr.mono (by omega)) (pv 2) (aa_ ae_ ad_)) (fun _ _=>rfl))))
  (ac_ (ap_ fun F=>aw_ (i:=4) sc_law.nd rfl (Or.inl rfl) (XE.at (Ex:=noEx) F (bc_ (i:=2) CKW (hr.mono (by omega)) (pv 2) (aa_ (bj_ ae_ (bc_ (i:=2) CTK (hr.mono (by omega)) (pv 2) (aa_ ae_ ad_))) (aa_ (ab_ (pv 3)) ad_)))))
  (ac_ (ap_ fun F=>aw_ (i:=5) sc_law.nd rfl (Or.inl rfl) (XE.at (Ex:=noEx) F (xe_callT2 CVA (hr.mono (by omega)) (ab_ (pv 4)) (xe_slice K (al_ CNU (hr.mono (by omega)) (aa_ (al_ CCA (hr.mono (by omega)) (aa_ (ab_ (pv 0)) (aa_ (ab_ (pv 1)) ad_))) (aa_ ae_ ad_))) (xo_some ae_) xo_none))))
  (ac_ (ap_ fun F=>aw_ (i:=6) sc_law.nd rfl (Or.inl rfl) (XE.at (Ex:=noEx) F (al_ CWR (hr.mono (by omega)) (aa_ (ab_ (pv 4)) (aa_ (ab_ (pv 5)) ad_)))))
  (ac_ (ap_ fun F=>aw_ (i:=7) sc_law.nd rfl (Or.inl rfl) (XE.at (Ex:=noEx) F (dj_ (aa_ (al_ CCP (hr.mono (by omega)) (aa_ (ab_ (pv 4)) ad_)) (aa_ (al_ CCP (hr.mono (by omega)) (aa_ (ab_ (pv 5)) ad_)) ad_)))))
  (ac_ (ap_ fun F=>aw_ (i:=8) sc_law.nd rfl (Or.inl rfl) (XE.at (Ex:=noEx) F (al_ CSV (hr.mono (by omega)) (aa_ (an_ K (ab_ (pv 7)) ae_ (fun _ _=>rfl)) (aa_ (an_ K (ab_ (pv 7)) ae_ (fun _ _=>rfl)) ad_)))))
  (ac_ (bf_ (XW.pt (fp_ (cl_ (bp_ (as_ .str m_isinstance (ab_ (pv 8)) (bd_ (v:=.ty "str") rfl m_str fv_ rfl)))) (fp_ (ax_ (ez_ K hu0) hz_ (ab_ (pv 8)) (ab_ (pv 6)) (nomark _)) (dv_ (ax_ (op_neSameD hr.units) ox_neD (ab_ (pv 7)) (dj_ (aa_ (ab_ (pv 4)) (aa_ (ab_ (pv 5)) ad_))) (nomark _)))))) (af_ (ai_ fq_)) aj_)
  (ac_ (bf_ (ax_ (ez_ K hu0) hz_ (al_ CSV (hr.mono (by omega)) (aa_ (ab_ (pv 4)) (aa_ (al_ CTU (hr.mono (by omega)) (aa_ (ab_ (pv 5)) ad_)) ad_))) (ab_ (pv 6)) (nomark _)) (af_ (ai_ fq_)) aj_)
  (af_ (bf_ (ax_ op_le ox_le (au_ (ba_ K) ct_ (by rfl) m_len PySem.boot_len (aa_ (ab_ (pv 6)) ad_)) ae_ (nomark _)) (ac_ (ap_ fun F=>aw_ (i:=9) sc_law.nd rfl (Or.inl rfl) (XE.at (Ex:=noEx) F (al_ CRV (hr.mono (by omega)) (aa_ (an_ K (ab_ (pv 7)) ae_ (fun _ _=>rfl)) (aa_ (ab_ (pv 6)) ad_)))))
  (ac_ (bf_ (XW.pt (fp_ (cl_ (bp_ (xe_callPk (i:=9) CAL (hr.mono (by omega)) (pv 9) (aa_ (ab_ (pv 5)) ad_)))) (fp_ (cl_ (bp_ (xe_apart (n:=8) (i:=9) CAP (hr.mono (by omega)) (pv 9)))) (dv_ (ax_ (op_neSameD hr.units) ox_neD (ab_ (pv 7)) (dj_ (aa_ (ab_ (pv 4)) (aa_ (ab_ (pv 5)) ad_))) (nomark _)))))) (af_ (ai_ fq_)) aj_)
  (af_ (bf_ (XW.pt (fp_ (cl_ (bp_ (al_ CAL (hr.mono (by omega)) (aa_ (al_ CRV (hr.mono (by omega)) (aa_ (ab_ (pv 4)) (aa_ (ab_ (pv 6)) ad_))) (aa_ (ab_ (pv 5)) ad_))))) (dv_ (ax_ (ez_ K hu0) hz_ (al_ CSV (hr.mono (by omega)) (aa_ (an_ K (ab_ (pv 7)) ae_ (fun _ _=>rfl)) (aa_ (an_ K (ab_ (pv 7)) ae_ (fun _ _=>rfl)) ad_))) (ab_ (pv 6)) (nomark _))))) (af_ (ai_ fq_)) aj_)))) aj_))))))))))))
  (af_ (ai_ fq_)))
end
theorem cut_mem {α:Type} {l:List α} {a b:Option Int} {x:α} (h:x∈cutX l a b):x∈l:=List.mem_of_mem_drop (List.mem_of_mem_take h)
theorem nums_cut {xs:List Int} {a b:Option Int} (h:∀ x∈xs,0≤x∧x < 720720):NumsX (cutX (xs.map Dx.int) a b):=⟨cutX xs a b,cut_map _ _ _,fun x hx=>(h x (cut_mem hx)).1⟩
theorem slX_lst {l:List Dx} {a b:Option Int} {Q:Sv→Prop} (h:Q (.ol (cutX l a b))):slX (.lst l) a b Q:=h
theorem go_T2 {g:GB} {i:Nat} {t:XT} {c:Int} {s:Sv} {ρ:En} {Q:Sv→En→Prop} (hi:ρ[i]? = some (.v s)) (h:t (ρ.set i (.v (.tr s.d))) fun a ρ1=>slX a.d (some c) none fun s2 => ∃ l,s2=.ol l∧g l [s.d] fun d _=>Q (.tr d) ρ1):xCallT2 g (xVar i) (xSl t (xoS (xC (.int c))) xoN) ρ Q:=go_var hi h
theorem most_in {v:Dx} (h:v∈[Dx.int 400,Dx.int 400,Dx.int 400,Dx.int 2000]):∃ mo,v=.int mo∧400≤mo∧mo≤2000:=by
 simp only [List.mem_cons,List.not_mem_nil,or_false] at h
 rcases h with rfl | rfl | rfl | rfl
 ·exact ⟨_,rfl,by omega,by omega⟩
 ·exact ⟨_,rfl,by omega,by omega⟩
 ·exact ⟨_,rfl,by omega,by omega⟩
 ·exact ⟨_,rfl,by omega,by omega⟩
section
variable {P:Program} {w:World} {K:FG_} {mg:MG_} {base:Heap} {f:Addr} {fd:FuncData} {L:Nat}
theorem okx_law (F:Fun K "law" "law" s_law f fd) (CCA:Cal P w K mg base 1 "_law_cell_at" ["script", "k"] (spX (gCA K))) (CDK:Cal P w K mg base 2 "_law_deck" ["cell", "many"] (spX gNU)) (CNU:Cal P w K mg base 1 "_law_numbers" ["cell", "many"] (spX gNU)) (CTK:Cal P w K mg base 1 "_law_take" ["deck", "many"] (spB gTK)) (CKW:Cal P w K mg base L "_law_kind_within" ["deck", "depth", "most"] (spB gKW4)) (CVA:Cal P w K mg base L "_law_value" ["kind", "deck"] (spB2 (gVA 5))) (CWR:Cal P w K mg base L "_law_written" ["kind", "value"] (spX (gSV 5))) (CSV:Cal P w K mg base L "show_value" ["kind", "thing"] (spX (gSV 5))) (CCP:Cal P w K mg base L "_law_copy" ["thing"] (spX (gCP 20))) (CTU:Cal P w K mg base L "_law_turned" ["value"] (spX (gTU 5))) (CAL:Cal P w K mg base L "_law_alike" ["found", "due"] (spX (gAK6 8))) (CRV:Cal P w K mg base L "read_value" ["kind", "text"] (spX gRV)) (CAP:Cal P w K mg base L "_law_apart" ["told"] (spA 8))
  (m_max:mg "max" = none) (m_min:mg "min" = none) (m_range:mg "range" = none) (m_len:mg "len" = none) (m_isinstance:mg "isinstance" = none) (m_str:mg "str" = none) (hL:2≤L) :
  FnOk P w K mg base CX0 (L + 1) f fd ["script"] (spX (gLaw K)):=by
 refine fn_x F sc_law (fun ds Q h=>by obtain ⟨ns,rfl,_⟩:=h; rfl) (by decide) fun cdv A outer s H E hr => ?_
 refine ⟨_,der_law CCA CDK CNU CTK CKW CVA CWR CSV CCP CTU CAL CRV CAP m_max m_min m_range m_len m_isinstance m_str hL hr,fun ds Q h => ?_⟩
 clear hr
 obtain ⟨ns,rfl,h63,q⟩:=h
 unfold rd_law
 refine go_ (fun ρ=>True) (fun ρ _=>q) (fun nx hnx => ?_)
 refine ⟨rfl,?_⟩
 refine ⟨⟨by split <;> (try split) <;> omega,by split <;> (try split) <;> omega⟩,?_⟩
 refine db_ (fun k:Nat=>Dx.int (0 + (k:Int))) (fun rest ρ => ∃ y1 y2 y3 y4 y5 y6 y7 y8 y9,ρ=[.v (.tr (.scr K ns)),y1,y2,y3,y4,y5,y6,y7,y8,y9]) (fun ρ h=>hnx ρ trivial) (fun k rest ρ Kn h hk => ?_) ⟨.un,.un,.un,.un,.un,.un,.un,.un,.un,rfl⟩
 obtain ⟨y1,y2,y3,y4,y5,y6,y7,y8,y9,rfl⟩:=h
 have hknext:∀ a1 a2 a3 a4 a5 a6 a7 a8 a9,Kn [.v (.tr (.scr K ns)),a1,a2,a3,a4,a5,a6,a7,a8,a9]:=fun a1 a2 a3 a4 a5 a6 a7 a8 a9=>hk _ ⟨_,_,_,_,_,_,_,_,_,rfl⟩
 refine ⟨ns,0 + (k:Int),rfl,by omega,fun c => ?_⟩
 refine ⟨c,140,rfl,by decide,by decide,fun xs hl hx => ?_⟩
 have hN:NumsX (xs.map Dx.int):=⟨xs,rfl,fun x hm=>(hx x hm).1⟩
 dsimp only
 change xSeq _ _ [.v (.tr (.scr K ns)),.v (.tr (.int (0 + (k:Int)))),.v (.ol (xs.map Dx.int)),y3,y4,y5,y6,y7,y8,y9] _
 generalize xs.map Dx.int=W at hN
 refine ⟨lenA (by show 4≤1000000; decide),rfl,4,rfl,hN,by decide,fun r0 l1 r00 r01 hN1 => ?_⟩
 refine ha_ r00 r01 fun v hv => ?_
 obtain ⟨mo,rfl,mo1,mo2⟩:=most_in hv
 dsimp only
 change xSeq _ _ [.v (.tr (.scr K ns)),.v (.tr (.int (0 + (k:Int)))),.v (.ol l1),.v (.tr (.int mo)),y4,y5,y6,y7,y8,y9] _
 refine ⟨rfl,rfl,5,rfl,hN1,by decide,fun r l2 r1 r2 hN2 => ?_⟩
 refine ⟨1 + r,mo,rfl,hN2,by omega,by omega,by omega,mo2,fun kd l3 hF hd hlo hN3 => ?_⟩
 obtain ⟨hP,hdp⟩:=kd.xpd hF
 have hz:=kd.xz hF
 dsimp only
 change xSeq _ _ [.v (.tr (.scr K ns)),.v (.tr (.int (0 + (k:Int)))),.v (.ol l3),.v (.tr (.int mo)),.v (.tr kd.x),y5,y6,y7,y8,y9] _
 refine go_set (go_T2 rfl ?_)
 refine ⟨ns,0 + (k:Int),rfl,by omega,fun c2 => ?_⟩
 refine ⟨c2,240,rfl,by decide,by decide,fun xs2 hl2 hx2=>slX_lst ?_⟩
 refine ⟨_,rfl,kd,rfl,nums_cut hx2,hF,hd,by decide,fun vd l4 hV hN4 => ?_⟩
 obtain ⟨vz,vdp⟩:=kd.vx_sz vd hF hV
 have hPv:=kd.vxpd vd hF hV
 have hi:=isv_vx kd vd hF hV
 have hlen:=ev_ hF hV hd hlo
 have hvl:=ft_ kd vd
 have hnl:=kd.nl_le vd hF hV
 have hdk:=dp_deep kd.x
 have hdv:=dp_deep (kd.vx vd)
 have hPL:(Dx.lst [kd.x,kd.vx vd]).Pd:=by simp only [Dx.Pd,pdX]; exact ⟨by show 2≤100000; decide,hP,hPv,trivial⟩
 have hdL:(Dx.lst [kd.x,kd.vx vd]).dp≤60:=by simp only [Dx.dp,dpX]; omega
 change xSeq _ _ [.v (.tr (.scr K ns)),.v (.tr (.int (0 + (k:Int)))),.v (.ol l3),.v (.tr (.int mo)),.v (.tr kd.x),.v (.tr (kd.vx vd)),y6,y7,y8,y9] _
 refine ⟨kd,vd,kd.vx vd,rfl,hi,hF,hV,hd,by decide,hlo,?_⟩
 dsimp only
 refine ⟨kd.x,rfl,hz,by omega,?_⟩
 refine ⟨kd.vx vd,rfl,vz,by omega,?_⟩
 refine ⟨len2,?_⟩
 rw [show List.map Sv.d [kd.x.own,(kd.vx vd).own]=[kd.x,kd.vx vd] from by rw [List.map_cons,List.map_cons,List.map_nil,own_d,own_d]]
 dsimp only
 change xSeq _ _ [.v (.tr (.scr K ns)),.v (.tr (.int (0 + (k:Int)))),.v (.ol l3),.v (.tr (.int mo)),.v (.tr kd.x),.v (.tr (kd.vx vd)),.v (.tr (.str (kd.vs vd))),.v (.ol [kd.x,kd.vx vd]),y8,y9] _
 refine ⟨kd,vd,kd.vx vd,rfl,hi,hF,hV,hd,by decide,hlo,?_⟩
 dsimp only
 change xSeq _ _ [.v (.tr (.scr K ns)),.v (.tr (.int (0 + (k:Int)))),.v (.ol l3),.v (.tr (.int mo)),.v (.tr kd.x),.v (.tr (kd.vx vd)),.v (.tr (.str (kd.vs vd))),.v (.tr (.lst [kd.x,kd.vx vd])),.v (.tr (.str (kd.vs vd))),y9] _
 refine di_ (ρ':=[.v (.tr (.scr K ns)),.v (.tr (.int (0 + (k:Int)))),.v (.ol l3),.v (.tr (.int mo)),.v (.tr kd.x),.v (.tr (kd.vx vd)),.v (.tr (.str (kd.vs vd))),.v (.tr (.lst [kd.x,kd.vx vd])),.v (.tr (.str (kd.vs vd))),y9]) (fun Q q => ?_) ?_
 ·refine ite2 (fun h => ?_) (fun _ => ?_)
  ·have h':(!decide (kd.vs vd=kd.vs vd))=true:=h
   rw [decide_eq_true rfl] at h'
   cases h'
  exact ⟨len2,rfl,hPL,hdL,⟨_,rfl⟩,q⟩
 refine di_ (ρ':=[.v (.tr (.scr K ns)),.v (.tr (.int (0 + (k:Int)))),.v (.ol l3),.v (.tr (.int mo)),.v (.tr kd.x),.v (.tr (kd.vx vd)),.v (.tr (.str (kd.vs vd))),.v (.tr (.lst [kd.x,kd.vx vd])),.v (.tr (.str (kd.vs vd))),y9]) (fun Q q => ?_) ?_
 ·refine ⟨kd,vd,rfl,hF,hV,hd,fun s hs => ?_⟩
  refine ⟨kd,vd,s.d,rfl,hs,hF,hV,hd,by decide,hlo,?_⟩
  show Q (!decide (kd.vs vd=kd.vs vd)) _
  rw [decide_eq_true rfl]
  exact q
 refine ⟨(by show (kd.vs vd).length≤1000000; omega),ite2 (fun h3 => ?_) (fun _=>hknext _ _ _ _ _ _ _ _ _)⟩
 have h3':decide (((kd.vs vd).length:Int)≤3000)=true:=h3
 rw [decide_eq_true_eq] at h3'
 refine ⟨kd,vd,rfl,hF,hV,hd,by omega,fun s o hso ho hod => ?_⟩
 dsimp only
 change xSeq _ _ [.v (.tr (.scr K ns)),.v (.tr (.int (0 + (k:Int)))),.v (.ol l3),.v (.tr (.int mo)),.v (.tr kd.x),.v (.tr (kd.vx vd)),.v (.tr (.str (kd.vs vd))),.v (.tr (.lst [kd.x,kd.vx vd])),.v (.tr (.str (kd.vs vd))),.v s] _
 refine di_ (ρ':=[.v (.tr (.scr K ns)),.v (.tr (.int (0 + (k:Int)))),.v (.ol l3),.v (.tr (.int mo)),.v (.tr kd.x),.v (.tr (kd.vx vd)),.v (.tr (.str (kd.vs vd))),.v (.tr (.lst [kd.x,kd.vx vd])),.v (.tr (.str (kd.vs vd))),.un]) (fun Q q => ?_) ?_
 ·refine ⟨⟨_,rfl⟩,kd.vx vd,by show [s.d,kd.vx vd]=_; rw [o?_d hso,hod],hPv,by omega,true,rfl,?_⟩
  refine ⟨s,o,rfl,hso,ho,by rw [hod]; exact hPv,by rw [hod]; omega,by rw [hod]; omega,?_⟩
  exact ⟨len2,rfl,hPL,hdL,⟨_,rfl⟩,q⟩
 refine go_last (ρ':=[.v (.tr (.scr K ns)),.v (.tr (.int (0 + (k:Int)))),.v (.ol l3),.v (.tr (.int mo)),.v (.tr kd.x),.v (.tr (kd.vx vd)),.v (.tr (.str (kd.vs vd))),.v (.tr (.lst [kd.x,kd.vx vd])),.v (.tr (.str (kd.vs vd))),.un]) (fun Q q => ?_) (hknext _ _ _ _ _ _ _ _ _)
 refine ⟨kd,vd,rfl,hF,hV,hd,by omega,fun s2 o2 hso2 ho2 hod2 => ?_⟩
 refine ⟨kd.vx vd,by show [s2.d,kd.vx vd]=_; rw [o?_d hso2,hod2],hPv,by omega,?_⟩
 refine ⟨kd,vd,kd.vx vd,rfl,hi,hF,hV,hd,by decide,hlo,?_⟩
 show Q (!decide (kd.vs vd=kd.vs vd)) _
 rw [decide_eq_true rfl]
 exact q
end
structure Fx (K:FG_) (mg:MG_) (nm:Str) (st:Stmt) (ps:List Str) (f:Addr) (fd:FuncData):Prop where
 F:Fun K nm nm st f fd
 b:Binds K fd ps []
 k:PySem.W.keepIn K (.ref f)=true
 m:mg nm=some (.ref f)
theorem Fx.cal {P:Program} {w:World} {K:FG_} {mg:MG_} {base:Heap} {nm:Str} {st:Stmt} {ps:List Str} {f:Addr} {fd:FuncData} {j:Nat} {sp:Sp} (x:Fx K mg nm st ps f fd) (h:FnOk P w K mg base CX0 j f fd ps sp):Cal P w K mg base j nm ps sp:=⟨f,fd,h,x.b,x.k,x.m⟩
theorem fn_noB {P:Program} {w:World} {K:FG_} {mg:MG_} {base:Heap} {j:Nat} {f:Addr} {fd:FuncData} {ps:List Str} {g:GB} (no:∀ l ds Q,¬ g l ds Q):FnOk P w K mg base CX0 j f fd ps (spB g) :=
 ⟨fun vs H Q E h=>by obtain ⟨_,_,_,_,_,_,_,_,_,_,_,_,_,h3,_⟩:=h; exact (no _ _ _ h3).elim,fun A outer s H args us vs Q E hr he hb hv h=>by obtain ⟨_,_,_,_,_,_,_,_,_,_,_,_,_,h3,_⟩:=h; exact (no _ _ _ h3).elim⟩
theorem fn_no {P:Program} {w:World} {K:FG_} {mg:MG_} {base:Heap} {j:Nat} {f:Addr} {fd:FuncData} {ps:List Str} {g:GC} (no:∀ ds Q,¬ g ds Q):FnOk P w K mg base CX0 j f fd ps (spX g) :=
 ⟨fun vs H Q E h=>by obtain ⟨_,ds,Qx,_,_,h,_⟩:=h; exact absurd h (no _ _),fun A outer s H args us vs Q E _ _ _ _ h=>by obtain ⟨_,ds,Qx,_,_,h,_⟩:=h; exact absurd h (no _ _)⟩
structure Mx (K:FG_) (C:Addr) (m qual:Str) (st:Stmt) (ps:List Str) (f:Addr) (fd:FuncData):Prop where
 F:Fun K m qual st f fd
 b:Binds K fd ps []
 h:Meth K C m f
 c:Cls K C
theorem Mx.cal {P:Program} {w:World} {K:FG_} {mg:MG_} {base:Heap} {C:Addr} {m qual:Str} {st:Stmt} {ps:List Str} {f:Addr} {fd:FuncData} {j:Nat} {sp:Sp} (M:Mx K C m qual st ps f fd) (h:FnOk P w K mg base CX0 j f fd ps sp):CalM P w K mg base j C m ps sp:=⟨M.c,f,fd,M.h,h,M.b⟩
theorem fn_noO {P:Program} {w:World} {K:FG_} {mg:MG_} {base:Heap} {j:Nat} {f:Addr} {fd:FuncData} {ps:List Str} {g:GO} (no:∀ C l ds Q,¬ g C l ds Q):FnOk P w K mg base CX0 j f fd ps (spO g) :=
 ⟨fun vs H Q E h=>by obtain ⟨_,C,_,_,l,_,ds,Qx,_,_,_,_,_,h,_⟩:=h; exact absurd h (no _ _ _ _),fun A outer s H args us vs Q E _ _ _ _ h=>by obtain ⟨_,C,_,_,l,_,ds,Qx,_,_,_,_,_,h,_⟩:=h; exact absurd h (no _ _ _ _)⟩
theorem fn_noB2 {P:Program} {w:World} {K:FG_} {mg:MG_} {base:Heap} {j:Nat} {f:Addr} {fd:FuncData} {ps:List Str} {g:GB} (no:∀ l ds Q,¬ g l ds Q):FnOk P w K mg base CX0 j f fd ps (spB2 g) :=
 ⟨fun vs H Q E h=>by obtain ⟨_,_,_,h⟩:=h; obtain ⟨_,_,_,_,_,_,_,_,_,_,_,_,_,h3,_⟩:=h; exact (no _ _ _ h3).elim,fun A outer s H args us vs Q E hr he hb hv h=>by obtain ⟨_,_,_,h⟩:=h; obtain ⟨_,_,_,_,_,_,_,_,_,_,_,_,_,h3,_⟩:=h; exact (no _ _ _ h3).elim⟩
section
variable {P:Program} {w:World} {K:FG_} {mg:MG_} {base:Heap} {C_Reader:Addr}
theorem knx_all {fKN fNM fTK:Addr} {dKN dNM dTK:FuncData} (KN:Fx K mg "_law_kind" dp_ ["deck", "depth"] fKN dKN) (NM:Fx K mg "_law_name" ff_ ["deck", "k", "alike"] fNM dNM) (TK:Fx K mg "_law_take" ei_ ["deck", "many"] fTK dTK) (m_range:mg "range" = none) (m_int:mg "int" = none):∀ n,FnOk P w K mg base CX0 (n + 2) fKN dKN ["deck", "depth"] (spB (gKN n))
  | 0 => fn_noB fun l ds Q h => by
      obtain ⟨d,_,_,h1,h2,_⟩:=h
      omega
  | n + 1=>okx_kn (j:=n) KN.F (TK.cal (okx_tk TK.F)) (NM.cal (okx_nm4 NM.F (TK.cal (okx_tk TK.F)) m_range)) (KN.cal (knx_all KN NM TK m_range m_int n)) m_range m_int
theorem rmx_all {fRM fUP:Addr} {dRM dUP:FuncData} (RM:Fx K mg "_law_room" cv_ ["kind"] fRM dRM) (UP:Fx K mg "_law_up" hg_ ["number", "m"] fUP dUP) (m_max:mg "max" = none):∀ n,FnOk P w K mg base CX0 (n + 1) fRM dRM ["kind"] (spX (gRM n))
  | 0 => fn_no fun ds Q h => by
      obtain ⟨k,_,_,h1,_⟩:=h
      have:=ea_ k
      omega
  | n + 1=>okx_rm (j:=n) RM.F (RM.cal (rmx_all RM UP m_max n)) (UP.cal (okx_up UP.F)) m_max
theorem dx_pos (d:Dx):1≤d.deep:=by cases d <;> simp only [Dx.deep] <;> omega
theorem cpx_all {fCP:Addr} {dCP:FuncData} (CP:Fx K mg "_law_copy" dq_ ["thing"] fCP dCP) (m_isinstance:mg "isinstance" = none) (m_list:mg "list" = none) (m_tuple:mg "tuple" = none) (m_dict:mg "dict" = none):∀ n,FnOk P w K mg base CX0 (n + 1) fCP dCP ["thing"] (spX (gCP n))
  | 0 => fn_no fun ds Q h => by
      obtain ⟨d,_,_,h1,_⟩:=h
      have:=dx_pos d
      omega
  | n + 1=>ok_cp (j:=n + 1) CP.F (CP.cal (cpx_all CP m_isinstance m_list m_tuple m_dict n)) m_isinstance m_list m_tuple m_dict
theorem akx_all {fAK:Addr} {dAK:FuncData} (AK:Fx K mg "_law_alike" cx_ ["found", "due"] fAK dAK) (m_isinstance:mg "isinstance" = none) (m_dict:mg "dict" = none) (m_tuple:mg "tuple" = none) (m_list:mg "list" = none) (m_len:mg "len" = none) (m_range:mg "range" = none) (m_str:mg "str" = none) (m_int:mg "int" = none) (m_bool:mg "bool" = none):∀ n,FnOk P w K mg base CX0 (n + 1) fAK dAK ["found", "due"] (spX (gAK6 n))
  | 0 => fn_no fun ds Q h => by
      obtain ⟨d,_,_,h1,_⟩:=h
      have:=dx_pos d
      omega
  | n + 1=>okx_ak6 (j:=n + 1) AK.F (AK.cal (akx_all AK m_isinstance m_dict m_tuple m_list m_len m_range m_str m_int m_bool n)) m_isinstance m_dict m_tuple m_list m_len m_range m_str m_int m_bool
theorem hox_all {fHO:Addr} {dHO:FuncData} (HO:Fx K mg "_law_holders" cr_ ["thing"] fHO dHO) (m_isinstance:mg "isinstance" = none) (m_list:mg "list" = none) (m_tuple:mg "tuple" = none) (m_dict:mg "dict" = none) (m_sorted:mg "sorted" = none):∀ n,FnOk P w K mg base CX0 n fHO dHO ["thing"] (spH n)
 | 0=>⟨fun vs H Q E h=>(spH_zero h).elim,fun A outer s H args us vs Q E _ _ _ _ h=>(spH_zero h).elim⟩
 | n + 1=>ok_ho HO.F (HO.cal (hox_all HO m_isinstance m_list m_tuple m_dict m_sorted n)) m_isinstance m_list m_tuple m_dict m_sorted
theorem vax_all {fVA fTK fPW:Addr} {dVA dTK dPW:FuncData} (VA:Fx K mg "_law_value" dt_ ["kind", "deck"] fVA dVA) (TK:Fx K mg "_law_take" ei_ ["deck", "many"] fTK dTK) (PW:Fx K mg "_law_power" el_ ["width"] fPW dPW) (m_range:mg "range" = none) (m_len:mg "len" = none):∀ n,FnOk P w K mg base CX0 (n + 1) fVA dVA ["kind", "deck"] (spB2 (gVA n))
  | 0 => fn_noB2 fun l ds Q h => by
      obtain ⟨kd,_,_,_,h1,_⟩:=h
      have:=ea_ kd
      omega
  | n + 1=>okx_va (j:=n + 1) VA.F (TK.cal (okx_tk TK.F)) (PW.cal (okx_pw PW.F m_range)) (VA.cal (vax_all VA TK PW m_range m_len n)) m_range m_len (by omega)
theorem svx_all {fSV:Addr} {dSV:FuncData} (SV:Fx K mg "shown_value" ce_ ["kind", "value"] fSV dSV) (m_str:mg "str" = none) (c_COMMA:∃ t,mg "COMMA" = some (.str comS t)):∀ n,FnOk P w K mg base CX0 (n + 1) fSV dSV ["kind", "value"] (spX (gSV n))
  | 0 => fn_no fun ds Q h => by
      obtain ⟨kd,_,_,_,_,_,_,h1,_⟩:=h
      have:=ea_ kd
      omega
  | n + 1=>okx_sv (j:=n + 1) SV.F (SV.cal (svx_all SV m_str c_COMMA n)) m_str c_COMMA
theorem lwx_all {fSV:Addr} {dSV:FuncData} (SV:Fx K mg "_law_written" cf_ ["kind", "value"] fSV dSV) (m_str:mg "str" = none):∀ n,FnOk P w K mg base CX0 (n + 1) fSV dSV ["kind", "value"] (spX (gSV n))
  | 0 => fn_no fun ds Q h => by
      obtain ⟨kd,_,_,_,_,_,_,h1,_⟩:=h
      have:=ea_ kd
      omega
  | n + 1=>okx_lw (j:=n + 1) SV.F (SV.cal (lwx_all SV m_str n)) m_str
theorem tux_all {fTU:Addr} {dTU:FuncData} (TU:Fx K mg "_law_turned" dc_ ["value"] fTU dTU) (m_isinstance:mg "isinstance" = none) (m_list:mg "list" = none) (m_tuple:mg "tuple" = none) (m_dict:mg "dict" = none) (m_sorted:mg "sorted" = none):∀ n,FnOk P w K mg base CX0 (n + 1) fTU dTU ["value"] (spX (gTU n))
  | 0 => fn_no fun ds Q h => by
      obtain ⟨kd,_,_,_,_,h1,_⟩:=h
      have:=ea_ kd
      omega
  | n + 1=>okx_tu (j:=n + 1) TU.F (TU.cal (tux_all TU m_isinstance m_list m_tuple m_dict m_sorted n)) m_isinstance m_list m_tuple m_dict m_sorted
theorem ivx_all {fIV fIW fIRV fIDV fICV:Addr} {dIV dIW dIRV dIDV dICV:FuncData} (IV:Fx K mg "is_value" fh_ ["kind", "thing"] fIV dIV) (IW:Fx K mg "is_whole" fg_ ["thing"] fIW dIW) (IRV:Fx K mg "is_row_value" cm_ ["kind", "n", "thing"] fIRV dIRV) (IDV:Fx K mg "is_record_value" bm_ ["fields", "thing"] fIDV dIDV) (ICV:Fx K mg "is_choice_value" cg_ ["kinds", "thing"] fICV dICV)
    (c_BITS_OF_A_BYTE:∃ t,mg "BITS_OF_A_BYTE" = some (.int 8 t)) (m_isinstance:mg "isinstance" = none) (m_int:mg "int" = none) (m_bool:mg "bool" = none) (m_list:mg "list" = none) (m_tuple:mg "tuple" = none) (m_dict:mg "dict" = none) (m_str:mg "str" = none) (m_len:mg "len" = none) (m_all:mg "all" = none):∀ n,FnOk P w K mg base CX0 (1 + 2 * n) fIV dIV ["kind", "thing"] (spX (gIV n))
  | 0 => fn_no fun ds Q h => by
      obtain ⟨kd,_,_,_,_,_,_,h1,_⟩:=h
      have:=ea_ kd
      omega
  | n + 1 => by
    have ih:=IV.cal (ivx_all IV IW IRV IDV ICV c_BITS_OF_A_BYTE m_isinstance m_int m_bool m_list m_tuple m_dict m_str m_len m_all n)
    have GIW:=IW.cal (P:=P) (w:=w) (base:=base) (okx_iw IW.F m_isinstance m_int m_bool)
    exact (okx_iv IV.F GIW (IRV.cal (okx_irv IRV.F ih m_isinstance m_list m_len m_all)) (IDV.cal (okx_idv IDV.F ih m_isinstance m_dict m_str m_len m_all)) (ICV.cal (okx_icv ICV.F ih GIW m_isinstance m_tuple m_len (by omega))) c_BITS_OF_A_BYTE (by omega)).mono (by omega)
theorem tvx_all {fTV fTN fTR fTC fTS fTH:Addr} {dTV dTN dTR dTC dTS dTH:FuncData} (TV:Fx K mg "taken_value" dm_ ["reader", "kind"] fTV dTV) (TN:Fx K mg "taken_number" cz_ ["reader", "kind"] fTN dTN) (TR:Fx K mg "taken_row" ek_ ["reader", "kind", "n"] fTR dTR) (TC:Fx K mg "taken_record" cy_ ["reader", "fields"] fTC dTC) (TS:Fx K mg "taken_some_fields" bt_ ["reader", "fields"] fTS dTS) (TH:Fx K mg "taken_choice" da_ ["reader", "kinds"] fTH dTH)
    (CIV:Cal P w K mg base 11 "is_value" ["kind", "thing"] (spX (gIV 5))) (CM_passes:CalM P w K mg base 1 C_Reader "passes" ["self", "signs"] (spO (gPA C_Reader))) (CM_take:CalM P w K mg base 2 C_Reader "take" ["self", "signs"] (spO (gTA C_Reader))) (CM_take_number:CalM P w K mg base 2 C_Reader "take_number" ["self", "most_figures"] (spO (gTN6 C_Reader)))
    (c_COMMA:∃ t,mg "COMMA" = some (.str comS t)) (c_FIGURES_OF_A_BYTE:∃ t,mg "FIGURES_OF_A_BYTE" = some (.int 3 t)) (m_range:mg "range" = none) (m_len:mg "len" = none):∀ n,FnOk P w K mg base CX0 (10 + 3 * n) fTV dTV ["reader", "kind"] (spO (gTV C_Reader n))
  | 0 => fn_noO fun C l ds Q h => by
      obtain ⟨_,_,_,kd,_,_,_,_,_,_,_,h1,_⟩:=h
      have:=ea_ kd
      omega
  | n + 1 => by
    have ih:=TV.cal (tvx_all TV TN TR TC TS TH CIV CM_passes CM_take CM_take_number c_COMMA c_FIGURES_OF_A_BYTE m_range m_len n)
    have GTN:=TN.cal (okx_tnu TN.F CM_take_number CIV c_FIGURES_OF_A_BYTE (by decide))
    have GTR:=TR.cal (okx_trw TR.F ih CM_take m_range c_COMMA (by omega))
    have GTS:=TS.cal (okx_tsf TS.F ih CM_take CM_passes m_len c_COMMA (by omega))
    have GTC:=TC.cal (okx_trc TC.F GTS m_len)
    have GTH:=TH.cal (okx_tch TH.F ih CM_take CM_take_number m_len c_FIGURES_OF_A_BYTE (by omega))
    exact (okx_tv (j:=10 + 3 * n + 2) TV.F (GTN.mono (by omega)) (GTR.mono (by omega)) GTC (GTH.mono (by omega))).mono (by omega)
end
theorem mkTw:Nat.ble 1 PySem.Challenge.pw_laidfields_k46_values_written_and_read.main.body.length=true:=by k_qdec
def asgV (s:Stmt):Option V:=match s with
 | .Assign _ (.Constant (.int i) _ _) _=>some (.int i)
 | .Assign _ (.Constant (.str x) _ _) _=>some (.str x)
 | _=>none
def litV (e:Expr):Option V:=match e with
 | .Constant (.int i) _ _=>some (.int i)
 | _=>none
def asgT (s:Stmt):Option (List (Option V)):=match s with
 | .Assign _ (.Tuple es _ _) _=>some (es.map litV)
 | _=>none
def seenF (p:Program) (K:FG_):List FO×List Bool×List (Option V)×List (Option (List (Option V)))×List OCl:=([4,7,8,9,10,15,16,17,18,20,21,22,23,24,25,27,28,29,30,31,32,33,34,35,36,37,38,39,40,41,42,43,44].map fun i=>obsDef K (defName (topOf p i)),bltNs.map (obsNo K),[6,13,12,14].map fun i=>obsVal K (defName (topOf p i)),[].map fun i=>obsTup K (defName (topOf p i)),[obsCl K "Reader" [("__init__", "Reader.__init__"),("passes", "Reader.passes"),("take", "Reader.take"),("take_end", "Reader.take_end"),("take_run", "Reader.take_run"),("take_number", "Reader.take_number")] ["place", "text"]])
def seenV (p:Program):List FO×List Bool×List (Option V)×List (Option (List (Option V)))×List OCl:=([4,7,8,9,10,15,16,17,18,20,21,22,23,24,25,27,28,29,30,31,32,33,34,35,36,37,38,39,40,41,42,43,44].map fun i=>expDef (topOf p i),List.replicate 17 true,[6,13,12,14].map fun i=>asgV (topOf p i),[].map fun i=>asgT (topOf p i),[expCl [expMeth "__init__" "Reader.__init__" (inClass (topOf p 19) 0),expMeth "passes" "Reader.passes" (inClass (topOf p 19) 1),expMeth "take" "Reader.take" (inClass (topOf p 19) 2),expMeth "take_end" "Reader.take_end" (inClass (topOf p 19) 3),expMeth "take_run" "Reader.take_run" (inClass (topOf p 19) 4),expMeth "take_number" "Reader.take_number" (inClass (topOf p 19) 5)] [("__init__", "Reader.__init__"),("passes", "Reader.passes"),("take", "Reader.take"),("take_end", "Reader.take_end"),("take_run", "Reader.take_run"),("take_number", "Reader.take_number")] ["place", "text"]])
theorem once_top:∀ w:World,onceSeen PySem.W.topRun treeTable importedModules (fun m s=>PySem.W.openSeen (PySem.W.view PySem.Challenge.pw_laidfields_k46_values_written_and_read [1,2,4,6,7,8,9,10,12,13,14,15,16,17,18,19,20,21,22,23,24,25,27,28,29,30,31,32,33,34,35,36,37,38,39,40,41,42,43,44]) [] m (fun s=>PySem.W.xlAt (PySem.W.view PySem.Challenge.pw_laidfields_k46_values_written_and_read [1,2,4,6,7,8,9,10,12,13,14,15,16,17,18,19,20,21,22,23,24,25,27,28,29,30,31,32,33,34,35,36,37,38,39,40,41,42,43,44]) [] s && PySem.W.recOk [] s) true s) PySem.Challenge.pw_laidfields_k46_values_written_and_read 3788 (seenF PySem.Challenge.pw_laidfields_k46_values_written_and_read) w=fun _=>some (true,PySem.W.openGood (PySem.W.view PySem.Challenge.pw_laidfields_k46_values_written_and_read [1,2,4,6,7,8,9,10,12,13,14,15,16,17,18,19,20,21,22,23,24,25,27,28,29,30,31,32,33,34,35,36,37,38,39,40,41,42,43,44]) [],seenV PySem.Challenge.pw_laidfields_k46_values_written_and_read):=by
 have _:=mkTw
 rw [PySem.W.Fast.te10268514370310218542,PySem.W.Fast.te14082659384304107361,PySem.W.Fast.te14364793385576792824,PySem.W.Fast.te5923862056798008813,PySem.W.Fast.te4187177175401517315]
 exact fun w=>by kernel_rfl
theorem left_top:PySem.W.LeftO PySem.Challenge.pw_laidfields_k46_values_written_and_read (PySem.W.view PySem.Challenge.pw_laidfields_k46_values_written_and_read [1,2,4,6,7,8,9,10,12,13,14,15,16,17,18,19,20,21,22,23,24,25,27,28,29,30,31,32,33,34,35,36,37,38,39,40,41,42,43,44]) [] (fun s=>PySem.W.xlAt (PySem.W.view PySem.Challenge.pw_laidfields_k46_values_written_and_read [1,2,4,6,7,8,9,10,12,13,14,15,16,17,18,19,20,21,22,23,24,25,27,28,29,30,31,32,33,34,35,36,37,38,39,40,41,42,43,44]) [] s && PySem.W.recOk [] s) (exHook (seenF PySem.Challenge.pw_laidfields_k46_values_written_and_read) (seenV PySem.Challenge.pw_laidfields_k46_values_written_and_read)).obs (exHook (seenF PySem.Challenge.pw_laidfields_k46_values_written_and_read) (seenV PySem.Challenge.pw_laidfields_k46_values_written_and_read)).val 3788 true:=left_once (by decide) (by kernel_rfl) (fun s=>by kernel_rfl) once_top
theorem mem_map_eq {α:Type} {f g:Nat→α}:∀ {l:List Nat},l.map f=l.map g→∀ i,i∈l→f i=g i:=fun h i hi=>List.map_inj_left.mp h i hi
theorem binds_law {K:FG_} {f:Addr} {fd:FuncData} (F:Fun K "law" "law" s_law f fd) (s:Shared) (v:Value):BindsTo s fd ⟨[v],[]⟩ [("script",v)]:=by
 obtain ⟨oc,od,kV,doc,pm,an,cdv,ct,osl,rfl,_⟩:=F.ex
 exact .of_eq rfl
theorem all_mk {l:PySem.W.OpenLaw} {w:World} {K:FG_} {mg:MG_} {fa:Addr} {h:Heap} (hK:seenF PySem.Challenge.pw_laidfields_k46_values_written_and_read K=seenV PySem.Challenge.pw_laidfields_k46_values_written_and_read) (X:K.In h) (G:h.Ns mainGlobals mg) (hfa:mg "law" = some (.ref fa)) :
  ∃ fd:FuncData,(∀ (s:Shared) (v:Value),BindsTo s fd ⟨[v],[]⟩ [("script",v)])∧∀ base:Heap,K.In base→base.Ns mainGlobals mg→FnOk l.prog w K mg base CX0 30 fa fd ["script"] (spLaw K):=by
 have hd:=mem_map_eq (f:=fun i=>obsDef K (defName (topOf PySem.Challenge.pw_laidfields_k46_values_written_and_read i))) (g:=fun i=>expDef (topOf PySem.Challenge.pw_laidfields_k46_values_written_and_read i)) (l:=[4,7,8,9,10,15,16,17,18,20,21,22,23,24,25,27,28,29,30,31,32,33,34,35,36,37,38,39,40,41,42,43,44]) (congrArg (fun x=>x.1) hK)
 have hn:bltNs.map (obsNo K)=List.replicate 17 true:=congrArg (fun x=>x.2.1) hK
 have hc:=mem_map_eq (f:=fun i=>obsVal K (defName (topOf PySem.Challenge.pw_laidfields_k46_values_written_and_read i))) (g:=fun i=>asgV (topOf PySem.Challenge.pw_laidfields_k46_values_written_and_read i)) (l:=[6,13,12,14]) (congrArg (fun x=>x.2.2.1) hK)
 obtain ⟨f4,d4,a4,F4⟩:=am_ (hd 4 (by decide))
 have x_is_whole:Fx K mg "is_whole" fg_ ["thing"] f4 d4:=⟨F4,binds1 F4 (fun _ _ _ _ _ _ _=>rfl),F4.kp,PySem.W.mg_of X G a4⟩
 obtain ⟨f7,d7,a7,F7⟩:=am_ (hd 7 (by decide))
 have x_is_value:Fx K mg "is_value" fh_ ["kind", "thing"] f7 d7:=⟨F7,binds2 F7 (fun _ _ _ _ _ _ _ _=>rfl),F7.kp,PySem.W.mg_of X G a7⟩
 obtain ⟨f8,d8,a8,F8⟩:=am_ (hd 8 (by decide))
 have x_is_row_value:Fx K mg "is_row_value" cm_ ["kind", "n", "thing"] f8 d8:=⟨F8,binds3 F8 (fun _ _ _ _ _ _ _ _ _=>rfl),F8.kp,PySem.W.mg_of X G a8⟩
 obtain ⟨f9,d9,a9,F9⟩:=am_ (hd 9 (by decide))
 have x_is_record_value:Fx K mg "is_record_value" bm_ ["fields", "thing"] f9 d9:=⟨F9,binds2 F9 (fun _ _ _ _ _ _ _ _=>rfl),F9.kp,PySem.W.mg_of X G a9⟩
 obtain ⟨f10,d10,a10,F10⟩:=am_ (hd 10 (by decide))
 have x_is_choice_value:Fx K mg "is_choice_value" cg_ ["kinds", "thing"] f10 d10:=⟨F10,binds2 F10 (fun _ _ _ _ _ _ _ _=>rfl),F10.kp,PySem.W.mg_of X G a10⟩
 obtain ⟨f15,d15,a15,F15⟩:=am_ (hd 15 (by decide))
 have x_show_value:Fx K mg "show_value" ex_ ["kind", "thing"] f15 d15:=⟨F15,binds2 F15 (fun _ _ _ _ _ _ _ _=>rfl),F15.kp,PySem.W.mg_of X G a15⟩
 obtain ⟨f16,d16,a16,F16⟩:=am_ (hd 16 (by decide))
 have x_shown_value:Fx K mg "shown_value" ce_ ["kind", "value"] f16 d16:=⟨F16,binds2 F16 (fun _ _ _ _ _ _ _ _=>rfl),F16.kp,PySem.W.mg_of X G a16⟩
 obtain ⟨f17,d17,a17,F17⟩:=am_ (hd 17 (by decide))
 have x_read_value:Fx K mg "read_value" ey_ ["kind", "text"] f17 d17:=⟨F17,binds2 F17 (fun _ _ _ _ _ _ _ _=>rfl),F17.kp,PySem.W.mg_of X G a17⟩
 obtain ⟨f18,d18,a18,F18⟩:=am_ (hd 18 (by decide))
 have x_are_figures:Fx K mg "are_figures" do_ ["text"] f18 d18:=⟨F18,binds1 F18 (fun _ _ _ _ _ _ _=>rfl),F18.kp,PySem.W.mg_of X G a18⟩
 obtain ⟨f20,d20,a20,F20⟩:=am_ (hd 20 (by decide))
 have x_taken_value:Fx K mg "taken_value" dm_ ["reader", "kind"] f20 d20:=⟨F20,binds2 F20 (fun _ _ _ _ _ _ _ _=>rfl),F20.kp,PySem.W.mg_of X G a20⟩
 obtain ⟨f21,d21,a21,F21⟩:=am_ (hd 21 (by decide))
 have x_taken_number:Fx K mg "taken_number" cz_ ["reader", "kind"] f21 d21:=⟨F21,binds2 F21 (fun _ _ _ _ _ _ _ _=>rfl),F21.kp,PySem.W.mg_of X G a21⟩
 obtain ⟨f22,d22,a22,F22⟩:=am_ (hd 22 (by decide))
 have x_taken_row:Fx K mg "taken_row" ek_ ["reader", "kind", "n"] f22 d22:=⟨F22,binds3 F22 (fun _ _ _ _ _ _ _ _ _=>rfl),F22.kp,PySem.W.mg_of X G a22⟩
 obtain ⟨f23,d23,a23,F23⟩:=am_ (hd 23 (by decide))
 have x_taken_record:Fx K mg "taken_record" cy_ ["reader", "fields"] f23 d23:=⟨F23,binds2 F23 (fun _ _ _ _ _ _ _ _=>rfl),F23.kp,PySem.W.mg_of X G a23⟩
 obtain ⟨f24,d24,a24,F24⟩:=am_ (hd 24 (by decide))
 have x_taken_some_fields:Fx K mg "taken_some_fields" bt_ ["reader", "fields"] f24 d24:=⟨F24,binds2 F24 (fun _ _ _ _ _ _ _ _=>rfl),F24.kp,PySem.W.mg_of X G a24⟩
 obtain ⟨f25,d25,a25,F25⟩:=am_ (hd 25 (by decide))
 have x_taken_choice:Fx K mg "taken_choice" da_ ["reader", "kinds"] f25 d25:=⟨F25,binds2 F25 (fun _ _ _ _ _ _ _ _=>rfl),F25.kp,PySem.W.mg_of X G a25⟩
 obtain ⟨f27,d27,a27,F27⟩:=am_ (hd 27 (by decide))
 have x__law_cell_at:Fx K mg "_law_cell_at" en_ ["script", "k"] f27 d27:=⟨F27,binds2 F27 (fun _ _ _ _ _ _ _ _=>rfl),F27.kp,PySem.W.mg_of X G a27⟩
 obtain ⟨f28,d28,a28,F28⟩:=am_ (hd 28 (by decide))
 have x__law_numbers:Fx K mg "_law_numbers" em_ ["cell", "many"] f28 d28:=⟨F28,binds2 F28 (fun _ _ _ _ _ _ _ _=>rfl),F28.kp,PySem.W.mg_of X G a28⟩
 obtain ⟨f29,d29,a29,F29⟩:=am_ (hd 29 (by decide))
 have x__law_deck:Fx K mg "_law_deck" gq_ ["cell", "many"] f29 d29:=⟨F29,binds2 F29 (fun _ _ _ _ _ _ _ _=>rfl),F29.kp,PySem.W.mg_of X G a29⟩
 obtain ⟨f30,d30,a30,F30⟩:=am_ (hd 30 (by decide))
 have x__law_take:Fx K mg "_law_take" ei_ ["deck", "many"] f30 d30:=⟨F30,binds2 F30 (fun _ _ _ _ _ _ _ _=>rfl),F30.kp,PySem.W.mg_of X G a30⟩
 obtain ⟨f31,d31,a31,F31⟩:=am_ (hd 31 (by decide))
 have x__law_kind:Fx K mg "_law_kind" dp_ ["deck", "depth"] f31 d31:=⟨F31,binds2 F31 (fun _ _ _ _ _ _ _ _=>rfl),F31.kp,PySem.W.mg_of X G a31⟩
 obtain ⟨f32,d32,a32,F32⟩:=am_ (hd 32 (by decide))
 have x__law_name:Fx K mg "_law_name" ff_ ["deck", "k", "alike"] f32 d32:=⟨F32,binds3 F32 (fun _ _ _ _ _ _ _ _ _=>rfl),F32.kp,PySem.W.mg_of X G a32⟩
 obtain ⟨f33,d33,a33,F33⟩:=am_ (hd 33 (by decide))
 have x__law_up:Fx K mg "_law_up" hg_ ["number", "m"] f33 d33:=⟨F33,binds2 F33 (fun _ _ _ _ _ _ _ _=>rfl),F33.kp,PySem.W.mg_of X G a33⟩
 obtain ⟨f34,d34,a34,F34⟩:=am_ (hd 34 (by decide))
 have x__law_room:Fx K mg "_law_room" cv_ ["kind"] f34 d34:=⟨F34,binds1 F34 (fun _ _ _ _ _ _ _=>rfl),F34.kp,PySem.W.mg_of X G a34⟩
 obtain ⟨f35,d35,a35,F35⟩:=am_ (hd 35 (by decide))
 have x__law_kind_within:Fx K mg "_law_kind_within" cw_ ["deck", "depth", "most"] f35 d35:=⟨F35,binds3 F35 (fun _ _ _ _ _ _ _ _ _=>rfl),F35.kp,PySem.W.mg_of X G a35⟩
 obtain ⟨f36,d36,a36,F36⟩:=am_ (hd 36 (by decide))
 have x__law_power:Fx K mg "_law_power" el_ ["width"] f36 d36:=⟨F36,binds1 F36 (fun _ _ _ _ _ _ _=>rfl),F36.kp,PySem.W.mg_of X G a36⟩
 obtain ⟨f37,d37,a37,F37⟩:=am_ (hd 37 (by decide))
 have x__law_value:Fx K mg "_law_value" dt_ ["kind", "deck"] f37 d37:=⟨F37,binds2 F37 (fun _ _ _ _ _ _ _ _=>rfl),F37.kp,PySem.W.mg_of X G a37⟩
 obtain ⟨f38,d38,a38,F38⟩:=am_ (hd 38 (by decide))
 have x__law_written:Fx K mg "_law_written" cf_ ["kind", "value"] f38 d38:=⟨F38,binds2 F38 (fun _ _ _ _ _ _ _ _=>rfl),F38.kp,PySem.W.mg_of X G a38⟩
 obtain ⟨f39,d39,a39,F39⟩:=am_ (hd 39 (by decide))
 have x__law_alike:Fx K mg "_law_alike" cx_ ["found", "due"] f39 d39:=⟨F39,binds2 F39 (fun _ _ _ _ _ _ _ _=>rfl),F39.kp,PySem.W.mg_of X G a39⟩
 obtain ⟨f40,d40,a40,F40⟩:=am_ (hd 40 (by decide))
 have x__law_holders:Fx K mg "_law_holders" cr_ ["thing"] f40 d40:=⟨F40,binds1 F40 (fun _ _ _ _ _ _ _=>rfl),F40.kp,PySem.W.mg_of X G a40⟩
 obtain ⟨f41,d41,a41,F41⟩:=am_ (hd 41 (by decide))
 have x__law_apart:Fx K mg "_law_apart" du_ ["told"] f41 d41:=⟨F41,binds1 F41 (fun _ _ _ _ _ _ _=>rfl),F41.kp,PySem.W.mg_of X G a41⟩
 obtain ⟨f42,d42,a42,F42⟩:=am_ (hd 42 (by decide))
 have x__law_copy:Fx K mg "_law_copy" dq_ ["thing"] f42 d42:=⟨F42,binds1 F42 (fun _ _ _ _ _ _ _=>rfl),F42.kp,PySem.W.mg_of X G a42⟩
 obtain ⟨f43,d43,a43,F43⟩:=am_ (hd 43 (by decide))
 have x__law_turned:Fx K mg "_law_turned" dc_ ["value"] f43 d43:=⟨F43,binds1 F43 (fun _ _ _ _ _ _ _=>rfl),F43.kp,PySem.W.mg_of X G a43⟩
 obtain ⟨f44,d44,a44,F44⟩:=am_ (hd 44 (by decide))
 have x_law:Fx K mg "law" s_law ["script"] f44 d44:=⟨F44,binds1 F44 (fun _ _ _ _ _ _ _=>rfl),F44.kp,PySem.W.mg_of X G a44⟩
 have m_isinstance:mg "isinstance" = none:=PySem.W.mg_none_of X G (gs_ hn 0 (by decide) (by rfl))
 have m_int:mg "int" = none:=PySem.W.mg_none_of X G (gs_ hn 1 (by decide) (by rfl))
 have m_bool:mg "bool" = none:=PySem.W.mg_none_of X G (gs_ hn 2 (by decide) (by rfl))
 have m_list:mg "list" = none:=PySem.W.mg_none_of X G (gs_ hn 3 (by decide) (by rfl))
 have m_len:mg "len" = none:=PySem.W.mg_none_of X G (gs_ hn 4 (by decide) (by rfl))
 have m_str:mg "str" = none:=PySem.W.mg_none_of X G (gs_ hn 5 (by decide) (by rfl))
 have m_tuple:mg "tuple" = none:=PySem.W.mg_none_of X G (gs_ hn 6 (by decide) (by rfl))
 have m_all:mg "all" = none:=PySem.W.mg_none_of X G (gs_ hn 7 (by decide) (by rfl))
 have m_dict:mg "dict" = none:=PySem.W.mg_none_of X G (gs_ hn 8 (by decide) (by rfl))
 have m_max:mg "max" = none:=PySem.W.mg_none_of X G (gs_ hn 9 (by decide) (by rfl))
 have m_min:mg "min" = none:=PySem.W.mg_none_of X G (gs_ hn 10 (by decide) (by rfl))
 have m_range:mg "range" = none:=PySem.W.mg_none_of X G (gs_ hn 11 (by decide) (by rfl))
 have m_sorted:mg "sorted" = none:=PySem.W.mg_none_of X G (gs_ hn 14 (by decide) (by rfl))
 obtain ⟨_,c_BITS_OF_A_BYTE,r_BITS_OF_A_BYTE⟩:=gi_ (x:=.int 8) (hc 6 (by decide))
 obtain ⟨_,rfl⟩:=r_BITS_OF_A_BYTE
 obtain ⟨_,c_COMMA,r_COMMA⟩:=gi_ (x:=.str comS) (hc 13 (by decide))
 obtain ⟨_,rfl⟩:=r_COMMA
 obtain ⟨_,c_FIGURES,r_FIGURES⟩:=gi_ (x:=.str figS) (hc 12 (by decide))
 obtain ⟨_,rfl⟩:=r_FIGURES
 obtain ⟨_,c_FIGURES_OF_A_BYTE,r_FIGURES_OF_A_BYTE⟩:=gi_ (x:=.int 3) (hc 14 (by decide))
 obtain ⟨_,rfl⟩:=r_FIGURES_OF_A_BYTE
 have k_BITS_OF_A_BYTE:∃ t,mg "BITS_OF_A_BYTE" = some (.int 8 t):=⟨_,PySem.W.mg_of X G c_BITS_OF_A_BYTE⟩
 have k_COMMA:∃ t,mg "COMMA" = some (.str comS t):=⟨_,PySem.W.mg_of X G c_COMMA⟩
 have k_FIGURES:∃ t,mg "FIGURES" = some (.str figS t):=⟨_,PySem.W.mg_of X G c_FIGURES⟩
 have k_FIGURES_OF_A_BYTE:∃ t,mg "FIGURES_OF_A_BYTE" = some (.int 3 t):=⟨_,PySem.W.mg_of X G c_FIGURES_OF_A_BYTE⟩
 have hO:[obsCl K "Reader" [("__init__", "Reader.__init__"),("passes", "Reader.passes"),("take", "Reader.take"),("take_end", "Reader.take_end"),("take_run", "Reader.take_run"),("take_number", "Reader.take_number")] ["place", "text"]]=[expCl [expMeth "__init__" "Reader.__init__" (inClass (topOf PySem.Challenge.pw_laidfields_k46_values_written_and_read 19) 0),expMeth "passes" "Reader.passes" (inClass (topOf PySem.Challenge.pw_laidfields_k46_values_written_and_read 19) 1),expMeth "take" "Reader.take" (inClass (topOf PySem.Challenge.pw_laidfields_k46_values_written_and_read 19) 2),expMeth "take_end" "Reader.take_end" (inClass (topOf PySem.Challenge.pw_laidfields_k46_values_written_and_read 19) 3),expMeth "take_run" "Reader.take_run" (inClass (topOf PySem.Challenge.pw_laidfields_k46_values_written_and_read 19) 4),expMeth "take_number" "Reader.take_number" (inClass (topOf PySem.Challenge.pw_laidfields_k46_values_written_and_read 19) 5)] [("__init__", "Reader.__init__"),("passes", "Reader.passes"),("take", "Reader.take"),("take_end", "Reader.take_end"),("take_run", "Reader.take_run"),("take_number", "Reader.take_number")] ["place", "text"]]:=congrArg (fun x=>x.2.2.2.2) hK
 simp only [List.cons.injEq,and_true] at hO
 have hO_Reader:=hO
 obtain ⟨C_Reader,at_Reader,cls_Reader,mk_Reader,kp_Reader,ms_Reader,mf_Reader,na_Reader⟩:=obsCl_ex hO_Reader
 have M_Reader:mg "Reader" = some (.ref C_Reader):=PySem.W.mg_of X G at_Reader
 have na_Reader_place:NoAttr K C_Reader "place" := na_Reader "place" (by simp only [List.mem_cons,true_or,or_true])
 have na_Reader_text:NoAttr K C_Reader "text" := na_Reader "text" (by simp only [List.mem_cons,true_or,or_true])
 simp only [List.map_cons,List.map_nil,List.cons.injEq,and_true] at ms_Reader
 obtain ⟨ms_Reader___init__,ms_Reader_passes,ms_Reader_take,ms_Reader_take_end,ms_Reader_take_run,ms_Reader_take_number⟩:=ms_Reader
 obtain ⟨f_Reader___init__,d_Reader___init__,fa_Reader___init__,fn_Reader___init__,F_Reader___init__⟩:=dr_ ms_Reader___init__ (mf_Reader ("__init__", "Reader.__init__") (by simp only [List.mem_cons,true_or,or_true]))
 have b_Reader___init__:Binds K d_Reader___init__ ["self", "text"] []:=binds2 (st:=s_init) F_Reader___init__ (fun _ _ _ _ _ _ _ _=>rfl)
 have mk_Reader_i:Mk K C_Reader f_Reader___init__:=⟨mk_Reader,fa_Reader___init__,fn_Reader___init__,kp_Reader⟩
 obtain ⟨f_Reader_passes,d_Reader_passes,fa_Reader_passes,fn_Reader_passes,F_Reader_passes⟩:=dr_ ms_Reader_passes (mf_Reader ("passes", "Reader.passes") (by simp only [List.mem_cons,true_or,or_true]))
 have b_Reader_passes:Binds K d_Reader_passes ["self", "signs"] []:=binds2 (st:=hf_) F_Reader_passes (fun _ _ _ _ _ _ _ _=>rfl)
 have x_Reader_passes:Mx K C_Reader "passes" "Reader.passes" hf_ ["self", "signs"] f_Reader_passes d_Reader_passes:=⟨F_Reader_passes,b_Reader_passes,⟨fa_Reader_passes,fn_Reader_passes,F_Reader_passes.kp⟩,cls_Reader⟩
 obtain ⟨f_Reader_take,d_Reader_take,fa_Reader_take,fn_Reader_take,F_Reader_take⟩:=dr_ ms_Reader_take (mf_Reader ("take", "Reader.take") (by simp only [List.mem_cons,true_or,or_true]))
 have b_Reader_take:Binds K d_Reader_take ["self", "signs"] []:=binds2 (st:=s_take) F_Reader_take (fun _ _ _ _ _ _ _ _=>rfl)
 have x_Reader_take:Mx K C_Reader "take" "Reader.take" s_take ["self", "signs"] f_Reader_take d_Reader_take:=⟨F_Reader_take,b_Reader_take,⟨fa_Reader_take,fn_Reader_take,F_Reader_take.kp⟩,cls_Reader⟩
 obtain ⟨f_Reader_take_end,d_Reader_take_end,fa_Reader_take_end,fn_Reader_take_end,F_Reader_take_end⟩:=dr_ ms_Reader_take_end (mf_Reader ("take_end", "Reader.take_end") (by simp only [List.mem_cons,true_or,or_true]))
 have b_Reader_take_end:Binds K d_Reader_take_end ["self"] []:=binds1 (st:=fe_) F_Reader_take_end (fun _ _ _ _ _ _ _=>rfl)
 have x_Reader_take_end:Mx K C_Reader "take_end" "Reader.take_end" fe_ ["self"] f_Reader_take_end d_Reader_take_end:=⟨F_Reader_take_end,b_Reader_take_end,⟨fa_Reader_take_end,fn_Reader_take_end,F_Reader_take_end.kp⟩,cls_Reader⟩
 obtain ⟨f_Reader_take_run,d_Reader_take_run,fa_Reader_take_run,fn_Reader_take_run,F_Reader_take_run⟩:=dr_ ms_Reader_take_run (mf_Reader ("take_run", "Reader.take_run") (by simp only [List.mem_cons,true_or,or_true]))
 have b_Reader_take_run:Binds K d_Reader_take_run ["self", "signs"] []:=binds2 (st:=fd_) F_Reader_take_run (fun _ _ _ _ _ _ _ _=>rfl)
 have x_Reader_take_run:Mx K C_Reader "take_run" "Reader.take_run" fd_ ["self", "signs"] f_Reader_take_run d_Reader_take_run:=⟨F_Reader_take_run,b_Reader_take_run,⟨fa_Reader_take_run,fn_Reader_take_run,F_Reader_take_run.kp⟩,cls_Reader⟩
 obtain ⟨f_Reader_take_number,d_Reader_take_number,fa_Reader_take_number,fn_Reader_take_number,F_Reader_take_number⟩:=dr_ ms_Reader_take_number (mf_Reader ("take_number", "Reader.take_number") (by simp only [List.mem_cons,true_or,or_true]))
 have b_Reader_take_number:Binds K d_Reader_take_number ["self", "most_figures"] []:=binds2 (st:=dn_) F_Reader_take_number (fun _ _ _ _ _ _ _ _=>rfl)
 have x_Reader_take_number:Mx K C_Reader "take_number" "Reader.take_number" dn_ ["self", "most_figures"] f_Reader_take_number d_Reader_take_number:=⟨F_Reader_take_number,b_Reader_take_number,⟨fa_Reader_take_number,fn_Reader_take_number,F_Reader_take_number.kp⟩,cls_Reader⟩
 have e:=hfa.symm.trans x_law.m
 cases e
 refine ⟨d44,fun s v=>binds_law x_law.F s v,fun base hbK _ => ?_⟩
 exact have GPA:=x_Reader_passes.cal (P:=l.prog) (w:=w) (mg:=mg) (base:=base) (okx_passes (C_Reader:=C_Reader) x_Reader_passes.F cls_Reader na_Reader_text na_Reader_place m_len)
  have GTA:=x_Reader_take.cal (okx_take x_Reader_take.F GPA)
  have GTE:=x_Reader_take_end.cal (P:=l.prog) (w:=w) (mg:=mg) (base:=base) (okx_take_end (C_Reader:=C_Reader) x_Reader_take_end.F cls_Reader na_Reader_text na_Reader_place m_len)
  have GTR:=x_Reader_take_run.cal (P:=l.prog) (w:=w) (mg:=mg) (base:=base) (okx_take_run (C_Reader:=C_Reader) x_Reader_take_run.F cls_Reader na_Reader_text na_Reader_place m_len)
  have GAF:=x_are_figures.cal (P:=l.prog) (w:=w) (base:=base) (okx_af4 x_are_figures.F m_len m_all k_FIGURES)
  have GTN:=x_Reader_take_number.cal (ib_ x_Reader_take_number.F GTR GAF m_len m_int k_FIGURES)
  have CK:CalK l.prog w K mg base 1 C_Reader ["self", "text"] (spO (gIN C_Reader)):=⟨_,_,mk_Reader_i,okx_init F_Reader___init__ cls_Reader na_Reader_text na_Reader_place m_isinstance m_str,b_Reader___init__⟩
  have GIV:=x_is_value.cal (P:=l.prog) (w:=w) (base:=base) (ivx_all x_is_value x_is_whole x_is_row_value x_is_record_value x_is_choice_value k_BITS_OF_A_BYTE m_isinstance m_int m_bool m_list m_tuple m_dict m_str m_len m_all 5)
  have GTV:=x_taken_value.cal (tvx_all x_taken_value x_taken_number x_taken_row x_taken_record x_taken_some_fields x_taken_choice GIV GPA GTA GTN k_COMMA k_FIGURES_OF_A_BYTE m_range m_len 5)
  have GRV:=x_read_value.cal (okx_rv (j:=22) x_read_value.F CK M_Reader GTV GTE)
  have GSW:=x_shown_value.cal (P:=l.prog) (w:=w) (base:=base) (svx_all x_shown_value m_str k_COMMA 5)
  have GSV:=x_show_value.cal (okx_shv (j:=11) x_show_value.F (GSW.mono (by decide)) GIV)
  have GTK:=x__law_take.cal (P:=l.prog) (w:=w) (base:=base) (okx_tk x__law_take.F)
  have GNU:=x__law_numbers.cal (P:=l.prog) (w:=w) (base:=base) (okx_nu x__law_numbers.F m_range)
  have GKW:=x__law_kind_within.cal (okx_kw4 (j:=6) x__law_kind_within.F GTK (x__law_kind.cal (knx_all x__law_kind x__law_name x__law_take m_range m_int 5)) ((x__law_room.cal (rmx_all x__law_room x__law_up m_max 5)).mono (by decide)))
  have GAP:=x__law_apart.cal (ok_ap x__law_apart.F (x__law_holders.cal (P:=l.prog) (w:=w) (base:=base) (hox_all x__law_holders m_isinstance m_list m_tuple m_dict m_sorted 8)) m_isinstance m_list m_len m_range m_str)
  (law_tree (okx_law (L:=26) x_law.F (x__law_cell_at.cal (okx_ca x__law_cell_at.F m_len)) (x__law_deck.cal (okx_dk x__law_deck.F GNU)) GNU GTK (GKW.mono (by decide)) ((x__law_value.cal (vax_all x__law_value x__law_take x__law_power m_range m_len 5)).mono (by decide)) ((x__law_written.cal (lwx_all x__law_written m_str 5)).mono (by decide)) (GSV.mono (by decide)) ((x__law_copy.cal (cpx_all x__law_copy m_isinstance m_list m_tuple m_dict 20)).mono (by decide)) ((x__law_turned.cal (tux_all x__law_turned m_isinstance m_list m_tuple m_dict m_sorted 5)).mono (by decide)) ((x__law_alike.cal (akx_all x__law_alike m_isinstance m_dict m_tuple m_list m_len m_range m_str m_int m_bool 8)).mono (by decide)) GRV (GAP.mono (by decide)) m_max m_min m_range m_len m_isinstance m_str (by decide))).mono (by decide)
def lawRec:DefRec:=match s_law with
 | .FunctionDef n a b _ _ _ sc _ _ pos=>⟨n,a,b,sc,pos⟩
 | _=>⟨⟨#[]⟩,⟨[],[],none,[],[],none,[]⟩,[],defScope s_law,⟨0,0,0,0⟩⟩
end Lf
open PySem PySem.W PyProof.Rows
set_option maxHeartbeats 0 in
theorem PySem.Challenge.cw_laidfields_k46_values_written_and_read_holds : PySem.Challenge.rw_laidfields_k46_values_written_and_read.Holds := by
 w_on; o_law
 refine holds_open (d := Lf.lawRec) (kwd := []) (XP := XL (PySem.W.view PySem.Challenge.pw_laidfields_k46_values_written_and_read [1, 2, 4, 6, 7, 8, 9, 10, 12, 13, 14, 15, 16, 17, 18, 19, 20, 21, 22, 23, 24, 25, 27, 28, 29, 30, 31, 32, 33, 34, 35, 36, 37, 38, 39, 40, 41, 42, 43, 44]) []) Lf.left_top (Hook.of (L2.exHook (Lf.seenF PySem.Challenge.pw_laidfields_k46_values_written_and_read) (Lf.seenV PySem.Challenge.pw_laidfields_k46_values_written_and_read))) (Hook.keeps (L2.exHook (Lf.seenF PySem.Challenge.pw_laidfields_k46_values_written_and_read) (Lf.seenV PySem.Challenge.pw_laidfields_k46_values_written_and_read))) (fun s e => xl_of s (Bool.and_eq_true_iff.mp e).1) XL.keeps (by kernel_rfl) (by kernel_rfl) (by kernel_rfl) (fun s e => recFacts_of (Bool.and_eq_true_iff.mp e).2) (by rfl) (by assumption) (by decide +kernel) ⟨rfl, rfl, rfl, rfl, rfl, by decide +kernel⟩ ?hw ?hc
 case hw=>w_witness2
 case hc=>exact L2.walk_ex (l:=PySem.Challenge.rw_laidfields_k46_values_written_and_read) (n:=63) (k:=30) (x := "script") (CX:=L2.CX0) (sp:=Lf.spLaw) rfl (by decide) (by rfl) ⟨rfl,by decide,by decide⟩ (fun w K mg fa h hK X G hfa=>Lf.all_mk hK X G hfa) (fun K H a ns hl _ hS=>⟨a,ns,rfl,hS,hl,fun _=>rfl⟩) (fun _ _ _ _ z=>z)
#print axioms PySem.Challenge.cw_laidfields_k46_values_written_and_read_holds
