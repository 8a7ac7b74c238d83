import PyProof.Rows.All
import Wide.All
import OpenK.AllK
import Wide.FinOn
import Lean
import PyProof.EqAt
import PyProof.EqKinds
import PyProof.TupleCall
import PyProof.NeKinds
import KE.KMinKey
import KE.KSortKey
import PySem.Challenge.RW_wellroads_k10_refused
set_option Elab.async false
set_option linter.all false
set_option maxRecDepth 100000
set_option maxHeartbeats 4000000
namespace WR
open PySem PySem.W PyProof.Rows
def topRunT (tb:String→Option Builtin) (p:Program) (w:World) (n₀:Nat) (ann:Option Value):Nat→SharedT→Thread→Option SharedT
 | 0,_,_=>none
 | n + 1,s,t=>match through t with
  | true=>some s
  | false=>match stepOk n₀ ann t with
   | false=>none
   | true=>match stepT (denote tb) p w s t with
    | some z=>topRunT tb p w n₀ ann n z.1 z.2
    | none=>none
theorem topRun_ofT {tb:String→Option Builtin} {p:Program} {w:World} {n₀:Nat} {ann:Option Value}:∀ {n:Nat} {s r:SharedT} {t:Thread},topRunT tb p w n₀ ann n s t=some r→topRun tb p w n₀ ann n s.abs t=some r.abs
 | 0,_,_,_,h=>by cases h
 | n + 1,s,r,t,h=>by
  unfold topRunT at h
  unfold topRun
  cases he:through t with
  | true=>rw [he] at h; cases h; rfl
  | false =>
   rw [he] at h
   cases hk:stepOk n₀ ann t with
   | false=>rw [hk] at h; cases h
   | true =>
    rw [hk] at h
    cases hs:stepT (denote tb) p w s t with
    | none=>rw [hs] at h; cases h
    | some z=>obtain ⟨s₂,t₂⟩:=z; rw [hs] at h; rw [stepT_spec hs]; exact topRun_ofT h
def treeFrom:Nat→BT→List Obj→BT
 | _,t,[]=>t
 | n,t,o::l=>treeFrom (n + 1) (t.ins n o) l
def treeFits:Nat→BT→List Obj→Bool
 | _,_,[]=>true
 | n,t,o::l=>((t.ins n o).get n).isSome&&treeFits (n + 1) (t.ins n o) l
theorem treeFrom_abs {life:Life}:∀ {n:Nat} {t:BT} {l:List Obj},treeFits n t l=true→absHeap (treeFrom n t l) (n + l.length) life=⟨(absHeap t n life).objs++l.toArray,life⟩
 | n,t,[],_=>by
  show absHeap t n life=_
  rw [Array.append_empty]
  rfl
 | n,t,o::l,h=>by
  unfold treeFits at h
  obtain ⟨h1,h2⟩:=Bool.and_eq_true_iff.mp h
  have e:=treeFrom_abs (life:=life) h2
  show absHeap (treeFrom (n + 1) (t.ins n o) l) (n + (l.length + 1)) life=_
  rw [show n + (l.length + 1)=n + 1 + l.length by omega,e,absHeap_ins h1]
  show Heap.mk ((absHeap t n life).objs.push o++l.toArray) life=_
  refine congrArg (Heap.mk · life) (Array.ext' ?_)
  simp
noncomputable def bootT (P:Params) (os:OsState):SharedT:=⟨treeFrom 0 .nil (boot_heap P).objs.toList,(boot_heap P).objs.toList.length,(boot_heap P).life,Array.mk [],boot_drawn,boot_toks,os⟩
theorem bootT_abs {P:Params} {os:OsState} (h:treeFits 0 .nil (boot_heap P).objs.toList=true):(bootT P os).abs=⟨boot_heap P,Array.mk [],boot_drawn,boot_toks,os⟩:=by
 have e:=treeFrom_abs (life:=(boot_heap P).life) h
 rw [Nat.zero_add] at e
 unfold bootT SharedT.abs
 dsimp only
 rw [e]
 have z:(absHeap .nil 0 (boot_heap P).life).objs=#[]:=rfl
 rw [z,Array.empty_append,Array.toArray_toList]
theorem left_tree {p q:Program} {loose:List Str} {Xt:Shared→Bool} {α:Type} {Yf:Shared→α} {Ya:World→α} {N:Nat} {m₀:Nat} {ann:Option Value} (e:opening p=plainProg p.main.scope.names) (hN:Nat.ble 600 N=true) (f:∀ s,fenceModules? p s=some s)
  (hb:∀ P,treeFits 0 .nil (boot_heap P).objs.toList=true)
  (size:∀ w:World,((boot_heap w.params).isNs mainGlobals,(boot_heap w.params).objs.size,(boot_heap w.params).nsMap mainGlobals "__annotations__")=(true,m₀,ann))
  (h:∀ (w:World) (os:OsState),(topRunT treeTable p w m₀ ann N (bootT w.params os) (topStub p)).map (fun s=>(staticsOk (importedModules p.main.body) (boot_heap w.params) s.abs.heap&&namesBound p s.abs.heap&&gensDone s.abs&&laidKept (boot_heap w.params) s.abs.heap,openSeen q loose (importedModules p.main.body) Xt true s.abs,Yf s.abs))=some (true,openGood q loose,Ya w)):LeftO p q loose Xt Yf Ya N true:=by
 intro w
 obtain ⟨s,hs,hv⟩:=Option.map_eq_some_iff.mp (boot_open e hN f w)
 unfold openEnds
 rw [hs]
 show (topFrom treeTable p w N s).map _=_
 obtain ⟨a,b,c,d,os⟩:=s
 cases hv
 obtain ⟨r,hr,hl⟩:=Option.map_eq_some_iff.mp (h w os)
 obtain ⟨l1,l2⟩:=Prod.mk.inj hl
 obtain ⟨z1,z2⟩:=Prod.mk.inj (size w)
 obtain ⟨z2,z3⟩:=Prod.mk.inj z2
 have t:=topRun_ofT hr
 rw [bootT_abs (hb w.params)] at t
 have tf:topFrom treeTable p w N ⟨boot_heap w.params,Array.mk [],boot_drawn,boot_toks,os⟩=some r.abs:=by
  unfold topFrom
  dsimp only
  rw [z1,z2,z3,t]
  show (match staticsOk (importedModules p.main.body) (boot_heap w.params) r.abs.heap&&namesBound p r.abs.heap&&gensDone r.abs&&laidKept (boot_heap w.params) r.abs.heap with | true=>_ | false=>_)=_
  rw [l1]
 exact (congrArg (Option.map _) tf).trans (congrArg some l2)
theorem left_two {p q:Program} {loose:List Str} {Xt:Shared→Bool} {α:Type} {Yf:Shared→α} {Ya:World→α} {N:Nat} {m₀:Nat} {ann:Option Value} (e:opening p=plainProg p.main.scope.names) (hN:Nat.ble 600 N=true) (f:∀ s,fenceModules? p s=some s)
  (hb:∀ P,treeFits 0 .nil (boot_heap P).objs.toList=true)
  (size:∀ w:World,((boot_heap w.params).isNs mainGlobals,(boot_heap w.params).objs.size,(boot_heap w.params).nsMap mainGlobals "__annotations__")=(true,m₀,ann))
  (h1:∀ (w:World) (os:OsState),(topRunT treeTable p w m₀ ann N (bootT w.params os) (topStub p)).map (fun s=>(staticsOk (importedModules p.main.body) (boot_heap w.params) s.abs.heap&&namesBound p s.abs.heap&&gensDone s.abs&&laidKept (boot_heap w.params) s.abs.heap,openSeen q loose (importedModules p.main.body) Xt true s.abs))=some (true,openGood q loose))
  (h2:∀ (w:World) (os:OsState),(topRunT treeTable p w m₀ ann N (bootT w.params os) (topStub p)).map (fun s=>Yf s.abs)=some (Ya w)):LeftO p q loose Xt Yf Ya N true:=by
 refine left_tree e hN f hb size fun w os=>?_
 obtain ⟨r,hr,hl⟩:=Option.map_eq_some_iff.mp (h1 w os)
 have e2:=h2 w os
 rw [hr] at e2 ⊢
 obtain ⟨l1,l2⟩:=Prod.mk.inj hl
 have e2:Yf r.abs=Ya w:=Option.some.inj e2
 show some (_,_,_)=_
 rw [l1,l2,e2]
end WR
namespace WR
open PySem
def tp (i:Nat):Stmt:=PySem.Challenge.pw_wellroads_k10_refused.main.body.getD i (.Pass ⟨0,0,0,0⟩)
def qv:Program:={ PySem.Challenge.pw_wellroads_k10_refused with main:={ PySem.Challenge.pw_wellroads_k10_refused.main with body:=[tp 0,tp 2,tp 3,tp 4,tp 5,tp 6,tp 7,tp 9,tp 10,tp 11,tp 12,tp 13,tp 14,tp 15,tp 16,tp 17,tp 18,tp 19,tp 20,tp 21,tp 22,tp 23,tp 24,tp 25,tp 26,tp 28,tp 29,tp 30,tp 32,tp 33,tp 34,tp 35,tp 36,tp 37,tp 39,tp 40,tp 41,tp 42,tp 43,tp 44,tp 45,tp 46,tp 47,tp 49,tp 50,tp 51,tp 52,tp 53,tp 54,tp 55,tp 56] } }
end WR
lay_quick WR.topRunT
lay_quick PySem.Challenge.pw_wellroads_k10_refused
set_option maxHeartbeats 0 in
open PySem PySem.W PyProof.Rows in
theorem WR.headA (w:World) (os:OsState):(WR.topRunT treeTable PySem.Challenge.pw_wellroads_k10_refused w 11 (some (.ref 6)) 6566 (WR.bootT w.params os) (topStub PySem.Challenge.pw_wellroads_k10_refused)).map (fun s=>(staticsOk (importedModules PySem.Challenge.pw_wellroads_k10_refused.main.body) (boot_heap w.params) s.abs.heap&&namesBound PySem.Challenge.pw_wellroads_k10_refused s.abs.heap&&gensDone s.abs&&laidKept (boot_heap w.params) s.abs.heap,openSeen WR.qv [] (importedModules PySem.Challenge.pw_wellroads_k10_refused.main.body) (fun s=>xlAt WR.qv [] s&&recOk (RowW.records (OpenRow.toRowW (OpenLaw.row PySem.Challenge.rw_wellroads_k10_refused))) s) true s.abs))=some (true,openGood WR.qv []):=by
 rw [PySem.W.Fast.te4828769269382284359,PySem.W.Fast.te4187177175401517315,PySem.W.Fast.te14364793385576792824]; rw [PySem.W.Fast.te17176156667996222624]; kernel_rfl
namespace L2
open PySem PySem.Spec PyProof.Rows
abbrev Key:=Sum Int Str
def keyIs:Key→Value→Bool
 | .inl k,v=>Value.isInt k v
 | .inr x,v=>Value.isStrOf x v
def keyH (w:World):Key→Int
 | .inl k=>hashInt k
 | .inr x=>hashStr w x
theorem keyIs_shape:∀ {k:Key} {v:Value},keyIs k v=true→(∃ i t,k=Sum.inl i∧v=Value.int i t)∨(∃ x t,k=Sum.inr x∧v=Value.str x t)
 | .inl i,v,h=>by
  obtain ⟨t,e⟩:=Value.isInt_shape (k:=i) (v:=v) h
  exact .inl ⟨i,t,rfl,e⟩
 | .inr x,v,h=>by
  obtain ⟨t,e⟩:=Value.isStrOf_shape (x:=x) (v:=v) h
  exact .inr ⟨x,t,rfl,e⟩
theorem keyIs_int (i:Int) (t:Tok):keyIs (.inl i) (.int i t)=true:=by simp [keyIs,Value.isInt]
theorem keyIs_str (x:Str) (t:Tok):keyIs (.inr x) (.str x t)=true:=by simp [keyIs,Value.isStrOf]
theorem key_ll (a b:Int):decide ((Sum.inl a:Key)=Sum.inl b)=(a == b):=by
 by_cases e:a=b
 ·subst e; simp
 ·have h:¬ (Sum.inl a:Key)=Sum.inl b:=fun q=>e (Sum.inl.inj q)
  rw [decide_eq_false h]
  exact (beq_eq_false_iff_ne.mpr e).symm
theorem key_rr (a b:Str):decide ((Sum.inr a:Key)=Sum.inr b)=decide (a=b):=by
 by_cases e:a=b
 ·subst e; simp
 ·have h:¬ (Sum.inr a:Key)=Sum.inr b:=fun q=>e (Sum.inr.inj q)
  rw [decide_eq_false h,decide_eq_false e]
theorem key_lr (a:Int) (b:Str):decide ((Sum.inl a:Key)=Sum.inr b)=false:=decide_eq_false (fun q=>nomatch q)
theorem key_rl (a:Str) (b:Int):decide ((Sum.inr a:Key)=Sum.inl b)=false:=decide_eq_false (fun q=>nomatch q)
def mixKind (prog:Program) (w:World):PySem.KeyKind prog w Key where
 is:=keyIs
 hash:=keyH w
 inj:=fun v a b ha hb=>by
  rcases keyIs_shape ha with ⟨i,t,rfl,rfl⟩ | ⟨x,t,rfl,rfl⟩
  ·rcases keyIs_shape hb with ⟨j,u,rfl,e⟩ | ⟨y,u,rfl,e⟩
   ·injection e with e1 _; rw [e1]
   ·exact nomatch e
  ·rcases keyIs_shape hb with ⟨j,u,rfl,e⟩ | ⟨y,u,rfl,e⟩
   ·exact nomatch e
   ·injection e with e1 _; rw [e1]
 byValue:=fun k v h=>by
  rcases keyIs_shape h with ⟨i,t,rfl,rfl⟩ | ⟨x,t,rfl,rfl⟩ <;> rfl
 pyHash:=fun hv h=>by
  rcases keyIs_shape hv with ⟨i,t,rfl,rfl⟩ | ⟨x,t,rfl,rfl⟩
  ·exact wpAny_pyHash_int h
  ·exact wpAny_pyHash_str h
 eqBool:=fun hu hv h=>by
  rcases keyIs_shape hu with ⟨i,t,rfl,rfl⟩ | ⟨x,t,rfl,rfl⟩
  ·rcases keyIs_shape hv with ⟨j,u,rfl,rfl⟩ | ⟨y,u,rfl,rfl⟩
   ·rw [key_ll] at h; exact wpAny_eqBool_int h
   ·rw [key_lr] at h; exact SeqAt.EqAt.int_str i t y u _ _ _ _ h
  ·rcases keyIs_shape hv with ⟨j,u,rfl,rfl⟩ | ⟨y,u,rfl,rfl⟩
   ·rw [key_rl] at h; exact SeqAt.EqAt.str_int x t j u _ _ _ _ h
   ·rw [key_rr] at h; exact wpAny_eqBool_str h
 «strs»:=fun k x t v h=>by
  rcases keyIs_shape h with ⟨i,u,rfl,e⟩ | ⟨y,u,rfl,e⟩
  ·exact nomatch e
  ·injection e with e1 _
   subst e1
   cases v <;> rfl
theorem mixKind_int (prog:Program) (w:World) (i:Int) (t:Tok):(mixKind prog w).is (.inl i) (.int i t)=true:=keyIs_int i t
theorem mixKind_str (prog:Program) (w:World) (x:Str) (t:Tok):(mixKind prog w).is (.inr x) (.str x t)=true:=keyIs_str x t
end L2
namespace L2
open PySem PySem.Spec PyProof.Rows
inductive V where
 | non | bl (b:Bool) | int (i:Int) | str (x:Str) | byt (b:Array UInt8) | flt (b:UInt64) | ref (a:Addr) | ty (n:String)
 deriving DecidableEq
def RelV:V→Value→Prop
 | .non,u=>u=Value.none
 | .bl b,u=>u=Value.bool b
 | .int i,u=>∃ t,u=Value.int i t
 | .str x,u=>∃ t,u=Value.str x t
 | .byt b,u=>∃ t,u=Value.bytes b t
 | .flt b,u=>∃ t,u=Value.float b t
 | .ref a,u=>u=Value.ref a
 | .ty n,u=>u=Value.type n
abbrev Vals:List V→List Value→Prop:=Paired RelV
theorem Vals.length {xs:List V} {us:List Value} (r:Vals xs us):xs.length=us.length:=Paired.length r
theorem Vals.get:∀ {xs:List V} {us:List Value} {i:Nat} {x:V},Vals xs us→xs[i]?=some x→∃ u,us[i]?=some u∧RelV x u
 | _,_,_,_,.nil,e=>by simp at e
 | _,_,0,_,.cons r _,e=>by simp at e; subst e; exact ⟨_,rfl,r⟩
 | _,_,i + 1,x,.cons _ t,e=>by
  obtain ⟨u,h1,h2⟩:=Vals.get (i:=i) (x:=x) t (by simpa using e)
  exact ⟨u,by simpa using h1,h2⟩
theorem Vals.append:∀ {xs ys:List V} {us ws:List Value},Vals xs us→Vals ys ws→Vals (xs++ys) (us++ws)
 | _,_,_,_,.nil,s=>s
 | _,_,_,_,.cons r t,s=>.cons r (Vals.append t s)
theorem Vals.take:∀ {xs:List V} {us:List Value} (n:Nat),Vals xs us→Vals (xs.take n) (us.take n)
 | _,_,0,_=>.nil
 | _,_,_ + 1,.nil=>.nil
 | _,_,n + 1,.cons r t=>.cons r (Vals.take n t)
theorem Vals.drop:∀ {xs:List V} {us:List Value} (n:Nat),Vals xs us→Vals (xs.drop n) (us.drop n)
 | _,_,0,r=>r
 | _,_,_ + 1,.nil=>.nil
 | _,_,n + 1,.cons _ t=>Vals.drop n t
def RelO:Option V→Option Value→Prop
 | some v,some u=>RelV v u
 | none,none=>True
 | _,_=>False
def KV {κ:Type}:List (κ×V)→List (κ×Value)→Prop:=Paired fun (p:κ×V) (q:κ×Value)=>p.1=q.1∧RelV p.2 q.2
def kV:Key→V
 | .inl i=>.int i
 | .inr x=>.str x
inductive HO where
 | lst (xs:List V)
 | tup (xs:List V)
 | dK (kvs:List (Key×V)) | dT (kvs:List (List Key×V))
 | set (S:Int→Bool) (n:Nat)
 | ins (C dx:Addr) (fs:List (Str×V))
 | own (x:Addr)
 | xd (fs:List (Str×V))
 | met (f x:Addr)
 | rng (lo hi:Int)
 | frz (o:Obj) (u:HO)
 | tbl (ps:Array Value)
 | ext (φ:Heap→Prop)
abbrev Hp:=Addr→Option HO
def upd (H:Hp) (a:Addr) (o:HO):Hp:=fun b=>if b=a then some o else H b
theorem upd_same {H:Hp} {a:Addr} {o:HO}:upd H a o a=some o:=by unfold upd; rw [if_pos rfl]
theorem upd_ne {H:Hp} {a b:Addr} {o:HO} (h:b≠a):upd H a o b=H b:=by unfold upd; rw [if_neg h]
theorem upd_upd {H:Hp} {a:Addr} {o u:HO}:upd (upd H a o) a u=upd H a u:=by
 funext b; unfold upd; split <;> rfl
theorem ne_of {H:Hp} {a b:Addr} {o u:HO} (h:H a=some o) (h':H b=some u) (d:o≠u):a≠b:=by
 intro e; subst e; rw [h] at h'; exact d (Option.some.inj h')
theorem ne_of_none {H:Hp} {a b:Addr} {o:HO} (h:H a=some o) (h':H b=none):a≠b:=by
 intro e; subst e; rw [h] at h'; cases h'
section
variable (P:Program) (w:World)
def ObjOk (H:Hp) (h:Heap) (a:Addr):HO→Prop
 | .lst xs=>xs.length≤sizeLine∧∃ (its:List Value) (n:Nat),Vals xs its∧h.get? a=some { cls:=.type "list",data:=.seq its.toArray n }
 | .tup xs=>xs.length≤sizeLine∧∃ its:List Value,Vals xs its∧IsTup h a its.toArray
 | .dK kvs=>kvs.length≤sizeLine∧(a == sysModules)=false∧∃ vs,KV kvs vs∧h.DictOf (mixKind P w) a vs
 | .dT kvs=>kvs.length≤sizeLine∧(a == sysModules)=false∧∃ xs:List (List Key×Addr×Value),
   Paired (fun (p:List Key×V) (q:List Key×Addr×Value)=>p.1=q.1∧H q.2.1=some (.tup (p.1.map kV))∧RelV p.2 q.2.2) kvs xs ∧
   ∃ o es ep,h.get? a=some o∧o.ExactDict∧o.data=.dict es ep∧es.toList=xs.map (entryOfKey (tupleKind (mixKind P w)))∧(xs.map (·.1)).Nodup
 | .set S n=>h.SetOf (intKind P w) a S n
 | .ins C dx fs=>H dx=some (.own a)∧fs.length≤1000∧dx≠a∧h.get? a=some (PySem.W.instObj C dx) ∧
   ∃ mA,h.Ns1 dx mA∧(∀ f,RelO (fs.lookup f) (mA f))∧PySem.Within mA (fs.map (·.1))
 | .own _=>∃ o,h.get? a=some o
 | .xd fs=>∃ mA,h.Ns1 a mA∧∀ f,RelO (fs.lookup f) (mA f)
 | .rng lo hi=>∃ t u v,h.get? a=some { cls:=.type "range",data:=.fields #[.int lo t,.int hi u,.int 1 v] }
 | .frz o u=>h.get? a=some o∧ObjOk H h a u
 | .tbl ps=>h.get? a=some { cls:=.none,data:=.fields ps }
 | .met f x=>h.get? a=some (PySem.W.methodObj (.ref f) (.ref x))
 | .ext φ=>φ h∧(∃ o,h.get? a=some o)∧∀ h1 h2:Heap,φ h1→(∀ o,h1.get? a=some o→h2.get? a=some o)→φ h2
def HOk (H:Hp) (h:Heap):Prop:=∀ a o,H a=some o→ObjOk P w H h a o
end
section
variable {P:Program} {w:World} {H H':Hp} {h h':Heap} {a:Addr} {o:HO}
theorem ObjOk.lt (x:ObjOk P w H h a o):a < h.objs.size:=by
 cases o with
 | lst xs=>obtain ⟨_,_,_,_,e⟩:=x; exact Heap.lt_size e
 | tup xs=>obtain ⟨_,_,_,p⟩:=x; exact p.lt
 | dK kvs=>obtain ⟨_,_,_,_,o,_,_,e,_⟩:=x; exact Heap.lt_size e
 | dT kvs=>obtain ⟨_,_,_,_,o,_,_,e,_⟩:=x; exact Heap.lt_size e
 | set S n=>obtain ⟨o,_,_,_,e,_⟩:=x; exact Heap.lt_size e
 | ins C dx fs=>obtain ⟨_,_,_,e,_⟩:=x; exact Heap.lt_size e
 | own y=>obtain ⟨_,e⟩:=x; exact Heap.lt_size e
 | xd fs=>obtain ⟨_,⟨_,_,_,e,_⟩,_⟩:=x; exact Heap.lt_size e
 | rng lo hi=>obtain ⟨_,_,_,e⟩:=x; exact Heap.lt_size e
 | frz ob u=>obtain ⟨e,_⟩:=x; exact Heap.lt_size e
 | tbl ps=>exact Heap.lt_size (show h.get? a=some _ from x)
 | met f y=>exact Heap.lt_size (show h.get? a=some _ from x)
 | ext φ=>obtain ⟨_,⟨_,e⟩,_⟩:=x; exact Heap.lt_size e
theorem Paired.mapP {α β:Type} {F G:α→β→Prop}:∀ {l₁:List α} {l₂:List β},Paired F l₁ l₂→(∀ a b,F a b→G a b)→Paired G l₁ l₂
 | _,_,.nil,_=>.nil
 | _,_,.cons r t,f=>.cons (f _ _ r) (Paired.mapP t f)
theorem ObjOk.stay (x:ObjOk P w H h a o) (k:∀ b u,(b=a∨H b=some (.own a))→h.get? b=some u→h'.get? b=some u)
  (ho:∀ b,H b=some (.own a)→H' b=some (.own a)) (ht:∀ b xs,H b=some (.tup xs)→H' b=some (.tup xs)):ObjOk P w H' h' a o:=by
 induction o with
 | lst xs=>obtain ⟨z,its,n,r,e⟩:=x; exact ⟨z,its,n,r,k _ _ (.inl rfl) e⟩
 | tup xs=>obtain ⟨z,its,r,ob,e,c⟩:=x; exact ⟨z,its,r,ob,k _ _ (.inl rfl) e,c⟩
 | dK kvs=>obtain ⟨z,y,vs,r,ob,es,ep,e,c⟩:=x; exact ⟨z,y,vs,r,ob,es,ep,k _ _ (.inl rfl) e,c⟩
 | dT kvs =>
  obtain ⟨z,y,xs,r,ob,es,ep,e,c⟩:=x
  exact ⟨z,y,xs,Paired.mapP r fun p q z=>⟨z.1,ht _ _ z.2.1,z.2.2⟩,ob,es,ep,k _ _ (.inl rfl) e,c⟩
 | set S n=>obtain ⟨ob,es,ep,t,e,c⟩:=x; exact ⟨ob,es,ep,t,k _ _ (.inl rfl) e,c⟩
 | ins C dx fs =>
  obtain ⟨d,z,ne,e,mA,⟨od,es,ep,e2,c⟩,r⟩:=x
  exact ⟨ho _ d,z,ne,k _ _ (.inl rfl) e,mA,⟨od,es,ep,k _ _ (.inr d) e2,c⟩,r⟩
 | own y=>obtain ⟨ob,e⟩:=x; exact ⟨ob,k _ _ (.inl rfl) e⟩
 | xd fs=>obtain ⟨mA,⟨od,es,ep,e,c⟩,r⟩:=x; exact ⟨mA,⟨od,es,ep,k _ _ (.inl rfl) e,c⟩,r⟩
 | rng lo hi=>obtain ⟨t,u,v,e⟩:=x; exact ⟨t,u,v,k _ _ (.inl rfl) e⟩
 | frz ob u ih=>obtain ⟨e,q⟩:=x; exact ⟨k _ _ (.inl rfl) e,ih q⟩
 | tbl ps =>
  have e:h.get? a=some { cls:=.none,data:=.fields ps }:=x
  show h'.get? a=some { cls:=.none,data:=.fields ps }
  exact k a _ (.inl rfl) e
 | met f y =>
  have e:h.get? a=some (PySem.W.methodObj (.ref f) (.ref y)):=x
  show h'.get? a=some (PySem.W.methodObj (.ref f) (.ref y))
  exact k a _ (.inl rfl) e
 | ext φ=>obtain ⟨p,⟨o,e⟩,st⟩:=x; exact ⟨st _ _ p fun o q=>k _ _ (.inl rfl) q,⟨o,k _ _ (.inl rfl) e⟩,st⟩
theorem HOk.lt (x:HOk P w H h) (e:H a=some o):a < h.objs.size:=(x a o e).lt
theorem HOk.fresh (x:HOk P w H h) (e:h.objs.size≤a):H a=none:=by
 cases q:H a with
 | none=>rfl
 | some u=>exact absurd (Nat.lt_of_lt_of_le (x.lt q) e) (Nat.lt_irrefl _)
theorem HOk.kept (x:HOk P w H h) (k:∀ b u,h.get? b=some u→h'.get? b=some u):HOk P w H h':=fun a o e =>
 (x a o e).stay (fun b u _ q=>k b u q) (fun _ q=>q) fun _ _ q=>q
theorem HOk.laid (x:HOk P w H h) (k:∀ b u,h.get? b=some u→h'.get? b=some u) (hp:h.objs.size≤a) (new:ObjOk P w (upd H a o) h' a o):HOk P w (upd H a o) h':=fun b u e=>by
 have hn:=x.fresh hp
 by_cases hb:b=a
 ·subst hb; rw [upd_same] at e; cases e; exact new
 ·rw [upd_ne hb] at e
  exact (x b u e).stay (fun c v _ q=>k c v q) (fun c q=>by rw [upd_ne (ne_of_none q hn)]; exact q) fun c xs q=>by rw [upd_ne (ne_of_none q hn)]; exact q
end
def Rd (H:Hp) (a:Addr) (u:HO):Prop:=H a=some u∨∃ o,H a=some (.frz o u)
theorem Rd.ok {P:Program} {w:World} {H:Hp} {h:Heap} {a:Addr} {u:HO} (r:Rd H a u) (x:HOk P w H h):ObjOk P w H h a u:=by
 rcases r with r | ⟨o,r⟩
 ·exact x a u r
 ·obtain ⟨_,q⟩:=x a _ r
  exact q
def Mut:Option HO→Prop
 | some (.lst _)=>True
 | some (.dK _)=>True
 | some (.dT _)=>True
 | some (.set _ _)=>True
 | some (.ins _ _ _)=>True
 | some (.ext _)=>True
 | _=>False
section
variable {P:Program} {w:World} {H:Hp} {h h':Heap} {x e:Addr} {o':HO}
theorem HOk.write (ok:HOk P w H h) (mu:Mut (H x)) (he:e=x∨H e=some (.own x)) (k:∀ b u,b≠e→h.get? b=some u→h'.get? b=some u) (heo:∃ u,h'.get? e=some u)
  (new:ObjOk P w (upd H x o') h' x o'):HOk P w (upd H x o') h':=fun b u q=>by
 have nown:∀ c y,H c=some (.own y)→c≠x:=fun c y r z=>by subst z; rw [r] at mu; exact mu
 have ntup:∀ c xs,H c=some (.tup xs)→c≠x:=fun c xs r z=>by subst z; rw [r] at mu; exact mu
 by_cases hb:b=x
 ·subst hb; rw [upd_same] at q; cases q; exact new
 ·rw [upd_ne hb] at q
  by_cases hbe:b=e
  ·have q':H b=some (.own x):=by
    rcases he with z | z
    ·exact absurd (hbe.trans z) hb
    ·rw [hbe]; exact z
   rw [q] at q'; cases q'
   obtain ⟨v,hv⟩:=heo
   exact ⟨v,by rw [hbe]; exact hv⟩
  ·refine (ok b u q).stay (fun c v hc r=>k c v ?_ r) (fun c r=>by rw [upd_ne (nown c b r)]; exact r) fun c xs r=>by rw [upd_ne (ntup c xs r)]; exact r
   rcases hc with rfl | hc
   ·exact hbe
   ·rintro rfl
    rcases he with z | z
    ·exact nown c b hc z
    ·rw [hc] at z; cases z; exact hb rfl
end
structure Un (fs ex:List Addr) (H H':Hp) (h h':Heap):Prop where
 keep:∀ b o,h.get? b=some o→H b=none→b ∉ fs→b ∉ ex→h'.get? b=some o
 slot:∀ b o,h.get? b=some o→H b=none→b∈fs→b ∉ ex→∃ sl,h'.get? b=some { o with slots:=sl }
 free:∀ b o,h.get? b=some o→H b=none→b ∉ ex→H' b=none
 there:∀ b o,h.get? b=some o→b ∉ ex→∃ o',h'.get? b=some o'
 tups:∀ b xs,H b=some (.tup xs)→H' b=some (.tup xs)
 frzs:∀ b o u,H b=some (.frz o u)→H' b=some (.frz o u)
 tbls:∀ b ps,H b=some (.tbl ps)→∃ more,H' b=some (.tbl (ps++more))
section
variable {fs fs' ex ex':List Addr} {H H1 H2:Hp} {h h1 h2 h':Heap} {a x e:Addr} {o:HO}
theorem Un.any (u:Un fs ex H H1 h h1) {b:Addr} {ob:Obj} (q:h.get? b=some ob) (n:H b=none) (hx:b ∉ ex):∃ sl,h1.get? b=some { ob with slots:=sl }:=by
 by_cases hb:b∈fs
 ·exact u.slot b ob q n hb hx
 ·exact ⟨ob.slots,u.keep b ob q n hb hx⟩
theorem Un.trans (a:Un fs ex H H1 h h1) (b:Un fs ex H1 H2 h1 h2):Un fs ex H H2 h h2 where
 keep:=fun c ob q n hc hx=>b.keep c ob (a.keep c ob q n hc hx) (a.free c ob q n hx) hc hx
 slot:=fun c ob q n hc hx=>by
  obtain ⟨sl,e1⟩:=a.slot c ob q n hc hx
  obtain ⟨sl',e2⟩:=b.slot c _ e1 (a.free c ob q n hx) hc hx
  exact ⟨sl',e2⟩
 free:=fun c ob q n hx=>by
  obtain ⟨o',e1⟩:=a.there c ob q hx
  exact b.free c o' e1 (a.free c ob q n hx) hx
 there:=fun c ob q hx=>by
  obtain ⟨o',e1⟩:=a.there c ob q hx
  exact b.there c o' e1 hx
 tups:=fun c xs q=>b.tups c xs (a.tups c xs q)
 frzs:=fun c ob xs q=>b.frzs c ob xs (a.frzs c ob xs q)
 tbls:=fun c ps q=>by
  obtain ⟨m1,e1⟩:=a.tbls c ps q
  obtain ⟨m2,e2⟩:=b.tbls c _ e1
  exact ⟨m1++m2,by rw [e2,Array.append_assoc]⟩
theorem Un.kept (k:∀ b u,h.get? b=some u→h'.get? b=some u):Un fs ex H H h h' :=
 ⟨fun b ob q _ _ _=>k b ob q,fun b ob q _ _ _=>⟨ob.slots,k b ob q⟩,fun _ _ _ n _=>n,fun b ob q _=>⟨ob,k b ob q⟩,fun _ _ q=>q,fun _ _ _ q=>q,fun _ ps q=>⟨#[],by rw [q]; simp⟩⟩
theorem Un.refl:Un fs ex H H h h:=Un.kept fun _ _ q=>q
theorem Un.laid (k:∀ b u,h.get? b=some u→h'.get? b=some u) (hp:h.objs.size≤a) (hn:H a=none):Un fs ex H (upd H a o) h h' where
 keep:=fun b u q _ _ _=>k b u q
 slot:=fun b u q _ _ _=>⟨u.slots,k b u q⟩
 free:=fun b u q n _=>by rw [upd_ne (Nat.ne_of_lt (Nat.lt_of_lt_of_le (Heap.lt_size q) hp))]; exact n
 there:=fun b u q _=>⟨u,k b u q⟩
 tups:=fun b xs q=>by rw [upd_ne (ne_of_none q hn)]; exact q
 frzs:=fun b u xs q=>by rw [upd_ne (ne_of_none q hn)]; exact q
 tbls:=fun b ps q=>⟨#[],by rw [upd_ne (ne_of_none q hn),q]; simp⟩
theorem Un.write (mu:Mut (H x)) (he:e=x∨H e=some (.own x)) (k:∀ b u,b≠e→h.get? b=some u→h'.get? b=some u) (heo:∃ u,h'.get? e=some u):Un fs ex H (upd H x o) h h':=by
 have hx:∀ b,H b=none→b≠x:=fun b n z=>by subst z; rw [n] at mu; exact mu
 have hb:∀ b,H b=none→b≠e:=fun b n z=>by
  subst z
  rcases he with r | r
  ·exact hx b n r
  ·rw [n] at r; cases r
 have hm:∀ b u,H b=some u→¬ Mut (some u)→b≠x:=fun b u q nm z=>by subst z; rw [q] at mu; exact nm mu
 refine ⟨fun b u q n _ _=>k b u (hb b n) q,fun b u q n _ _=>⟨u.slots,k b u (hb b n) q⟩,fun b u q n _=>by rw [upd_ne (hx b n)]; exact n,fun b u q _=>?_,
  fun b xs q=>by rw [upd_ne (hm b _ q fun z=>z)]; exact q,fun b u xs q=>by rw [upd_ne (hm b _ q fun z=>z)]; exact q,fun b ps q=>⟨#[],by rw [upd_ne (hm b _ q fun z=>z),q]; simp⟩⟩
 by_cases hbe:b=e
 ·subst hbe; exact heo
 ·exact ⟨u,k b u hbe q⟩
end
def trk (h:Heap) (H:Hp):List Addr:=(List.range h.objs.size).filter fun a=>(H a).isSome
def hidT (h:Heap) (H:Hp):Heap:=PySem.W.hideAll h (trk h H)
theorem hidT_size (h:Heap) (H:Hp):(hidT h H).objs.size=h.objs.size:=PySem.W.hideAll_size _ _
theorem hidT_get {h:Heap} {H:Hp} {b:Addr} {o:Obj} (e:h.get? b=some o) (n:H b=none):(hidT h H).get? b=some o :=
 PySem.W.hideAll_get _ e fun hm=>by
  have q:(H b).isSome=true:=(List.mem_filter.mp hm).2
  rw [n] at q; simp at q
theorem of_hidT {h:Heap} {H:Hp} {b:Addr} {o:Obj} (e:(hidT h H).get? b=some o):h.get? b=some o∧H b=none:=by
 have e':h.get? b=some o:=PySem.W.of_hideAll (trk h H) e
 refine ⟨e',?_⟩
 cases q:H b with
 | none=>rfl
 | some x =>
  have hm:b∈trk h H:=List.mem_filter.mpr ⟨List.mem_range.mpr (Heap.lt_size e'),by simp [q]⟩
  have z:(hidT h H).get? b=none:=PySem.W.hideAll_none (trk h H) hm
  rw [z] at e; cases e
def allNews (g h:Heap) (L:Addr):List (Addr×Obj):=(List.range h.objs.size).filterMap fun a=>if a=L∨(g.get? a).isSome=true then none else (h.get? a).map fun o=>(a,o)
def rest (g h:Heap) (L d:Addr):List (Addr×Obj):=(allNews g h L).filter fun p=>decide (p.1≠d)
end L2
namespace L2
open PySem PySem.Spec PyProof.Rows
structure Mod (K:PySem.W.Frag) (mg:Str→Option Value) (base:Heap):Prop where
 kin:K.In base
 glob:base.Ns mainGlobals mg
 blt:∃ mb,base.Ns builtinsNs mb∧∀ x:Str,x ≠ "__name__" → mb x=bootBuiltins x
 nolimit:base.NoLimit
structure Cx where
 prog:Program
 w:World
 K:PySem.W.Frag
 mg:Str→Option Value
 base:Heap
 A:Around
 N:List Str
 s₀:Shared
 H₀:Hp
 env:Env
 outer:List Env
 stack:List Env
 ex:List Addr
 fn:Str→Bool
 calm:Bool
 pn:List (Addr×Obj)
 xe:Value→Shared→Prop
def frs (l:List Env):List Addr:=l.filterMap (·.frame)
abbrev Cx.fs (X:Cx):List Addr:=frs X.outer
def Vis (sc:Scope) (x:Str):Prop:=sc.names.lookup x=some .local∨sc.names.lookup x=some .cell∨sc.names.lookup x=some .free
def Loc (sc:Scope) (x:Str):Prop:=sc.names.lookup x=some .local∨sc.names.lookup x=some .cell
def Look (env:Env) (h:Heap) (m:Str→Option Value) (x:Str) (u:Value):Prop :=
 (env.kindOf x=some .local∧m x=some u)∨((env.kindOf x=some .cell∨env.kindOf x=some .free)∧∃ c,env.cells.lookup x=some c∧h.IsCell c (some u))
structure Cx.Ok (X:Cx):Prop where
 mod:Mod X.K X.mg X.base
 kind:X.env.scope.kind=.function
 glob:X.env.globals=mainGlobals
 blt:X.env.builtins=builtinsNs
 above:X.s₀.heap.objs.size≤X.env.locals
 inj:∀ x y c,X.env.cells.lookup x=some c→X.env.cells.lookup y=some c→x=y
 has:∀ x,(X.env.kindOf x=some .cell∨X.env.kindOf x=some .free)→∃ c,X.env.cells.lookup x=some c
 cab:∀ x c,X.fn x=true→X.env.cells.lookup x=some c→X.s₀.heap.objs.size≤c
 hd:X.calm=true→X.A.handled=none
 frames:X.A.frames=some X.stack
 stk:X.stack=X.outer∨(X.stack=X.env::X.outer∧X.env.frame=some X.env.locals)
 exf:∀ b∈X.ex,b≠X.env.locals∧∀ x c,X.env.cells.lookup x=some c→c≠b
 bs:∀ b o,X.base.get? b=some o→X.s₀.heap.get? b=some o∧X.H₀ b=none
 bsz:X.base.objs.size≤X.s₀.heap.objs.size
 noex:∀ b o,X.base.get? b=some o→b ∉ X.ex
 exfs:∀ b∈X.ex,b ∉ X.fs
 funs:X.s₀.heap.FunFrames X.base X.outer
 frf:∀ b∈X.fs,X.H₀ b=none
structure Inv (X:Cx) (pins:List (Addr×Obj)) (σ:List (Option V)) (H:Hp) (s:Shared):Prop where
 ok:X.Ok
 os:s.os=X.s₀.os
 bare:AllBare s.gens
 base:Un X.fs X.ex X.H₀ H X.s₀.heap s.heap
 loc:∃ m,s.heap.Ns X.env.locals m∧∀ (i:Nat) (x:Str) (v:V),X.N[i]?=some x→σ[i]?=some (some v)→Vis X.env.scope x→∃ u,RelV v u∧Look X.env s.heap m x u
 cell:∀ x c,X.env.cells.lookup x=some c→∃ v,s.heap.IsCell c v
 free:H X.env.locals=none
 freeC:∀ x c,X.env.cells.lookup x=some c→H c=none
 pin:∀ p∈X.pn++pins,s.heap.get? p.1=some p.2∧H p.1=none∧p.1≠X.env.locals∧p.1 ∉ X.fs∧∀ v,p.2.data≠.cell v
 hok:HOk X.prog X.w H s.heap
 len:σ.length=X.N.length
section
variable {X:Cx} {pins:List (Addr×Obj)} {σ:List (Option V)} {H H':Hp} {s:Shared} {h':Heap}
theorem Cx.Ok.nofr (ok:X.Ok) {b:Addr} {o:Obj} (e:X.base.get? b=some o):b ∉ X.fs:=fun hb=>by
 have:=(ok.funs.mem hb).1
 rw [e] at this; cases this
theorem Inv.bs (I:Inv X pins σ H s):∀ b o,X.base.get? b=some o→s.heap.get? b=some o∧H b=none:=fun b o e =>
 ⟨I.base.keep b o (I.ok.bs b o e).1 (I.ok.bs b o e).2 (I.ok.nofr e) (I.ok.noex b o e),I.base.free b o (I.ok.bs b o e).1 (I.ok.bs b o e).2 (I.ok.noex b o e)⟩
theorem Inv.bk (I:Inv X pins σ H s):∀ b o,X.base.get? b=some o→s.heap.get? b=some o:=fun b o e=>(I.bs b o e).1
theorem Inv.mod (I:Inv X pins σ H s):Mod X.K X.mg X.base:=I.ok.mod
theorem Inv.kIn (I:Inv X pins σ H s):X.K.In s.heap:=I.ok.mod.kin.keeps I.bk
theorem Inv.lt (I:Inv X pins σ H s):X.env.locals < s.heap.objs.size:=let ⟨_,hn,_⟩:=I.loc; hn.lt
theorem Inv.sz (I:Inv X pins σ H s):X.s₀.heap.objs.size≤s.heap.objs.size:=Nat.le_trans I.ok.above (Nat.le_of_lt I.lt)
theorem Inv.nofs (I:Inv X pins σ H s) {a:Addr} (h:s.heap.objs.size≤a):a ∉ X.fs:=fun hb=>by
 obtain ⟨_,o,ho,_⟩:=I.ok.funs.mem hb
 exact absurd (Nat.lt_of_lt_of_le (Heap.lt_size ho) (Nat.le_trans I.sz h)) (Nat.lt_irrefl _)
theorem Inv.cne (I:Inv X pins σ H s):∀ x c,X.env.cells.lookup x=some c→c≠X.env.locals:=fun x c e z=>by
 obtain ⟨v,o,ho,hd⟩:=I.cell x c e
 obtain ⟨m,⟨o',es,ep,ho',hd',_⟩,_⟩:=I.loc
 rw [z,ho'] at ho; cases ho; rw [hd'] at hd; cases hd
theorem Inv.funs (I:Inv X pins σ H s):s.heap.FunFrames X.base X.outer:=by
 have all:∀ (l:List Env),(∀ b∈frs l,b∈X.fs)→X.s₀.heap.FunFrames X.base l→s.heap.FunFrames X.base l:=by
  intro l
  induction l with
  | nil=>intro _ _; trivial
  | cons env r ih =>
   intro hs hl
   obtain ⟨hk,⟨L,o,hf,hn,ho,hd⟩,hr⟩:=hl
   have hL:L∈X.fs:=hs L (by unfold frs; rw [List.filterMap_cons,hf]; exact List.mem_cons_self)
   obtain ⟨sl,e⟩:=I.base.slot L o ho (I.ok.frf L hL) hL fun z=>I.ok.exfs L z hL
   exact ⟨hk,⟨L,_,hf,hn,e,hd⟩,ih (fun b hb=>hs b (by unfold frs; rw [List.filterMap_cons,hf]; exact List.mem_cons_of_mem _ hb)) hr⟩
 exact all X.outer (fun _ hb=>hb) I.ok.funs
theorem Inv.stack (I:Inv X pins σ H s):s.heap.FunFrames X.base X.stack:=by
 rcases I.ok.stk with e | ⟨e,hf⟩
 ·rw [e]; exact I.funs
 ·rw [e]
  obtain ⟨m,hn,_⟩:=I.loc
  refine .cons (by rw [I.ok.kind]; decide) hf hn ?_ I.funs
  exact Heap.get?_none_of_le (Nat.le_trans I.ok.bsz I.ok.above)
theorem Inv.stkSub (I:Inv X pins σ H s):∀ b∈frs X.stack,b∈X.env.locals::X.fs:=fun b hb=>by
 rcases I.ok.stk with e | ⟨e,hf⟩
 ·rw [e] at hb; exact List.mem_cons_of_mem _ hb
 ·rw [e] at hb
  unfold frs at hb
  rw [List.filterMap_cons,hf] at hb
  exact hb
theorem Inv.stkFree (I:Inv X pins σ H s):∀ b∈frs X.stack,H b=none:=fun b hb=>by
 rcases List.mem_cons.mp (I.stkSub b hb) with e | hb
 ·rw [e]; exact I.free
 ·obtain ⟨_,o,ho,_⟩:=I.ok.funs.mem hb
  exact I.base.free b o ho (I.ok.frf b hb) fun z=>I.ok.exfs b z hb
theorem Inv.step {g':Array GenState} {t':Nat} {d':Drawn} {ch:List Addr} (I:Inv X pins σ H s)
  (hch:∀ b∈ch,(b∈X.ex∨X.s₀.heap.objs.size≤b)∧b≠X.env.locals∧(∀ x c,X.env.cells.lookup x=some c→c≠b)∧∀ p∈X.pn++pins,p.1≠b)
  (keep:∀ b o,b≠X.env.locals→b ∉ X.fs→b ∉ ch→s.heap.get? b=some o→H b=none→h'.get? b=some o)
  (slot:∀ b o,b≠X.env.locals→b∈X.fs→b ∉ ch→s.heap.get? b=some o→H b=none→∃ sl,h'.get? b=some { o with slots:=sl }) (free:∀ b o,b ∉ ch→s.heap.get? b=some o→H b=none→H' b=none)
  (there:∀ b o,b ∉ ch→s.heap.get? b=some o→∃ o',h'.get? b=some o')
  (tups:∀ b xs,H b=some (.tup xs)→H' b=some (.tup xs)) (frzs:∀ b o u,H b=some (.frz o u)→H' b=some (.frz o u)) (tbls:∀ b ps,H b=some (.tbl ps)→∃ more,H' b=some (.tbl (ps++more)))
  (ns:∀ m,s.heap.Ns X.env.locals m→h'.Ns X.env.locals m) (hok:HOk X.prog X.w H' h') (hg:AllBare g') :
  Inv X pins σ H' { s with heap:=h',gens:=g',drawn:=d',toks:=t' }:=by
 have neL:∀ b o,X.s₀.heap.get? b=some o→b≠X.env.locals:=fun b o e=>Nat.ne_of_lt (Nat.lt_of_lt_of_le (Heap.lt_size e) I.ok.above)
 have neC:∀ b o,X.s₀.heap.get? b=some o→b ∉ X.ex→b ∉ ch:=fun b o e hx hb=>by
  rcases (hch b hb).1 with z | z
  ·exact hx z
  ·exact absurd (Nat.lt_of_lt_of_le (Heap.lt_size e) z) (Nat.lt_irrefl _)
 have cellK:∀ x c,X.env.cells.lookup x=some c→∀ v,s.heap.IsCell c v→h'.IsCell c v:=fun x c e v ⟨o,ho,hd⟩=>by
  have nch:c ∉ ch:=fun z=>(hch c z).2.2.1 x c e rfl
  by_cases hc:c∈X.fs
  ·obtain ⟨sl,q⟩:=slot c o (I.cne x c e) hc nch ho (I.freeC x c e)
   exact ⟨_,q,hd⟩
  ·exact ⟨o,keep c o (I.cne x c e) hc nch ho (I.freeC x c e),hd⟩
 refine ⟨I.ok,I.os,hg,⟨fun b o e n hb hx=>?_,fun b o e n hb hx=>?_,fun b o e n hx=>?_,fun b o e hx=>?_,fun b xs e=>tups b xs (I.base.tups b xs e),fun b o xs e=>frzs b o xs (I.base.frzs b o xs e),fun b ps e=>?_⟩,?_,fun x c e=>?_,?_,fun x c e=>?_,fun p hp=>?_,hok,I.len⟩
 ·exact keep b o (neL b o e) hb (neC b o e hx) (I.base.keep b o e n hb hx) (I.base.free b o e n hx)
 ·obtain ⟨sl,e1⟩:=I.base.slot b o e n hb hx
  obtain ⟨sl',e2⟩:=slot b _ (neL b o e) hb (neC b o e hx) e1 (I.base.free b o e n hx)
  exact ⟨sl',e2⟩
 ·obtain ⟨o',e1⟩:=I.base.there b o e hx
  exact free b o' (neC b o e hx) e1 (I.base.free b o e n hx)
 ·obtain ⟨o',e1⟩:=I.base.there b o e hx
  exact there b o' (neC b o e hx) e1
 ·obtain ⟨m1,e1⟩:=I.base.tbls b ps e
  obtain ⟨m2,e2⟩:=tbls b _ e1
  exact ⟨m1++m2,by rw [e2,Array.append_assoc]⟩
 ·obtain ⟨m,hn,hl⟩:=I.loc
  refine ⟨m,ns m hn,fun i x v e1 e2 e3=>?_⟩
  obtain ⟨u,r,l⟩:=hl i x v e1 e2 e3
  refine ⟨u,r,?_⟩
  rcases l with l | ⟨k,c,e,z⟩
  ·exact .inl l
  ·exact .inr ⟨k,c,e,cellK x c e _ z⟩
 ·obtain ⟨v,z⟩:=I.cell x c e
  exact ⟨v,cellK x c e v z⟩
 ·obtain ⟨m,⟨o,_,_,ho,_⟩,_⟩:=I.loc
  exact free _ o (fun z=>(hch _ z).2.1 rfl) ho I.free
 ·obtain ⟨v,o,ho,hd⟩:=I.cell x c e
  exact free c o (fun z=>(hch c z).2.2.1 x c e rfl) ho (I.freeC x c e)
 ·obtain ⟨e,n,ne,nf,d⟩:=I.pin p hp
  have nch:p.1 ∉ ch:=fun z=>(hch p.1 z).2.2.2 p hp rfl
  exact ⟨keep p.1 p.2 ne nf nch e n,free p.1 p.2 nch e n,ne,nf,d⟩
theorem Inv.un {t':Nat} (I:Inv X pins σ H s) (u:Un X.fs [] H H' s.heap h') (hok:HOk X.prog X.w H' h'):Inv X pins σ H' { s with heap:=h',toks:=t' }:=by
 obtain ⟨m,⟨o,es,ep,ho,r⟩,_⟩:=id I.loc
 obtain ⟨sl,hL⟩:=u.any ho I.free (by simp)
 exact I.step (g':=s.gens) (d':=s.drawn) (ch:=[]) (fun _ z=>nomatch z) (fun b o _ hb _ e n=>u.keep b o e n hb (by simp)) (fun b o _ hb _ e n=>u.slot b o e n hb (by simp)) (fun b o _ e n=>u.free b o e n (by simp)) (fun b o _ e=>u.there b o e (by simp)) u.tups u.frzs u.tbls (fun m' hm=>by
  obtain ⟨o',es',ep',ho',r'⟩:=hm
  rw [ho] at ho'; cases ho'
  exact ⟨_,es',ep',hL,r'⟩) hok I.bare
theorem Inv.call {g':Array GenState} {t':Nat} {d':Drawn} {ch:List Addr} (I:Inv X pins σ H s) (u:Un (frs X.stack) ch H H' s.heap h') (hok:HOk X.prog X.w H' h') (hg:AllBare g')
  (hch:∀ b∈ch,(b∈X.ex∨X.s₀.heap.objs.size≤b)∧b≠X.env.locals∧(∀ x c,X.env.cells.lookup x=some c→c≠b)∧∀ p∈X.pn++pins,p.1≠b) :
  Inv X pins σ H' { s with heap:=h',gens:=g',drawn:=d',toks:=t' }:=by
 obtain ⟨m,⟨o,es,ep,ho,r⟩,_⟩:=id I.loc
 obtain ⟨sl,hL⟩:=u.any ho I.free fun z=>(hch _ z).2.1 rfl
 exact I.step (ch:=ch) hch (fun b o hL hb hc e n=>u.keep b o e n (fun z=>(List.mem_cons.mp (I.stkSub b z)).elim hL hb) hc) (fun b o _ _ hc e n=>u.any e n hc) (fun b o hc e n=>u.free b o e n hc) (fun b o hc e=>u.there b o e hc) u.tups u.frzs u.tbls (fun m' hm=>by
  obtain ⟨o',es',ep',ho',r'⟩:=hm
  rw [ho] at ho'; cases ho'
  exact ⟨_,es',ep',hL,r'⟩) hok hg
theorem Inv.turned {t':Nat} {it:Addr} (I:Inv X pins σ H s) (k:∀ b o,b≠it→s.heap.get? b=some o→h'.get? b=some o) (hn:H it=none) (hL:it≠X.env.locals)
  (h1:it∈X.ex∨X.s₀.heap.objs.size≤it) (h2:∀ x c,X.env.cells.lookup x=some c→c≠it) (h3:∀ p∈X.pn++pins,p.1≠it):Inv X pins σ H { s with heap:=h',toks:=t' }:=by
 have nit:∀ b u,H b=some u→b≠it:=fun b u e z=>by rw [z,hn] at e; cases e
 refine I.step (g':=s.gens) (d':=s.drawn) (ch:=[it]) (fun b hb=>?_) (fun b o _ _ hc e _=>k b o (fun z=>hc (by simp [z])) e) (fun b o _ _ hc e _=>⟨o.slots,k b o (fun z=>hc (by simp [z])) e⟩) (fun _ _ _ _ n=>n)
  (fun b o hc e=>⟨o,k b o (fun z=>hc (by simp [z])) e⟩) (fun _ _ e=>e) (fun _ _ _ e=>e) (fun b ps e=>⟨#[],by rw [e]; simp⟩) (fun m hm=>?_) (fun b u e=>?_) I.bare
 ·have e:b=it:=by simpa using hb
  subst e
  exact ⟨h1,hL,h2,h3⟩
 ·obtain ⟨o,es,ep,ho,r⟩:=hm
  exact ⟨o,es,ep,k _ o (Ne.symm hL) ho,r⟩
 ·refine (I.hok b u e).stay (fun c v hc q=>k c v ?_ q) (fun _ q=>q) fun _ _ q=>q
  rcases hc with z | z
  ·rw [z]; exact nit b u e
  ·exact nit c _ z
theorem Inv.tok (I:Inv X pins σ H s) (t:Nat):Inv X pins σ H { s with toks:=t }:=I.un (h':=s.heap) (t':=t) Un.refl I.hok
theorem Inv.kept {t':Nat} (I:Inv X pins σ H s) (k:∀ b u,s.heap.get? b=some u→h'.get? b=some u):Inv X pins σ H { s with heap:=h',toks:=t' }:=I.un (Un.kept k) (I.hok.kept k)
theorem Inv.laid {a:Addr} {o:HO} {t':Nat} (I:Inv X pins σ H s) (k:∀ b u,s.heap.get? b=some u→h'.get? b=some u) (hp:s.heap.objs.size≤a) (new:ObjOk X.prog X.w (upd H a o) h' a o) :
  Inv X pins σ (upd H a o) { s with heap:=h',toks:=t' }:=I.un (Un.laid k hp (I.hok.fresh hp)) (I.hok.laid k hp new)
theorem Inv.write {x e:Addr} {o:HO} {t':Nat} (I:Inv X pins σ H s) (mu:Mut (H x)) (he:e=x∨H e=some (.own x)) (k:∀ b u,b≠e→s.heap.get? b=some u→h'.get? b=some u) (heo:∃ u,h'.get? e=some u)
  (new:ObjOk X.prog X.w (upd H x o) h' x o):Inv X pins σ (upd H x o) { s with heap:=h',toks:=t' }:=I.un (Un.write mu he k heo) (I.hok.write mu he k heo new)
theorem Inv.pins_of {pins':List (Addr×Obj)} (I:Inv X pins σ H s) (h:∀ p∈pins',s.heap.get? p.1=some p.2∧H p.1=none∧p.1≠X.env.locals∧p.1 ∉ X.fs∧∀ v,p.2.data≠.cell v):Inv X pins' σ H s :=
 ⟨I.ok,I.os,I.bare,I.base,I.loc,I.cell,I.free,I.freeC,fun p hp=>(List.mem_append.mp hp).elim (fun z=>I.pin p (List.mem_append_left _ z)) (h p),I.hok,I.len⟩
theorem nodup_ix {N:List Str} (hN:N.Nodup) {i j:Nat} {x:Str} (a:N[i]?=some x) (b:N[j]?=some x):i=j:=by
 obtain ⟨h1,e1⟩:=List.getElem?_eq_some_iff.mp a
 obtain ⟨h2,e2⟩:=List.getElem?_eq_some_iff.mp b
 exact (List.getElem_inj hN).mp (e1.trans e2.symm)
theorem store_ok2 {M:Model} {A:Around} {E:Value→Shared→Prop} {i:Nat} {x:Str} {v:V} {u:Value} {Q:Unit→Shared→Prop} (I:Inv X pins σ H s) (hN:X.N.Nodup) (hi:X.N[i]?=some x) (hx:Loc X.env.scope x) (r:RelV v u)
  (h:∀ s',Inv X pins (σ.set i (some v)) H s'→(∃ a,Heap.SameBut a s.heap s'.heap∧(a=X.env.locals∨X.env.cells.lookup x=some a))→Q () s') (hf:X.fn x=true∨X.env.scope.names.lookup x=some .local:=by first | exact .inl rfl | exact .inr rfl | assumption):wpAny M A (storeName X.env x u) Q E s:=by
 obtain ⟨m,hn,hl⟩:=id I.loc
 have hcls:(X.env.scope.kind == .class || (X.env.scope.kind == .module&&X.env.locals != X.env.globals))=false:=by rw [I.ok.kind]; rfl
 have hiσ:i < σ.length:=by rw [I.len]; exact (List.getElem?_eq_some_iff.mp hi).1
 have cne:=I.cne
 have tracked:∀ {a:Addr} {h':Heap},(∃ o,s.heap.get? a=some o∧H a=none)→Heap.SameBut a s.heap h'→HOk X.prog X.w H h':=fun {a h'} ha hs b ob e=>by
  obtain ⟨_,_,hfree⟩:=ha
  refine (I.hok b ob e).stay (fun c w' hc q=>(hs.2 c ?_).trans q) (fun _ q=>q) fun _ _ q=>q
  rintro rfl
  rcases hc with rfl | hc
  ·rw [hfree] at e; cases e
  ·rw [hfree] at hc; cases hc
 rcases hx with hk | hk
 ·refine wpAny_storeName_local hk hn (fun h' hn' hs=>?_) hcls
  obtain ⟨oL,_,_,hoL,_⟩:=id hn
  refine h _ ⟨I.ok,I.os,I.bare,⟨fun b o e n hb hx=>?_,fun b o e n hb hx=>?_,I.base.free,fun b o e hx=>?_,I.base.tups,I.base.frzs,I.base.tbls⟩,⟨_,hn',fun j y v' e1 e2 e3=>?_⟩,fun y c e=>?_,I.free,I.freeC,fun p hp=>?_,tracked ⟨oL,hoL,I.free⟩ hs,by simpa using I.len⟩ ⟨_,hs,.inl rfl⟩
  ·exact (hs.2 b (Nat.ne_of_lt (Nat.lt_of_lt_of_le (Heap.lt_size e) I.ok.above))).trans (I.base.keep b o e n hb hx)
  ·obtain ⟨sl,e1⟩:=I.base.slot b o e n hb hx
   exact ⟨sl,(hs.2 b (Nat.ne_of_lt (Nat.lt_of_lt_of_le (Heap.lt_size e) I.ok.above))).trans e1⟩
  ·obtain ⟨o',e1⟩:=I.base.there b o e hx
   exact ⟨o',(hs.2 b (Nat.ne_of_lt (Nat.lt_of_lt_of_le (Heap.lt_size e) I.ok.above))).trans e1⟩
  ·by_cases hj:j=i
   ·subst hj
    rw [hi] at e1; cases e1
    rw [List.getElem?_set_self hiσ] at e2
    cases e2
    exact ⟨u,r,.inl ⟨hk,by simp⟩⟩
   ·rw [List.getElem?_set_ne (Ne.symm hj)] at e2
    obtain ⟨u',r',q⟩:=hl j y v' e1 e2 e3
    refine ⟨u',r',?_⟩
    rcases q with ⟨k,e⟩ | ⟨k,c,e,z⟩
    ·refine .inl ⟨k,?_⟩
     have:y≠x:=fun e=>hj (nodup_ix hN e1 (e ▸ hi))
     simp [this,e]
    ·exact .inr ⟨k,c,e,z.sameBut hs (cne y c e)⟩
  ·obtain ⟨w',z⟩:=I.cell y c e
   exact ⟨w',z.sameBut hs (cne y c e)⟩
  ·obtain ⟨e,n,ne,nf,d⟩:=I.pin p hp
   exact ⟨(hs.2 p.1 ne).trans e,n,ne,nf,d⟩
 ·have hfn:X.fn x=true:=by
   rcases hf with z | z
   ·exact z
   ·rw [z] at hk; cases hk
  obtain ⟨c,hc⟩:=I.ok.has x (.inl hk)
  obtain ⟨w',z⟩:=I.cell x c hc
  refine wpAny_storeName_cell I.ok.kind hk hc z (fun h' hc' hs=>?_)
  obtain ⟨oc,hoc,hocd⟩:=id z
  refine h { s with heap:=h' } ⟨I.ok,I.os,I.bare,⟨fun b o e n hb hx=>?_,fun b o e n hb hx=>?_,I.base.free,fun b o e hx=>?_,I.base.tups,I.base.frzs,I.base.tbls⟩,⟨m,hn.sameBut hs (Ne.symm (cne x c hc)),fun j y v' e1 e2 e3=>?_⟩,fun y c' e=>?_,I.free,I.freeC,fun p hp=>?_,tracked ⟨oc,hoc,I.freeC x c hc⟩ hs,by simpa using I.len⟩ ⟨c,hs,.inr hc⟩
  ·exact (hs.2 b (Nat.ne_of_lt (Nat.lt_of_lt_of_le (Heap.lt_size e) (I.ok.cab x c hfn hc)))).trans (I.base.keep b o e n hb hx)
  ·obtain ⟨sl,e1⟩:=I.base.slot b o e n hb hx
   exact ⟨sl,(hs.2 b (Nat.ne_of_lt (Nat.lt_of_lt_of_le (Heap.lt_size e) (I.ok.cab x c hfn hc)))).trans e1⟩
  ·obtain ⟨o',e1⟩:=I.base.there b o e hx
   exact ⟨o',(hs.2 b (Nat.ne_of_lt (Nat.lt_of_lt_of_le (Heap.lt_size e) (I.ok.cab x c hfn hc)))).trans e1⟩
  ·by_cases hj:j=i
   ·subst hj
    rw [hi] at e1; cases e1
    rw [List.getElem?_set_self hiσ] at e2
    cases e2
    exact ⟨u,r,.inr ⟨.inl hk,c,hc,hc'⟩⟩
   ·rw [List.getElem?_set_ne (Ne.symm hj)] at e2
    obtain ⟨u',r',q⟩:=hl j y v' e1 e2 e3
    refine ⟨u',r',?_⟩
    rcases q with q | ⟨k,c',e,z'⟩
    ·exact .inl q
    ·refine .inr ⟨k,c',e,z'.sameBut hs ?_⟩
     rintro rfl
     exact hj (nodup_ix hN e1 (I.ok.inj _ _ _ e hc ▸ hi))
  ·by_cases hcc:c'=c
   ·subst hcc; exact ⟨_,hc'⟩
   ·obtain ⟨w2,z2⟩:=I.cell y c' e
    exact ⟨w2,z2.sameBut hs hcc⟩
  ·obtain ⟨e,n,ne,nf,d⟩:=I.pin p hp
   refine ⟨(hs.2 p.1 ?_).trans e,n,ne,nf,d⟩
   intro q
   rw [q,hoc] at e
   have q':oc=p.2:=Option.some.inj e
   exact d w' (by rw [← q']; exact hocd)
theorem store_ok {M:Model} {A:Around} {E:Value→Shared→Prop} {i:Nat} {x:Str} {v:V} {u:Value} {Q:Unit→Shared→Prop} (I:Inv X pins σ H s) (hN:X.N.Nodup) (hi:X.N[i]?=some x) (hx:Loc X.env.scope x) (r:RelV v u)
  (h:∀ s',Inv X pins (σ.set i (some v)) H s'→Q () s') (hf:X.fn x=true∨X.env.scope.names.lookup x=some .local:=by first | exact .inl rfl | exact .inr rfl | assumption):wpAny M A (storeName X.env x u) Q E s :=
 store_ok2 I hN hi hx r (fun s' I' _=>h s' I') hf
theorem Inv.call' {s':Shared} {ch:List Addr} (I:Inv X pins σ H s) (ho:s'.os=s.os) (u:Un (frs X.stack) ch H H' s.heap s'.heap) (hok:HOk X.prog X.w H' s'.heap) (hg:AllBare s'.gens)
  (hch:∀ b∈ch,(b∈X.ex∨X.s₀.heap.objs.size≤b)∧b≠X.env.locals∧(∀ x c,X.env.cells.lookup x=some c→c≠b)∧∀ p∈X.pn++pins,p.1≠b):Inv X pins σ H' s':=by
 obtain ⟨h',g',d',t',o'⟩:=s'
 have e:o'=s.os:=ho
 subst e
 exact I.call (g':=g') (t':=t') (d':=d') u hok hg hch
end
abbrev XK:=Value→Option Addr→Hp→Prop
abbrev St:=List (Option V)
abbrev VK:=V→Hp→Prop
abbrev TE:=St→Hp→VK→Prop
abbrev TT:=St→Hp→(Bool→Hp→Prop)→Prop
abbrev TA:=St→Hp→(List V→Hp→Prop)→Prop
structure Ends where
 nx:St→Hp→Prop
 rt:VK
 bk:St→Hp→Prop:=fun _ _=>False
 ct:St→Hp→Prop:=fun _ _=>False
abbrev TS:=Ends→St→Hp→Prop
def EP (X:Cx) (pins:List (Addr×Obj)) (σ:St) (Q:VK) (u:Value) (s':Shared):Prop:=∃ v H',Inv X pins σ H' s'∧RelV v u∧Q v H'
def TP (X:Cx) (pins:List (Addr×Obj)) (σ:St) (Q:Bool→Hp→Prop) (b:Bool) (s':Shared):Prop:=∃ H',Inv X pins σ H' s'∧Q b H'
def AP (X:Cx) (pins:List (Addr×Obj)) (σ:St) (Q:List V→Hp→Prop) (us:List Value) (s':Shared):Prop:=∃ vs H',Inv X pins σ H' s'∧Vals vs us∧Q vs H'
def SP (X:Cx) (pins:List (Addr×Obj)) (D:Ends) (f:Flow) (s':Shared):Prop :=
 match f with
 | .next=>∃ σ' H',Inv X pins σ' H' s'∧D.nx σ' H'
 | .brk=>∃ σ' H',Inv X pins σ' H' s'∧D.bk σ' H'
 | .cont=>∃ σ' H',Inv X pins σ' H' s'∧D.ct σ' H'
 | .ret u=>∃ v σ' H',Inv X pins σ' H' s'∧RelV v u∧D.rt v H'
def PE (X:Cx) (e:Expr) (t:TE):Prop :=
 ∀ (pins:List (Addr×Obj)) (s:Shared) (σ:St) (H:Hp) (Q:VK),Inv X pins σ H s→t σ H Q→wpAny (model X.prog X.w) X.A (eval e X.env) (EP X pins σ Q) X.xe s
def PT (X:Cx) (e:Expr) (t:TT):Prop :=
 ∀ (pins:List (Addr×Obj)) (s:Shared) (σ:St) (H:Hp) (Q:Bool→Hp→Prop),Inv X pins σ H s→t σ H Q→wpAny (model X.prog X.w) X.A (isTrue e X.env (eval e X.env)) (TP X pins σ Q) X.xe s
def PW (X:Cx) (e:Expr) (t:TT):Prop :=
 ∀ (whole:Sem Value) (pins:List (Addr×Obj)) (s:Shared) (σ:St) (H:Hp) (Q:Bool→Hp→Prop),Inv X pins σ H s→t σ H Q→wpAny (model X.prog X.w) X.A (isTrue e X.env whole) (TP X pins σ Q) X.xe s
theorem PW.pt {X:Cx} {e:Expr} {t:TT} (h:PW X e t):PT X e t:=h _
def PA (X:Cx) (es:List Expr) (t:TA):Prop :=
 ∀ (pos:Pos) (pins:List (Addr×Obj)) (s:Shared) (σ:St) (H:Hp) (Q:List V→Hp→Prop),Inv X pins σ H s→t σ H Q→wpAny (model X.prog X.w) X.A (spliced (backTo pos (starEach es X.env))) (AP X pins σ Q) X.xe s
def PS (X:Cx) (st:Stmt) (t:TS):Prop :=
 ∀ (pins:List (Addr×Obj)) (s:Shared) (σ:St) (H:Hp) (D:Ends),Inv X pins σ H s→t D σ H→wpAny (model X.prog X.w) X.A (exec st X.env) (SP X pins D) X.xe s
def PSs (X:Cx) (st:List Stmt) (t:TS):Prop :=
 ∀ (pins:List (Addr×Obj)) (s:Shared) (σ:St) (H:Hp) (D:Ends),Inv X pins σ H s→t D σ H→wpAny (model X.prog X.w) X.A (execs st X.env) (SP X pins D) X.xe s
theorem thn {α:Type} {t:Sem α} {Q Q':α→Shared→Prop} {M:Model} {A:Around} {E:Value→Shared→Prop} {s:Shared} (h:wpAny M A t Q E s) (hQ:∀ a s,Q a s→Q' a s):wpAny M A t Q' E s:=wpAny_mono h hQ fun _ _ x=>x
end L2
namespace L2
open PySem PySem.Spec PyProof.Rows
section
variable {X:Cx}
theorem bin {a b:Expr} {ta tb:TE} (ha:PE X a ta) (hb:PE X b tb) {pins:List (Addr×Obj)} {s:Shared} {σ:St} {H:Hp} {R:V→V→Hp→Prop} (I:Inv X pins σ H s) (h:ta σ H fun x H1=>tb σ H1 fun y H2=>R x y H2)
  {α:Type} {Q:α→Shared→Prop} {f:Value→Value→Sem α}
  (hf:∀ v u s2 x y H2,Inv X pins σ H2 s2→RelV x v→RelV y u→R x y H2→wpAny (model X.prog X.w) X.A (f v u) Q X.xe s2) :
  wpAny (model X.prog X.w) X.A (eval a X.env) (fun v s₁=>wpAny (model X.prog X.w) X.A (eval b X.env) (fun u s₂=>wpAny (model X.prog X.w) X.A (f v u) Q X.xe s₂) X.xe s₁) X.xe s:=by
 refine thn (ha pins s σ H _ I h) fun v s1 hz_=>?_
 obtain ⟨x,H1,I1,r1,q1⟩:=hz_
 refine thn (hb pins s1 σ H1 _ I1 q1) fun u s2 hz_=>?_
 obtain ⟨y,H2,I2,r2,q2⟩:=hz_
 exact hf v u s2 x y H2 I2 r1 r2 q2
def tVar (i:Nat):TE:=fun σ H Q=>∃ v,σ[i]?=some (some v)∧Q v H
def tC (v:V):TE:=fun _ H Q=>Q v H
theorem pe_var {i:Nat} {x:Str} {pos:Pos} (hN:X.N[i]?=some x) (hv:Vis X.env.scope x) (hd:(x == ("__debug__" : Str))=false:=by decide) (hcd:(x == ("__classdict__" : Str))=false:=by decide):PE X (.Name x pos) (tVar i):=by
 intro pins s σ H Q I h
 obtain ⟨v,e,h⟩:=h
 obtain ⟨m,hn,hl⟩:=I.loc
 obtain ⟨u,r,l⟩:=hl i x v hN e hv
 have fin:EP X pins σ Q u s:=⟨v,H,I,r,h⟩
 rcases l with ⟨hk,hm⟩ | ⟨hk,c,hc,hcell⟩
 ·exact wpAny_Name (wpAny_loadName_local I.ok.kind hk hn hm fin) hd
 ·rcases hk with hk | hk
  ·exact wpAny_Name (wpAny_loadName_cell I.ok.kind hk hc hcell fin) hd
  ·exact wpAny_Name (wpAny_loadName_free I.ok.kind hk hc hcell fin hcd) hd
theorem pe_int {i j pos}:PE X (.Constant (.int i) j pos) (tC (.int i)):=fun _ _ _ H _ I h=>wpAny_Constant_int ⟨.int i,H,I.tok _,⟨_,rfl⟩,h⟩
theorem pe_bl {b j pos}:PE X (.Constant (.bool b) j pos) (tC (.bl b)):=fun _ _ _ H _ I h=>Constant_bool ⟨.bl b,H,I,rfl,h⟩
theorem pe_non {j pos}:PE X (.Constant .none j pos) (tC .non):=fun _ _ _ H _ I h=>Constant_none ⟨.non,H,I,rfl,h⟩
theorem pe_str {x j pos}:PE X (.Constant (.str x) j pos) (tC (.str x)):=fun _ _ _ H _ I h=>Calls.Constant_str ⟨.str x,H,I.tok _,⟨_,rfl⟩,h⟩
def Gl (X:Cx) (x:Str):Prop:=X.env.kindOf x=some .globalImplicit
theorem ld_glob {E:Value→Shared→Prop} {pins:List (Addr×Obj)} {s:Shared} {σ:St} {H:Hp} {x:Str} {u:Value} {pos:Pos} {Q:Value→Shared→Prop} (I:Inv X pins σ H s) (hg:Gl X x) (hm:X.mg x=some u) (h:Q u s)
  (hd:(x == ("__debug__" : Str))=false:=by decide):wpAny (model X.prog X.w) X.A (eval (.Name x pos) X.env) Q E s :=
 Calls.Name_function_global I.ok.kind hg (Calls.loadGlobal_global (by rw [I.ok.glob]; exact I.mod.glob.keeps I.bk) hm h) hd
theorem ld_blt {E:Value→Shared→Prop} {pins:List (Addr×Obj)} {s:Shared} {σ:St} {H:Hp} {x:Str} {u:Value} {pos:Pos} {Q:Value→Shared→Prop} (I:Inv X pins σ H s) (hg:Gl X x) (hm:X.mg x=none) (hv:bootBuiltins x=some u) (h:Q u s)
  (hn:x ≠ "__name__" := by decide) (hd:(x == ("__debug__" : Str))=false:=by decide):wpAny (model X.prog X.w) X.A (eval (.Name x pos) X.env) Q E s:=by
 obtain ⟨mb,h1,h2⟩:=I.mod.blt
 exact Calls.Name_function_global I.ok.kind hg (Calls.loadGlobal_builtin (by rw [I.ok.glob]; exact I.mod.glob.keeps I.bk) hm (by rw [I.ok.blt]; exact h1.keeps I.bk) ((h2 x hn).trans hv) h) hd
theorem pe_glob {x:Str} {v:V} {u:Value} {pos:Pos} (hg:Gl X x) (hm:X.mg x=some u) (r:RelV v u) (hd:(x == ("__debug__" : Str))=false:=by decide):PE X (.Name x pos) (tC v) :=
 fun _ _ _ H _ I h=>ld_glob I hg hm ⟨v,H,I,r,h⟩ hd
theorem pe_bltn {x:Str} {v:V} {u:Value} {pos:Pos} (hg:Gl X x) (hm:X.mg x=none) (hv:bootBuiltins x=some u) (r:RelV v u) (hn:x ≠ "__name__" := by decide) (hd:(x == ("__debug__" : Str))=false:=by decide):PE X (.Name x pos) (tC v) :=
 fun _ _ _ H _ I h=>ld_blt I hg hm hv ⟨v,H,I,r,h⟩ hn hd
variable {a b:Expr} {ta tb:TE} {pos:Pos}
def PC (X:Cx) (op:CmpOp) (a b:Expr) (t:TE):Prop :=
 ∀ (pins:List (Addr×Obj)) (s:Shared) (σ:St) (H:Hp) (Q:VK),Inv X pins σ H s→t σ H Q →
  wpAny (model X.prog X.w) X.A (eval a X.env) (fun v s₁=>wpAny (model X.prog X.w) X.A (eval b X.env) (fun u s₂=>wpAny (model X.prog X.w) X.A (compareOp op v u) (EP X pins σ Q) X.xe s₂) X.xe s₁) X.xe s
theorem nobehind (b:Expr) {op:CmpOp} (h:op≠.In) (h2:op≠.NotIn):behindInMarks op b=false:=by
 have e1:(op == CmpOp.In)=false:=by cases op <;> first | rfl | exact absurd rfl h
 have e2:(op == CmpOp.NotIn)=false:=by cases op <;> first | rfl | exact absurd rfl h2
 cases b <;> simp [behindInMarks,e1,e2]
def tIsN (ta:TE):TE:=fun σ H Q=>ta σ H fun x H1=>Q (.bl (decide (x=.non))) H1
theorem RelV.none_iff {x:V} {v:Value} (r:RelV x v):(v == Value.none)=decide (x=.non):=by
 cases x with
 | non=>cases r; rfl
 | bl _=>cases r; rfl
 | int _=>obtain ⟨t,rfl⟩:=r; rfl
 | str _=>obtain ⟨t,rfl⟩:=r; rfl
 | byt _=>obtain ⟨t,rfl⟩:=r; rfl
 | flt _=>obtain ⟨t,rfl⟩:=r; rfl
 | ref _=>cases r; rfl
 | ty _=>cases r; rfl
theorem pc_isN {j pos'} (ha:PE X a ta):PC X .Is a (.Constant .none j pos') (tIsN ta):=by
 intro pins s σ H Q I h
 refine thn (ha pins s σ H _ I h) fun v s1 hz_=>?_
 obtain ⟨x,H1,I1,r1,q1⟩:=hz_
 exact Constant_none (is_none_gen ⟨.bl _,H1,I1,by rw [r1.none_iff]; rfl,q1⟩)
def tB (t:TE):TT:=fun σ H Q=>t σ H fun x H1=>∃ c,x=.bl c∧Q c H1
theorem pe_cmp {op:CmpOp} {t:TE} (h:PC X op a b t) (h1:behindInMarks op b=false:=by first | exact nobehind _ (by decide) (by decide) | rfl):PE X (.Compare a [op] [b] pos) t:=fun pins s σ H Q I hw=>wpAny_Compare1 (h pins s σ H Q I hw) h1
theorem pt_cmp {op:CmpOp} {t:TE} (h:PC X op a b t) (h1:behindInMarks op b=false:=by first | exact nobehind _ (by decide) (by decide) | rfl):PT X (.Compare a [op] [b] pos) (tB t):=by
 intro pins s σ H Q I hw
 refine wpAny_isTrue_Compare1 (thn (h pins s σ H _ I hw) fun v s1 h1=>thn h1 fun u s2 h2=>thn h2 fun c s3 hz_=>?_) h1
 obtain ⟨x,H1,I1,r1,q1⟩:=hz_
 obtain ⟨d,rfl,q⟩:=q1
 cases r1
 exact wpAny_truthy_bool ⟨H1,I1,q⟩
theorem pt_val {e:Expr} {t:TE} (h:PE X e t) (he:∀ whole,isTrue e X.env whole=(do let v ← whole; standAt e.pos; holding [v] (truthy v)):=by intro _; rfl):PT X e (tB t):=by
 intro pins s σ H Q I hw
 refine isTrue_plain (thn (h pins s σ H _ I hw) fun v s1 hz_=>?_) (he _)
 obtain ⟨x,H1,I1,r1,q1⟩:=hz_
 obtain ⟨d,rfl,q⟩:=q1
 cases r1
 exact wpAny_truthy_bool ⟨H1,I1,q⟩
variable {tA tB':TT} {rest:List Expr}
def tOr (t u:TT):TT:=fun σ H Q=>t σ H fun c H1=>if c=true then Q true H1 else u σ H1 Q
def tNot (t:TT):TT:=fun σ H Q=>t σ H fun c H1=>Q (!c) H1
theorem pw_or1 (ha:PT X a tA):PW X (.BoolOp .Or [a] pos) tA:=by
 intro wh pins s σ H Q I h
 refine isTrue_or (thn (ha pins s σ H Q I h) fun c s1 e=>?_)
 cases c with
 | false=>exact isTrue_or_nil e
 | true=>exact e
theorem pw_or (ha:PT X a tA) (hb:PW X (.BoolOp .Or (b::rest) pos) tB'):PW X (.BoolOp .Or (a::b::rest) pos) (tOr tA tB'):=by
 intro wh pins s σ H Q I h
 refine isTrue_or (thn (ha pins s σ H _ I h) fun c s1 hz_=>?_)
 obtain ⟨H1,I1,q1⟩:=hz_
 cases c with
 | true=>exact ⟨H1,I1,q1⟩
 | false=>exact hb wh pins s1 σ H1 Q I1 q1
theorem pt_not (ha:PT X a tA):PT X (.UnaryOp .Not a pos) (tNot tA):=by
 intro pins s σ H Q I h
 exact isTrue_not (ha pins s σ H (fun c H1=>Q (!c) H1) I h)
def tAndV (ta tb:TE):TE:=fun σ H Q=>ta σ H fun x H1=>∃ c,x=.bl c∧if c=true then tb σ H1 Q else Q (.bl false) H1
def tNotV (ta:TE):TE:=fun σ H Q=>ta σ H fun x H1=>∃ c,x=.bl c∧Q (.bl (!c)) H1
theorem pe_one {op} {t:TE} (h:PE X a t):PE X (.BoolOp op [a] pos) t:=fun pins s σ H Q I hw=>BoolOp_one (h pins s σ H Q I hw)
theorem pe_and (ha:PE X a ta) (hb:PE X (.BoolOp .And (b::rest) pos) tb):PE X (.BoolOp .And (a::b::rest) pos) (tAndV ta tb):=by
 intro pins s σ H Q I h
 refine BoolOp_and (thn (ha pins s σ H _ I h) fun v s1 hz_=>?_)
 obtain ⟨x,H1,I1,r1,q1⟩:=hz_
 obtain ⟨c,rfl,q1⟩:=q1
 cases r1
 refine wpAny_truthy_bool ?_
 cases c with
 | true=>exact hb pins s1 σ H1 Q I1 q1
 | false=>exact ⟨.bl false,H1,I1,rfl,q1⟩
theorem pe_not (ha:PE X a ta):PE X (.UnaryOp .Not a pos) (tNotV ta):=by
 intro pins s σ H Q I h
 refine UnaryOp_ (thn (ha pins s σ H _ I h) fun v s1 hz_=>?_)
 obtain ⟨x,H1,I1,r1,q1⟩:=hz_
 obtain ⟨c,rfl,q1⟩:=q1
 cases r1
 exact not_of (wpAny_truthy_bool ⟨.bl (!c),H1,I1,rfl,q1⟩)
end
end L2
namespace L2
open PySem PySem.Spec PyProof.Rows
def SqL (K:PySem.W.Frag) (H:Hp) (a:Addr) (xs:List V):Prop :=
 Rd H a (.lst xs) ∨
  ∃ (o:Obj) (its:Array Value) (n:Nat),K.lookup a=some o∧o.cls=.type "list" ∧ o.dict=none∧o.data=.seq its n∧its.size≤sizeLine∧Vals xs its.toList
def SqT (K:PySem.W.Frag) (H:Hp) (a:Addr) (xs:List V):Prop :=
 Rd H a (.tup xs) ∨
  ∃ (o:Obj) (its:Array Value) (n:Nat),K.lookup a=some o∧o.cls=.type "tuple" ∧ o.data=.seq its n∧its.size≤sizeLine∧Vals xs its.toList
def absV:Value→Option V
 | .none=>some .non
 | .bool b=>some (.bl b)
 | .int i _=>some (.int i)
 | .str x _=>some (.str x)
 | .bytes b _=>some (.byt b)
 | .float b _=>some (.flt b)
 | .ref a=>some (.ref a)
 | .type n=>some (.ty n)
 | _=>none
theorem RelV.abs {x:V} {u:Value} (r:RelV x u):absV u=some x:=by
 cases x with
 | non=>cases r; rfl
 | bl _=>cases r; rfl
 | int _=>obtain ⟨t,rfl⟩:=r; rfl
 | str _=>obtain ⟨t,rfl⟩:=r; rfl
 | byt _=>obtain ⟨t,rfl⟩:=r; rfl
 | flt _=>obtain ⟨t,rfl⟩:=r; rfl
 | ref _=>cases r; rfl
 | ty _=>cases r; rfl
theorem RelV.inj {x y:V} {u:Value} (r:RelV x u) (q:RelV y u):x=y:=Option.some.inj (r.abs.symm.trans q.abs)
theorem Vals.inj:∀ {xs ys:List V} {us:List Value},Vals xs us→Vals ys us→xs=ys
 | _,_,_,.nil,.nil=>rfl
 | _,_,_,.cons r t,.cons r' t'=>by rw [r.inj r',Vals.inj t t']
section
variable {X:Cx} {pins:List (Addr×Obj)} {σ:St} {H:Hp} {s:Shared} {a:Addr} {xs ys:List V}
theorem SqL.of {K:PySem.W.Frag} (h:H a=some (.lst xs)):SqL K H a xs:=.inl (.inl h)
theorem SqT.of {K:PySem.W.Frag} (h:H a=some (.tup xs)):SqT K H a xs:=.inl (.inl h)
theorem Inv.list (I:Inv X pins σ H s) (h:SqL X.K H a xs):∃ its:List Value,Vals xs its∧PlainL s.heap a its.toArray∧xs.length≤sizeLine:=by
 rcases h with h | ⟨o,its,n,hk,hc,hd,hs,hz,r⟩
 ·obtain ⟨z,its,n,r,e⟩:=h.ok I.hok
  exact ⟨its,r,⟨_,n,e,rfl,rfl,rfl⟩,z⟩
 ·refine ⟨its.toList,r,⟨o,n,I.kIn a o hk,hc,hd,by simpa using hs⟩,?_⟩
  have e:=r.length
  simp only [Array.length_toList] at e
  omega
theorem Inv.tuple (I:Inv X pins σ H s) (h:SqT X.K H a xs):∃ its:List Value,Vals xs its∧IsTup s.heap a its.toArray∧xs.length≤sizeLine:=by
 rcases h with h | ⟨o,its,n,hk,hc,hs,hz,r⟩
 ·obtain ⟨z,its,r,p⟩:=h.ok I.hok
  exact ⟨its,r,p,z⟩
 ·refine ⟨its.toList,r,⟨o,I.kIn a o hk,hc,n,by simpa using hs⟩,?_⟩
  have e:=r.length
  simp only [Array.length_toList] at e
  omega
theorem Inv.list_inj (I:Inv X pins σ H s) (h:SqL X.K H a xs) (h':SqL X.K H a ys):xs=ys:=by
 obtain ⟨its,r,⟨o,n,e,_,_,d⟩,_⟩:=I.list h
 obtain ⟨its',r',⟨o',n',e',_,_,d'⟩,_⟩:=I.list h'
 rw [e] at e'; cases e'
 rw [d] at d'
 injection d' with d1 _
 have:its=its':=by simpa using congrArg Array.toList d1
 subst this
 exact r.inj r'
theorem Inv.tuple_inj (I:Inv X pins σ H s) (h:SqT X.K H a xs) (h':SqT X.K H a ys):xs=ys:=by
 obtain ⟨its,r,⟨o,e,_,n,d⟩,_⟩:=I.tuple h
 obtain ⟨its',r',⟨o',e',_,n',d'⟩,_⟩:=I.tuple h'
 rw [e] at e'; cases e'
 rw [d] at d'
 injection d' with d1 _
 have:its=its':=by simpa using congrArg Array.toList d1
 subst this
 exact r.inj r'
end
abbrev Cx.wish (X:Cx) (E:Value→Shared→Prop):Cx:={ X with xe:=E }
abbrev Cx.nox (X:Cx):Cx:=X.wish fun _ _=>False
theorem Cx.Ok.wish {X:Cx} (ok:X.Ok) (E:Value→Shared→Prop):(X.wish E).Ok :=
 ⟨ok.mod,ok.kind,ok.glob,ok.blt,ok.above,ok.inj,ok.has,ok.cab,ok.hd,ok.frames,ok.stk,ok.exf,ok.bs,ok.bsz,ok.noex,ok.exfs,ok.funs,ok.frf⟩
theorem Cx.Ok.unwish {X:Cx} {E:Value→Shared→Prop} (ok:(X.wish E).Ok):X.Ok :=
 ⟨ok.mod,ok.kind,ok.glob,ok.blt,ok.above,ok.inj,ok.has,ok.cab,ok.hd,ok.frames,ok.stk,ok.exf,ok.bs,ok.bsz,ok.noex,ok.exfs,ok.funs,ok.frf⟩
section
variable {X:Cx} {pins:List (Addr×Obj)} {σ:St} {H:Hp} {s:Shared} {E:Value→Shared→Prop}
theorem Inv.wish (I:Inv X pins σ H s) (E:Value→Shared→Prop):Inv (X.wish E) pins σ H s:=⟨I.ok.wish E,I.os,I.bare,I.base,I.loc,I.cell,I.free,I.freeC,I.pin,I.hok,I.len⟩
theorem Inv.unwish (I:Inv (X.wish E) pins σ H s):Inv X pins σ H s:=⟨I.ok.unwish,I.os,I.bare,I.base,I.loc,I.cell,I.free,I.freeC,I.pin,I.hok,I.len⟩
theorem SP.unwish {D:Ends} {f:Flow} {s':Shared} (h:SP (X.wish E) pins D f s'):SP X pins D f s':=by
 cases f with
 | next=>obtain ⟨σ',H',I,q⟩:=h; exact ⟨σ',H',I.unwish,q⟩
 | brk=>obtain ⟨σ',H',I,q⟩:=h; exact ⟨σ',H',I.unwish,q⟩
 | cont=>obtain ⟨σ',H',I,q⟩:=h; exact ⟨σ',H',I.unwish,q⟩
 | ret u=>obtain ⟨v,σ',H',I,r,q⟩:=h; exact ⟨v,σ',H',I.unwish,r,q⟩
theorem PSs.nox {st:List Stmt} {t:TS} (h:PSs X.nox st t):PSs X st t:=fun pins s σ H D I hw =>
 wpAny_mono (h pins s σ H D (I.wish _) hw) (fun _ _ q=>q.unwish) fun _ _ z=>False.elim z
end
section
variable {X:Cx} {st:Stmt} {rest:List Stmt} {t u:TS} {e:Expr} {te:TE} {pos:Pos}
def tNext:TS:=fun D σ H=>D.nx σ H
def tSeq (t u:TS):TS:=fun D σ H=>t { D with nx:=u D } σ H
theorem pss_nil:PSs X [] tNext:=fun _ _ σ H _ I h=>wpAny_execs_nil ⟨σ,H,I,h⟩
theorem pss_cons (h1:PS X st t) (h2:PSs X rest u):PSs X (st::rest) (tSeq t u):=by
 intro pins s σ H D I h
 refine wpAny_execs_cons (thn (h1 pins s σ H { D with nx:=u D } I h) fun f s1 q=>?_)
 cases f with
 | next =>
  obtain ⟨σ',H',I',q⟩:=q
  exact h2 pins s1 σ' H' D I' q
 | ret v=>exact q
 | brk=>exact q
 | cont=>exact q
theorem pss_one (h1:PS X st t):PSs X [st] t:=by
 intro pins s σ H D I h
 refine wpAny_execs_cons (thn (h1 pins s σ H D I h) fun f s1 q=>?_)
 cases f with
 | next=>exact wpAny_execs_nil q
 | ret v=>exact q
 | brk=>exact q
 | cont=>exact q
theorem Inv.quiet {pins:List (Addr×Obj)} {σ:St} {H:Hp} {s:Shared} (I:Inv X pins σ H s):interactive X.env=false:=by simp [interactive,I.ok.kind]
def tDrop (te:TE):TS:=fun D σ H=>te σ H fun _ H1=>D.nx σ H1
theorem ps_expr (he:PE X e te) (hs:swapsWith e none pos.line X.env=pure false:=by rfl):PS X (.Expr e pos) (tDrop te):=by
 intro pins s σ H D I h
 refine wpAny_Expr_any (thn (he pins s σ H _ I h) fun v s1 hz_=>?_) I.quiet hs
 obtain ⟨x,H1,I1,r1,q1⟩:=hz_
 exact ⟨σ,H1,I1,q1⟩
def tRet (te:TE):TS:=fun D σ H=>te σ H D.rt
theorem ps_ret (he:PE X e te):PS X (.Return (some e) pos) (tRet te):=by
 intro pins s σ H D I h
 refine wpAny_Return_some (thn (he pins s σ H _ I h) fun v s1 hz_=>?_)
 obtain ⟨x,H1,I1,r1,q1⟩:=hz_
 exact ⟨x,σ,H1,I1,r1,q1⟩
def tIfS (c:TT) (t u:TS):TS:=fun D σ H=>c σ H fun b H1=>if b=true then t D σ H1 else u D σ H1
theorem ps_if {c:Expr} {a b:List Stmt} {tc:TT} (hc:PT X c tc) (ha:PSs X a t) (hb:PSs X b u):PS X (.If c a b pos) (tIfS tc t u):=by
 intro pins s σ H D I h
 refine wpAny_If (thn (hc pins s σ H _ I h) fun d s1 hz_=>?_)
 obtain ⟨H1,I1,q1⟩:=hz_
 cases d with
 | true=>exact ha pins s1 σ H1 D I1 q1
 | false=>exact hb pins s1 σ H1 D I1 q1
def tNever:TS:=fun _ _ _=>False
theorem pss_never {sts:List Stmt}:PSs X sts tNever:=fun _ _ _ _ _ _ h=>h.elim
end
abbrev TG:=V→St→Hp→(St→Hp→Prop)→Prop
abbrev TGs:=List V→St→Hp→(St→Hp→Prop)→Prop
def PG (X:Cx) (target:Expr) (t:TG):Prop :=
 ∀ (pins:List (Addr×Obj)) (s:Shared) (σ:St) (H:Hp) (v:V) (u:Value) (Q:St→Hp→Prop),Inv X pins σ H s→RelV v u→t v σ H Q →
  wpAny (model X.prog X.w) X.A (assign target X.env u) (fun _ s'=>∃ σ' H',Inv X pins σ' H' s'∧Q σ' H') X.xe s
def PGs (X:Cx) (ts:List Expr) (t:TGs):Prop :=
 ∀ (pins:List (Addr×Obj)) (s:Shared) (σ:St) (H:Hp) (vs:List V) (us:List Value) (Q:St→Hp→Prop),Inv X pins σ H s→Vals vs us→t vs σ H Q →
  wpAny (model X.prog X.w) X.A (assignInOrder ((assignEach ts X.env).map (·.2)) us) (fun _ s'=>∃ σ' H',Inv X pins σ' H' s'∧Q σ' H') X.xe s
abbrev TIp:=V→V→Hp→VK→Prop
def PIp (X:Cx) (op:Operator) (t:TIp):Prop :=
 ∀ (pins:List (Addr×Obj)) (s:Shared) (σ:St) (H:Hp) (x y:V) (v u:Value) (Q:VK),Inv X pins σ H s→RelV x v→RelV y u→t x y H Q →
  wpAny (model X.prog X.w) X.A (inplaceOp op v u) (EP X pins σ Q) X.xe s
section
variable {X:Cx} {pos:Pos}
def gName (i:Nat):TG:=fun v σ H Q=>Q (σ.set i (some v)) H
theorem pg_name {i:Nat} {x:Str} (hN:X.N.Nodup) (hi:X.N[i]?=some x) (hx:Loc X.env.scope x) (hf:X.fn x=true∨X.env.scope.names.lookup x=some .local:=by first | exact .inl rfl | exact .inr rfl | assumption):PG X (.Name x pos) (gName i):=by
 intro pins s σ H v u Q I r h
 exact wpAny_assign_Name (store_ok I hN hi hx r (fun s' I'=>⟨_,H,I',h⟩) hf)
def gNil:TGs:=fun vs σ H Q=>vs=[]∧Q σ H
def gCons (t:TG) (u:TGs):TGs:=fun vs σ H Q=>∃ v r,vs=v::r∧t v σ H fun σ' H'=>u r σ' H' Q
theorem pgs_nil:PGs X [] gNil:=by
 intro pins s σ H vs us Q I r h
 obtain ⟨e,h⟩:=h
 subst e
 cases r
 exact assignInOrder_nil ⟨σ,H,I,h⟩
theorem pgs_cons {e:Expr} {es:List Expr} {t:TG} {u:TGs} (h1:PG X e t) (h2:PGs X es u)
  (hs:(assignEach (e::es) X.env).map (·.2)=assign e X.env::(assignEach es X.env).map (·.2):=by rfl):PGs X (e::es) (gCons t u):=by
 intro pins s σ H vs us Q I r h
 obtain ⟨v,vr,e1,h⟩:=h
 subst e1
 cases r with
 | cons r rr =>
  rw [hs]
  refine assignInOrder_cons (thn (h1 pins s σ H _ _ _ I r h) fun _ s1 hz_=>?_)
  obtain ⟨σ1,H1,I1,q1⟩:=hz_
  exact h2 pins s1 σ1 H1 _ _ Q I1 rr q1
def gTup (K:PySem.W.Frag) (n:Nat) (t:TGs):TG:=fun v σ H Q=>∃ a xs,v=.ref a∧SqT K H a xs∧xs.length=n∧t xs σ H Q
theorem pg_tup {es:List Expr} {k:Nat} {t:TGs} {n:Nat} (hc:X.calm=true) (h:PGs X es t)
  (hn:(assignEach es X.env).length=n:=by rfl) (hst:(assignEach es X.env).findIdx? (·.1)=none:=by rfl):PG X (.Tuple es k pos) (gTup X.K n t):=by
 intro pins s σ H v u Q I r hw
 obtain ⟨a,xs,e1,hq,hl,hw⟩:=hw
 subst e1
 cases r
 obtain ⟨its,rv,ht,hz⟩:=I.tuple hq
 refine assign_Tuple_tuple (I.ok.hd hc) ht (by simp [hn,← hl,rv.length]) hst fun h' hx=>?_
 have I1:Inv X pins σ H { s with heap:=h' }:=I.kept (t':=s.toks) fun b o e=>hx b o (Nat.ne_of_lt (Heap.lt_size e)) e
 exact h pins _ σ H xs _ Q I1 (by simpa using rv) hw
def tAsg (te:TE) (g:TG):TS:=fun D σ H=>te σ H fun x H1=>g x σ H1 D.nx
theorem ps_set {i:Nat} {x:Str} {e:Expr} {te:TE} {pos':Pos} (hN:X.N.Nodup) (hi:X.N[i]?=some x) (hx:Loc X.env.scope x) (he:PE X e te) (hs:swapsWith e (some (.Name x pos')) pos.line X.env=pure false:=by rfl) (hf:X.fn x=true∨X.env.scope.names.lookup x=some .local:=by first | exact .inl rfl | exact .inr rfl | assumption) :
  PS X (.Assign [.Name x pos'] e pos) (tAsg te (gName i)):=by
 intro pins s σ H D I h
 refine wpAny_Assign_Name (thn (he pins s σ H _ I h) fun v s1 hz_=>?_) hs
 obtain ⟨y,H1,I1,r1,q1⟩:=hz_
 exact store_ok I1 hN hi hx r1 (fun s2 I2=>⟨_,H1,I2,q1⟩) hf
def tAug (i:Nat) (te:TE) (ti:TIp):TS:=fun D σ H=>∃ x,σ[i]?=some (some x)∧te σ H fun y H1=>ti x y H1 fun z H2=>D.nx (σ.set i (some z)) H2
theorem ps_aug {i:Nat} {x:Str} {e:Expr} {te:TE} {op:Operator} {ti:TIp} {pos':Pos} (hN:X.N.Nodup) (hi:X.N[i]?=some x) (hx:Loc X.env.scope x) (he:PE X e te) (ho:PIp X op ti) (hf:X.fn x=true∨X.env.scope.names.lookup x=some .local:=by first | exact .inl rfl | exact .inr rfl | assumption) :
  PS X (.AugAssign (.Name x pos') op e pos) (tAug i te ti):=by
 intro pins s σ H D I h
 obtain ⟨v,e1,h⟩:=h
 obtain ⟨m,hn,hl⟩:=I.loc
 have vis:Vis X.env.scope x:=by rcases hx with k | k; exact .inl k; exact .inr (.inl k)
 obtain ⟨u,r,l⟩:=hl i x v hi e1 vis
 refine wpAny_AugAssign_Name ?_
 have go:wpAny (model X.prog X.w) X.A (eval e X.env) (fun w s₂=>wpAny (model X.prog X.w) X.A (inplaceOp op u w) (fun r s₃=>wpAny (model X.prog X.w) X.A (storeName X.env x r) (fun _=>SP X pins D .next) X.xe s₃) X.xe s₂) X.xe s:=by
  refine thn (he pins s σ H _ I h) fun w s1 hz_=>?_
  obtain ⟨y,H1,I1,r1,q1⟩:=hz_
  refine thn (ho pins s1 σ H1 v y u w _ I1 r r1 q1) fun z s2 hz_=>?_
  obtain ⟨zv,H2,I2,r2,q2⟩:=hz_
  exact store_ok I2 hN hi hx r2 (fun s3 I3=>⟨_,H2,I3,q2⟩) hf
 rcases l with ⟨hk,hm⟩ | ⟨hk,c,hc,hcell⟩
 ·exact wpAny_loadName_local I.ok.kind hk hn hm go
 ·rcases hk with hk | hk
  ·exact wpAny_loadName_cell I.ok.kind hk hc hcell go
  ·rcases hx with k | k
   ·have:X.env.scope.names.lookup x=some .free:=hk
    rw [k] at this; cases this
   ·have:X.env.scope.names.lookup x=some .free:=hk
    rw [k] at this; cases this
def ipI (f:Int→Int→Int):TIp:=fun x y H Q=>∃ i j,x=.int i∧y=.int j∧Q (.int (f i j)) H
theorem ip_add:PIp X .Add (ipI fun i j=>i + j):=by
 intro pins s σ H x y v u Q I r1 r2 h
 obtain ⟨i,j,e1,e2,q⟩:=h
 subst e1; subst e2
 obtain ⟨t,rfl⟩:=r1
 obtain ⟨t',rfl⟩:=r2
 exact iadd_int ⟨.int _,H,I.tok _,⟨_,rfl⟩,q⟩
end
section
variable {X:Cx} {pos:Pos}
def tWhile (c:TT) (tb:TS):TS:=fun D σ H=>∃ W:Nat→St→Hp→Prop,(∃ m,W m σ H)∧∀ m σ H,W m σ H →
 c σ H fun b H1=>if b=true then ∃ N:St→Hp→Prop,(∀ σ' H',N σ' H'→∃ m',m' < m∧W m' σ' H')∧tb { D with nx:=N,ct:=N,bk:=D.nx } σ H1 else D.nx σ H1
theorem ps_while {c:Expr} {body:List Stmt} {tc:TT} {tb:TS} (hp:PassesOwn (model X.prog X.w) X.A X.env X.xe) (hc:PT X c tc) (hb:PSs X body tb):PS X (.While c body [] pos) (tWhile tc tb):=by
 intro pins s σ H D I h
 obtain ⟨W,⟨m0,w0⟩,turn⟩:=h
 refine wpAny_While (codeAny_whileLoop (fun n s'=>∃ σ' H',Inv X pins σ' H' s'∧W n σ' H') ?_ m0 ⟨σ,H,I,w0⟩)
 rintro n s1 ⟨σ1,H1,I1,w1⟩
 refine wpAny_passesOwn hp (thn (hc pins s1 σ1 H1 _ I1 (turn n σ1 H1 w1)) fun b s2 hz_=>?_)
 obtain ⟨H2,I2,q2⟩:=hz_
 cases b with
 | true =>
  obtain ⟨N,hN,q2⟩:=q2
  rw [if_pos rfl]
  refine wpAny_passesOwn hp (thn (hb pins s2 σ1 H2 _ I2 q2) fun f s3 q3=>?_)
  cases f with
  | next =>
   obtain ⟨σ3,H3,I3,n3⟩:=q3
   obtain ⟨m',hm,w3⟩:=hN σ3 H3 n3
   exact ⟨m',hm,σ3,H3,I3,w3⟩
  | cont =>
   obtain ⟨σ3,H3,I3,n3⟩:=q3
   obtain ⟨m',hm,w3⟩:=hN σ3 H3 n3
   exact ⟨m',hm,σ3,H3,I3,w3⟩
  | brk=>exact q3
  | ret v=>exact q3
 | false =>
  rw [if_neg Bool.false_ne_true]
  exact wpAny_execs_nil ⟨σ1,H2,I2,q2⟩
end
structure It where
 go:Nat→Hp→Prop
 yld:Nat→Hp→V→Hp→Prop
 stop:Nat→Hp→Prop
def FpOk (X:Cx) (pins:List (Addr×Obj)) (H:Hp) (b:Addr):Prop :=
 H b=none∧b≠X.env.locals∧b ∉ X.fs∧(b∈X.ex∨X.s₀.heap.objs.size≤b)∧(∀ x c,X.env.cells.lookup x=some c→c≠b)∧∀ p∈X.pn++pins,p.1≠b
theorem Inv.fpOk {X:Cx} {pins:List (Addr×Obj)} {σ:St} {H H':Hp} {s:Shared} {b:Addr} (I:Inv X pins σ H s) (hb:s.heap.objs.size≤b) (hn:H' b=none):FpOk X pins H' b:=by
 refine ⟨hn,Nat.ne_of_gt (Nat.lt_of_lt_of_le I.lt hb),I.nofs hb,.inr (Nat.le_trans I.sz hb),fun x c e z=>?_,fun p hp z=>?_⟩
 ·obtain ⟨v,q⟩:=I.cell x c e
  exact absurd (Nat.lt_of_lt_of_le q.lt (by rw [z]; exact hb)) (Nat.lt_irrefl _)
 ·exact absurd (Nat.lt_of_lt_of_le (Heap.lt_size (I.pin p hp).1) (by rw [z]; exact hb)) (Nat.lt_irrefl _)
structure Turn (P:Program) (w:World) (K:PySem.W.Frag) (tg:Expr) (J:It) (fp:List Addr) (it:Addr) (tn:Nat→Heap→Prop):Prop where
 mem:it∈fp
 obj:∀ i h,tn i h→∀ b∈fp,∃ o,h.get? b=some o∧∀ v,o.data≠.cell v
 keep:∀ i h h',tn i h→(∀ b∈fp,∀ o,h.get? b=some o→h'.get? b=some o)→tn i h'
 item:∀ (X:Cx),X.prog=P→X.w=w→X.K=K→X.calm=true→∀ (i:Nat) (pins:List (Addr×Obj)) (s:Shared) (σ:St) (H:Hp) (E:Value→Shared→Prop),Inv X pins σ H s→(∀ b∈fp,FpOk X pins H b)→tn i s.heap→J.go i H →
  wpAny (model P w) X.A (pyNext (.ref it)) (fun r s1=>∃ u,r=some u ∧
   wpAny (model P w) X.A (letOwnedTupleGo tg (.ref it) u) (fun _ s2=>∃ x H',Inv X pins σ H' s2∧RelV x u∧J.yld i H x H'∧tn (i + 1) s2.heap∧∀ b∈fp,H' b=none) E s1) E s
 done:∀ (X:Cx),X.prog=P→X.w=w→X.K=K→X.calm=true→∀ (i:Nat) (pins:List (Addr×Obj)) (s:Shared) (σ:St) (H:Hp) (E:Value→Shared→Prop),Inv X pins σ H s→(∀ b∈fp,FpOk X pins H b)→tn i s.heap→J.stop i H →
  wpAny (model P w) X.A (pyNext (.ref it)) (fun r s1=>r=none∧Inv X pins σ H s1) E s
 self:∀ (A:Around) (i:Nat) (s:Shared) (Q:Value→Shared→Prop) (E:Value→Shared→Prop),tn i s.heap→Q (.ref it) s→wpAny (model P w) A (pyIter (.ref it)) Q E s
abbrev TI:=St→Hp→(It→Hp→Prop)→Prop
def PIE (X:Cx) (pins:List (Addr×Obj)) (σ:St) (tg:Expr) (R:It→Hp→Prop) (itv:Value) (s2:Shared):Prop :=
 ∃ (it:Addr) (fp:List Addr) (tn:Nat→Heap→Prop) (J:It) (H':Hp),itv=.ref it∧Inv X pins σ H' s2∧Turn X.prog X.w X.K tg J fp it tn∧tn 0 s2.heap∧(∀ b∈fp,FpOk X pins H' b)∧R J H'
def PI (X:Cx) (tg iter:Expr) (wi:TI):Prop :=
 ∀ (pins:List (Addr×Obj)) (s:Shared) (σ:St) (H:Hp) (R:It→Hp→Prop),Inv X pins σ H s→wi σ H R →
  wpAny (model X.prog X.w) X.A (eval iter X.env) (fun v s1=>wpAny (model X.prog X.w) X.A (pyIter v) (PIE X pins σ tg R) X.xe s1) X.xe s
theorem go_of {M : Model} {A : Around} {E : Value → Shared → Prop} {s : Shared} {tg : Expr} {it : Addr} {u : Value} {o : Obj} {n : String} {vs : Array Value} {Q : Unit → Shared → Prop} (ho : s.heap.get? it = some o) (hc : o.cls = .type n) (hd : o.data = .fields vs)
    (hn : ["enumerate", "zip", "dict_itemiterator", "dict_reverseitemiterator", "odict_iterator", "itertools.zip_longest", "itertools.pairwise"].contains n = false) (hQ : Q () s) : wpAny M A (letOwnedTupleGo tg (.ref it) u) Q E s := by
  unfold letOwnedTupleGo
  cases tg <;> first
    | exact wpAny_pure hQ
    | (cases u <;> first
        | exact wpAny_pure hQ
        | (refine wpAny_bind (wpAny_load ho ?_)
           rw [hc, hd]
           show wpAny M A (if (["enumerate", "zip", "dict_itemiterator", "dict_reverseitemiterator", "odict_iterator", "itertools.zip_longest", "itertools.pairwise"].contains n && vs[0]? == some (rawInt _)) = true then _ else _) Q E s
           rw [if_neg (by intro h; rw [hn, Bool.false_and] at h; cases h)]
           exact wpAny_pure hQ))
def Itl (K:PySem.W.Frag) (a:Addr):It :=
 ⟨fun i H=>∃ xs x,SqL K H a xs∧xs[i]?=some x,fun i H x H'=>H'=H∧∀ xs,SqL K H a xs→xs[i]?=some x,fun i H=>∃ xs,SqL K H a xs∧xs.length≤i⟩
def Itt (K:PySem.W.Frag) (a:Addr):It :=
 ⟨fun i H=>∃ xs x,SqT K H a xs∧xs[i]?=some x,fun i H x H'=>H'=H∧∀ xs,SqT K H a xs→xs[i]?=some x,fun i H=>∃ xs,SqT K H a xs∧xs.length≤i⟩
def Itr (lo:Int) (n:Nat):It:=⟨fun i _=>i < n,fun i H x H'=>H'=H∧x=.int (lo + i),fun i _=>n≤i⟩
theorem turn_list {P:Program} {w:World} {K:PySem.W.Frag} {tg:Expr} (a it:Addr):Turn P w K tg (Itl K a) [it] it (fun i h=>h.IsListIter it a i) where
 mem:=by simp
 obj:=fun i h st b hb=>by
  have e:b=it:=by simpa using hb
  subst e
  obtain ⟨o,e,c,d⟩:=st
  exact ⟨o,e,fun v z=>by rw [d] at z; cases z⟩
 keep:=fun i h h' st k=>st.at fun o e=>k it (by simp) o e
 item:=by
  intro X hP hw hK hc i pins s σ H E I hf st hg
  subst hP hw hK
  obtain ⟨xs,x,hq,hx⟩:=hg
  obtain ⟨its,rv,p,hz⟩:=I.list hq
  obtain ⟨u,hu,ru⟩:=rv.get hx
  obtain ⟨f0,f1,f2,f3,f4,f5⟩:=hf it (by simp)
  refine wpAny_pyNext_list_item st p.isList (x:=u) (by simpa using hu) fun h' st' sb=>?_
  have I1:Inv X pins σ H { s with heap:=h' }:=I.turned (t':=s.toks) (fun b o hb e=>(sb.2 b hb).trans e) f0 f1 f3 f4 f5
  obtain ⟨o,e,c,d⟩:=id st'
  exact ⟨u,rfl,go_of (s:={ s with heap:=h' }) e c d (by decide) ⟨x,H,I1,ru,⟨rfl,fun ys hy=>by rw [I.list_inj hy hq]; exact hx⟩,st',fun b hb=>(hf b hb).1⟩⟩
 done:=by
  intro X hP hw hK hc i pins s σ H E I hf st hg
  subst hP hw hK
  obtain ⟨xs,hq,hx⟩:=hg
  obtain ⟨its,rv,p,hz⟩:=I.list hq
  obtain ⟨f0,f1,f2,f3,f4,f5⟩:=hf it (by simp)
  have hl:=rv.length
  exact wpAny_pyNext_list_end (I.ok.hd hc) st p.isList (by simp; omega) fun h' eb=>⟨rfl,I.turned (t':=s.toks) (fun b o hb e=>eb b o hb e) f0 f1 f3 f4 f5⟩
 self:=fun _ _ _ _ _ st h=>wpAny_pyIter_listiter st h
theorem turn_tuple {P:Program} {w:World} {K:PySem.W.Frag} {tg:Expr} (a it:Addr):Turn P w K tg (Itt K a) [it] it (fun i h=>h.IsTupleIter it a i) where
 mem:=by simp
 obj:=fun i h st b hb=>by
  have e:b=it:=by simpa using hb
  subst e
  obtain ⟨o,e,c,d⟩:=st
  exact ⟨o,e,fun v z=>by rw [d] at z; cases z⟩
 keep:=fun i h h' st k=>st.at fun o e=>k it (by simp) o e
 item:=by
  intro X hP hw hK hc i pins s σ H E I hf st hg
  subst hP hw hK
  obtain ⟨xs,x,hq,hx⟩:=hg
  obtain ⟨its,rv,p,hz⟩:=I.tuple hq
  obtain ⟨u,hu,ru⟩:=rv.get hx
  obtain ⟨f0,f1,f2,f3,f4,f5⟩:=hf it (by simp)
  refine wpAny_pyNext_tuple_item st (show s.heap.IsTuple a its.toArray from p) (x:=u) (by simpa using hu) fun h' st' sb=>?_
  have I1:Inv X pins σ H { s with heap:=h' }:=I.turned (t':=s.toks) (fun b o hb e=>(sb.2 b hb).trans e) f0 f1 f3 f4 f5
  obtain ⟨o,e,c,d⟩:=id st'
  exact ⟨u,rfl,go_of (s:={ s with heap:=h' }) e c d (by decide) ⟨x,H,I1,ru,⟨rfl,fun ys hy=>by rw [I.tuple_inj hy hq]; exact hx⟩,st',fun b hb=>(hf b hb).1⟩⟩
 done:=by
  intro X hP hw hK hc i pins s σ H E I hf st hg
  subst hP hw hK
  obtain ⟨xs,hq,hx⟩:=hg
  obtain ⟨its,rv,p,hz⟩:=I.tuple hq
  obtain ⟨f0,f1,f2,f3,f4,f5⟩:=hf it (by simp)
  have hl:=rv.length
  exact wpAny_pyNext_tuple_end (I.ok.hd hc) st (show s.heap.IsTuple a its.toArray from p) (by simp; omega) fun h' eb=>⟨rfl,I.turned (t':=s.toks) (fun b o hb e=>eb b o hb e) f0 f1 f3 f4 f5⟩
 self:=fun _ _ _ _ _ st h=>wpAny_pyIter_tupleiter st h
theorem turn_range {P:Program} {w:World} {K:PySem.W.Frag} {tg:Expr} (it:Addr) (lo:Int) (n:Nat):Turn P w K tg (Itr lo n) [it] it (fun i h=>IsRangeIter h it (lo + (i:Nat) * 1) ((n:Int) - (i:Nat)) 1) where
 mem:=by simp
 obj:=fun i h st b hb=>by
  have e:b=it:=by simpa using hb
  subst e
  exact ⟨_,st,fun v z=>by
   have z':Data.fields _=Data.cell v:=z
   cases z'⟩
 keep:=fun i h h' st k=>k it (by simp) _ st
 item:=by
  intro X hP hw hK hc i pins s σ H E I hf st hg
  subst hP hw hK
  obtain ⟨f0,f1,f2,f3,f4,f5⟩:=hf it (by simp)
  have W:=Walks.range (prog:=X.prog) (w:=X.w) (I.ok.hd hc) it lo 1 n
  refine W.item i s _ _ hg st fun v h' tk hv st' kk=>?_
  obtain ⟨t,rfl⟩:=hv
  have I1:Inv X pins σ H { s with heap:=h',toks:=tk }:=I.turned (fun b o hb e=>kk b o (by simpa using hb) e) f0 f1 f3 f4 f5
  refine ⟨_,rfl,go_of (s:={ s with heap:=h',toks:=tk }) (n := "range_iterator") st' rfl rfl (by decide) ⟨.int (lo + i),H,I1,⟨t,?_⟩,⟨rfl,rfl⟩,st',fun b hb=>(hf b hb).1⟩⟩
  rw [Int.mul_one]
 done:=by
  intro X hP hw hK hc i pins s σ H E I hf st hg
  subst hP hw hK
  obtain ⟨f0,f1,f2,f3,f4,f5⟩:=hf it (by simp)
  exact wpAny_pyNext_range_end (I.ok.hd hc) st (by have:n≤i:=hg; omega) fun h' eb=>⟨rfl,I.turned (t':=s.toks) (fun b o hb e=>eb b o hb e) f0 f1 f3 f4 f5⟩
 self:=fun _ _ _ _ _ st h=>wpAny_pyIter_rangeiter st h
end L2
namespace L2
open PySem PySem.Spec PyProof.Rows
section
variable {X:Cx} {tg:Expr}
def iList (K:PySem.W.Frag) (tl:TE):TI:=fun σ H R=>tl σ H fun x H1=>∃ a,x=.ref a∧(∃ xs,SqL K H1 a xs)∧R (Itl K a) H1
def iTup (K:PySem.W.Frag) (tl:TE):TI:=fun σ H R=>tl σ H fun x H1=>∃ a,x=.ref a∧(∃ xs,SqT K H1 a xs)∧R (Itt K a) H1
theorem pi_list {l:Expr} {tl:TE} (hl:PE X l tl):PI X tg l (iList X.K tl):=by
 intro pins s σ H R I h
 refine thn (hl pins s σ H _ I h) fun v s1 hz_=>?_
 obtain ⟨x,H1,I1,r1,q1⟩:=hz_
 obtain ⟨a,e,⟨xs,hq⟩,q⟩:=q1
 subst e
 cases r1
 obtain ⟨its,rv,p,hz⟩:=I1.list hq
 refine wpAny_pyIter_list p.isList ?_
 refine ⟨s1.heap.objs.size,[s1.heap.objs.size],_,_,H1,rfl,I1.kept (t':=s1.toks) fun b o e=>Heap.get?_push_of_some _ e,turn_list a _,⟨_,Heap.get?_push_size _ rfl,rfl,rfl⟩,fun b hb=>?_,q⟩
 have e:b=s1.heap.objs.size:=by simpa using hb
 subst e
 exact I1.fpOk (Nat.le_refl _) (I1.hok.fresh (Nat.le_refl _))
theorem pi_tup {l:Expr} {tl:TE} (hl:PE X l tl):PI X tg l (iTup X.K tl):=by
 intro pins s σ H R I h
 refine thn (hl pins s σ H _ I h) fun v s1 hz_=>?_
 obtain ⟨x,H1,I1,r1,q1⟩:=hz_
 obtain ⟨a,e,⟨xs,hq⟩,q⟩:=q1
 subst e
 cases r1
 obtain ⟨its,rv,p,hz⟩:=I1.tuple hq
 refine wpAny_pyIter_tuple (show s1.heap.IsTuple a its.toArray from p) ?_
 refine ⟨s1.heap.objs.size,[s1.heap.objs.size],_,_,H1,rfl,I1.kept (t':=s1.toks) fun b o e=>Heap.get?_push_of_some _ e,turn_tuple a _,⟨_,Heap.get?_push_size _ rfl,rfl,rfl⟩,fun b hb=>?_,q⟩
 have e:b=s1.heap.objs.size:=by simpa using hb
 subst e
 exact I1.fpOk (Nat.le_refl _) (I1.hok.fresh (Nat.le_refl _))
theorem range_it {pins:List (Addr×Obj)} {σ:St} {H:Hp} {s:Shared} {R:It→Hp→Prop} {E:Value→Shared→Prop} {lo hi:Int} {t u v:Tok} {tk:Nat} (I:Inv X pins σ H s) (h1:-(2 ^ 62)≤lo) (h2:lo < 2 ^ 62) (h3:-(2 ^ 62)≤hi) (h4:hi < 2 ^ 62)
  (q:R (Itr lo (hi - lo).toNat) H):wpAny (model X.prog X.w) X.A (pyIter (.ref s.heap.objs.size)) (PIE X pins σ tg R) E { s with heap:=s.heap.push { cls:=.type "range",data:=.fields #[.int lo t,.int hi u,.int 1 v] },toks:=tk }:=by
 refine wpAny_pyIter_range (IsRange.new ..) (small_one h1 h2 h3 h4) ?_
 have I1:Inv X pins σ H { s with heap:=s.heap.push { cls:=.type "range",data:=.fields #[.int lo t,.int hi u,.int 1 v] },toks:=tk }:=I.kept fun b o e=>Heap.get?_push_of_some _ e
 refine ⟨(s.heap.push { cls:=.type "range",data:=.fields #[.int lo t,.int hi u,.int 1 v] }).objs.size,[(s.heap.push { cls:=.type "range",data:=.fields #[.int lo t,.int hi u,.int 1 v] }).objs.size],_,_,H,rfl,
  I1.kept (t':=tk) fun b o e=>Heap.get?_push_of_some _ e,turn_range _ lo (hi - lo).toNat,?_,fun b hb=>?_,q⟩
 ·have e1:lo + ((0:Nat):Int) * 1=lo:=by simp
  have e2:(((hi - lo).toNat:Nat):Int) - ((0:Nat):Int)=Builtin.Range.rangeSize lo hi 1:=by rw [rangeSize_one]; split <;> omega
  show IsRangeIter _ _ (lo + ((0:Nat):Int) * 1) ((((hi - lo).toNat:Nat):Int) - ((0:Nat):Int)) 1
  rw [e1,e2]
  exact Heap.get?_push_size _ rfl
 ·have e:b=(s.heap.push { cls:=.type "range",data:=.fields #[.int lo t,.int hi u,.int 1 v] }).objs.size:=by simpa using hb
  subst e
  exact I1.fpOk (Nat.le_refl _) (I1.hok.fresh (Nat.le_refl _))
def iRng1 (ta:TA):TI:=fun σ H R=>ta σ H fun vs H1=>∃ j:Int,vs=[.int j]∧-(2 ^ 62)≤j∧j < 2 ^ 62∧R (Itr 0 j.toNat) H1
theorem pi_range1 {a:Expr} {ta:TA} {p pos:Pos} (hg:Gl X "range") (hm:X.mg "range" = none) (ha:PA X [a] ta) (hs:starEach [a] X.env=[(false,eval a X.env)]:=by rfl):PI X tg (.Call (.Name "range" p) [a] [] pos) (iRng1 ta):=by
 intro pins s σ H R I h
 refine Call_ (ld_blt I hg hm boot_range (PyProof.Rows.callWith_type1 (thn (ha pos pins s σ H _ I h) fun us s1 hz_=>?_) hs rfl))
 obtain ⟨vs,H1,I1,r1,q1⟩:=hz_
 obtain ⟨j,e,q1,q2,q⟩:=q1
 subst e
 cases r1 with
 | cons r rr =>
  cases rr
  obtain ⟨t,rfl⟩:=r
  exact call_range_1 (range_it I1 (by omega) (by omega) q1 q2 (by simpa using q))
def tFor (wi:TI) (g:TG) (tb:TS):TS:=fun D σ H=>wi σ H fun J H1=>∃ W:Nat→Nat→St→Hp→Prop,(∃ m,W 0 m σ H1)∧∀ i m σ H,W i m σ H →
 (J.stop i H∧D.nx σ H)∨(J.go i H∧∃ N:St→Hp→Prop,(∀ σ' H',N σ' H'→∃ m',m' < m∧W (i + 1) m' σ' H')∧∀ x H',J.yld i H x H'→g x σ H' fun σ2 H2=>tb { D with nx:=N,ct:=N,bk:=D.nx } σ2 H2)
def pinsAt (fp:List Addr) (h:Heap):List (Addr×Obj):=fp.filterMap fun b=>(h.get? b).map fun o=>(b,o)
theorem mem_pinsAt {fp:List Addr} {h:Heap} {b:Addr} {o:Obj} (hb:b∈fp) (e:h.get? b=some o):(b,o)∈pinsAt fp h:=List.mem_filterMap.mpr ⟨b,hb,by rw [e]; rfl⟩
theorem of_pinsAt {fp:List Addr} {h:Heap} {p:Addr×Obj} (hp:p∈pinsAt fp h):p.1∈fp∧h.get? p.1=some p.2:=by
 obtain ⟨b,hb,e⟩:=List.mem_filterMap.mp hp
 cases q:h.get? b with
 | none=>rw [q] at e; cases e
 | some o =>
  rw [q] at e
  have e':(b,o)=p:=Option.some.inj e
  subst e'
  exact ⟨hb,q⟩
theorem Inv.pinned {pins:List (Addr×Obj)} {σ:St} {H:Hp} {s:Shared} {fp:List Addr} (I:Inv X pins σ H s) (hf:∀ b∈fp,FpOk X pins H b) (ho:∀ b∈fp,∃ o,s.heap.get? b=some o∧∀ v,o.data≠.cell v):Inv X (pins++pinsAt fp s.heap) σ H s :=
 I.pins_of fun p hp=>(List.mem_append.mp hp).elim (fun z=>I.pin p (List.mem_append_right _ z)) fun z=>by
  obtain ⟨hb,e⟩:=of_pinsAt z
  obtain ⟨f0,f1,f2,_⟩:=hf p.1 hb
  obtain ⟨o,e',d⟩:=ho p.1 hb
  rw [e] at e'; cases e'
  exact ⟨e,f0,f1,f2,d⟩
theorem Inv.unpinned {pins pl:List (Addr×Obj)} {σ:St} {H:Hp} {s:Shared} (I:Inv X (pins++pl) σ H s):Inv X pins σ H s:=I.pins_of fun p hp=>I.pin p (List.mem_append_right _ (List.mem_append_left _ hp))
theorem ps_for {iter:Expr} {body:List Stmt} {wi:TI} {g:TG} {tb:TS} {pos:Pos} (hp:PassesOwn (model X.prog X.w) X.A X.env X.xe) (hc:X.calm=true) (hi:PI X tg iter wi) (hg:PG X tg g) (hb:PSs X body tb)
  (hs:∀ x,foldedSetIterable iter X.env x=pure x:=by intro _; rfl):PS X (.For tg iter body [] pos) (tFor wi g tb):=by
 intro pins s σ H D I h
 refine wpAny_For (thn (hi pins s σ H _ I h) fun v s1 h1=>thn h1 fun itv s2 h2=>?_) hs
 obtain ⟨it,fp,tn,J,H2,e,I2,T,st2,f2,W,⟨m0,w0⟩,turn⟩:=h2
 subst e
 have stat:∀ {H':Hp},(∀ b∈fp,H' b=none)→∀ b∈fp,FpOk X pins H' b:=fun hn b hb=>⟨hn b hb,(f2 b hb).2⟩
 refine codeAny_forLoop_any (fun n s'=>∃ i σ' H',Inv X pins σ' H' s'∧tn i s'.heap∧(∀ b∈fp,H' b=none)∧W i n σ' H') ?_ m0 ⟨0,σ,H2,I2,st2,fun b hb=>(f2 b hb).1,w0⟩
 rintro n s3 ⟨i,σ3,H3,I3,st3,fr3,w3⟩
 rcases turn i n σ3 H3 w3 with ⟨stop,qn⟩ | ⟨go,N,hN,step⟩
 ·refine wpAny_passesOwn hp (thn (T.done X rfl rfl rfl hc i pins s3 σ3 H3 X.xe I3 (stat fr3) st3 stop) fun r s4 hz_=>?_)
  obtain ⟨hr,I4⟩:=hz_
  subst hr
  exact wpAny_execs_nil ⟨σ3,H3,I4,qn⟩
 ·refine wpAny_passesOwn hp (thn (T.item X rfl rfl rfl hc i pins s3 σ3 H3 X.xe I3 (stat fr3) st3 go) fun r s4 hz_=>?_)
  obtain ⟨u,hr,h4⟩:=hz_
  subst hr
  refine wpAny_passesOwn hp (thn h4 fun _ s5 hz_=>?_)
  obtain ⟨x,H5,I5,r5,y5,st5,fr5⟩:=hz_
  have I5':=I5.pinned (stat fr5) (T.obj _ _ st5)
  refine wpAny_passesOwn hp (thn (hg _ s5 σ3 H5 x u _ I5' r5 (step x H5 y5)) fun _ s6 hz_=>?_)
  obtain ⟨σ6,H6,I6,q6⟩:=hz_
  refine wpAny_passesOwn hp (thn (hb _ s6 σ6 H6 _ I6 q6) fun f s7 q7=>?_)
  have again:∀ {σ7:St} {H7:Hp},Inv X (pins++pinsAt fp s5.heap) σ7 H7 s7→N σ7 H7→∃ m,m < n∧∃ i σ' H',Inv X pins σ' H' s7∧tn i s7.heap∧(∀ b∈fp,H' b=none)∧W i m σ' H':=fun {σ7 H7} I7 n7=>by
   obtain ⟨m',hm,w7⟩:=hN σ7 H7 n7
   refine ⟨m',hm,i + 1,σ7,H7,I7.unpinned,T.keep _ _ _ st5 fun b hb o e=>(I7.pin (b,o) (List.mem_append_right _ (List.mem_append_right _ (mem_pinsAt hb e)))).1,fun b hb=>?_,w7⟩
   obtain ⟨o,e,d⟩:=T.obj _ _ st5 b hb
   exact (I7.pin (b,o) (List.mem_append_right _ (List.mem_append_right _ (mem_pinsAt hb e)))).2.1
  cases f with
  | next=>obtain ⟨σ7,H7,I7,n7⟩:=q7; exact again I7 n7
  | cont=>obtain ⟨σ7,H7,I7,n7⟩:=q7; exact again I7 n7
  | brk=>obtain ⟨σ7,H7,I7,q7⟩:=q7; exact ⟨σ7,H7,I7.unpinned,q7⟩
  | ret v=>obtain ⟨x7,σ7,H7,I7,r7,q7⟩:=q7; exact ⟨x7,σ7,H7,I7.unpinned,r7,q7⟩
end
theorem for_list {K:PySem.W.Frag} {a:Addr} {xs:List V} {g:TG} {tb:TS} {D:Ends} {σ:St} {H:Hp} (Pv:Nat→St→Hp→Prop) (h0:Pv 0 σ H) (hl:∀ i σ H,i≤xs.length→Pv i σ H→SqL K H a xs)
  (hs:∀ i x σ H,xs[i]?=some x→Pv i σ H→g x σ H fun σ2 H2=>tb { D with nx:=Pv (i + 1),ct:=Pv (i + 1),bk:=D.nx } σ2 H2) (hd:∀ σ H,Pv xs.length σ H→D.nx σ H) :
  ∃ W:Nat→Nat→St→Hp→Prop,(∃ m,W 0 m σ H)∧∀ i m σ H,W i m σ H →
   ((Itl K a).stop i H∧D.nx σ H)∨((Itl K a).go i H∧∃ N:St→Hp→Prop,(∀ σ' H',N σ' H'→∃ m',m' < m∧W (i + 1) m' σ' H')∧∀ x H',(Itl K a).yld i H x H'→g x σ H' fun σ2 H2=>tb { D with nx:=N,ct:=N,bk:=D.nx } σ2 H2):=by
 refine ⟨fun i m σ H=>m=xs.length - i∧i≤xs.length∧Pv i σ H,⟨xs.length,by simp,Nat.zero_le _,h0⟩,?_⟩
 rintro i m σ H ⟨rfl,hi,p⟩
 have q:=hl i σ H hi p
 by_cases hlt:i < xs.length
 ·refine .inr ⟨⟨xs,xs[i],q,by simp [hlt]⟩,Pv (i + 1),fun σ' H' p'=>⟨xs.length - (i + 1),by omega,rfl,hlt,p'⟩,fun x H' y=>?_⟩
  obtain ⟨e,y⟩:=y
  subst e
  exact hs i x σ _ (y xs q) p
 ·have e:i=xs.length:=by omega
  subst e
  exact .inl ⟨⟨xs,q,Nat.le_refl _⟩,hd σ H p⟩
theorem for_tup {K:PySem.W.Frag} {a:Addr} {xs:List V} {g:TG} {tb:TS} {D:Ends} {σ:St} {H:Hp} (Pv:Nat→St→Hp→Prop) (h0:Pv 0 σ H) (hl:∀ i σ H,i≤xs.length→Pv i σ H→SqT K H a xs)
  (hs:∀ i x σ H,xs[i]?=some x→Pv i σ H→g x σ H fun σ2 H2=>tb { D with nx:=Pv (i + 1),ct:=Pv (i + 1),bk:=D.nx } σ2 H2) (hd:∀ σ H,Pv xs.length σ H→D.nx σ H) :
  ∃ W:Nat→Nat→St→Hp→Prop,(∃ m,W 0 m σ H)∧∀ i m σ H,W i m σ H →
   ((Itt K a).stop i H∧D.nx σ H)∨((Itt K a).go i H∧∃ N:St→Hp→Prop,(∀ σ' H',N σ' H'→∃ m',m' < m∧W (i + 1) m' σ' H')∧∀ x H',(Itt K a).yld i H x H'→g x σ H' fun σ2 H2=>tb { D with nx:=N,ct:=N,bk:=D.nx } σ2 H2):=by
 refine ⟨fun i m σ H=>m=xs.length - i∧i≤xs.length∧Pv i σ H,⟨xs.length,by simp,Nat.zero_le _,h0⟩,?_⟩
 rintro i m σ H ⟨rfl,hi,p⟩
 have q:=hl i σ H hi p
 by_cases hlt:i < xs.length
 ·refine .inr ⟨⟨xs,xs[i],q,by simp [hlt]⟩,Pv (i + 1),fun σ' H' p'=>⟨xs.length - (i + 1),by omega,rfl,hlt,p'⟩,fun x H' y=>?_⟩
  obtain ⟨e,y⟩:=y
  subst e
  exact hs i x σ _ (y xs q) p
 ·have e:i=xs.length:=by omega
  subst e
  exact .inl ⟨⟨xs,q,Nat.le_refl _⟩,hd σ H p⟩
end L2
namespace L2
open PySem PySem.Spec PyProof.Rows
abbrev R2:=V→V→Hp→VK→Prop
def OpR (X:Cx) (f:Value→Value→Sem Value) (r:R2):Prop :=
 ∀ (pins:List (Addr×Obj)) (s:Shared) (σ:St) (H:Hp) (x y:V) (v u:Value) (Q:VK),Inv X pins σ H s→RelV x v→RelV y u→r x y H Q →
  wpAny (model X.prog X.w) X.A (f v u) (EP X pins σ Q) X.xe s
def UnR (X:Cx) (f:Value→Sem Value) (r:V→Hp→VK→Prop):Prop :=
 ∀ (pins:List (Addr×Obj)) (s:Shared) (σ:St) (H:Hp) (x:V) (v:Value) (Q:VK),Inv X pins σ H s→RelV x v→r x H Q →
  wpAny (model X.prog X.w) X.A (f v) (EP X pins σ Q) X.xe s
def CallR (X:Cx) (f:Value) (r:List V→Hp→VK→Prop):Prop :=
 ∀ (pins:List (Addr×Obj)) (s:Shared) (σ:St) (H:Hp) (xs:List V) (us:List Value) (Q:VK),Inv X pins σ H s→Vals xs us→r xs H Q →
  wpAny (model X.prog X.w) X.A (call f us) (EP X pins σ Q) X.xe s
def TruR (X:Cx) (r:V→Hp→(Bool→Hp→Prop)→Prop):Prop :=
 ∀ (pins:List (Addr×Obj)) (s:Shared) (σ:St) (H:Hp) (x:V) (v:Value) (Q:Bool→Hp→Prop),Inv X pins σ H s→RelV x v→r x H Q →
  wpAny (model X.prog X.w) X.A (truthy v) (TP X pins σ Q) X.xe s
def tOp (r:R2) (ta tb:TE):TE:=fun σ H Q=>ta σ H fun x H1=>tb σ H1 fun y H2=>r x y H2 Q
def tUn (r:V→Hp→VK→Prop) (ta:TE):TE:=fun σ H Q=>ta σ H fun x H1=>r x H1 Q
def rI (C:Int→Int→Prop) (g:Int→Int→V):R2:=fun x y H Q=>∃ i j,x=.int i∧y=.int j∧C i j∧Q (g i j) H
def rI0 (g:Int→Int→V):R2:=fun x y H Q=>∃ i j,x=.int i∧y=.int j∧Q (g i j) H
def rU (g:Int→V):V→Hp→VK→Prop:=fun x H Q=>∃ i,x=.int i∧Q (g i) H
section
variable {X:Cx} {a b c:Expr} {ta tb tc:TE} {pos:Pos}
theorem binT (ha:PE X a ta) (hb:PE X b tb) {pins:List (Addr×Obj)} {s:Shared} {σ:St} {H:Hp} {R:V→V→Hp→Prop} (I:Inv X pins σ H s)
  (h:ta σ H fun x H1=>tb σ H1 fun y H2=>R x y H2) {Q:Value→Shared→Prop} {f:Value→Value→Sem Value}
  (hf:∀ v u s2 x y H2,Inv X pins σ H2 s2→RelV x v→RelV y u→R x y H2→wpAny (model X.prog X.w) X.A (f v u) Q X.xe s2) :
  wpAny (model X.prog X.w) X.A (eval a X.env) (fun v s₁=>wpAny (model X.prog X.w) X.A (eval b X.env) (fun u s₂=>wpAny (model X.prog X.w) X.A (f v u) Q X.xe s₂) X.xe s₁) X.xe s:=by
 refine thn (ha pins s σ H _ I h) fun v s1 hz_=>?_
 obtain ⟨x,H1,I1,r1,q1⟩:=hz_
 refine thn (hb pins s1 σ H1 _ I1 q1) fun u s2 hz_=>?_
 obtain ⟨y,H2,I2,r2,q2⟩:=hz_
 exact hf v u s2 x y H2 I2 r1 r2 q2
theorem pe_op {op:Operator} {r:R2} (ho:OpR X (binaryOp op) r) (ha:PE X a ta) (hb:PE X b tb):PE X (.BinOp a op b pos) (tOp r ta tb):=by
 intro pins s σ H Q I h
 exact wpAny_BinOp (binT ha hb I h fun v u s2 x y H2 I2 rx ry q=>ho pins s2 σ H2 x y v u Q I2 rx ry q)
theorem pe_un {op:UnaryOp} {r:V→Hp→VK→Prop} (ho:UnR X (unaryOp op) r) (ha:PE X a ta):PE X (.UnaryOp op a pos) (tUn r ta):=by
 intro pins s σ H Q I h
 refine UnaryOp_ (thn (ha pins s σ H _ I h) fun v s1 hz_=>?_)
 obtain ⟨x,H1,I1,r1,q1⟩:=hz_
 exact ho pins s1 σ H1 x v Q I1 r1 q1
theorem opI {f:Value→Value→Sem Value} {C:Int→Int→Prop} {g:Int→Int→Int}
  (rule:∀ (i j:Int) (t u:Tok) (s:Shared) (Q:Value→Shared→Prop) (E:Value→Shared→Prop),C i j→Q (.int (g i j) s.toks) { s with toks:=s.toks + 1 }→wpAny (model X.prog X.w) X.A (f (.int i t) (.int j u)) Q E s) :
  OpR X f (rI C fun i j=>.int (g i j)):=by
 intro pins s σ H x y v u Q I rx ry h
 obtain ⟨i,j,rfl,rfl,hc,q⟩:=h
 obtain ⟨t,rfl⟩:=rx
 obtain ⟨t',rfl⟩:=ry
 exact rule i j t t' s _ _ hc ⟨.int (g i j),H,I.tok _,⟨_,rfl⟩,q⟩
theorem opI0 {f:Value→Value→Sem Value} {g:Int→Int→Int}
  (rule:∀ (i j:Int) (t u:Tok) (s:Shared) (Q:Value→Shared→Prop) (E:Value→Shared→Prop),Q (.int (g i j) s.toks) { s with toks:=s.toks + 1 }→wpAny (model X.prog X.w) X.A (f (.int i t) (.int j u)) Q E s) :
  OpR X f (rI0 fun i j=>.int (g i j)):=by
 intro pins s σ H x y v u Q I rx ry h
 obtain ⟨i,j,rfl,rfl,q⟩:=h
 obtain ⟨t,rfl⟩:=rx
 obtain ⟨t',rfl⟩:=ry
 exact rule i j t t' s _ _ ⟨.int (g i j),H,I.tok _,⟨_,rfl⟩,q⟩
theorem opB0 {f:Value→Value→Sem Value} {g:Int→Int→Bool}
  (rule:∀ (i j:Int) (t u:Tok) (s:Shared) (Q:Value→Shared→Prop) (E:Value→Shared→Prop),Q (.bool (g i j)) s→wpAny (model X.prog X.w) X.A (f (.int i t) (.int j u)) Q E s) :
  OpR X f (rI0 fun i j=>.bl (g i j)):=by
 intro pins s σ H x y v u Q I rx ry h
 obtain ⟨i,j,rfl,rfl,q⟩:=h
 obtain ⟨t,rfl⟩:=rx
 obtain ⟨t',rfl⟩:=ry
 exact rule i j t t' s _ _ ⟨.bl (g i j),H,I,rfl,q⟩
def CMul (i j:Int):Prop:=(-(2 ^ 64) < i∧i < 2 ^ 64)∨(-(2 ^ 64) < j∧j < 2 ^ 64)
theorem CMul.ok {i j:Int} (h:CMul i j):IntMulOk i j:=by
 rcases h with ⟨h1,h2⟩ | ⟨h1,h2⟩
 ·exact .of_left (intBits_le_64 h1 h2)
 ·exact .of_right (intBits_le_64 h1 h2)
theorem op_add:OpR X (binaryOp .Add) (rI0 fun i j=>.int (i + j)):=opI0 fun _ _ _ _ _ _ _ q=>add_int q
theorem op_sub:OpR X (binaryOp .Sub) (rI0 fun i j=>.int (i - j)):=opI0 fun _ _ _ _ _ _ _ q=>sub_int q
theorem op_mul:OpR X (binaryOp .Mult) (rI CMul fun i j=>.int (i * j)):=opI fun _ _ _ _ _ _ _ hc q=>mul_int q hc.ok
theorem op_mod:OpR X (binaryOp .Mod) (rI (fun _ j=>0 < j) fun i j=>.int (i % j)):=opI fun i j _ _ _ _ _ hc q=>by
 have h1:(0:Int) < j:=hc
 exact mod_int' (by omega) (by rw [Int.fmod_eq_emod_of_nonneg i (by omega)]; exact q)
theorem unI {f:Value→Sem Value} {g:Int→Int}
  (rule:∀ (i:Int) (t:Tok) (s:Shared) (Q:Value→Shared→Prop) (E:Value→Shared→Prop),Q (.int (g i) s.toks) { s with toks:=s.toks + 1 }→wpAny (model X.prog X.w) X.A (f (.int i t)) Q E s) :
  UnR X f (rU fun i=>.int (g i)):=by
 intro pins s σ H x v Q I rx h
 obtain ⟨i,rfl,q⟩:=h
 obtain ⟨t,rfl⟩:=rx
 exact rule i t s _ _ ⟨.int (g i),H,I.tok _,⟨_,rfl⟩,q⟩
theorem un_neg:UnR X (unaryOp .USub) (rU fun i=>.int (-i)):=unI fun _ _ _ _ _ q=>neg_int q
end
def scal:V→V→Bool
 | .non,.non=>true | .non,.int _=>true | .int _,.non=>true | .non,.bl _=>true | .bl _,.non=>true | .non,.str _=>true | .str _,.non=>true
 | .int _,.int _=>true | .bl _,.bl _=>true | .str _,.str _=>true | .byt _,.byt _=>true
 | .int _,.str _=>true | .str _,.int _=>true | .bl _,.str _=>true | .str _,.bl _=>true
 | _,_=>false
def rEq:R2:=fun x y H Q=>scal x y=true∧Q (.bl (decide (x=y))) H
def rNe:R2:=fun x y H Q=>scal x y=true∧Q (.bl (!decide (x=y))) H
theorem dec_int {i j:Int}:decide (V.int i=V.int j)=(i == j):=by
 rw [Bool.eq_iff_iff]
 simp
theorem dec_bl {i j:Bool}:decide (V.bl i=V.bl j)=(i == j):=by
 rw [Bool.eq_iff_iff]
 simp
theorem dec_str {i j:Str}:decide (V.str i=V.str j)=(i == j):=by
 rw [Bool.eq_iff_iff]
 simp
theorem dec_byt {i j:Array UInt8}:decide (V.byt i=V.byt j)=(i.toList == j.toList):=by
 rw [Bool.eq_iff_iff]
 cases i
 cases j
 simp
section
variable {X:Cx} {a b c:Expr} {ta tb tc:TE} {pos:Pos}
theorem fin_bl {pins:List (Addr×Obj)} {σ:St} {H:Hp} {s:Shared} {Q:VK} {k k':Bool} (I:Inv X pins σ H s) (q:Q (.bl k) H) (e:k=k'):EP X pins σ Q (.bool k') s:=by
 subst e
 exact ⟨.bl k,H,I,rfl,q⟩
theorem op_eq:OpR X (compareOp .Eq) rEq:=by
 intro pins s σ H x y v u Q I rx ry h
 obtain ⟨hs,q⟩:=h
 cases x with
 | non =>
  cases rx
  cases y with
  | non=>cases ry; exact PySem.EqNone.eq_none_none (fin_bl I q (by simp))
  | bl j=>cases ry; exact PySem.EqNone.eq_none_bool (fin_bl I q (by simp))
  | int j=>obtain ⟨t',rfl⟩:=ry; exact PySem.EqNone.eq_none_int (fin_bl I q (by simp))
  | str j=>obtain ⟨t',rfl⟩:=ry; exact PySem.EqNone.eq_none_str (fin_bl I q (by simp))
  | _=>exact absurd (show false=true from hs) Bool.false_ne_true
 | bl i =>
  cases rx
  cases y with
  | non=>cases ry; exact PySem.EqNone.eq_bool_none (fin_bl I q (by simp))
  | bl j=>cases ry; exact eq_bool (fin_bl I q dec_bl)
  | str j=>obtain ⟨t',rfl⟩:=ry; exact PySem.EqMixed.eq_bool_str (fin_bl I q (by simp))
  | _=>exact absurd (show false=true from hs) Bool.false_ne_true
 | int i =>
  obtain ⟨t,rfl⟩:=rx
  cases y with
  | non=>cases ry; exact PySem.EqNone.eq_int_none (fin_bl I q (by simp))
  | int j=>obtain ⟨t',rfl⟩:=ry; exact eq_int (fin_bl I q dec_int)
  | str j=>obtain ⟨t',rfl⟩:=ry; exact PySem.EqMixed.eq_int_str (fin_bl I q (by simp))
  | _=>exact absurd (show false=true from hs) Bool.false_ne_true
 | str i =>
  obtain ⟨t,rfl⟩:=rx
  cases y with
  | non=>cases ry; exact PySem.EqNone.eq_str_none (fin_bl I q (by simp))
  | bl j=>cases ry; exact PySem.EqMixed.eq_str_bool (fin_bl I q (by simp))
  | int j=>obtain ⟨t',rfl⟩:=ry; exact PySem.EqMixed.eq_str_int (fin_bl I q (by simp))
  | str j=>obtain ⟨t',rfl⟩:=ry; exact eq_str (fin_bl I q dec_str)
  | _=>exact absurd (show false=true from hs) Bool.false_ne_true
 | byt i =>
  obtain ⟨t,rfl⟩:=rx
  cases y with
  | byt j=>obtain ⟨t',rfl⟩:=ry; exact PySem.W.eq_bytes (fin_bl I q dec_byt)
  | _=>exact absurd (show false=true from hs) Bool.false_ne_true
 | _=>cases y <;> exact absurd (show false=true from hs) Bool.false_ne_true
theorem op_ne:OpR X (compareOp .NotEq) rNe:=by
 intro pins s σ H x y v u Q I rx ry h
 obtain ⟨hs,q⟩:=h
 cases x with
 | non =>
  cases rx
  cases y with
  | non=>cases ry; exact PySem.EqNone.ne_none_none (fin_bl I q (by simp))
  | bl j=>cases ry; exact PySem.EqNone.ne_none_bool (fin_bl I q (by simp))
  | int j=>obtain ⟨t',rfl⟩:=ry; exact PySem.EqNone.ne_none_int (fin_bl I q (by simp))
  | str j=>obtain ⟨t',rfl⟩:=ry; exact PySem.EqNone.ne_none_str (fin_bl I q (by simp))
  | _=>exact absurd (show false=true from hs) Bool.false_ne_true
 | bl i =>
  cases rx
  cases y with
  | non=>cases ry; exact PySem.EqNone.ne_bool_none (fin_bl I q (by simp))
  | bl j=>cases ry; exact ne_bool (fin_bl I q (congrArg not dec_bl))
  | str j=>obtain ⟨t',rfl⟩:=ry; exact PySem.EqMixed.ne_bool_str (fin_bl I q (by simp))
  | _=>exact absurd (show false=true from hs) Bool.false_ne_true
 | int i =>
  obtain ⟨t,rfl⟩:=rx
  cases y with
  | non=>cases ry; exact PySem.EqNone.ne_int_none (fin_bl I q (by simp))
  | int j=>obtain ⟨t',rfl⟩:=ry; exact ne_int (fin_bl I q (congrArg not dec_int))
  | str j=>obtain ⟨t',rfl⟩:=ry; exact PySem.EqMixed.ne_int_str (fin_bl I q (by simp))
  | _=>exact absurd (show false=true from hs) Bool.false_ne_true
 | str i =>
  obtain ⟨t,rfl⟩:=rx
  cases y with
  | non=>cases ry; exact PySem.EqNone.ne_str_none (fin_bl I q (by simp))
  | bl j=>cases ry; exact PySem.EqMixed.ne_str_bool (fin_bl I q (by simp))
  | int j=>obtain ⟨t',rfl⟩:=ry; exact PySem.EqMixed.ne_str_int (fin_bl I q (by simp))
  | str j=>obtain ⟨t',rfl⟩:=ry; exact ne_str (fin_bl I q (congrArg not dec_str))
  | _=>exact absurd (show false=true from hs) Bool.false_ne_true
 | byt i =>
  obtain ⟨t,rfl⟩:=rx
  cases y with
  | byt j=>obtain ⟨t',rfl⟩:=ry; exact PySem.W.ne_bytes (fin_bl I q (congrArg not dec_byt))
  | _=>exact absurd (show false=true from hs) Bool.false_ne_true
 | _=>cases y <;> exact absurd (show false=true from hs) Bool.false_ne_true
theorem op_lt:OpR X (compareOp .Lt) (rI0 fun i j=>.bl (decide (i < j))):=opB0 fun _ _ _ _ _ _ _ q=>lt_int q
theorem op_le:OpR X (compareOp .LtE) (rI0 fun i j=>.bl (decide (i≤j))):=opB0 fun _ _ _ _ _ _ _ q=>le_int q
theorem nomark (b:Expr) {op:CmpOp} (h:op≠.In:=by decide) (h2:op≠.NotIn:=by decide):behindInMarks op b=false:=by
 have e1:(op == CmpOp.In)=false:=by cases op <;> first | rfl | exact absurd rfl h
 have e2:(op == CmpOp.NotIn)=false:=by cases op <;> first | rfl | exact absurd rfl h2
 cases b <;> simp [behindInMarks,e1,e2]
theorem pe_cmpR {op:CmpOp} {r:R2} (ho:OpR X (compareOp op) r) (ha:PE X a ta) (hb:PE X b tb) (hm:behindInMarks op b=false):PE X (.Compare a [op] [b] pos) (tOp r ta tb):=by
 intro pins s σ H Q I h
 exact wpAny_Compare1 (binT ha hb I h fun v u s2 x y H2 I2 rx ry q=>ho pins s2 σ H2 x y v u Q I2 rx ry q) hm
def tTest (t:TE):TT:=fun σ H Q=>t σ H fun x H'=>∃ k,x=.bl k∧Q k H'
theorem pt_cmpR {op:CmpOp} {r:R2} (ho:OpR X (compareOp op) r) (ha:PE X a ta) (hb:PE X b tb) (hm:behindInMarks op b=false):PT X (.Compare a [op] [b] pos) (tTest (tOp r ta tb)):=by
 intro pins s σ H Q I h
 refine wpAny_isTrue_Compare1 (thn (ha pins s σ H _ I h) fun v s1 ⟨x,H1,I1,r1,q1⟩=>thn (hb pins s1 σ H1 _ I1 q1) fun u s2 ⟨y,H2,I2,r2,q2⟩ =>
  thn (ho pins s2 σ H2 x y v u _ I2 r1 r2 q2) fun c s3 ⟨z,H3,I3,r3,k,e,q3⟩=>?_) hm
 subst e
 cases r3
 exact wpAny_truthy_bool ⟨H3,I3,q3⟩
def tChain (r r':R2) (ta tb tc:TE):TE:=fun σ H Q=>ta σ H fun x H1=>tb σ H1 fun y H2=>r x y H2 fun z H3=>∃ k,z=.bl k ∧
 (if k=true then tc σ H3 fun w' H4=>r' y w' H4 Q else Q (.bl false) H3)
theorem pe_chain {op op':CmpOp} {r r':R2} (ho:OpR X (compareOp op) r) (ho':OpR X (compareOp op') r') (ha:PE X a ta) (hb:PE X b tb) (hc:PE X c tc)
  (hm:lastMarks [op,op'] [b,c]=false:=by with_unfolding_all rfl):PE X (.Compare a [op,op'] [b,c] pos) (tChain r r' ta tb tc):=by
 intro pins s σ H Q I h
 refine Compare_chain (thn (ha pins s σ H _ I h) fun v s1 ⟨x,H1,I1,r1,q1⟩=>chain_link (thn (hb pins s1 σ H1 _ I1 q1) fun u s2 ⟨y,H2,I2,r2,q2⟩ =>
  thn (ho pins s2 σ H2 x y v u _ I2 r1 r2 q2) fun d s3 ⟨z,H3,I3,r3,k,e,q3⟩=>?_)) hm
 subst e
 cases r3
 refine wpAny_truthy_bool ?_
 cases k with
 | false=>exact ite_ff ⟨.bl false,H3,I3,rfl,q3⟩
 | true=>exact ite_tt (chain_last (thn (hc pins s3 σ H3 _ I3 q3) fun w' s4 ⟨z',H4,I4,r4,q4⟩=>ho' pins s4 σ H4 y z' u w' Q I4 r2 r4 q4))
def TruV (K:PySem.W.Frag) (x:V) (H:Hp) (k:Bool):Prop :=
 match x with
 | .non=>k=false
 | .bl b=>k=b
 | .int i=>k=(i != 0)
 | .str y=>y.length≤sizeLine∧k=((y.length:Int) != 0)
 | .byt y=>y.size≤sizeLine∧k=((y.size:Int) != 0)
 | .ref p=>(∃ xs,SqL K H p xs∧k=!xs.isEmpty)∨(∃ xs,SqT K H p xs∧k=!xs.isEmpty)∨∃ kvs,H p=some (.dK kvs)∧k=!kvs.isEmpty
 | _=>False
theorem isEmpty_kv {κ:Type} {kvs:List (κ×V)} {vs:List (κ×Value)} (r:KV kvs vs):(!vs.isEmpty)=!kvs.isEmpty:=by
 cases r <;> rfl
theorem isEmpty_of {xs:List V} {its:List Value} (r:Vals xs its):(!its.toArray.isEmpty)=!xs.isEmpty:=by
 cases r <;> simp
theorem line63:(sizeLine:Nat) < 2 ^ 63:=by rw [sizeLine_eq]; decide
theorem tru_ok:TruR X (fun x H Q=>∃ k,TruV X.K x H k∧Q k H):=by
 intro pins s σ H x v Q I rx h
 obtain ⟨k,e,q⟩:=h
 have hl:=line63
 have hs:sizeLine=16777216:=sizeLine_eq
 cases x with
 | non =>
  cases rx
  have e':k=false:=e
  subst e'
  exact truthy_none ⟨H,I,q⟩
 | bl b =>
  cases rx
  have e':k=b:=e
  subst e'
  exact wpAny_truthy_bool ⟨H,I,q⟩
 | int i =>
  obtain ⟨t,rfl⟩:=rx
  have e':k=(i != 0):=e
  subst e'
  exact PySem.P.truthy_int ⟨H,I,q⟩
 | str y =>
  obtain ⟨t,rfl⟩:=rx
  obtain ⟨hy,e'⟩:y.length≤sizeLine∧k=((y.length:Int) != 0):=e
  subst e'
  exact PySem.P.truthy_str (by omega) ⟨H,I.tok _,q⟩
 | byt y =>
  obtain ⟨t,rfl⟩:=rx
  obtain ⟨hy,e'⟩:y.size≤sizeLine∧k=((y.size:Int) != 0):=e
  subst e'
  exact PySem.W.truthy_bytes (by omega) ⟨H,I.tok _,q⟩
 | ref p =>
  cases rx
  have e':(∃ xs,SqL X.K H p xs∧k=!xs.isEmpty)∨(∃ xs,SqT X.K H p xs∧k=!xs.isEmpty)∨∃ kvs,H p=some (.dK kvs)∧k=!kvs.isEmpty:=e
  rcases e' with ⟨xs,hx,e'⟩ | ⟨xs,hx,e'⟩ | ⟨kvs,hx,e'⟩
  ·subst e'
   obtain ⟨its,r,pl,hz⟩:=I.list hx
   have hlen:=r.length
   exact wpAny_truthy_list pl.isList (by simp only [List.size_toArray]; omega) ⟨H,I.tok _,by rw [isEmpty_of r]; exact q⟩
  ·subst e'
   obtain ⟨its,r,pl,hz⟩:=I.tuple hx
   have hlen:=r.length
   exact truthy_tuple pl (by simp only [List.size_toArray]; omega) ⟨H,I.tok _,by rw [isEmpty_of r]; exact q⟩
  ·subst e'
   obtain ⟨hz,hS,vs,r,m⟩:kvs.length≤sizeLine∧(p == sysModules)=false∧∃ vs,KV kvs vs∧s.heap.DictOf (mixKind X.prog X.w) p vs:=I.hok p _ hx
   have hlen:kvs.length=vs.length:=Paired.length r
   exact wpAny_truthy_dict hS m (by omega) ⟨H,I.tok _,by rw [isEmpty_kv r]; exact q⟩
 | _=>exact (show False from e).elim
theorem pt_truth (ha:PE X a ta) (he:∀ whole,isTrue a X.env whole=(do let v ← whole; standAt a.pos; holding [v] (truthy v))) :
  PT X a (fun σ H Q=>ta σ H fun x H'=>∃ k,TruV X.K x H' k∧Q k H'):=by
 intro pins s σ H Q I h
 refine isTrue_plain (thn (ha pins s σ H _ I h) fun v s1 hz_=>?_) (he _)
 obtain ⟨x,H1,I1,r1,q1⟩:=hz_
 exact tru_ok pins s1 σ H1 x v Q I1 r1 q1
theorem vals1 {x:V} {us:List Value} (r:Vals [x] us):∃ u,us=[u]∧RelV x u:=by
 cases r with
 | cons r1 r2=>cases r2; exact ⟨_,rfl,r1⟩
theorem vals2 {x y:V} {us:List Value} (r:Vals [x,y] us):∃ u w',us=[u,w']∧RelV x u∧RelV y w':=by
 cases r with
 | cons r1 r2 =>
  cases r2 with
  | cons r3 r4=>cases r4; exact ⟨_,_,rfl,r1,r3⟩
end
end L2
namespace L2
open PySem PySem.Spec PyProof.Rows
structure ObjM (h:Heap) (x dx C:Addr) (mA:Str→Option Value):Prop where
 obj:h.get? x=some (PySem.W.instObj C dx)
 ns:h.Ns1 dx mA
 ne:dx≠x
theorem lookIn_ns {h:Heap} {dx:Addr} {mA:Str→Option Value} (n:h.Ns1 dx mA):∃ od,h.get? dx=some od∧∀ name,PySem.W.lookIn name od=some (mA name):=by
 obtain ⟨o,es,ep,ho,hd,hk,_,hm⟩:=n
 refine ⟨o,ho,fun name=>?_⟩
 have e:=hm name
 unfold nsFind findBy at e
 rw [← Array.find?_toList] at e
 unfold PySem.W.lookIn
 rw [hd]
 dsimp only
 split
 ·rename_i y q
  rw [q] at e
  exact congrArg some e
 ·rename_i q
  rw [q] at e
  have a:es.toList.any (·.refKey)=false:=by
   rw [List.any_eq_false]
   intro y hy
   obtain ⟨z,t,hkey⟩:=hk y (Array.mem_toList_iff.mp hy)
   simp [DictEntry.refKey,hkey]
  have a':¬ es.toList.any (·.refKey)=true:=by rw [a]; exact Bool.false_ne_true
  rw [if_neg a']
  exact congrArg some e
theorem ObjM.look {h:Heap} {x dx C:Addr} {mA:Str→Option Value} (I:ObjM h x dx C mA):∃ od,PySem.W.InstAt h x (PySem.W.instObj C dx) C (some od)∧∀ name,PySem.W.lookIn name od=some (mA name) :=
 let ⟨od,ho,hl⟩:=lookIn_ns I.ns
 ⟨od,⟨I.obj,rfl,rfl,ho⟩,hl⟩
section
variable {prog:Program} {w:World} {A:Around} {E:Value→Shared→Prop} {s:Shared} {K:PySem.W.Frag} {x dx C f:Addr} {mA:Str→Option Value} {name:Str} {v:Value}
theorem get_map {expr:Bool} {Q:Value→Shared→Prop} (X:K.In s.heap) (I:ObjM s.heap x dx C mA) (hg:PySem.W.plainGet K C name=true) (hh:PySem.W.hasDictIn K C=true)
  (ha:PySem.W.findIn K (.ref C) name=some none) (hv:mA name=some v) (hv':PySem.W.handedIn v=true) (h:Q v { s with toks:=s.toks + 1 }) :
  wpAny (model prog w) A (getAttr (.ref x) name expr) Q E s:=by
 obtain ⟨od,J,hl⟩:=I.look
 exact PySem.W.get_value X J (PySem.W.plainGet_of hg).1 (PySem.W.findObj_own hh ha rfl (by rw [hl,hv])) hv' h
theorem get_meth {pl:Sem Bool} {Q:Value×List Value→Shared→Prop} (X:K.In s.heap) (I:ObjM s.heap x dx C mA) (hg:PySem.W.plainGet K C name=true)
  (hf:PySem.W.findIn K (.ref C) name=some (some (.ref f))) (ht:PySem.W.isFn K (.ref f)=true) (hv:mA name=none) (h:Q (.ref f,[.ref x]) s) :
  wpAny (model prog w) A (getMethod (.ref x) name pl) Q E s:=by
 obtain ⟨od,J,hl⟩:=I.look
 exact PySem.W.method_fn X J (PySem.W.plainGet_of hg).1 (PySem.W.plainGet_of hg).2 hf (beq_iff_eq.mp ht) (by show (PySem.W.lookIn name od).map (·.isSome)=some false; rw [hl,hv]; rfl) h
theorem set_map {ns:List Str} {Q:Unit→Shared→Prop} (X:K.In s.heap) (I:ObjM s.heap x dx C mA)
  (hs:PySem.W.findIn K (.ref C) "__setattr__" = some (some (.builtin "object.__setattr__"))) (hp:PySem.W.plainOver K C=true) (ht:PySem.W.takerIn K C name=some none) (hh:PySem.W.hasDictIn K C=true)
  (hw:PySem.Within mA ns) (hsz:ns.length≤sizeLine)
  (h:∀ h',ObjM h' x dx C (fun y=>if y=name then some v else mA y)→Heap.SameBut dx s.heap h'→Q () { s with heap:=h',toks:=s.toks + 2 }) :
  wpAny (model prog w) A (setAttr (.ref x) name v) Q E s:=by
 obtain ⟨od,J,hl⟩:=I.look
 refine PySem.W.set_plain X J hs (PySem.W.osa_open (s:={ s with toks:=s.toks + 1 }) (r:=none) X J hp ht fun b=>?_)
 obtain ⟨cd,hc,hd'⟩:=PySem.W.any_some hh
 have hx:s.heap.get? x=some ⟨.ref C,some dx,.plain,#[]⟩:=I.obj
 refine wpAny_bind (wpAny_pure (wpAny_bind (wpAny_bind (wpAny_loadPart hx (wpAny_bind (PySem.W.Looks.here (s:={ s with toks:=s.toks + 1 }) (PySem.W.looks_clsIn X hc) ?_))))))
 rw [hd']
 refine wpAny_pure (a:=some dx) (wpAny_bind (wpAny_pure (wpAny_bind ?_)))
 refine wpAny_nsSet1 (s:={ s with toks:=s.toks + 1 }) I.ns fun h' hn2 hs2=>?_
 obtain ⟨oD,esD,epD,hoD,hdD,hcD⟩:=hn2.count (PySem.Within.cons name v hw)
 refine wpAny_bind (wpAny_lookBehind hoD (by rw [hdD]; exact pastItsLine_dict (Nat.le_trans hcD (by rw [List.length_cons]; omega))) ?_)
 exact wpAny_pure (h _ ⟨(hs2.2 _ (Ne.symm I.ne)).trans I.obj,hn2,I.ne⟩ hs2)
theorem make_map {R:Result→Shared→Prop} {vs:List Value} {kw:List (Str×Value)} (X:K.In s.heap) (hm:PySem.W.makesIn K C=true)
  (hi:PySem.W.findIn K (.ref C) "__init__" = some (some (.ref f))) (hf:PySem.W.typeIn K (.ref f)=some (.type "function"))
  (h:codeAny (model prog w) (A.under (.builtin "type.__call__" ⟨.ref C::vs,kw⟩)) (.call (.ref f) ⟨.ref (s.heap.objs.size + 1)::vs,kw⟩) (PySem.W.InitBack (s.heap.objs.size + 1) R)
   { s with heap:=(s.heap.push PySem.W.emptyDict).push (PySem.W.instObj C s.heap.objs.size) }) :
  codeAny (model prog w) A (.call (.ref C) ⟨vs,kw⟩) R s:=by
 obtain ⟨hh,g,d,t,os⟩:=s
 exact PySem.W.make_core (PySem.W.makes_of X hm) (PySem.W.looks_findIn X hi) (fun self=>PySem.W.bind_fn X self hf) (.inl rfl) h
end
def putF (f:Str) (v:V):List (Str×V)→List (Str×V)
 | []=>[(f,v)]
 | (g,x)::r=>if g=f then (g,v)::r else (g,x)::putF f v r
theorem lookup_putF (f g:Str) (v:V):∀ fs:List (Str×V),(putF f v fs).lookup g=if g=f then some v else fs.lookup g
 | []=>by
  show List.lookup g [(f,v)]=_
  by_cases h:g=f
  ·have hb:(g == f)=true:=beq_iff_eq.mpr h
   simp only [List.lookup,hb,if_pos h]
  ·have hb:(g == f)=false:=beq_eq_false_iff_ne.mpr h
   simp only [List.lookup,hb,if_neg h]
 | (k,x)::r=>by
  have ih:=lookup_putF f g v r
  rw [show putF f v ((k,x)::r)=(if k=f then (k,v)::r else (k,x)::putF f v r) from rfl]
  by_cases hk:k=f
  ·rw [if_pos hk]
   by_cases h:g=k
   ·have hb:(g == k)=true:=beq_iff_eq.mpr h
    simp only [List.lookup,hb,if_pos (h.trans hk)]
   ·have hb:(g == k)=false:=beq_eq_false_iff_ne.mpr h
    simp only [List.lookup,hb,if_neg (fun e:g=f=>h (e.trans hk.symm))]
  ·rw [if_neg hk]
   by_cases h:g=k
   ·have hb:(g == k)=true:=beq_iff_eq.mpr h
    simp only [List.lookup,hb,if_neg (fun e:g=f=>hk (h.symm.trans e))]
   ·have hb:(g == k)=false:=beq_eq_false_iff_ne.mpr h
    simp only [List.lookup,hb]
    exact ih
theorem keys_putF (f:Str) (v:V):∀ fs:List (Str×V),f∈(putF f v fs).map (·.1)∧∀ g,g∈fs.map (·.1)→g∈(putF f v fs).map (·.1)
 | []=>⟨by simp [putF],fun g h=>by simp at h⟩
 | (k,x)::r=>by
  obtain ⟨i1,i2⟩:=keys_putF f v r
  rw [show putF f v ((k,x)::r)=(if k=f then (k,v)::r else (k,x)::putF f v r) from rfl]
  by_cases hk:k=f
  ·rw [if_pos hk]
   subst hk
   exact ⟨by simp,fun g h=>by simpa using h⟩
  ·rw [if_neg hk]
   refine ⟨?_,fun g h=>?_⟩
   ·rw [List.map_cons]
    exact List.mem_cons_of_mem _ i1
   ·rw [List.map_cons] at h ⊢
    rcases List.mem_cons.mp h with e | e
    ·exact List.mem_cons.mpr (.inl e)
    ·exact List.mem_cons_of_mem _ (i2 g e)
theorem length_putF (f:Str) (v:V):∀ fs:List (Str×V),(putF f v fs).length≤fs.length + 1
 | []=>by simp [putF]
 | (k,x)::r=>by
  have ih:=length_putF f v r
  rw [show putF f v ((k,x)::r)=(if k=f then (k,v)::r else (k,x)::putF f v r) from rfl]
  by_cases hk:k=f
  ·rw [if_pos hk,List.length_cons,List.length_cons]; omega
  ·rw [if_neg hk,List.length_cons,List.length_cons]; omega
theorem RelO.some_of {v:V} {o:Option Value} (r:RelO (some v) o):∃ u,o=some u∧RelV v u:=by
 cases o with
 | none=>exact (show False from r).elim
 | some u=>exact ⟨u,rfl,r⟩
theorem RelO.none_of {o:Option Value} (r:RelO none o):o=none:=by
 cases o with
 | none=>rfl
 | some u=>exact (show False from r).elim
theorem handed_of {v:V} {u:Value} (r:RelV v u):PySem.W.handedIn u=true:=by
 cases v with
 | non=>cases (show u=Value.none from r); rfl
 | bl b=>cases (show u=Value.bool b from r); rfl
 | int i=>obtain ⟨t,e⟩:=(show ∃ t,u=Value.int i t from r); cases e; rfl
 | str x=>obtain ⟨t,e⟩:=(show ∃ t,u=Value.str x t from r); cases e; rfl
 | byt b=>obtain ⟨t,e⟩:=(show ∃ t,u=Value.bytes b t from r); cases e; rfl
 | flt b=>obtain ⟨t,e⟩:=(show ∃ t,u=Value.float b t from r); cases e; rfl
 | ref a=>cases (show u=Value.ref a from r); rfl
 | ty n=>cases (show u=Value.type n from r); rfl
section
variable {P:Program} {w:World} {H H':Hp} {h h':Heap} {a C dx:Addr} {fs fs':List (Str×V)}
theorem ins_get (hok:HOk P w H h) (e:H a=some (.ins C dx fs)):∃ mA,ObjM h a dx C mA∧(∀ f,RelO (fs.lookup f) (mA f))∧PySem.Within mA (fs.map (·.1))∧fs.length≤1000∧H dx=some (.own a):=by
 obtain ⟨d,z,ne,ob,mA,n,r,q⟩:=(show ObjOk P w H h a (.ins C dx fs) from hok a _ e)
 exact ⟨mA,⟨ob,n,ne⟩,r,q,z,d⟩
end
structure Cls (K:PySem.W.Frag) (C:Addr):Prop where
 pg:PySem.W.plainGet K C Str.empty=true
 hd:PySem.W.hasDictIn K C=true
 po:PySem.W.plainOver K C=true
 sa:PySem.W.findIn K (.ref C) "__setattr__" = some (some (.builtin "object.__setattr__"))
theorem Cls.get {K:PySem.W.Frag} {C:Addr} (c:Cls K C) (f:Str):PySem.W.plainGet K C f=true:=c.pg
def NoAttr (K:PySem.W.Frag) (C:Addr) (f:Str):Prop:=PySem.W.findIn K (.ref C) f=some none
theorem NoAttr.taker {K:PySem.W.Frag} {C:Addr} {f:Str} (n:NoAttr K C f):PySem.W.takerIn K C f=some none:=by
 unfold PySem.W.takerIn
 rw [show PySem.W.findIn K (.ref C) f=some none from n]
 rfl
structure Meth (K:PySem.W.Frag) (C:Addr) (m:Str) (f:Addr):Prop where
 at_:PySem.W.findIn K (.ref C) m=some (some (.ref f))
 fn:PySem.W.isFn K (.ref f)=true
 kp:PySem.W.keepIn K (.ref f)=true
section
variable {X:Cx} {pins:List (Addr×Obj)} {σ:St} {H:Hp} {s:Shared} {a C dx:Addr} {fs:List (Str×V)} {f:Str} {v:V} {A:Around} {E:Value→Shared→Prop}
theorem getattr_ok {b:Bool} {Q:Value→Shared→Prop} (I:Inv X pins σ H s) (e:H a=some (.ins C dx fs)) (c:Cls X.K C) (n:NoAttr X.K C f) (l:fs.lookup f=some v)
  (h:∀ u s',Inv X pins σ H s'→RelV v u→Q u s'):wpAny (model X.prog X.w) A (getAttr (.ref a) f b) Q E s:=by
 obtain ⟨mA,O,r,_,_,_⟩:=ins_get I.hok e
 obtain ⟨u,hu,ru⟩:=RelO.some_of (v:=v) (o:=mA f) (by rw [← l]; exact r f)
 exact get_map I.kIn O (c.get f) c.hd n hu (handed_of ru) (h u _ (I.tok _) ru)
theorem getmeth_ok {m:Str} {g:Addr} {pl:Sem Bool} {Q:Value×List Value→Shared→Prop} (I:Inv X pins σ H s) (e:H a=some (.ins C dx fs)) (c:Cls X.K C) (k:Meth X.K C m g) (l:fs.lookup m=none)
  (h:Q (.ref g,[.ref a]) s):wpAny (model X.prog X.w) A (getMethod (.ref a) m pl) Q E s:=by
 obtain ⟨mA,O,r,_,_,_⟩:=ins_get I.hok e
 have hn:mA m=none:=RelO.none_of (by rw [← l]; exact r m)
 exact get_meth I.kIn O (c.get m) k.at_ k.fn hn h
theorem setattr_ok {y:V} {u:Value} {Q:Unit→Shared→Prop} (I:Inv X pins σ H s) (e:H a=some (.ins C dx fs)) (c:Cls X.K C) (n:NoAttr X.K C f) (hl:fs.length < 1000) (ry:RelV y u)
  (h:∀ s',Inv X pins σ (upd H a (.ins C dx (putF f y fs))) s'→Q () s'):wpAny (model X.prog X.w) A (setAttr (.ref a) f u) Q E s:=by
 obtain ⟨mA,O,r,wi,_,ho⟩:=ins_get I.hok e
 have hz:(fs.map (·.1)).length≤sizeLine:=by rw [List.length_map,sizeLine_eq]; omega
 refine set_map I.kIn O c.sa c.po n.taker c.hd wi hz fun h' O' sb=>h _ ?_
 have hd:∃ o,h'.get? dx=some o:=let ⟨o,_,_,e',_⟩:=O'.ns; ⟨o,e'⟩
 refine I.write (x:=a) (e:=dx) (by rw [e]; exact True.intro) (.inr ho) (fun b q hb z=>(sb.2 b hb).trans z) hd ?_
 refine ⟨by rw [upd_ne O.ne]; exact ho,?_,O.ne,O'.obj,_,O'.ns,fun g=>?_,fun g hg=>?_⟩
 ·have:=length_putF f y fs; omega
 ·show RelO ((putF f y fs).lookup g) (if g=f then some u else mA g)
  rw [lookup_putF]
  by_cases q:g=f
  ·rw [if_pos q,if_pos q]; exact ry
  ·rw [if_neg q,if_neg q]; exact r g
 ·by_cases q:g=f
  ·rw [q]; exact (keys_putF f y fs).1
  ·refine (keys_putF f y fs).2 g (wi g fun z=>hg ?_)
   show (if g=f then some u else mA g)=none
   rw [if_neg q]; exact z
theorem Inv.made (I:Inv X pins σ H s):Inv X pins σ (upd (upd H s.heap.objs.size (.own (s.heap.objs.size + 1))) (s.heap.objs.size + 1) (.ins C s.heap.objs.size []))
  { s with heap:=(s.heap.push PySem.W.emptyDict).push (PySem.W.instObj C s.heap.objs.size) }:=by
 have e1:(s.heap.push PySem.W.emptyDict).get? s.heap.objs.size=some PySem.W.emptyDict:=Heap.get?_push_size s.heap rfl
 have e2:((s.heap.push PySem.W.emptyDict).push (PySem.W.instObj C s.heap.objs.size)).get? (s.heap.objs.size + 1)=some (PySem.W.instObj C s.heap.objs.size):=by
  have:=Heap.get?_push_size (s.heap.push PySem.W.emptyDict) (o:=PySem.W.instObj C s.heap.objs.size) rfl
  rwa [Heap.size_push] at this
 have e3:(s.heap.push PySem.W.emptyDict).Ns s.heap.objs.size (fun _=>none):=⟨PySem.W.emptyDict,#[],_,e1,rfl,(fun e he=>absurd he (by simp)),fun _=>rfl⟩
 have I1:=I.laid (a:=s.heap.objs.size) (o:=.own (s.heap.objs.size + 1)) (h':=s.heap.push PySem.W.emptyDict) (t':=s.toks) (fun b u q=>Heap.get?_push_of_some _ q) (Nat.le_refl _) ⟨_,e1⟩
 refine I1.laid (a:=s.heap.objs.size + 1) (o:=.ins C s.heap.objs.size []) (t':=s.toks) (fun b u q=>Heap.get?_push_of_some _ q) (Nat.le_of_eq (Heap.size_push _ _)) ?_
 have ne:s.heap.objs.size≠s.heap.objs.size + 1:=Nat.ne_of_lt (Nat.lt_succ_self _)
 refine ⟨by rw [upd_ne ne,upd_same],Nat.zero_le _,ne,e2,fun _=>none,(Heap.Ns1.of_empty e3).at fun o q=>Heap.get?_push_of_some _ q,fun _=>True.intro,fun y hy=>absurd rfl hy⟩
theorem attr_of {prog:Program} {w:World} {env:Env} {e:Expr} {f:Str} {pos:Pos} {s:Shared} {Q:Value→Shared→Prop} (hb:attributeBase e f env (eval e env)=eval e env)
  (h:wpAny (model prog w) A (eval e env) (fun o s₁=>wpAny (model prog w) A (getAttr o f true) Q E s₁) E s):wpAny (model prog w) A (eval (.Attribute e f pos) env) Q E s :=
 Attribute_any_ h (by rw [arm_eval_Attribute,hb])
end
def tFld (K:PySem.W.Frag) (ta:TE) (f:Str):TE:=fun σ H Q=>ta σ H fun x H1=>∃ a C dx fs v,x=.ref a∧H1 a=some (.ins C dx fs)∧Cls K C∧NoAttr K C f∧fs.lookup f=some v∧Q v H1
def sFld (K:PySem.W.Frag) (ta tv:TE) (f:Str):TS:=fun D σ H=>tv σ H fun y H1=>ta σ H1 fun x H2=>∃ a C dx fs,x=.ref a∧H2 a=some (.ins C dx fs)∧Cls K C∧NoAttr K C f∧fs.length < 1000 ∧
 D.nx σ (upd H2 a (.ins C dx (putF f y fs)))
section
variable {X:Cx} {o e value:Expr} {f:Str} {pos pos' tpos:Pos} {ta tv:TE}
theorem pe_fld (he:PE X e ta) (hb:attributeBase e f X.env (eval e X.env)=eval e X.env):PE X (.Attribute e f pos) (tFld X.K ta f):=by
 intro pins s σ H Q I h
 refine attr_of hb (thn (he pins s σ H _ I h) fun u s1 hz_=>?_)
 obtain ⟨x,H1,I1,rx,a,C,dx,fs,v,ex,ea,c,n,l,q⟩:=hz_
 subst ex
 obtain rfl:u=Value.ref a:=rx
 exact getattr_ok I1 ea c n l fun u' s2 I2 ru=>⟨v,H1,I2,ru,q⟩
theorem ps_fld (ha:PE X o ta) (hv:PE X value tv) (hs:swapsWith value (some (.Attribute o f pos')) pos.line X.env=pure false):PS X (.Assign [.Attribute o f pos'] value pos) (sFld X.K ta tv f):=by
 intro pins s σ H D I h
 refine plainObj_wpAny_Assign_Attribute (thn (hv pins s σ H _ I h) fun u s1 hz_=>?_) hs
 obtain ⟨y,H1,I1,ry,q⟩:=hz_
 refine thn (ha pins s1 σ H1 _ I1 q) fun ov s2 hz_=>?_
 obtain ⟨x,H2,I2,rx,a,C,dx,fs,ex,ea,c,n,l,q2⟩:=hz_
 subst ex
 obtain rfl:ov=Value.ref a:=rx
 exact setattr_ok I2 ea c n l ry fun s3 I3=>⟨σ,_,I3,q2⟩
theorem methcall_of {pl:Sem Bool} {m:Str} {apos:Pos} {args:List Expr} {pins:List (Addr×Obj)} {s:Shared} {σ:St} {H:Hp} {Q:Value→Shared→Prop} {te:TE} (he:PE X e te) (I:Inv X pins σ H s)
  (h:te σ H fun x H1=>∃ a C dx fs g,x=.ref a∧H1 a=some (.ins C dx fs)∧Cls X.K C∧Meth X.K C m g∧fs.lookup m=none ∧
   ∀ s1,Inv X pins σ H1 s1→wpAny (model X.prog X.w) X.A (callWith pos (.ref g) [.ref a] (backTo pos (starEach args X.env)) (backToKw pos (keywordEach [] X.env))) Q X.xe s1)
  (ht:eval (.Call (.Attribute e m apos) args [] pos) X.env=(do
   let ov ← eval e X.env
   standAt apos.atName
   let (f,first) ← holding [ov] (getMethod ov m pl)
   callWith pos f first (backTo pos (starEach args X.env)) (backToKw pos (keywordEach [] X.env)))) :
  wpAny (model X.prog X.w) X.A (eval (.Call (.Attribute e m apos) args [] pos) X.env) Q X.xe s:=by
 refine PySem.W.methodCall_KW (pl:=pl) (thn (he pins s σ H _ I h) fun u s1 hz_=>?_) ht
 obtain ⟨x,H1,I1,rx,a,C,dx,fs,g,ex,ea,c,k,l,q⟩:=hz_
 subst ex
 obtain rfl:u=Value.ref a:=rx
 exact getmeth_ok I1 ea c k l (q s1 I1)
end
section
variable {X:Cx} {pins:List (Addr×Obj)} {σ:St} {H:Hp} {s:Shared} {A:Around} {E:Value→Shared→Prop} {Q:Value→Shared→Prop} {c:Value} {b:Bool}
inductive TyOf (K:PySem.W.Frag) (H:Hp):V→Value→Prop where
 | non:TyOf K H .non (.type "NoneType")
 | bl (x:Bool):TyOf K H (.bl x) (.type "bool")
 | int (i:Int):TyOf K H (.int i) (.type "int")
 | str (x:Str):TyOf K H (.str x) (.type "str")
 | flt (x:UInt64):TyOf K H (.flt x) (.type "float")
 | lst {a:Addr} {xs:List V} (e:H a=some (.lst xs)):TyOf K H (.ref a) (.type "list")
 | frz {a:Addr} {o:Obj} {xs:List V} (e:H a=some (.frz o (.lst xs))):TyOf K H (.ref a) (.type "list")
 | tup {a:Addr} {xs:List V} (e:H a=some (.tup xs)):TyOf K H (.ref a) (.type "tuple")
 | dK {a:Addr} {kvs:List (Key×V)} (e:H a=some (.dK kvs)):TyOf K H (.ref a) (.type "dict")
 | dT {a:Addr} {kvs:List (List Key×V)} (e:H a=some (.dT kvs)):TyOf K H (.ref a) (.type "dict")
 | ins {a C dx:Addr} {fs:List (Str×V)} (e:H a=some (.ins C dx fs)) (cl:Cls K C) (ha:PySem.W.findIn K (.ref C) "__class__" = some (some (.builtin "object.__class__")))
   (hn:PySem.W.specialIn K (.builtin "object.__class__") "__get__" = some (some (.builtin "getset_descriptor.__get__"))) (htk:PySem.W.takesIn K (.builtin "object.__class__")=some true)
   (hm:PySem.W.mroIn K C (.type "object")=some true):TyOf K H (.ref a) (.ref C)
theorem isinst_ok {x:V} {u t:Value} (I:Inv X pins σ H s) (rx:RelV x u) (ty:TyOf X.K H x t) (e:PySem.W.kitOne X.K t c=some b) (h:∀ tk,Q (.bool b) { s with toks:=tk }) :
  wpAny (model X.prog X.w) A (call (.builtin "isinstance") [u,c]) Q E s:=by
 cases ty with
 | non=>cases (show u=Value.none from rx); exact PySem.W.kia_one PySem.W.kitx_none I.kIn True.intro e (fun z=>nomatch z) h
 | bl y=>cases (show u=Value.bool y from rx); exact PySem.W.kia_one PySem.W.kitx_bool I.kIn True.intro e (fun z=>nomatch z) h
 | int i=>obtain ⟨t,q⟩:=(show ∃ t,u=Value.int i t from rx); cases q; exact PySem.W.kia_one PySem.W.kitx_int I.kIn True.intro e (fun z=>nomatch z) h
 | str y=>obtain ⟨t,q⟩:=(show ∃ t,u=Value.str y t from rx); cases q; exact PySem.W.kia_one PySem.W.kitx_str I.kIn True.intro e (fun z=>nomatch z) h
 | flt y=>obtain ⟨t,q⟩:=(show ∃ t,u=Value.float y t from rx); cases q; exact PySem.W.kia_one PySem.W.kitx_float I.kIn True.intro e (fun z=>nomatch z) h
 | @lst a xs ea =>
  cases (show u=Value.ref a from rx)
  obtain ⟨_,_,n,_,h1⟩:=(show ObjOk X.prog X.w H s.heap a (.lst xs) from I.hok a _ ea)
  exact PySem.W.kia_one PySem.W.kitx_list I.kIn ⟨_,h1,rfl⟩ e (fun z=>nomatch z) h
 | @frz a ob xs ea =>
  cases (show u=Value.ref a from rx)
  obtain ⟨_,_,_,n,_,h1⟩:=(show ObjOk X.prog X.w H s.heap a (.frz ob (.lst xs)) from I.hok a _ ea)
  exact PySem.W.kia_one PySem.W.kitx_list I.kIn ⟨_,h1,rfl⟩ e (fun z=>nomatch z) h
 | @tup a xs ea =>
  cases (show u=Value.ref a from rx)
  obtain ⟨_,_,_,p⟩:=(show ObjOk X.prog X.w H s.heap a (.tup xs) from I.hok a _ ea)
  obtain ⟨o,h1,h2,_⟩:=p
  exact PySem.W.kia_one PySem.W.kitx_tuple I.kIn ⟨o,h1,h2⟩ e (fun z=>nomatch z) h
 | @dK a kvs ea =>
  cases (show u=Value.ref a from rx)
  obtain ⟨_,_,vs,_,p⟩:=(show ObjOk X.prog X.w H s.heap a (.dK kvs) from I.hok a _ ea)
  obtain ⟨o,es,ep,h1,h2,_⟩:=p
  exact PySem.W.kia_one PySem.W.kitx_dict I.kIn ⟨o,h1,h2.1⟩ e (fun z=>nomatch z) h
 | @dT a kvs ea =>
  cases (show u=Value.ref a from rx)
  obtain ⟨_,_,xs,_,o,es,ep,h1,h2,_⟩:=(show ObjOk X.prog X.w H s.heap a (.dT kvs) from I.hok a _ ea)
  exact PySem.W.kia_one PySem.W.kitx_dict I.kIn ⟨o,h1,h2.1⟩ e (fun z=>nomatch z) h
 | @ins a C dx fs ea cl ha hn htk hm =>
  cases (show u=Value.ref a from rx)
  obtain ⟨mA,O,_⟩:=ins_get I.hok ea
  obtain ⟨od,J,_⟩:=O.look
  exact PySem.W.kia_one (PySem.W.kitx_own (cl.get _) cl.hd ha hn htk hm) I.kIn J e (fun z=>nomatch z) h
end
end L2
namespace L2
open PySem PySem.Spec PyProof.Rows
structure Room (k:Nat) (A:Around):Prop where
 hd:A.handled=none
 dp:A.depth + 3 * k + 5 < recursionLimit
 un:A.units + 16 * k + 200 < cLine
theorem Room.mono {j k:Nat} {A:Around} (r:Room k A) (h:j≤k):Room j A:=⟨r.hd,by have:=r.dp; omega,by have:=r.un; omega⟩
theorem Room.deeper {k:Nat} {A:Around} (r:Room (k + 1) A) (env:Env):Room k (A.deeper env) :=
 ⟨r.hd,by have:=r.dp; show A.depth + 1 + 3 * k + 5 < _; omega,by have:=r.un; show A.units + 3 + 16 * k + 200 < _; omega⟩
theorem Room.in1 {k:Nat} {A:Around} (r:Room (k + 1) A):Room k A.in1 :=
 ⟨r.hd,by have:=r.dp; show A.depth + 3 * k + 5 < _; omega,by have:=r.un; show A.units + 1 + 16 * k + 200 < _; omega⟩
theorem make_depth {A:Around} {C:Addr} {us:List Value} {kw:List (Str×Value)}:(A.under (.builtin "type.__call__" ⟨.ref C::us,kw⟩)).depth=A.depth + 1:=by
 first | rfl | simp [Around.under,Code.weight,Code.isCreation,Code.isGuard,Code.isCaller,Code.frames,Code.isFrame,guardIds]
theorem make_units {A:Around} {C:Addr} {us:List Value} {kw:List (Str×Value)}:(A.under (.builtin "type.__call__" ⟨.ref C::us,kw⟩)).units=A.units + 1:=by
 first | rfl | simp [Around.under,Code.cUnits,Code.frames,Code.isFrame]
theorem Room.make {k:Nat} {A:Around} (r:Room (k + 1) A) (C:Addr) (us:List Value) (kw:List (Str×Value)):Room k (A.under (.builtin "type.__call__" ⟨.ref C::us,kw⟩)) :=
 ⟨r.hd,by have:=r.dp; rw [make_depth]; omega,by have:=r.un; rw [make_units]; omega⟩
theorem Room.depth {k:Nat} {A:Around} (r:Room k A):A.depth < recursionLimit:=by have:=r.dp; omega
theorem Room.units {k:Nat} {A:Around} (r:Room k A):A.units + 64 < cLine:=by have:=r.un; omega
def tNil:TA:=fun _ H Q=>Q [] H
def tCons (ta:TE) (tr:TA):TA:=fun σ H Q=>ta σ H fun x H1=>tr σ H1 fun xs H2=>Q (x::xs) H2
section
variable {X:Cx} {e:Expr} {es:List Expr} {te:TE} {t:TA} {pos:Pos}
theorem pa_nil:PA X [] tNil:=fun _ _ _ _ H Q I h=>Calls.spliced_nil ⟨[],H,I,.nil,h⟩
theorem pa_cons (ha:PE X e te) (hr:PA X es t) (hs:starEach (e::es) X.env=(false,eval e X.env)::starEach es X.env:=by rfl):PA X (e::es) (tCons te t):=by
 intro pos pins s σ H Q I h
 rw [hs]
 show wpAny _ _ (spliced ((false,eval e X.env)::backTo pos (starEach es X.env))) _ _ s
 refine Calls.spliced_cons (thn (ha pins s σ H _ I h) fun u s1 hz_=>?_)
 obtain ⟨x,H1,I1,r1,q1⟩:=hz_
 refine thn (hr pos pins s1 σ H1 _ I1 q1) fun us s2 hz_=>?_
 obtain ⟨xs,H2,I2,r2,q2⟩:=hz_
 exact ⟨x::xs,H2,I2,.cons r1 r2,q2⟩
def tTup (t:TA):TE:=fun σ H Q=>t σ H fun xs H1=>xs.length≤sizeLine∧∀ p,H1 p=none→Q (.ref p) (upd H1 p (.tup xs))
def tLst (t:TA):TE:=fun σ H Q=>t σ H fun xs H1=>xs.length≤sizeLine∧∀ p,H1 p=none→Q (.ref p) (upd H1 p (.lst xs))
theorem pe_tup {x1} (h:PA X es t):PE X (.Tuple es x1 pos) (tTup t):=by
 intro pins s σ H Q I hq
 refine wpAny_Tuple_spliced (thn (h pos pins s σ H _ I hq) fun us s1 hz_=>?_)
 obtain ⟨xs,H1,I1,r,z,q⟩:=hz_
 refine ⟨by rw [← r.length]; exact z,?_⟩
 have hf:H1 s1.heap.objs.size=none:=I1.hok.fresh (Nat.le_refl _)
 refine ⟨.ref s1.heap.objs.size,upd H1 s1.heap.objs.size (.tup xs),I1.laid (t':=s1.toks) (fun b u e=>Heap.get?_push_of_some _ e) (Nat.le_refl _) ?_,rfl,q _ hf⟩
 exact ⟨z,us,r,⟨_,Heap.get?_push_size _ rfl,rfl,_,rfl⟩⟩
theorem pe_lst (h:PA X es t):PE X (.List es pos) (tLst t):=by
 intro pins s σ H Q I hq
 refine wpAny_List_spliced (thn (h pos pins s σ H _ I hq) fun us s1 hz_=>?_)
 obtain ⟨xs,H1,I1,r,z,q⟩:=hz_
 refine ⟨by rw [← r.length]; exact z,?_⟩
 have hf:H1 s1.heap.objs.size=none:=I1.hok.fresh (Nat.le_refl _)
 refine ⟨.ref s1.heap.objs.size,upd H1 s1.heap.objs.size (.lst xs),I1.laid (t':=s1.toks) (fun b u e=>Heap.get?_push_of_some _ e) (Nat.le_refl _) ?_,rfl,q _ hf⟩
 exact ⟨z,us,0,r,Heap.get?_push_size _ rfl⟩
end
abbrev Sp:=List V→Hp→VK→XK→Prop
abbrev CXT:=List Env→Hp→Shared→XK→Value→Shared→Prop
structure Env0 (P:Program) (w:World) (K:PySem.W.Frag) (mg:Str→Option Value) (base:Heap) (A:Around) (outer:List Env) (s:Shared) (H:Hp):Prop where
 frames:A.frames=some outer
 mod:Mod K mg base
 bs:∀ b o,base.get? b=some o→s.heap.get? b=some o∧H b=none
 bsz:base.objs.size≤s.heap.objs.size
 funs:s.heap.FunFrames base outer
 frf:∀ b∈frs outer,H b=none
 hok:HOk P w H s.heap
 bare:AllBare s.gens
def CE (outer:List Env) (P:Program) (w:World) (H:Hp) (s:Shared) (Q:VK) (u:Value) (s':Shared):Prop :=
 ∃ v H',s'.os=s.os∧AllBare s'.gens∧Un (frs outer) [] H H' s.heap s'.heap∧HOk P w H' s'.heap∧RelV v u∧Q v H'
def CR (CX:CXT) (outer:List Env) (P:Program) (w:World) (H:Hp) (s:Shared) (Q:VK) (E:XK) (r:Result) (s':Shared):Prop :=
 match r with
 | .ok (.ret u)=>CE outer P w H s Q u s'
 | .ok _=>False
 | .error e=>CX outer H s E e s'
structure FnOk (P:Program) (w:World) (K:PySem.W.Frag) (mg:Str→Option Value) (base:Heap) (CX:CXT) (k:Nat) (f:Addr) (fd:FuncData) (ps:List Str) (sp:Sp):Prop where
 len:∀ vs H Q E,sp vs H Q E→vs.length=ps.length
 run:∀ (A:Around) (outer:List Env) (s:Shared) (H:Hp) (args:Args) (us:List Value) (vs:List V) (Q:VK) (E:XK),Room k A→Env0 P w K mg base A outer s H→BindsTo s fd args (ps.zip us)→Vals vs us→sp vs H Q E →
  codeAny (model P w) A (.call (.ref f) args) (CR CX outer P w H s Q E) s
theorem FnOk.imp {P:Program} {w:World} {K:PySem.W.Frag} {mg:Str→Option Value} {base:Heap} {CX:CXT} {k:Nat} {f:Addr} {fd:FuncData} {ps:List Str} {sp sp':Sp} (F:FnOk P w K mg base CX k f fd ps sp)
  (h:∀ vs H Q E,sp' vs H Q E→sp vs H Q E):FnOk P w K mg base CX k f fd ps sp' :=
 ⟨fun vs H Q E q=>F.len vs H Q E (h _ _ _ _ q),fun A outer s H args us vs Q E hr he hb hv hs=>F.run A outer s H args us vs Q E hr he hb hv (h _ _ _ _ hs)⟩
theorem Env0.make {P:Program} {w:World} {K:PySem.W.Frag} {mg:Str→Option Value} {base:Heap} {A:Around} {outer:List Env} {s:Shared} {H:Hp} (e:Env0 P w K mg base A outer s H) (C:Addr) (us:List Value) (kw:List (Str×Value)) :
  Env0 P w K mg base (A.under (.builtin "type.__call__" ⟨.ref C::us,kw⟩)) outer s H:=⟨by first | exact e.frames | (simpa [Around.under,Code.envs,Code.isFrame,pushEnvs] using e.frames),e.mod,e.bs,e.bsz,e.funs,e.frf,e.hok,e.bare⟩
section
variable {X:Cx} {pins:List (Addr×Obj)} {σ:St} {H:Hp} {s s':Shared}
theorem Inv.env0 (I:Inv X pins σ H s):Env0 X.prog X.w X.K X.mg X.base X.A X.stack s H :=
 ⟨I.ok.frames,I.ok.mod,I.bs,Nat.le_trans I.ok.bsz I.sz,I.stack,I.stkFree,I.hok,I.bare⟩
theorem Inv.after {Q:VK} {u:Value} (I:Inv X pins σ H s) (h:CE X.stack X.prog X.w H s Q u s'):EP X pins σ Q u s':=by
 obtain ⟨v,H',os,bare,un,hok,r,q⟩:=h
 obtain ⟨hh,g,d,t,os'⟩:=s'
 obtain rfl:os'=s.os:=os
 exact ⟨v,H',I.call (h':=hh) (g':=g) (d':=d) (t':=t) (ch:=[]) un hok bare (fun b z=>absurd z (by simp)),r,q⟩
end
def tCall (sp:Sp) (dvs:List V) (E:XK) (t:TA):TE:=fun σ H Q=>t σ H fun vs H1=>sp (vs++dvs) H1 Q E
def tMeth (C:Addr) (m:Str) (sp:Sp) (dvs:List V) (E:XK) (ta:TE) (t:TA):TE:=fun σ H Q=>ta σ H fun x H1=>∃ a dx fs,x=.ref a∧H1 a=some (.ins C dx fs)∧fs.lookup m=none ∧
 t σ H1 fun vs H2=>sp (x::(vs++dvs)) H2 Q E
def tMake (C:Addr) (sp:Sp) (dvs:List V) (E:XK) (t:TA):TE:=fun σ H Q=>t σ H fun vs H1=>∀ x dx,H1 x=none→H1 dx=none→dx≠x →
 sp (.ref x::(vs++dvs)) (upd (upd H1 dx (.own x)) x (.ins C dx [])) (fun v H2=>v=.non∧Q (.ref x) H2) E
def Binds (K:PySem.W.Frag) (fd:FuncData) (ps:List Str) (ds:List Value):Prop :=
 ∀ (s:Shared) (us:List Value),K.In s.heap→(us++ds).length=ps.length→BindsTo s fd ⟨us,[]⟩ (ps.zip (us++ds))
theorem Binds.all {K:PySem.W.Frag} {fd:FuncData} {ps:List Str} (h:∀ us:List Value,us.length=ps.length→bindArgs fd ⟨us,[]⟩=pure (ps.zip us)):Binds K fd ps []:=fun s us _ hl=>by
 rw [List.append_nil] at hl ⊢
 exact .of_eq (h us hl)
def Passes (CX:CXT) (X:Cx) (E:XK):Prop:=∀ (pins:List (Addr×Obj)) (σ:St) (H:Hp) (s:Shared) (e:Value) (s':Shared),Inv X pins σ H s→CX X.stack H s E e s'→X.xe e s'
section
variable {X:Cx} {CX:CXT} {k:Nat} {f C:Addr} {fd:FuncData} {ps:List Str} {sp:Sp} {dvs:List V} {ds:List Value} {E:XK} {x m:Str} {p pos apos:Pos} {e o:Expr} {es:List Expr} {ta:TE} {t:TA}
theorem run_fn {pins:List (Addr×Obj)} {σ:St} {H:Hp} {s:Shared} {Q:VK} {us:List Value} {vs:List V} (F:FnOk X.prog X.w X.K X.mg X.base CX k f fd ps sp) (hr:Room k X.A) (hb:Binds X.K fd ps ds) (hd:Vals dvs ds) (hx:Passes CX X E)
  (I:Inv X pins σ H s) (r:Vals vs us) (h:sp (vs++dvs) H Q E):wpAny (model X.prog X.w) X.A (call (.ref f) us) (EP X pins σ Q) X.xe s:=by
 have r2:Vals (vs++dvs) (us++ds):=r.append hd
 have hl:(us++ds).length=ps.length:=by rw [← r2.length]; exact F.len _ _ _ _ h
 refine wpAny_call (codeAny_mono (F.run X.A X.stack s H ⟨us,[]⟩ (us++ds) (vs++dvs) Q E hr I.env0 (hb s us I.kIn hl) r2 h) fun r s' hq=>?_)
 cases r with
 | error e=>exact hx pins σ H s e s' I hq
 | ok fl =>
  cases fl with
  | ret u=>exact I.after hq
  | next=>exact False.elim hq
  | brk=>exact False.elim hq
  | cont=>exact False.elim hq
theorem pe_call (F:FnOk X.prog X.w X.K X.mg X.base CX k f fd ps sp) (hr:Room k X.A) (hg:Gl X x) (hm:X.mg x=some (.ref f)) (hk:PySem.W.keepIn X.K (.ref f)=true) (hb:Binds X.K fd ps ds) (hd:Vals dvs ds) (hx:Passes CX X E)
  (ha:PA X (e::es) t) (hdb:(x == ("__debug__" : Str))=false:=by decide) (he:starEach (e::es) X.env=(false,eval e X.env)::starEach es X.env:=by rfl) (hpl:(backTo pos (starEach es X.env)).any (·.1)=false:=by rfl) :
  PE X (.Call (.Name x p) (e::es) [] pos) (tCall sp dvs E t):=by
 intro pins s σ H Q I h
 refine wpAny_Call_Name_kw (ld_glob I hg hm ?_ hdb)
 refine PySem.W.callWith_K (h₀:=X.base) I.ok.mod.kin hk (thn (ha pos pins s σ H _ I h) fun us s1 hz_=>?_) he hpl
 obtain ⟨vs,H1,I1,r,q⟩:=hz_
 refine ⟨I1.kIn,?_⟩
 exact run_fn F hr hb hd hx I1 r q
theorem pe_meth0 {pl:Sem Bool} (he:PE X o ta) (c:Cls X.K C) (hm:Meth X.K C m f) (F:FnOk X.prog X.w X.K X.mg X.base CX k f fd ps sp) (hr:Room k X.A) (hb:Binds X.K fd ps ds) (hd:Vals dvs ds) (hx:Passes CX X E)
  (ht:eval (.Call (.Attribute o m apos) [] [] pos) X.env=(do
   let ov ← eval o X.env
   standAt apos.atName
   let (f,first) ← holding [ov] (getMethod ov m pl)
   callWith pos f first (backTo pos (starEach [] X.env)) (backToKw pos (keywordEach [] X.env))):=by rfl) :
  PE X (.Call (.Attribute o m apos) [] [] pos) (tMeth C m sp dvs E ta tNil):=by
 intro pins s σ H Q I h
 refine PySem.W.methodCall_KW (pl:=pl) (thn (he pins s σ H _ I h) fun u s1 hz_=>?_) ht
 obtain ⟨x,H1,I1,rx,a,dx,fs,ex,ea,l,q⟩:=hz_
 subst ex
 obtain rfl:u=Value.ref a:=rx
 refine getmeth_ok I1 ea c hm l ?_
 exact PySem.W.callWith_K0 (first:=[.ref a]) I1.kIn hm.kp (run_fn (us:=[.ref a]) (vs:=[.ref a]) F hr hb hd hx I1 (.cons rfl .nil) q)
structure Mk (K:PySem.W.Frag) (C f:Addr):Prop where
 makes:PySem.W.makesIn K C=true
 init:PySem.W.findIn K (.ref C) "__init__" = some (some (.ref f))
 fn:PySem.W.isFn K (.ref f)=true
 kp:PySem.W.keepIn K (.ref C)=true
theorem run_make {pins:List (Addr×Obj)} {σ:St} {H:Hp} {s:Shared} {Q:VK} {us:List Value} {vs:List V} (M:Mk X.K C f) (F:FnOk X.prog X.w X.K X.mg X.base CX k f fd ps sp) (hr:Room (k + 1) X.A) (hb:Binds X.K fd ps ds) (hd:Vals dvs ds)
  (hx:Passes CX X E) (I:Inv X pins σ H s) (r:Vals vs us)
  (h:∀ x dx,H x=none→H dx=none→dx≠x→sp (.ref x::(vs++dvs)) (upd (upd H dx (.own x)) x (.ins C dx [])) (fun v H2=>v=.non∧Q (.ref x) H2) E) :
  wpAny (model X.prog X.w) X.A (call (.ref C) us) (EP X pins σ Q) X.xe s:=by
 have hq:=h (s.heap.objs.size + 1) s.heap.objs.size (I.hok.fresh (Nat.le_succ _)) (I.hok.fresh (Nat.le_refl _)) (Nat.ne_of_lt (Nat.lt_succ_self _))
 have I2:=Inv.made (C:=C) I
 have r2:Vals (V.ref (s.heap.objs.size + 1)::(vs++dvs)) (Value.ref (s.heap.objs.size + 1)::(us++ds)):=.cons rfl (r.append hd)
 have hl:(Value.ref (s.heap.objs.size + 1)::us++ds).length=ps.length:=by
  have e:=r2.length
  rw [F.len _ _ _ _ hq] at e
  exact e.symm
 refine wpAny_call (make_map (f:=f) I.kIn M.makes M.init (beq_iff_eq.mp M.fn) (codeAny_mono (F.run _ X.stack _ _ ⟨Value.ref (s.heap.objs.size + 1)::us,[]⟩ (Value.ref (s.heap.objs.size + 1)::(us++ds)) _ _ E (hr.make C us [])
  (I2.env0.make C us []) (hb _ (Value.ref (s.heap.objs.size + 1)::us) I2.kIn hl) r2 hq) fun r s' hq'=>?_))
 cases r with
 | error e=>exact hx pins σ _ _ e s' I2 hq'
 | ok fl =>
  cases fl with
  | ret u =>
   obtain ⟨v,H',I3,rv,ev,q3⟩:=I2.after hq'
   subst ev
   exact ⟨rv,⟨V.ref (s.heap.objs.size + 1),H',I3,rfl,q3⟩⟩
  | next=>exact False.elim hq'
  | brk=>exact False.elim hq'
  | cont=>exact False.elim hq'
theorem pe_make (M:Mk X.K C f) (F:FnOk X.prog X.w X.K X.mg X.base CX k f fd ps sp) (hr:Room (k + 1) X.A) (hg:Gl X x) (hm:X.mg x=some (.ref C)) (hb:Binds X.K fd ps ds) (hd:Vals dvs ds) (hx:Passes CX X E)
  (ha:PA X (e::es) t) (hdb:(x == ("__debug__" : Str))=false:=by decide) (he:starEach (e::es) X.env=(false,eval e X.env)::starEach es X.env:=by rfl) (hpl:(backTo pos (starEach es X.env)).any (·.1)=false:=by rfl) :
  PE X (.Call (.Name x p) (e::es) [] pos) (tMake C sp dvs E t):=by
 intro pins s σ H Q I h
 refine wpAny_Call_Name_kw (ld_glob I hg hm ?_ hdb)
 refine PySem.W.callWith_K (h₀:=X.base) I.ok.mod.kin M.kp (thn (ha pos pins s σ H _ I h) fun us s1 hz_=>?_) he hpl
 obtain ⟨vs,H1,I1,r,q⟩:=hz_
 refine ⟨I1.kIn,?_⟩
 exact run_make M F hr hb hd hx I1 r q
end
def PK (X:Cx) (kws:List Keyword) (t:TA):Prop :=
 ∀ (pos:Pos) (pins:List (Addr×Obj)) (s:Shared) (σ:St) (H:Hp) (Q:List V→Hp→Prop),Inv X pins σ H s→t σ H Q→wpAny (model X.prog X.w) X.A (evalAll ((backToKw pos (keywordEach kws X.env)).map (·.2))) (AP X pins σ Q) X.xe s
section
variable {X:Cx} {CX:CXT} {k:Nat} {f C:Addr} {fd:FuncData} {ps ks:List Str} {sp:Sp} {E:XK} {x m:Str} {p pos apos kpos:Pos} {e o:Expr} {es:List Expr} {kws:List Keyword} {te ta:TE} {t tk:TA} {nm:Option Str}
theorem pk_nil:PK X [] tNil:=fun _ _ _ _ H Q I h=>wpAny_evalAll_nil ⟨[],H,I,.nil,h⟩
theorem pk_cons (ha:PE X e te) (hr:PK X kws t):PK X (⟨nm,e,kpos⟩::kws) (tCons te t):=by
 intro pos pins s σ H Q I h
 show wpAny _ _ (evalAll ((do let v ← eval e X.env; standAt pos; pure v)::(backToKw pos (keywordEach kws X.env)).map (·.2))) _ _ s
 refine wpAny_evalAll_cons (wpAny_bind (thn (ha pins s σ H _ I h) fun u s1 hz_=>?_))
 obtain ⟨x,H1,I1,r1,q1⟩:=hz_
 refine wpAny_bind (wpAny_standAt (wpAny_pure ?_))
 refine thn (hr pos pins s1 σ H1 _ I1 q1) fun us s2 hz_=>?_
 obtain ⟨xs,H2,I2,r2,q2⟩:=hz_
 exact ⟨x::xs,H2,I2,.cons r1 r2,q2⟩
variable {g:List Value→List Value→List Value} {gV:List V→List V→List V}
end
structure FnScope (N P:List Str) (sc:Scope):Prop where
 kind:sc.kind=.function
 co:sc.isCoroutine=false
 gen:sc.isGenerator=false
 nd:N.Nodup
 pre:N.take P.length=P
 par:∀ x∈P,sc.names.lookup x=some .local∨sc.names.lookup x=some .cell
 nofree:∀ y∈sc.names,y.2≠.free
theorem bindL_out {kindOf:Str→Option NameKind} {x:Str}:∀ {binds:List (Str×Value)} {m:Str→Option Value},(∀ v,(x,v) ∉ binds)→bindL kindOf binds m x=m x
 | [],_,_=>rfl
 | (n,v)::r,m,h=>by
  unfold bindL
  rw [bindL_out fun w hw=>h w (List.mem_cons_of_mem _ hw)]
  split
  ·have:x≠n:=by rintro rfl; exact h v List.mem_cons_self
   simp [this]
  ·rfl
theorem bindC_out {kindOf:Str→Option NameKind} {x:Str}:∀ {binds:List (Str×Value)} {m:Str→Option Value},(∀ v,(x,v) ∉ binds)→bindC kindOf binds m x=m x
 | [],_,_=>rfl
 | (n,v)::r,m,h=>by
  unfold bindC
  rw [bindC_out fun w hw=>h w (List.mem_cons_of_mem _ hw)]
  split
  ·rfl
  ·have:x≠n:=by rintro rfl; exact h v List.mem_cons_self
   simp [this]
theorem bindL_get {kindOf:Str→Option NameKind} {x:Str} {v:Value}:∀ {P:List Str} {vs:List Value} {i:Nat} {m:Str→Option Value},P.Nodup→P[i]?=some x→vs[i]?=some v→kindOf x=some .local →
  bindL kindOf (P.zip vs) m x=some v
 | [],_,_,_,_,h,_,_=>by simp at h
 | _::_,[],_,_,_,_,h,_=>by simp at h
 | p::P,w::vs,0,m,nd,h1,h2,hk=>by
  simp at h1 h2; subst h1; subst h2
  show bindL kindOf ((p,w)::P.zip vs) m p=_
  unfold bindL
  rw [bindL_out fun v hv=>(List.nodup_cons.mp nd).1 (List.of_mem_zip hv).1,if_pos hk]
  simp
 | p::P,w::vs,i + 1,m,nd,h1,h2,hk=>by
  show bindL kindOf ((p,w)::P.zip vs) m x=_
  unfold bindL
  exact bindL_get (i:=i) (List.nodup_cons.mp nd).2 (by simpa using h1) (by simpa using h2) hk
theorem bindC_get {kindOf:Str→Option NameKind} {x:Str} {v:Value}:∀ {P:List Str} {vs:List Value} {i:Nat} {m:Str→Option Value},P.Nodup→P[i]?=some x→vs[i]?=some v→kindOf x≠some .local →
  bindC kindOf (P.zip vs) m x=some v
 | [],_,_,_,_,h,_,_=>by simp at h
 | _::_,[],_,_,_,_,h,_=>by simp at h
 | p::P,w::vs,0,m,nd,h1,h2,hk=>by
  simp at h1 h2; subst h1; subst h2
  show bindC kindOf ((p,w)::P.zip vs) m p=_
  unfold bindC
  rw [bindC_out fun v hv=>(List.nodup_cons.mp nd).1 (List.of_mem_zip hv).1,if_neg hk]
  simp
 | p::P,w::vs,i + 1,m,nd,h1,h2,hk=>by
  show bindC kindOf ((p,w)::P.zip vs) m x=_
  unfold bindC
  exact bindC_get (i:=i) (List.nodup_cons.mp nd).2 (by simpa using h1) (by simpa using h2) hk
def start (N:List Str) (vs:List V):St:=vs.map some++List.replicate (N.length - vs.length) none
def cxOf (CX:CXT) (P:Program) (w:World) (K:PySem.W.Frag) (mg:Str→Option Value) (base:Heap) (N:List Str) (qual:Str) (scope:Scope) (f:Addr) (cd:Value) (A:Around) (outer:List Env) (s:Shared) (H:Hp) (E:XK):Cx where
 prog:=P
 w:=w
 K:=K
 mg:=mg
 base:=base
 A:=A.deeper (envOfC qual scope s.heap.objs.size f cd)
 N:=N
 s₀:=s
 H₀:=H
 env:=envOfC qual scope s.heap.objs.size f cd
 outer:=outer
 stack:=envOfC qual scope s.heap.objs.size f cd::outer
 ex:=[]
 calm:=true
 fn:=fun _=>true
 pn:=[]
 xe:=fun e s'=>wpAny (model P w) (A.deeper (envOfC qual scope s.heap.objs.size f cd)) (leaving (envOfC qual scope s.heap.objs.size f cd) e) (fun _ s''=>CX outer H s E e s'') (fun e' s''=>CX outer H s E e' s'') s'
theorem cell_has {sc:Scope} {n:Nat} {x:Str} (h:sc.names.lookup x=some .cell):∃ c,(cellsFrom n sc.names []).lookup x=some c:=by
 have q:=PySem.W.cellsFrom_some sc.names n [] (.inl h)
 exact Option.isSome_iff_exists.mp q
theorem inv_start {CX:CXT} {P:Program} {w:World} {K:PySem.W.Frag} {mg:Str→Option Value} {base:Heap} {N ps:List Str} {qual:Str} {scope:Scope} {f:Addr} {cd:Value} {A:Around} {outer:List Env} {s s1:Shared} {H:Hp} {E:XK} {us:List Value} {vs:List V}
  (S:FnScope N ps scope) (hd:A.handled=none) (e0:Env0 P w K mg base A outer s H) (hl:vs.length=ps.length) (r:Vals vs us)
  (x:InCallC s s.heap.objs.size (bindL (envOfC qual scope s.heap.objs.size f cd).kindOf (ps.zip us) fun _=>none) (cellsFrom (s.heap.objs.size + 1) scope.names []) (bindC (envOfC qual scope s.heap.objs.size f cd).kindOf (ps.zip us) fun _=>none) s1) :
  Inv (cxOf CX P w K mg base N qual scope f cd A outer s H E) [] (start N vs) H s1:=by
 have hpl:ps.length≤N.length:=by have:=congrArg List.length S.pre; rw [List.length_take] at this; omega
 obtain ⟨h1,tk,rfl,hk⟩:=x.done
 have noA:∀ b:Addr,b ∉ (cxOf CX P w K mg base N qual scope f cd A outer s H E).ex:=fun b z=>absurd (show b∈([]:List Addr) from z) (by simp)
 refine ⟨⟨e0.mod,S.kind,rfl,rfl,Nat.le_refl _,fun y z c h1 h2=>?_,fun y hy=>?_,fun y c _ h=>?_,fun _=>hd,Around.frames_deeper e0.frames,.inr ⟨rfl,rfl⟩,fun b z=>absurd z (noA b),e0.bs,e0.bsz,fun b _ _=>noA b,fun b z=>absurd z (noA b),e0.funs,e0.frf⟩,
  rfl,e0.bare,Un.kept hk,⟨_,x.toInCall.ns,fun i y v h1 h2 h3=>?_⟩,fun y c h=>⟨_,x.cell y c h⟩,e0.hok.fresh (Nat.le_refl _),fun y c h=>?_,fun p hp=>absurd (show p∈([]:List (Addr×Obj)) from hp) (by simp),e0.hok.kept hk,?_⟩
 ·exact name_of_addr x.apart (PySem.mem_of_lookup h1) (PySem.mem_of_lookup h2)
 ·have hy:scope.names.lookup y=some .cell∨scope.names.lookup y=some .free:=hy
  rcases hy with hy | hy
  ·exact cell_has hy
  ·exact absurd rfl (S.nofree _ (PySem.mem_of_lookup hy))
 ·exact Nat.le_of_lt (x.above y c (PySem.mem_of_lookup h))
 ·have hi:i < vs.length:=by
   unfold start at h2
   by_cases hi:i < vs.length
   ·exact hi
   ·rw [List.getElem?_append_right (by simpa using hi)] at h2
    rw [List.getElem?_replicate] at h2
    split at h2 <;> cases h2
  have ha:vs[i]?=some v:=by
   unfold start at h2
   rw [List.getElem?_append_left (by simpa using hi),List.getElem?_map] at h2
   cases e:vs[i]? with
   | none=>rw [e] at h2; cases h2
   | some a=>rw [e] at h2; cases h2; rfl
  obtain ⟨u,hu,rv⟩:=r.get ha
  have hp:ps[i]?=some y:=by
   rw [← S.pre,List.getElem?_take_of_lt (by omega)]; exact h1
  have ndP:ps.Nodup:=by rw [← S.pre]; exact S.nd.sublist (List.take_sublist _ _)
  refine ⟨u,rv,?_⟩
  rcases S.par y (List.mem_of_getElem? hp) with k | k
  ·exact .inl ⟨k,bindL_get ndP hp hu k⟩
  ·obtain ⟨c,e⟩:=cell_has (n:=s.heap.objs.size + 1) k
   refine .inr ⟨.inl k,c,e,?_⟩
   have q:=x.cell y c e
   rw [bindC_get ndP hp hu (by show scope.names.lookup y≠_; rw [k]; decide)] at q
   exact q
 ·exact e0.hok.fresh (Nat.le_of_lt (x.above y c (PySem.mem_of_lookup h)))
 ·unfold start
  show _=N.length
  rw [List.length_append,List.length_map,List.length_replicate]
  omega
theorem fn_of {CX:CXT} {P:Program} {w:World} {K:PySem.W.Frag} {mg:Str→Option Value} {base:Heap} {k:Nat} {f:Addr} {name qual:Str} {params:Arguments} {body:List Stmt} {scope:Scope} {dV kV doc pm cdv ct oc:Value} {an od:Option Addr}
  {osl:Array (Option Value)} {N ps:List Str} {sp:Sp} (lk:K.lookup f=some ⟨oc,od,.func (PySem.W.fnOf name qual params body scope dV kV doc pm an cdv ct),osl⟩) (hcd:PySem.W.codeIn K cdv qual=true) (S:FnScope N ps scope)
  (len:∀ vs H Q E,sp vs H Q E→vs.length=ps.length)
  (hbody:∀ (A:Around) (outer:List Env) (s:Shared) (H:Hp) (vs:List V) (Q:VK) (E:XK),Room k (A.deeper (envOfC qual scope s.heap.objs.size f cdv))→sp vs H Q E →
   ∃ t,PSs (cxOf CX P w K mg base N qual scope f cdv A outer s H E) body t∧t { nx:=fun _ H'=>Q .non H',rt:=Q } (start N vs) H) :
  FnOk P w K mg base CX (k + 1) f (PySem.W.fnOf name qual params body scope dV kV doc pm an cdv ct) ps sp:=by
 refine ⟨len,fun A outer s H args us vs Q E hr e0 hb r hsp=>?_⟩
 have hl:=len _ _ _ _ hsp
 have KX:K.In s.heap:=e0.mod.kin.keeps fun b o e=>(e0.bs b o e).1
 have lim:s.heap.NoLimit:=e0.mod.nolimit.keeps fun b o e=>(e0.bs b o e).1
 have hkind:∀ y∈ps.zip us,scope.names.lookup y.1=some .local∨(scope.names.lookup y.1=some .cell∧((cellsFrom (s.heap.objs.size + 1) scope.names []).lookup y.1).isSome=true):=fun ⟨n,v⟩ hy=>by
  rcases S.par n (List.of_mem_zip hy).1 with q | q
  ·exact .inl q
  ·exact .inr ⟨q,PySem.W.cellsFrom_some _ _ _ (.inl q)⟩
 refine codeAny_call_function hr.depth (KX _ _ lk) rfl S.co S.gen rfl (PySem.W.codeRec_of KX hcd) (hb _ _ _ _ ?_)
 refine wpAny_newFunctionEnv_cells S.kind hkind fun env he s1 x=>?_
 subst he
 refine ⟨lim.keeps x.toInCall.keep,codeAny_func ?_⟩
 obtain ⟨t,ht,hq⟩:=hbody A outer s H vs Q E (hr.deeper _) hsp
 have I:Inv (cxOf CX P w K mg base N qual scope f cdv A outer s H E) [] (start N vs) H s1:=inv_start S hr.hd e0 hl r x
 refine wpAny_mono (ht [] s1 (start N vs) H _ I hq) (fun fl s' hs=>?_) fun e s' hs=>hs
 have fin:∀ {σ':St} {H':Hp} {v:V} {u:Value},Inv (cxOf CX P w K mg base N qual scope f cdv A outer s H E) [] σ' H' s'→RelV v u→Q v H'→CE outer P w H s Q u s' :=
  fun {σ' H' v u} J rv q=>⟨v,H',J.os,J.bare,J.base,J.hok,rv,q⟩
 cases fl with
 | ret u =>
  obtain ⟨v,σ',H',J,rv,q⟩:=hs
  exact fin J rv q
 | next =>
  obtain ⟨σ',H',J,q⟩:=hs
  exact fin (v:=V.non) (u:=Value.none) J rfl q
 | brk =>
  obtain ⟨_,_,_,q⟩:=hs
  exact False.elim q
 | cont =>
  obtain ⟨_,_,_,q⟩:=hs
  exact False.elim q
end L2
namespace L2
open PySem PySem.Spec PyProof.Rows
section
variable {X:Cx} {x:Str} {p pos:Pos} {e:Expr} {es:List Expr} {t:TA} {id T:String} {r:List V→Hp→VK→Prop}
def tCB (r:List V→Hp→VK→Prop) (t:TA):TE:=fun σ H Q=>t σ H fun vs H1=>r vs H1 Q
theorem pe_callB (hc:CallR X (.builtin id) r) (hg:Gl X x) (hm:X.mg x=none) (hv:bootBuiltins x=some (.builtin id)) (ha:PA X (e::es) t) (hn:x ≠ "__name__" := by decide) (hdb:(x == ("__debug__" : Str))=false:=by decide)
  (he:starEach (e::es) X.env=(false,eval e X.env)::starEach es X.env:=by rfl) (hpl:(backTo pos (starEach es X.env)).any (·.1)=false:=by rfl):PE X (.Call (.Name x p) (e::es) [] pos) (tCB r t):=by
 intro pins s σ H Q I h
 refine wpAny_Call_Name_kw (ld_blt I hg hm hv ?_ hn hdb)
 refine PyProof.Rows.callWith_builtin1 (thn (ha pos pins s σ H _ I h) fun us s1 hz_=>?_) he hpl
 obtain ⟨vs,H1,I1,r1,q1⟩:=hz_
 exact hc pins s1 σ H1 vs us Q I1 r1 q1
theorem pe_callTy (hc:CallR X (.type T) r) (hg:Gl X x) (hm:X.mg x=none) (hv:bootBuiltins x=some (.type T)) (ha:PA X (e::es) t) (hn:x ≠ "__name__" := by decide) (hdb:(x == ("__debug__" : Str))=false:=by decide)
  (he:starEach (e::es) X.env=(false,eval e X.env)::starEach es X.env:=by rfl) (hpl:(backTo pos (starEach es X.env)).any (·.1)=false:=by rfl):PE X (.Call (.Name x p) (e::es) [] pos) (tCB r t):=by
 intro pins s σ H Q I h
 refine wpAny_Call_Name_kw (ld_blt I hg hm hv ?_ hn hdb)
 refine PyProof.Rows.callWith_type1 (thn (ha pos pins s σ H _ I h) fun us s1 hz_=>?_) he hpl
 obtain ⟨vs,H1,I1,r1,q1⟩:=hz_
 exact hc pins s1 σ H1 vs us Q I1 r1 q1
end
end L2
namespace HT
open PySem PyProof.Rows
section
open PySem.SeqAt
open PySem.AutoSeq1 (wpAny_loadPart')
open PySem.MeetsSeq PySem.MeetsSeq2 PySem.MeetsSeq3
end
section
variable {prog:Program} {w:World} {A:Around} {E:Value→Shared→Prop} {s:Shared}
def sIx (n d:Nat):Option Int→Nat
 | none=>d
 | some v=>if v < 0 then (v + (n:Int)).toNat else min v.toNat n
theorem sIx_nat (n d k:Nat):sIx n d (some (k:Int))=min k n:=by
 show (if (k:Int) < 0 then ((k:Int) + (n:Int)).toNat else min (k:Int).toNat n)=min k n
 rw [if_neg (by omega),Int.toNat_natCast]
theorem sIx_le (n d:Nat) (hd:d≤n) (o:Option Int):sIx n d o≤n:=by
 cases o with
 | none=>exact hd
 | some v =>
  show (if v < 0 then (v + (n:Int)).toNat else min v.toNat n)≤n
  by_cases hv:v < 0
  ·rw [if_pos hv]; omega
  ·rw [if_neg hv]; exact Nat.min_le_right _ _
theorem clip_eq (v:Int) (n d:Nat):(if v < 0 then max (v + (n:Int)) 0 else min v (n:Int))=((sIx n d (some v):Nat):Int):=by
 show (if v < 0 then max (v + (n:Int)) 0 else min v (n:Int))=(((if v < 0 then (v + (n:Int)).toNat else min v.toNat n):Nat):Int)
 by_cases hv:v < 0
 ·simp only [if_pos hv]; omega
 ·simp only [if_neg hv]; omega
theorem adjust_gen (lo hi:Option Int) (n:Nat):Builtin.Slice.sliceAdjust lo hi 1 (n:Int)=(((sIx n 0 lo:Nat):Int),((sIx n n hi:Nat):Int)):=by
 have h1:¬ ((1:Int) < 0):=by omega
 unfold Builtin.Slice.sliceAdjust
 simp only [h1,if_false]
 refine Prod.ext ?_ ?_
 ·cases lo with
  | none=>rfl
  | some v=>exact clip_eq v n 0
 ·cases hi with
  | none=>rfl
  | some v=>exact clip_eq v n n
theorem places_gen (i j:Nat):Builtin.Slice.slicePlaces (i:Int) (j:Int) 1=j - i:=by
 unfold Builtin.Slice.slicePlaces
 have h1:(1:Int) > 0:=by omega
 simp only [h1,if_true,Int.ediv_one]
 split <;> omega
theorem slicePart_ {v:Value} {o:Option Int} {Q:Option Int→Shared→Prop} (p:IsPart v o) (h:Q o s):wpAny (model prog w) A (Builtin.Slice.slicePartIndex v) Q E s:=by
 cases p with
 | none=>exact slicePart_none h
 | int i t=>exact slicePart_int h
theorem sliceApplied_gen {sl:Addr} {vl vu:Value} {lo hi:Option Int} {n:Nat} {Q:Int×Int×Nat→Shared→Prop} (hs:s.heap.IsSliceOf sl vl vu .none) (pl:IsPart vl lo) (pu:IsPart vu hi)
  (h:Q (((sIx n 0 lo:Nat):Int),1,sIx n n hi - sIx n 0 lo) s):wpAny (model prog w) A (Builtin.Slice.sliceApplied (.ref sl) (pure (n:Int))) Q E s:=by
 obtain ⟨os,hos,hcs,hds⟩:=id hs
 unfold Builtin.Slice.sliceApplied Builtin.Slice.sliceFields
 refine wpAny_bind (wpAny_bind (wpAny_field hos hds (x:=vl) rfl (wpAny_bind (wpAny_field hos hds (x:=vu) rfl (wpAny_bind (wpAny_field hos hds (x:=.none) rfl (wpAny_pure ?_)))))))
 refine wpAny_bind (slicePart_none ?_)
 show wpAny _ _ (if ((1:Int) == 0)=true then _ else _) _ _ s
 rw [if_neg (by decide)]
 refine wpAny_bind (slicePart_ pl (wpAny_bind (slicePart_ pu (wpAny_bind (wpAny_pure ?_)))))
 show wpAny _ _ (match Builtin.Slice.sliceAdjust lo hi 1 (n:Int) with | (lo,hi)=>pure (lo,(1:Int),Builtin.Slice.slicePlaces lo hi 1)) _ _ s
 rw [adjust_gen lo hi n]
 show wpAny _ _ (pure (((sIx n 0 lo:Nat):Int),(1:Int),Builtin.Slice.slicePlaces ((sIx n 0 lo:Nat):Int) ((sIx n n hi:Nat):Int) 1)) _ _ s
 rw [places_gen]
 exact wpAny_pure h
theorem pick_gen (xs:Array Value) (i k:Nat):((List.range k).filterMap fun (m:Nat)=>xs[((i:Int) + (m:Int) * 1).toNat]?).toArray=((xs.toList.drop i).take k).toArray:=by
 have e:(fun (m:Nat)=>xs[((i:Int) + (m:Int) * 1).toNat]?)=fun m=>xs[i + m]?:=by
  funext m
  have:((i:Int) + (m:Int) * 1).toNat=i + m:=by omega
  rw [this]
 rw [e]
 have:=pick_run xs i k
 rw [List.filterMap_map] at this
 have e2:((fun x=>xs[x]?) ∘ fun x=>i + x)=fun m=>xs[i + m]?:=rfl
 rw [e2] at this
 rw [this]
theorem getItem_tuple_cut {t sl:Addr} {items:Array Value} {vl vu:Value} {lo hi:Option Int} {Q:Value→Shared→Prop} (ht:IsTup s.heap t items) (hs:s.heap.IsSliceOf sl vl vu .none) (pl:IsPart vl lo) (pu:IsPart vu hi)
  (hw:¬ (sIx items.size 0 lo=0∧sIx items.size items.size hi=items.size))
  (h:Q (.ref s.heap.objs.size) { s with heap:=s.heap.push { cls:=.type "tuple",data:=.seq ((items.toList.drop (sIx items.size 0 lo)).take (sIx items.size items.size hi - sIx items.size 0 lo)).toArray } })
  (hsz:items.size≤sizeLine):wpAny (model prog w) A (getItem (.ref t) (.ref sl)) Q E s:=by
 have htake:sizeOk (.seq ((items.toList.drop (sIx items.size 0 lo)).take (sIx items.size items.size hi - sIx items.size 0 lo)).toArray):=by
  show ((items.toList.drop (sIx items.size 0 lo)).take (sIx items.size items.size hi - sIx items.size 0 lo)).toArray.size≤sizeLine
  rw [List.size_toArray,List.length_take,List.length_drop,Array.length_toList]
  omega
 have hj:sIx items.size items.size hi≤items.size:=sIx_le _ _ (Nat.le_refl _) hi
 obtain ⟨os,hos,hcs,hds⟩:=id hs
 have hTs:s.TypeIs (.ref sl) "slice" := ⟨os,hos,hcs⟩
 unfold getItem
 try with_reducible refine wpAny_holding ?_
 first | refine wpAny_bind (wpAny_pure ?_) | skip
 refine wpAny_bind (wpAny_sequenceKey ht.typeIs (by decide) ?_)
 refine wpAny_bind (wpAny_callSpecial?_slot (name:=Str.ofString "__getitem__") ht.typeIs PyProof.Rows.slot_tuple_getitem
  (wpAny_call_entry PyProof.Rows.slot_tuple_getitem ht.typeIs entry_tuple_getitem ?_ (args_tuple_getitem _ _)))
 show wpAny _ _ (Builtin.Tuple.tupleItemsOf (.ref t) >>= _) _ _ s
 refine wpAny_bind (tupleItemsOf_ ht ?_)
 refine wpAny_bind (wpAny_typeOf hTs ?_)
 rw [if_pos (by decide)]
 refine wpAny_bind (sliceApplied_gen hs pl pu ?_)
 have hno:¬ ((((sIx items.size 0 lo:Nat):Int) == 0&&(1:Int) == 1&&(sIx items.size items.size hi - sIx items.size 0 lo) == items.size)=true):=by
  intro q
  rw [Bool.and_eq_true,Bool.and_eq_true] at q
  have q1:((sIx items.size 0 lo:Nat):Int)=0:=eq_of_beq q.1.1
  have q2:sIx items.size items.size hi - sIx items.size 0 lo=items.size:=eq_of_beq q.2
  exact hw ⟨by omega,by omega⟩
 show wpAny _ _ (if (((sIx items.size 0 lo:Nat):Int) == 0&&(1:Int) == 1&&(sIx items.size items.size hi - sIx items.size 0 lo) == items.size)=true then _ else _) _ _ s
 rw [if_neg hno,pick_gen]
 first
  | exact wpAny_bind (m:=Builtin.Tuple.tupleExact _) (wpAny_newObj_type (wpAny_pure ⟨_,rfl,wpAny_pure h⟩) htake)
  | exact wpAny_bind (m:=Builtin.Tuple.tupleExact _) (wpAny_newObj_type (wpAny_bind (wpAny_pure (wpAny_pure ⟨_,rfl,wpAny_pure h⟩))) htake)
  | exact wpAny_bind (wpAny_bind (m:=Builtin.Tuple.tupleExact _) (wpAny_newObj_type (wpAny_pure (wpAny_pure ⟨_,rfl,wpAny_pure h⟩)) htake))
  | exact wpAny_bind (wpAny_bind (m:=Builtin.Tuple.tupleExact _) (wpAny_newObj_type (wpAny_pure ⟨_,rfl,wpAny_pure h⟩) htake))
end
end HT
namespace L2
open PySem PySem.Spec PyProof.Rows
abbrev TO:=St→Hp→(Option Int→Hp→Prop)→Prop
def PO (X:Cx) (e:Option Expr) (t:TO):Prop :=
 ∀ (pins:List (Addr×Obj)) (s:Shared) (σ:St) (H:Hp) (Q:Option Int→Hp→Prop),Inv X pins σ H s→t σ H Q →
  wpAny (model X.prog X.w) X.A (evalPart e X.env) (fun u s'=>∃ o H',Inv X pins σ H' s'∧IsPart u o∧Q o H') X.xe s
def tNoPart:TO:=fun _ H Q=>Q none H
def tPart (t:TE):TO:=fun σ H Q=>t σ H fun x H1=>∃ i,x=.int i∧Q (some i) H1
theorem intsAre_of {ns:List Int}:∀ {us:List Value},Vals (ns.map V.int) us→IntsAre us ns:=by
 induction ns with
 | nil=>intro us r; rw [List.map_nil] at r; cases r; exact .nil
 | cons n ns ih =>
  intro us r
  rw [List.map_cons] at r
  cases r with
  | cons r1 r2 =>
   obtain ⟨t,e⟩:=r1
   subst e
   exact .cons n t (ih r2)
section
variable {X:Cx} {e:Expr} {te:TE} {lo hi:Option Expr} {tl th:TO} {pos p2:Pos}
theorem po_none:PO X none tNoPart:=by
 intro pins s σ H Q I h
 rw [evalPart_none]
 exact wpAny_pure ⟨none,H,I,.none,h⟩
theorem po_some (h:PE X e te):PO X (some e) (tPart te):=by
 intro pins s σ H Q I hw
 rw [evalPart_some]
 refine thn (h pins s σ H _ I hw) fun u s1 hz_=>?_
 obtain ⟨x,H1,I1,r1,q1⟩:=hz_
 obtain ⟨i,rfl,q⟩:=q1
 obtain ⟨t,rfl⟩:=r1
 exact ⟨some i,H1,I1,.int i t,q⟩
def SlR (X:Cx) (r:V→Option Int→Option Int→Hp→VK→Prop):Prop :=
 ∀ (pins:List (Addr×Obj)) (s:Shared) (σ:St) (H:Hp) (x:V) (v vl vu:Value) (lo hi:Option Int) (sl:Addr) (Q:VK),Inv X pins σ H s→RelV x v→s.heap.IsSliceOf sl vl vu .none→IsPart vl lo→IsPart vu hi→r x lo hi H Q →
  ∃ T id,typeLookup (.type T) "__getitem__" = pure (some (.builtin id))∧s.TypeIs v T∧wpAny (model X.prog X.w) X.A (getItem v (.ref sl)) (EP X pins σ Q) X.xe s
def tSl (r:V→Option Int→Option Int→Hp→VK→Prop) (te:TE) (tl th:TO):TE:=fun σ H Q=>te σ H fun x H1=>tl σ H1 fun l H2=>th σ H2 fun u H3=>r x l u H3 Q
theorem pe_slice {r:V→Option Int→Option Int→Hp→VK→Prop} (hr:SlR X r) (he:PE X e te) (hl:PO X lo tl) (hu:PO X hi th):PE X (.Subscript e (.Slice lo hi none p2) pos) (tSl r te tl th):=by
 intro pins s σ H Q I h
 refine Subscript_ (thn (he pins s σ H _ I h) fun v s1 hz_=>?_)
 obtain ⟨x,H1,I1,r1,q1⟩:=hz_
 refine wpAny_Slice (thn (hl pins s1 σ H1 _ I1 q1) fun vl s2 hz_=>?_)
 obtain ⟨l,H2,I2,pl,q2⟩:=hz_
 refine thn (hu pins s2 σ H2 _ I2 q2) fun vu s3 hz_=>?_
 obtain ⟨u,H3,I3,pu,q3⟩:=hz_
 rw [evalPart_none]
 refine wpAny_pure ?_
 have I4:Inv X pins σ H3 { s3 with heap:=s3.heap.push { cls:=.type "slice",data:=.fields #[vl,vu,.none] } }:=I3.kept (t':=s3.toks) fun b ob q=>Heap.get?_push_of_some _ q
 obtain ⟨T,id,hT,ht,hg⟩:=hr pins { s3 with heap:=s3.heap.push { cls:=.type "slice",data:=.fields #[vl,vu,.none] } } σ H3 x v vl vu l u s3.heap.objs.size Q I4 r1 (Heap.IsSliceOf.new ..) pl pu q3
 show wpAny (model X.prog X.w) X.A (subscriptTail e (.Slice lo hi none p2) v (.ref s3.heap.objs.size)) (EP X pins σ Q) X.xe { s3 with heap:=s3.heap.push { cls:=.type "slice",data:=.fields #[vl,vu,.none] } }
 exact tail_any (ops:=[.ref s3.heap.objs.size,v]) ht hT hg (by with_unfolding_all rfl)
def cutV (xs:List V) (lo hi:Option Int):List V:=(xs.drop (HT.sIx xs.length 0 lo)).take (HT.sIx xs.length xs.length hi - HT.sIx xs.length 0 lo)
theorem cutV_length (xs:List V) (lo hi:Option Int):(cutV xs lo hi).length≤xs.length:=by
 unfold cutV
 rw [List.length_take,List.length_drop]
 omega
def rSlT (K:PySem.W.Frag):V→Option Int→Option Int→Hp→VK→Prop:=fun x lo hi H Q=>∃ a xs,x=.ref a∧SqT K H a xs ∧
 ¬ (HT.sIx xs.length 0 lo=0∧HT.sIx xs.length xs.length hi=xs.length)∧∀ p,H p=none→Q (.ref p) (upd H p (.tup (cutV xs lo hi)))
theorem sl_tup:SlR X (rSlT X.K):=by
 intro pins s σ H x v vl vu lo hi sl Q I rx hs pl pu h
 obtain ⟨a,xs,rfl,hx,hw,q⟩:=h
 cases rx
 obtain ⟨its,r,ht,hz⟩:=I.tuple hx
 have hlen:its.toArray.size=xs.length:=by rw [List.size_toArray]; exact r.length.symm
 refine ⟨"tuple",_,PyProof.Rows.slot_tuple_getitem.lookup,ht.typeIs,?_⟩
 refine HT.getItem_tuple_cut ht hs pl pu (by rw [hlen]; exact hw) ?_ (by rw [hlen]; exact hz)
 rw [hlen]
 refine ⟨.ref s.heap.objs.size,_,I.laid (t':=s.toks) (o:=.tup (cutV xs lo hi)) (fun b ob q=>Heap.get?_push_of_some _ q) (Nat.le_refl _) ?_,rfl,q _ (I.hok.fresh (Nat.le_refl _))⟩
 exact ⟨Nat.le_trans (cutV_length xs lo hi) hz,_,(r.drop (HT.sIx xs.length 0 lo)).take (HT.sIx xs.length xs.length hi - HT.sIx xs.length 0 lo),IsTup.new _ _⟩
end
end L2
namespace L2
open PySem PySem.Spec PyProof.Rows
def ixN (n:Nat) (i:Int):Option Nat:=if 0≤i then (if i < n then some i.toNat else none) else if -(n:Int)≤i then some (i + n).toNat else none
def atI {α:Type} (xs:List α) (i:Int):Option α:=(ixN xs.length i).bind fun j=>xs[j]?
theorem ixN_seq {n:Nat} {i:Int} {j:Nat} (h:ixN n i=some j):seqIndex? i n=some j∧j < n∧-(n:Int)≤i∧i < n:=by
 unfold ixN at h
 by_cases h0:0≤i
 ·rw [if_pos h0] at h
  by_cases h1:i < n
  ·rw [if_pos h1] at h
   have e:i.toNat=j:=Option.some.inj h
   exact ⟨by rw [seqIndex_of h0 h1,e],by omega,by omega,h1⟩
  ·rw [if_neg h1] at h; cases h
 ·rw [if_neg h0] at h
  by_cases h1:-(n:Int)≤i
  ·rw [if_pos h1] at h
   have e:(i + n).toNat=j:=Option.some.inj h
   exact ⟨by rw [seqIndex_neg (by omega) h1,e],by omega,h1,by omega⟩
  ·rw [if_neg h1] at h; cases h
theorem atI_get {α:Type} {xs:List α} {i:Int} {v:α} (h:atI xs i=some v):∃ j,seqIndex? i xs.length=some j∧xs[j]?=some v∧j < xs.length∧-(xs.length:Int)≤i∧i < xs.length:=by
 unfold atI at h
 cases e:ixN xs.length i with
 | none=>rw [e] at h; cases h
 | some j =>
  rw [e] at h
  obtain ⟨h1,h2,h3,h4⟩:=ixN_seq e
  exact ⟨j,h1,h,h2,h3,h4⟩
theorem atI_nat {α:Type} {xs:List α} {j:Nat} {v:α} (h:xs[j]?=some v):atI xs (j:Int)=some v:=by
 have hj:j < xs.length:=(List.getElem?_eq_some_iff.mp h).1
 have e:ixN xs.length (j:Int)=some j:=by
  unfold ixN
  rw [if_pos (by omega),if_pos (by omega)]; simp
 unfold atI; rw [e]; exact h
def PlainIx (b:Expr):Prop:=∀ o i,subscripted b false o i=operate [o,i] (getItem o i)
def IxR (X:Cx) (r:R2):Prop :=
 ∀ (value slice:Expr) (pins:List (Addr×Obj)) (s:Shared) (σ:St) (H:Hp) (x y:V) (v u:Value) (Q:VK),Inv X pins σ H s→RelV x v→RelV y u→r x y H Q →
  subscripted slice false v u=operate [v,u] (getItem v u)→wpAny (model X.prog X.w) X.A (subscriptTail value slice v u) (EP X pins σ Q) X.xe s
def MtR (X:Cx) (id:String) (r:V→List V→Hp→VK→Prop):Prop :=
 ∀ (pins:List (Addr×Obj)) (s:Shared) (σ:St) (H:Hp) (x:V) (xs:List V) (v:Value) (us:List Value) (Q:VK),Inv X pins σ H s→RelV x v→Vals xs us→r x xs H Q →
  wpAny (model X.prog X.w) X.A (call (.builtin id) (v::us)) (EP X pins σ Q) X.xe s
section
variable {X:Cx} {a b:Expr} {ta tb:TE} {pos:Pos}
theorem pe_ix {r:R2} (hr:IxR X r) (ha:PE X a ta) (hb:PE X b tb) (hs:PlainIx b):PE X (.Subscript a b pos) (tOp r ta tb):=by
 intro pins s σ H Q I h
 exact Subscript_ (binT ha hb I h fun v u s2 x y H2 I2 rx ry q=>hr a b pins s2 σ H2 x y v u Q I2 rx ry q (hs _ _))
def rIxL (K:PySem.W.Frag):R2:=fun x y H Q=>∃ p xs i v,x=.ref p∧y=.int i∧SqL K H p xs∧atI xs i=some v∧Q v H
def rIxT (K:PySem.W.Frag):R2:=fun x y H Q=>∃ p xs i v,x=.ref p∧y=.int i∧SqT K H p xs∧atI xs i=some v∧Q v H
theorem ix_list:IxR X (rIxL X.K):=by
 intro value slice pins s σ H x y v u Q I rx ry h hs
 obtain ⟨p,xs,i,z,rfl,rfl,hq,he,q⟩:=h
 cases rx
 obtain ⟨t,rfl⟩:=ry
 obtain ⟨its,r,pl,hz⟩:=I.list hq
 obtain ⟨j,h1,h2,h3,h4,h5⟩:=atI_get he
 obtain ⟨w,ew,rw'⟩:=r.get h2
 have hl:=r.length
 have hn:=line63
 have fin:EP X pins σ Q w s:=⟨z,H,I,rw',q⟩
 by_cases h0:0≤i
 ·have hj:i.toNat=j:=by
   rw [seqIndex_of h0 h5] at h1
   exact Option.some.inj h1
  exact item_listR pl.isList h0 (by omega) (by rw [hj]; simpa using ew) fin hs
 ·have hj:(i + (its.toArray.size:Int)).toNat=j:=by
   rw [seqIndex_neg (by omega) h4] at h1
   rw [List.size_toArray,← hl]
   exact Option.some.inj h1
  exact subscriptTail_builtinR (x:=w) pl.isList.typeIs slot_list_getitem.lookup
   (wpAny_getItem_list_neg (Q:=fun r s'=>r=w∧EP X pins σ Q r s') pl.isList (by omega) (by rw [List.size_toArray] <;> omega) (by omega) (by rw [hj]; simpa using ew) ⟨rfl,fin⟩) hs
theorem ix_tup:IxR X (rIxT X.K):=by
 intro value slice pins s σ H x y v u Q I rx ry h hs
 obtain ⟨p,xs,i,z,rfl,rfl,hq,he,q⟩:=h
 cases rx
 obtain ⟨t,rfl⟩:=ry
 obtain ⟨its,r,pl,hz⟩:=I.tuple hq
 obtain ⟨j,h1,h2,h3,h4,h5⟩:=atI_get he
 obtain ⟨w,ew,rw'⟩:=r.get h2
 have hl:=r.length
 have hn:=line63
 have fin:EP X pins σ Q w s:=⟨z,H,I,rw',q⟩
 exact subscriptTail_builtinR (x:=w) pl.typeIs slot_tuple_getitem.lookup
  (getItem_tuple (j:=j) (Q:=fun r s'=>r=w∧EP X pins σ Q r s') pl (by omega) (by omega) (by rw [List.size_toArray,← hl]; exact h1) (by simpa using ew) ⟨rfl,fin⟩) hs
theorem slice_bounds (lo hi:Option Int) (n:Nat):(sliceBounds lo hi none n).1=((HT.sIx n 0 lo:Nat):Int)∧(sliceBounds lo hi none n).2.1=((HT.sIx n n hi:Nat):Int)∧(sliceBounds lo hi none n).2.2=1:=by
 refine ⟨?_,?_,rfl⟩
 ·cases lo with
  | none=>simp [sliceBounds,HT.sIx]
  | some i =>
   simp only [sliceBounds,HT.sIx,Option.getD_none,show (1:Int) > 0 by decide,if_true]
   by_cases h:i < 0
   ·simp only [h,if_true] <;> omega
   ·simp only [h,if_false] <;> omega
 ·cases hi with
  | none=>simp [sliceBounds,HT.sIx]
  | some i =>
   simp only [sliceBounds,HT.sIx,Option.getD_none,show (1:Int) > 0 by decide,if_true]
   by_cases h:i < 0
   ·simp only [h,if_true] <;> omega
   ·simp only [h,if_false] <;> omega
theorem slicePick_cut (its:List Value) (lo hi:Option Int):slicePick its.toArray lo hi none=((its.drop (HT.sIx its.length 0 lo)).take (HT.sIx its.length its.length hi - HT.sIx its.length 0 lo)).toArray:=by
 obtain ⟨h1,h2,h3⟩:=slice_bounds lo hi its.toArray.size
 unfold slicePick
 rw [h1,h2,h3]
 simp only [sliceRange_one,pick_run,List.size_toArray] <;> rfl
def rSlL (K:PySem.W.Frag):V→Option Int→Option Int→Hp→VK→Prop:=fun x lo hi H Q=>∃ a xs,x=.ref a∧SqL K H a xs∧∀ p,H p=none→Q (.ref p) (upd H p (.lst (cutV xs lo hi)))
theorem sl_list:SlR X (rSlL X.K):=by
 intro pins s σ H x v vl vu lo hi sl Q I rx hs pl pu h
 obtain ⟨a,xs,rfl,hx,q⟩:=h
 cases rx
 obtain ⟨its,r,ht,hz⟩:=I.list hx
 have hlen:=r.length
 refine ⟨"list",_,slot_list_getitem.lookup,ht.isList.typeIs,?_⟩
 refine wpAny_getItem_list_slice ht.isList hs pl pu .none (by simp) ?_ (by rw [List.size_toArray] <;> omega)
 rw [slicePick_cut,← hlen]
 refine ⟨.ref s.heap.objs.size,_,I.laid (t':=s.toks) (o:=.lst (cutV xs lo hi)) (fun b ob q=>Heap.get?_push_of_some _ q) (Nat.le_refl _) ?_,rfl,q _ (I.hok.fresh (Nat.le_refl _))⟩
 exact ⟨Nat.le_trans (cutV_length xs lo hi) hz,_,0,(r.drop (HT.sIx xs.length 0 lo)).take (HT.sIx xs.length xs.length hi - HT.sIx xs.length 0 lo),Heap.get?_push_size _ rfl⟩
def eqV:V→V→Bool
 | .non,.non=>true
 | .bl a,.bl b=>a == b
 | .bl a,.int b=>(if a then 1 else 0) == b
 | .int a,.bl b=>a == (if b then 1 else 0)
 | .int a,.int b=>a == b
 | .str a,.str b=>a == b
 | _,_=>false
def inV (x:V) (xs:List V):Bool:=xs.any fun y=>eqV y x
theorem call_len_seq:CallR X (.builtin "len") (fun xs H Q=>∃ p ys,xs=[.ref p]∧(SqL X.K H p ys∨SqT X.K H p ys)∧Q (.int ys.length) H):=by
 intro pins s σ H xs us Q I r h
 obtain ⟨p,ys,rfl,hq,q⟩:=h
 obtain ⟨u,rfl,rx⟩:=vals1 r
 cases rx
 have hn:=line63
 rcases hq with hq | hq
 ·obtain ⟨its,r',pl,hz⟩:=I.list hq
  have hlen:=r'.length
  exact Calls.call_len_list pl.isList (by simp only [List.size_toArray] <;> omega) ⟨.int ys.length,H,I.tok _,⟨s.toks + 1,by rw [List.size_toArray,hlen]⟩,q⟩
 ·obtain ⟨its,r',pl,hz⟩:=I.tuple hq
  have hlen:=r'.length
  exact len_tuple pl (by simp only [List.size_toArray] <;> omega) ⟨.int ys.length,H,I.tok _,⟨s.toks + 1,by rw [List.size_toArray,hlen]⟩,q⟩
theorem call_list_of:CallR X (.type "list") (fun xs H Q=>∃ p ys,xs=[.ref p]∧(SqL X.K H p ys∨SqT X.K H p ys)∧∀ l,H l=none→Q (.ref l) (upd H l (.lst ys))):=by
 intro pins s σ H xs us Q I r h
 obtain ⟨p,ys,rfl,hq,q⟩:=h
 obtain ⟨u,rfl,rx⟩:=vals1 r
 cases rx
 have fin:∀ (its:List Value),Vals ys its→ys.length≤sizeLine→∀ (h':Heap) (c':Nat),(∀ b o',s.heap.get? b=some o'→h'.get? b=some o') →
   h'.get? s.heap.objs.size=some { cls:=.type "list",dict:=none,data:=.seq its.toArray c',slots:=#[] }→EP X pins σ Q (.ref s.heap.objs.size) { s with heap:=h' }:=fun its r' hz h' c' kp e =>
  ⟨.ref s.heap.objs.size,_,I.laid (t':=s.toks) kp (Nat.le_refl _) (show ObjOk X.prog X.w _ h' _ (.lst ys) from ⟨hz,its,c',r',e⟩),rfl,q _ (I.hok.fresh (Nat.le_refl _))⟩
 rcases hq with hq | hq
 ·obtain ⟨its,r',pl,hz⟩:=I.list hq
  have hlen:=r'.length
  obtain ⟨o,ho,hc,n,hd⟩:=pl.isList
  exact call_list_seq p (.inl rfl) ho hc hd (fun h' c' kp e=>fin its r' hz h' c' kp e) (by simp only [List.size_toArray] <;> omega)
 ·obtain ⟨its,r',pl,hz⟩:=I.tuple hq
  have hlen:=r'.length
  obtain ⟨o,ho,hc,n,hd⟩:=pl
  exact call_list_seq p (.inr rfl) ho hc hd (fun h' c' kp e=>fin its r' hz h' c' kp e) (by simp only [List.size_toArray] <;> omega)
def tyV (K:PySem.W.Frag) (T:String) (x:V) (H:Hp):Prop:=match x with
 | .str _=>T = "str"
 | .int _=>T = "int"
 | .ref p=>(T = "list" ∧ ∃ xs,SqL K H p xs)∨(T = "tuple" ∧ ∃ o,K.lookup p=some o∧o.cls=.type "tuple" ∧ o.dict=none) ∨
   (T = "dict" ∧ ((∃ kvs,H p=some (.dK kvs))∨∃ kvs,H p=some (.dT kvs)))∨(T = "set" ∧ ∃ S n,H p=some (.set S n))
 | _=>False
theorem tyV_is {pins:List (Addr×Obj)} {σ:St} {H:Hp} {s:Shared} {T:String} {x:V} {v:Value} (I:Inv X pins σ H s) (r:RelV x v) (ty:tyV X.K T x H) :
  s.TypeIs v T∧∀ a,v=.ref a→∃ ob,s.heap.get? a=some ob∧ob.dict=none:=by
 cases x with
 | str z =>
  obtain ⟨t,rfl⟩:=r
  cases (show T = "str" from ty)
  exact ⟨typeIs_str s z t,fun _ e=>nomatch e⟩
 | int i =>
  obtain ⟨t,rfl⟩:=r
  cases (show T = "int" from ty)
  exact ⟨typeIs_int s i t,fun _ e=>nomatch e⟩
 | ref p =>
  cases r
  rcases ty with ⟨rfl,xs,hq⟩ | ⟨rfl,o,hk,hc,hd⟩ | ⟨rfl,hk⟩ | ⟨rfl,S,n,hk⟩
  ·obtain ⟨its,_,pl,_⟩:=I.list hq
   refine ⟨pl.isList.typeIs,fun a e=>?_⟩
   cases e
   obtain ⟨o,n,e,c,hd,_⟩:=pl
   exact ⟨o,e,hd⟩
  ·refine ⟨⟨o,I.kIn p o hk,hc⟩,fun a e=>?_⟩
   cases e
   exact ⟨o,I.kIn _ o hk,hd⟩
  ·have z:∃ o,s.heap.get? p=some o∧o.ExactDict:=by
    rcases hk with ⟨kvs,hk⟩ | ⟨kvs,hk⟩
    ·obtain ⟨_,_,_,_,o,_,_,e,ex,_⟩:=I.hok p _ hk
     exact ⟨o,e,ex⟩
    ·obtain ⟨_,_,_,_,o,_,_,e,ex,_⟩:=I.hok p _ hk
     exact ⟨o,e,ex⟩
   obtain ⟨o,e,ex⟩:=z
   refine ⟨⟨o,e,ex.1⟩,fun a e2=>?_⟩
   cases e2
   exact ⟨o,e,ex.2.1⟩
  ·obtain ⟨o,_,_,_,e,ex,_⟩:=I.hok p _ hk
   refine ⟨⟨o,e,ex.1⟩,fun a e2=>?_⟩
   cases e2
   exact ⟨o,e,ex.2.1⟩
 | _=>exact False.elim ty
def tBM0 (K:PySem.W.Frag) (T:String) (r:V→List V→Hp→VK→Prop) (to:TE):TE:=fun σ H Q=>to σ H fun x H1=>tyV K T x H1∧r x [] H1 Q
def tBM (K:PySem.W.Frag) (T:String) (r:V→List V→Hp→VK→Prop) (to:TE) (t:TA):TE:=fun σ H Q=>to σ H fun x H1=>tyV K T x H1∧t σ H1 fun xs H2=>r x xs H2 Q
variable {o e:Expr} {es:List Expr} {to:TE} {t:TA} {name:Str} {apos cpos:Pos} {T id:String} {r:V→List V→Hp→VK→Prop}
theorem pe_bm0 (pa:PlainAttrs T) (slot:Slot T name id) (hty:typeOf (.builtin id)=pure (.type "method_descriptor")) (hm:MtR X id r) (ho:PE X o to)
  (hbase:attributeBase o name X.env (eval o X.env)=eval o X.env:=by rfl) (hline:(apos.endLine == cpos.line)=true:=by rfl):PE X (.Call (.Attribute o name apos) [] [] cpos) (tBM0 X.K T r to):=by
 intro pins s σ H Q I h
 refine wpAny_Call_method0_late hbase hline (thn (ho pins s σ H _ I h) fun v s1 hz_=>?_)
 obtain ⟨x,H1,I1,r1,ty,q1⟩:=hz_
 obtain ⟨h1,h2⟩:=tyV_is I1 r1 ty
 exact ⟨T,id,pa,slot,hty,h1,h2,Calls.callWith_builtin rfl (PySem.evalArgs_none (hm pins s1 σ H1 x [] v [] Q I1 r1 .nil q1))⟩
theorem pe_bm (pa:PlainAttrs T) (slot:Slot T name id) (hty:typeOf (.builtin id)=pure (.type "method_descriptor")) (hm:MtR X id r) (ho:PE X o to) (ha:PA X (e::es) t)
  (hbase:attributeBase o name X.env (eval o X.env)=eval o X.env:=by rfl)
  (hfew:((backTo cpos (starEach (e::es) X.env)).all (fun x=>!x.1)&&(backToKw cpos (keywordEach [] X.env)).all (fun x=>x.1.isSome)
   && decide ((e::es).length + ([]:List Keyword).length + (if ([]:List Keyword).isEmpty then 0 else 1) < 30))=true:=by rfl)
  (hline:(apos.endLine == cpos.line)=true:=by rfl) (hs:starEach (e::es) X.env=(false,eval e X.env)::starEach es X.env:=by rfl) (hplain:(backTo cpos (starEach es X.env)).any (·.1)=false:=by rfl) :
  PE X (.Call (.Attribute o name apos) (e::es) [] cpos) (tBM X.K T r to t):=by
 intro pins s σ H Q I h
 refine wpAny_Call_method_late hbase hfew hline rfl (thn (ho pins s σ H _ I h) fun v s1 hz_=>?_)
 obtain ⟨x,H1,I1,r1,ty,q1⟩:=hz_
 obtain ⟨h1,h2⟩:=tyV_is I1 r1 ty
 refine ⟨T,id,pa,slot,hty,h1,h2,?_⟩
 have hA:=ha cpos pins s1 σ H1 _ I1 q1
 rw [hs] at hA ⊢
 refine Calls.callWith_builtin (by show (false || (backTo cpos (starEach es X.env)).any (·.1))=false; rw [hplain] <;> rfl) (Calls.evalArgs_plain ?_)
 refine thn hA fun us s2 hz_=>?_
 obtain ⟨vs,H2,I2,r2,q2⟩:=hz_
 exact hm pins s2 σ H2 x vs v us Q I2 r1 r2 q2
end
end L2
namespace L2
open PySem PySem.Spec PyProof.Rows
def MtM (X:Cx) (id:String) (r:V→List V→Hp→VK→Prop):Prop :=
 ∀ (pins:List (Addr×Obj)) (s:Shared) (σ:St) (H:Hp) (x:V) (xs:List V) (v:Value) (us:List Value) (Q:VK),Inv X pins σ H s→RelV x v→Vals xs us→r x xs H Q →
  wpAny (model X.prog X.w) X.A (call (.builtin id) (v::us)) (EP X pins σ Q) X.xe s
theorem Vals.one:∀ {x:V} {us:List Value},Vals [x] us→∃ u,us=[u]∧RelV x u
 | _,_,.cons r .nil=>⟨_,rfl,r⟩
theorem Vals.two:∀ {x y:V} {us:List Value},Vals [x,y] us→∃ u v,us=[u,v]∧RelV x u∧RelV y v
 | _,_,_,.cons r (.cons q .nil)=>⟨_,_,rfl,r,q⟩
theorem Vals.zero:∀ {us:List Value},Vals [] us→us=[]
 | _,.nil=>rfl
theorem Vals.dropLast {xs:List V} {us:List Value} (h:Vals xs us):Vals xs.dropLast us.dropLast:=by
 induction h with
 | nil=>exact .nil
 | cons r t ih =>
  cases t with
  | nil=>exact .nil
  | cons q t'=>exact .cons r ih
theorem erase_last {α:Type} (l:List α):l.eraseIdx (l.length - 1)=l.dropLast:=by
 induction l with
 | nil=>rfl
 | cons a r ih =>
  cases r with
  | nil=>rfl
  | cons b r =>
   have e:(a::b::r).length - 1=((b::r).length - 1) + 1:=by
    have h1:(a::b::r).length=r.length + 2:=rfl
    have h2:(b::r).length=r.length + 1:=rfl
    omega
   rw [e,List.eraseIdx_cons_succ,ih]
   all_goals rfl
section
variable {X:Cx} {pins:List (Addr×Obj)} {σ:St} {H:Hp} {s:Shared} {l b:Addr} {xs ys zs:List V}
theorem Inv.lset {its its':List Value} {n:Nat} {f:Array Value→Array Value} {t':Nat} (I:Inv X pins σ H s) (hH:H l=some (.lst xs))
  (e:s.heap.get? l=some { cls:=.type "list",data:=.seq its.toArray n }) (hf:f its.toArray=its'.toArray) (hv:Vals ys its') (hz:ys.length≤sizeLine) :
  Inv X pins σ (upd H l (.lst ys)) { s with heap:=s.heap.update l (Obj.mapSeq f),toks:=t' }:=by
 have q:=PySem.IsL.update e f
 rw [hf] at q
 refine I.write (x:=l) (e:=l) (by rw [hH]; exact trivial) (.inl rfl) (fun b' u hb hu=>(Heap.get?_update_other s.heap (Obj.mapSeq f) (Ne.symm hb)).trans hu) ⟨_,q⟩ ?_
 exact ⟨hz,its',_,hv,q⟩
theorem Inv.lnew {its:List Value} {t':Nat} (I:Inv X pins σ H s) (hv:Vals ys its) (hz:ys.length≤sizeLine) :
  Inv X pins σ (upd H s.heap.objs.size (.lst ys)) { s with heap:=s.heap.push { cls:=.type "list",data:=.seq its.toArray },toks:=t' } :=
 I.laid (fun _ _ q=>Heap.get?_push_of_some _ q) (Nat.le_refl _) ⟨hz,its,0,hv,Heap.get?_push_size _ rfl⟩
theorem Inv.fresh (I:Inv X pins σ H s):H s.heap.objs.size=none:=I.hok.fresh (Nat.le_refl _)
theorem Inv.lstM (I:Inv X pins σ H s) (hH:H l=some (.lst xs)):xs.length≤sizeLine∧∃ (its:List Value) (n:Nat),Vals xs its∧xs.length=its.length∧s.heap.get? l=some { cls:=.type "list",data:=.seq its.toArray n }:=by
 obtain ⟨z,its,n,r,e⟩:=I.hok l _ hH
 exact ⟨z,its,n,r,r.length,e⟩
theorem notLongL {n:Nat} (h:n≤sizeLine):Builtin.List.listTooLong n=false:=by
 unfold Builtin.List.listTooLong
 exact decide_eq_false (by omega)
end
section
variable {X:Cx}
def rAppend:V→List V→Hp→VK→Prop:=fun x vs H Q=>∃ l xs y,x=.ref l∧vs=[y]∧H l=some (.lst xs)∧xs.length < sizeLine∧Q .non (upd H l (.lst (xs++[y])))
theorem mt_append:MtM X "list.append" rAppend:=by
 intro pins s σ H x vs v us Q I rx rv h
 obtain ⟨l,xs,y,rfl,rfl,hH,hz,q⟩:=h
 cases rx
 obtain ⟨u,rfl,ru⟩:=rv.one
 obtain ⟨z,its,n,r,hl,e⟩:=I.lstM hH
 refine call_meets F.slot_list_append ⟨_,e,rfl⟩ F.entry_list_append (F.args_list_append_2 _ _) (PySem.list_append l its.toArray n u (by rw [List.size_toArray]; omega)) ⟨e,?_⟩
 refine ⟨.non,_,I.lset (its':=its++[u]) hH e (by simp) (r.append (.cons ru .nil)) ?_,rfl,q⟩
 rw [List.length_append,List.length_singleton]
 omega
def rExtend:V→List V→Hp→VK→Prop:=fun x vs H Q=>∃ l b xs zs,x=.ref l∧vs=[.ref b]∧H l=some (.lst xs)∧H b=some (.lst zs)∧xs.length + zs.length≤sizeLine∧Q .non (upd H l (.lst (xs++zs)))
theorem mt_extend:MtM X "list.extend" rExtend:=by
 intro pins s σ H x vs v us Q I rx rv h
 obtain ⟨l,b,xs,zs,rfl,rfl,hH,hB,hz,q⟩:=h
 cases rx
 obtain ⟨u,rfl,ru⟩:=rv.one
 cases ru
 obtain ⟨z,its,n,r,hl,e⟩:=I.lstM hH
 obtain ⟨z2,its2,n2,r2,hl2,e2⟩:=I.lstM hB
 have hsz:its.toArray.size + its2.toArray.size≤sizeLine:=by rw [List.size_toArray,List.size_toArray]; omega
 have hlong:¬ (!its.toArray.isEmpty&&Builtin.List.listTooLong (its.toArray.size + its2.toArray.size))=true:=by
  rw [notLongL hsz,Bool.and_false]
  exact Bool.false_ne_true
 refine call_meets F.slot_list_extend ⟨_,e,rfl⟩ F.entry_list_extend (F.args_list_extend_2 _ _)
  (AutoSeq1.list_extend_list_list_0 l its.toArray n b its2.toArray n2 hlong (by rw [List.size_toArray]; omega) (by omega)) ⟨e,e2,?_⟩
 refine ⟨.non,_,I.lset (its':=its++its2) hH e (by simp) (r.append r2) ?_,rfl,q⟩
 rw [List.length_append]
 omega
def rPop:V→List V→Hp→VK→Prop:=fun x vs H Q=>∃ l xs y,x=.ref l∧vs=[]∧H l=some (.lst xs)∧xs[xs.length - 1]?=some y∧Q y (upd H l (.lst xs.dropLast))
theorem mt_pop:MtM X "list.pop" rPop:=by
 intro pins s σ H x vs v us Q I rx rv h
 obtain ⟨l,xs,y,rfl,rfl,hH,hy,q⟩:=h
 cases rx
 have hus:=rv.zero
 subst hus
 obtain ⟨z,its,n,r,hl,e⟩:=I.lstM hH
 obtain ⟨u,hu,ru⟩:=r.get hy
 have hy':its.toArray[its.toArray.size - 1]?=some u:=by
  show its.toArray[its.length - 1]?=some u
  rw [← Array.getElem?_toList,← hl]
  exact hu
 refine call_meets F.slot_list_pop ⟨_,e,rfl⟩ F.entry_list_pop (F.args_list_pop_1 _) (MeetsSeq.list_pop_last l its.toArray n u hy' (by rw [List.size_toArray]; omega)) ⟨e,?_⟩
 refine ⟨y,_,I.lset (its':=its.dropLast) hH e ?_ r.dropLast ?_,ru,q⟩
 ·show its.toArray.eraseIdxIfInBounds (its.toArray.size - 1)=its.dropLast.toArray
  rw [List.size_toArray,List.eraseIdxIfInBounds_toArray,erase_last]
 ·rw [List.length_dropLast]
  omega
def rCat:R2:=fun x y H Q=>∃ l b xs zs,x=.ref l∧y=.ref b∧H l=some (.lst xs)∧H b=some (.lst zs)∧xs.length + zs.length≤sizeLine∧∀ p,H p=none→Q (.ref p) (upd H p (.lst (xs++zs)))
theorem op_cat:OpR X (binaryOp .Add) rCat:=by
 intro pins s σ H x y v u Q I rx ry h
 obtain ⟨l,b,xs,zs,rfl,rfl,hH,hB,hz,q⟩:=h
 cases rx
 cases ry
 obtain ⟨z,its,n,r,hl,e⟩:=I.lstM hH
 obtain ⟨z2,its2,n2,r2,hl2,e2⟩:=I.lstM hB
 refine PySem.P.add_list e e2 ?_ (by rw [List.size_toArray,List.size_toArray]; omega)
 have ea:its.toArray++its2.toArray=(its++its2).toArray:=by simp
 rw [ea]
 exact ⟨.ref _,_,I.lnew (t':=s.toks) (r.append r2) (by rw [List.length_append]; omega),rfl,q _ I.fresh⟩
end
section
variable {prog:Program} {w:World} {A:Around} {E:Value→Shared→Prop} {s:Shared}
end
section
variable {X:Cx}
end
end L2
namespace L2
open PySem PySem.Spec PyProof.Rows
section
variable {κ:Type} [DecidableEq κ]
def valV (kvs:List (κ×V)) (k:κ):Option V:=(kvs.find? fun kv=>decide (kv.1=k)).map (·.2)
def putK (kvs:List (κ×V)) (k:κ) (v:V):List (κ×V) :=
 if (kvs.any fun kv=>decide (kv.1=k))=true then kvs.map (fun kv=>if kv.1=k then (kv.1,v) else kv) else kvs++[(k,v)]
def dropK (kvs:List (κ×V)) (k:κ):List (κ×V):=kvs.filter fun kv=>decide (kv.1≠k)
theorem valV_pos {p:κ×V} {r:List (κ×V)} {k:κ} (e:p.1=k):valV (p::r) k=some p.2:=by simp [valV,List.find?_cons,e]
theorem valV_neg {p:κ×V} {r:List (κ×V)} {k:κ} (e:¬ p.1=k):valV (p::r) k=valV r k:=by simp [valV,List.find?_cons,e]
theorem valV_any (k:κ):∀ kvs:List (κ×V),(kvs.any fun kv=>decide (kv.1=k))=(valV kvs k).isSome
 | []=>rfl
 | p::r=>by
  rw [List.any_cons]
  by_cases e:p.1=k
  ·simp only [valV_pos e,decide_eq_true e,Bool.true_or,Option.isSome_some]
  ·rw [valV_neg e,decide_eq_false e,Bool.false_or]; exact valV_any k r
theorem length_putK (kvs:List (κ×V)) (k:κ) (v:V):(putK kvs k v).length≤kvs.length + 1:=by
 unfold putK
 split
 ·rw [List.length_map]; omega
 ·rw [List.length_append,List.length_cons,List.length_nil]; omega
theorem putK_new {kvs:List (κ×V)} {k:κ} (v:V) (h:valV kvs k=none):putK kvs k v=kvs++[(k,v)]:=by
 unfold putK
 rw [valV_any,h]
 exact if_neg (by decide)
theorem RelO.isSome_eq {o:Option V} {u:Option Value} (r:RelO o u):o.isSome=u.isSome:=by
 cases o with
 | none=>cases u with
  | none=>rfl
  | some _=>exact (show False from r).elim
 | some _=>cases u with
  | none=>exact (show False from r).elim
  | some _=>rfl
theorem RelO.getD {o:Option V} {u:Option Value} {d:V} {d':Value} (r:RelO o u) (rd:RelV d d'):RelV (o.getD d) (u.getD d'):=by
 cases o with
 | none=>cases u with
  | none=>exact rd
  | some _=>exact (show False from r).elim
 | some _=>cases u with
  | none=>exact (show False from r).elim
  | some _=>exact r
theorem KV.val {kvs:List (κ×V)} {vs:List (κ×Value)} (r:KV kvs vs) (k:κ):RelO (valV kvs k) (valueAt vs k):=by
 unfold KV at r
 induction r with
 | nil=>exact True.intro
 | @cons p q ps qs h t ih =>
  obtain ⟨h1,h2⟩:=h
  by_cases e:p.1=k
  ·have e':q.1=k:=h1.symm.trans e
   have b:valueAt (q::qs) k=some q.2:=by simp [valueAt,List.find?_cons,e']
   rw [valV_pos e,b]; exact h2
  ·have e':¬ q.1=k:=fun z=>e (h1.trans z)
   have b:valueAt (q::qs) k=valueAt qs k:=by simp [valueAt,List.find?_cons,e']
   rw [valV_neg e,b]; exact ih
theorem KV.any {kvs:List (κ×V)} {vs:List (κ×Value)} (r:KV kvs vs) (k:κ):(kvs.any fun kv=>decide (kv.1=k))=vs.any fun kv=>decide (kv.1=k):=by
 unfold KV at r
 induction r with
 | nil=>rfl
 | cons h t ih=>rw [List.any_cons,List.any_cons,ih,h.1]
theorem KV.repl {kvs:List (κ×V)} {vs:List (κ×Value)} (r:KV kvs vs) (k:κ) {y:V} {u:Value} (ry:RelV y u) :
  KV (kvs.map fun kv=>if kv.1=k then (kv.1,y) else kv) (vs.map fun kv=>if kv.1=k then (kv.1,u) else kv):=by
 unfold KV at r ⊢
 induction r with
 | nil=>exact .nil
 | @cons p q ps qs h t ih =>
  rw [List.map_cons,List.map_cons]
  refine .cons ?_ ih
  obtain ⟨h1,h2⟩:=h
  by_cases e:p.1=k
  ·rw [if_pos e,if_pos (h1.symm.trans e)]; exact ⟨h1,ry⟩
  ·rw [if_neg e,if_neg (fun z=>e (h1.trans z))]; exact ⟨h1,h2⟩
theorem KV.put {kvs:List (κ×V)} {vs:List (κ×Value)} (r:KV kvs vs) (k:κ) {y:V} {u:Value} (ry:RelV y u):KV (putK kvs k y) (stored vs k u):=by
 unfold putK stored
 rw [r.any k]
 by_cases e:(vs.any fun kv=>decide (kv.1=k))=true
 ·rw [if_pos e,if_pos e]; exact r.repl k ry
 ·rw [if_neg e,if_neg e]; exact Paired.snoc r ⟨rfl,ry⟩
theorem KV.drop {kvs:List (κ×V)} {vs:List (κ×Value)} (r:KV kvs vs) (k:κ):KV (dropK kvs k) (without vs k):=by
 unfold KV at r ⊢
 unfold dropK without
 induction r with
 | nil=>exact .nil
 | @cons p q ps qs h t ih =>
  obtain ⟨h1,h2⟩:=h
  rw [List.filter_cons,List.filter_cons]
  by_cases e:p.1=k
  ·have a:¬ decide (p.1≠k)=true:=by simp [e]
   have b:¬ decide (q.1≠k)=true:=by simp [h1.symm.trans e]
   rw [if_neg a,if_neg b]; exact ih
  ·have e':¬ q.1=k:=fun z=>e (h1.trans z)
   have a:decide (p.1≠k)=true:=by simp [e]
   have b:decide (q.1≠k)=true:=by simp [e']
   rw [if_pos a,if_pos b]; exact .cons ⟨h1,h2⟩ ih
theorem KV.length {kvs:List (κ×V)} {vs:List (κ×Value)} (r:KV kvs vs):kvs.length=vs.length:=Paired.length r
end
theorem kV_is {P:Program} {w:World} {k:Key} {u:Value} (r:RelV (kV k) u):(mixKind P w).is k u=true:=by
 cases k with
 | inl i=>obtain ⟨t,e⟩:=(show ∃ t,u=Value.int i t from r); subst e; exact mixKind_int P w i t
 | inr x=>obtain ⟨t,e⟩:=(show ∃ t,u=Value.str x t from r); subst e; exact mixKind_str P w x t
theorem items_are {P:Program} {w:World}:∀ {ks:List Key} {us:List Value},Vals (ks.map kV) us→ItemsAre (mixKind P w) ks us
 | [],_,r=>by rw [List.map_nil] at r; cases r; exact .nil
 | k::ks,_,r=>by
  rw [List.map_cons] at r
  cases r with
  | cons h t=>exact .cons (kV_is h) (items_are t)
abbrev KT (H:Hp):List (List Key×V)→List (List Key×Addr×Value)→Prop:=Paired fun p q=>p.1=q.1∧H q.2.1=some (.tup (p.1.map kV))∧RelV p.2 q.2.2
theorem KT.val {H:Hp} {kvs:List (List Key×V)} {xs:List (List Key×Addr×Value)} (r:KT H kvs xs) (k:List Key):RelO (valV kvs k) ((atKey xs k).map (·.2)):=by
 induction r with
 | nil=>exact True.intro
 | @cons p q ps qs h t ih =>
  obtain ⟨h1,_,h2⟩:=h
  by_cases e:p.1=k
  ·have e':q.1=k:=h1.symm.trans e
   have b:atKey (q::qs) k=some q.2:=by simp [atKey,List.find?_cons,e']
   rw [valV_pos e,b]; exact h2
  ·have e':¬ q.1=k:=fun z=>e (h1.trans z)
   have b:atKey (q::qs) k=atKey qs k:=by simp [atKey,List.find?_cons,e']
   rw [valV_neg e,b]; exact ih
theorem KT.repl {H:Hp} {kvs:List (List Key×V)} {xs:List (List Key×Addr×Value)} (r:KT H kvs xs) (k:List Key) {y:V} {u:Value} (ry:RelV y u) :
  KT H (kvs.map fun kv=>if kv.1=k then (kv.1,y) else kv) (xs.map (putAt k u)):=by
 induction r with
 | nil=>exact .nil
 | @cons p q ps qs h t ih =>
  rw [List.map_cons,List.map_cons]
  refine .cons ?_ ih
  obtain ⟨h1,h2,h3⟩:=h
  unfold putAt
  by_cases e:p.1=k
  ·rw [if_pos e,if_pos (h1.symm.trans e)]; exact ⟨h1,h2,ry⟩
  ·rw [if_neg e,if_neg (fun z=>e (h1.trans z))]; exact ⟨h1,h2,h3⟩
theorem KT.put {H:Hp} {kvs:List (List Key×V)} {xs:List (List Key×Addr×Value)} (r:KT H kvs xs) (k:List Key) {b:Addr} {y:V} {u:Value} (hb:H b=some (.tup (k.map kV))) (ry:RelV y u) :
  KT H (putK kvs k y) (storedH xs k b u):=by
 have e:(kvs.any fun kv=>decide (kv.1=k))=(atKey xs k).isSome:=by
  rw [valV_any,(r.val k).isSome_eq,Option.isSome_map]
 unfold putK storedH
 rw [e]
 by_cases q:(atKey xs k).isSome=true
 ·rw [if_pos q,if_pos q]; exact r.repl k ry
 ·rw [if_neg q,if_neg q]; exact Paired.snoc r ⟨rfl,hb,ry⟩
theorem KT.keeps {H H':Hp} {kvs:List (List Key×V)} {xs:List (List Key×Addr×Value)} (r:KT H kvs xs) (ht:∀ b ys,H b=some (.tup ys)→H' b=some (.tup ys)):KT H' kvs xs :=
 Paired.mapP r fun _ _ z=>⟨z.1,ht _ _ z.2.1,z.2.2⟩
section
variable {P:Program} {w:World} {H:Hp} {h:Heap} {a:Addr}
theorem rd_of {u:HO} (ok:HOk P w H h) (e:Rd H a u):ObjOk P w H h a u:=e.ok ok
theorem dk_rd {kvs:List (Key×V)} (ok:HOk P w H h) (e:Rd H a (.dK kvs)):kvs.length≤sizeLine∧(a == sysModules)=false∧∃ vs,KV kvs vs∧h.DictOf (mixKind P w) a vs :=
 show ObjOk P w H h a (.dK kvs) from rd_of ok e
theorem dk_of {kvs:List (Key×V)} (ok:HOk P w H h) (e:H a=some (.dK kvs)):kvs.length≤sizeLine∧(a == sysModules)=false∧∃ vs,KV kvs vs∧h.DictOf (mixKind P w) a vs:=dk_rd ok (.inl e)
theorem key_of {ks:List Key} (ok:HOk P w H h) (e:H a=some (.tup (ks.map kV))):(tupleKind (mixKind P w)).is h ks a:=by
 obtain ⟨_,its,r,o,h1,h2,n,h3⟩:=(show ObjOk P w H h a (.tup (ks.map kV)) from ok a _ e)
 exact ⟨o,its.toArray,n,h1,h2,h3,by simpa using items_are r⟩
theorem dt_rd {kvs:List (List Key×V)} (ok:HOk P w H h) (e:Rd H a (.dT kvs)):kvs.length≤sizeLine∧(a == sysModules)=false ∧
  ∃ xs,KT H kvs xs∧h.DictOfH (tupleKind (mixKind P w)) a xs:=by
 obtain ⟨z,y,xs,r,o,es,ep,h1,h2,h3,h4,h5⟩:=(show ObjOk P w H h a (.dT kvs) from rd_of ok e)
 refine ⟨z,y,xs,r,o,es,ep,h1,h2,h3,h4,fun x hx=>?_,h5⟩
 have all:∀ {l:List (List Key×V)} {m:List (List Key×Addr×Value)},KT H l m→∀ x∈m,(tupleKind (mixKind P w)).is h x.1 x.2.1:=by
  intro l m q
  induction q with
  | nil=>intro x hx; exact nomatch hx
  | @cons p q ps qs hq t ih =>
   intro x hx
   rcases List.mem_cons.mp hx with e | hx
   ·subst e
    exact key_of ok (by rw [← hq.1]; exact hq.2.1)
   ·exact ih x hx
 exact all r x hx
theorem dt_of {kvs:List (List Key×V)} (ok:HOk P w H h) (e:H a=some (.dT kvs)):kvs.length≤sizeLine∧(a == sysModules)=false ∧
  ∃ xs,KT H kvs xs∧h.DictOfH (tupleKind (mixKind P w)) a xs:=dt_rd ok (.inl e)
end
def DGet (H:Hp) (a:Addr) (y:V) (r:Option V):Prop :=
 (∃ kvs k,Rd H a (.dK kvs)∧y=kV k∧r=valV kvs k)∨∃ kvs k b,Rd H a (.dT kvs)∧y=.ref b∧H b=some (.tup (k.map kV))∧r=valV kvs k
def DPut (H:Hp) (a:Addr) (y v:V) (H':Hp):Prop :=
 (∃ kvs k,H a=some (.dK kvs)∧y=kV k∧kvs.length < sizeLine∧H'=upd H a (.dK (putK kvs k v))) ∨
 ∃ kvs k b,H a=some (.dT kvs)∧y=.ref b∧H b=some (.tup (k.map kV))∧kvs.length < sizeLine∧H'=upd H a (.dT (putK kvs k v))
theorem DGet.k {H:Hp} {a:Addr} {kvs:List (Key×V)} {k:Key} (e:H a=some (.dK kvs)):DGet H a (kV k) (valV kvs k):=.inl ⟨kvs,k,.inl e,rfl,rfl⟩
theorem DPut.k {H:Hp} {a:Addr} {kvs:List (Key×V)} {k:Key} {v:V} (e:H a=some (.dK kvs)) (hl:kvs.length < sizeLine):DPut H a (kV k) v (upd H a (.dK (putK kvs k v))):=.inl ⟨kvs,k,e,rfl,hl,rfl⟩
section
variable {X:Cx} {pins:List (Addr×Obj)} {σ:St} {H:Hp} {s:Shared} {a:Addr} {y v:V} {u r:Value} {o:Option V} {A:Around} {E:Value→Shared→Prop}
theorem Inv.big (I:Inv X pins σ H s):sysModules < s.heap.objs.size:=by
 have h:mainGlobals < s.heap.objs.size:=(I.mod.glob.keeps I.bk).lt
 exact Nat.lt_trans (by decide) h
theorem d_getItem {Q:Value→Shared→Prop} (hu:A.units + 1 < cLine) (I:Inv X pins σ H s) (g:DGet H a y (some v)) (ry:RelV y u) (h:∀ w' s',Inv X pins σ H s'→RelV v w'→Q w' s') :
  wpAny (model X.prog X.w) A (getItem (.ref a) u) Q E s:=by
 rcases g with ⟨kvs,k,e,ey,l⟩ | ⟨kvs,k,b,e,ey,eb,l⟩
 ·subst ey
  obtain ⟨z,hd,vs,rel,dd⟩:=dk_rd I.hok e
  obtain ⟨w',hw,rw'⟩:=RelO.some_of (v:=v) (o:=valueAt vs k) (by rw [l]; exact rel.val k)
  exact wpAny_getItem_of (kV_is ry) dd.mapOf hw (h w' _ (I.tok _) rw')
 ·subst ey
  cases (show u=Value.ref b from ry)
  obtain ⟨z,hd,xs,rel,dd⟩:=dt_rd I.hok e
  obtain ⟨w',hw,rw'⟩:=RelO.some_of (v:=v) (o:=(atKey xs k).map (·.2)) (by rw [l]; exact rel.val k)
  obtain ⟨p,hp,hp2⟩:=Option.map_eq_some_iff.mp hw
  refine wpAny_getItem_heap (tupleKind_room_in1 hu) (key_of I.hok eb) dd hp ?_
  rw [hp2]
  exact h w' _ (I.tok _) rw'
theorem d_notIn {Q:Value→Shared→Prop} (hu:A.units + 1 < cLine) (I:Inv X pins σ H s) (g:DGet H a y o) (ry:RelV y u) (h:∀ s',Inv X pins σ H s'→Q (.bool (!o.isSome)) s') :
  wpAny (model X.prog X.w) A (compareOp .NotIn u (.ref a)) Q E s:=by
 rcases g with ⟨kvs,k,e,ey,l⟩ | ⟨kvs,k,b,e,ey,eb,l⟩
 ·subst ey
  obtain ⟨z,hd,vs,rel,dd⟩:=dk_rd I.hok e
  refine wpAny_notIn_of (kV_is ry) hd dd.mapOf ?_
  rw [← (rel.val k).isSome_eq,← l]
  exact h _ (I.tok _)
 ·subst ey
  cases (show u=Value.ref b from ry)
  obtain ⟨z,hd,xs,rel,dd⟩:=dt_rd I.hok e
  refine wpAny_notIn_heap (tupleKind_room_in1 hu) (key_of I.hok eb) hd dd ?_
  have q:=(rel.val k).isSome_eq
  rw [Option.isSome_map] at q
  rw [← q,← l]
  exact h _ (I.tok _)
theorem d_write {h':Heap} {t':Nat} {ob:HO} (I:Inv X pins σ H s) (mu:Mut (H a)) (hs:Heap.SameBut a s.heap h') (he:∃ q,h'.get? a=some q) (new:ObjOk X.prog X.w (upd H a ob) h' a ob) :
  Inv X pins σ (upd H a ob) { s with heap:=h',toks:=t' } :=
 I.write (x:=a) (e:=a) mu (.inl rfl) (fun b q hb z=>(hs.2 b hb).trans z) he new
theorem dk_new {P:Program} {w:World} {H':Hp} {h':Heap} {kvs:List (Key×V)} {vs:List (Key×Value)} (z:kvs.length≤sizeLine) (hd:(a == sysModules)=false) (rel:KV kvs vs) (dd:h'.DictOf (mixKind P w) a vs) :
  ObjOk P w H' h' a (.dK kvs):=⟨z,hd,vs,rel,dd⟩
theorem d_setItem {H':Hp} {Q:Unit→Shared→Prop} (hu:A.units + 1 < cLine) (I:Inv X pins σ H s) (g:DPut H a y v H') (ry:RelV y u) (rv:RelV v r) (h:∀ s',Inv X pins σ H' s'→Q () s') :
  wpAny (model X.prog X.w) A (setItem (.ref a) u r) Q E s:=by
 rcases g with ⟨kvs,k,e,ey,l,eH⟩ | ⟨kvs,k,b,e,ey,eb,l,eH⟩
 ·subst ey eH
  obtain ⟨z,hd,vs,rel,dd⟩:=dk_of I.hok e
  have hz:vs.length≤sizeLine:=by rw [← rel.length]; exact z
  have hl:(putK kvs k v).length≤sizeLine:=by have:=length_putK kvs k v; omega
  refine wpAny_setItem_pairs (hsz:=hz) (kV_is ry) dd fun h' dd' hs=>h _ ?_
  have he:∃ q,h'.get? a=some q:=let ⟨q,_,_,hq,_⟩:=dd'; ⟨q,hq⟩
  exact d_write I (by rw [e]; exact True.intro) hs he (dk_new hl hd (rel.put k rv) dd')
 ·subst ey eH
  cases (show u=Value.ref b from ry)
  obtain ⟨z,hd,xs,rel,dd⟩:=dt_of I.hok e
  have hz:xs.length≤sizeLine:=by rw [← Paired.length rel]; exact z
  have hl:(putK kvs k v).length≤sizeLine:=by have:=length_putK kvs k v; omega
  refine wpAny_setItem_heap (hsz:=hz) (tupleKind_room_in1 hu) (key_of I.hok eb) dd fun h' dd' hs=>h _ ?_
  obtain ⟨q,es,ep,hq,h2,h3,h4,_,h5⟩:=dd'
  refine d_write I (by rw [e]; exact True.intro) hs ⟨q,hq⟩ ⟨hl,hd,_,(rel.put k eb rv).keeps fun c ys ec=>?_,q,es,ep,hq,h2,h3,h4,h5⟩
  rw [upd_ne (ne_of ec e (fun z=>nomatch z))]
  exact ec
end
section
variable {X:Cx} {pins:List (Addr×Obj)} {σ:St} {H:Hp} {s:Shared} {a:Addr} {kvs:List (Key×V)} {k:Key} {u:Value} {A:Around} {E:Value→Shared→Prop}
theorem d_len {Q:Value→Shared→Prop} (I:Inv X pins σ H s) (e:Rd H a (.dK kvs)) (h:∀ t s',Inv X pins σ H s'→Q (.int kvs.length t) s'):wpAny (model X.prog X.w) A (call (.builtin "len") [.ref a]) Q E s:=by
 obtain ⟨z,hd,vs,rel,dd⟩:=dk_rd I.hok e
 refine call_len_dict hd dd (by rw [← rel.length]; rw [sizeLine_eq] at z; omega) ?_
 rw [← rel.length]
 exact h _ _ (I.tok _)
end
def NoSl (i:Expr):Prop:=∀ ov iv,subscripted i false ov iv=operate [ov,iv] (getItem ov iv)
theorem subD_of {prog:Program} {w:World} {A:Around} {E:Value→Shared→Prop} {s:Shared} {env:Env} {value slice:Expr} {pos:Pos} {T id:String} {Q:Value→Shared→Prop}
  (hl:typeLookup (.type T) "__getitem__" = pure (some (.builtin id))) (hs:NoSl slice)
  (h:wpAny (model prog w) A (eval value env) (fun o s₁=>wpAny (model prog w) A (eval slice env) (fun i s₂=>s₂.TypeIs o T∧wpAny (model prog w) A (getItem o i) Q E s₂) E s₁) E s) :
  wpAny (model prog w) A (eval (.Subscript value slice pos) env) Q E s:=by
 refine Subscript_ (wpAny_mono h (fun o s₁ h₁=>wpAny_mono h₁ (fun i s₂ h₂=>?_) fun _ _ x=>x) fun _ _ x=>x)
 obtain ⟨hT,h₂⟩:=h₂
 unfold subscriptTail
 refine wpAny_bind ?_
 rw [getitemInPython_of_ne hT.not_modules]
 refine wpAny_bind (wpAny_specialOf hT hl ?_)
 have fin:wpAny (model prog w) A (subscripted slice false o i) (fun r s₃=>wpAny (model prog w) A (letTemporaryGo value o r >>= fun _=>pure r) Q E s₃) E s₂:=by
  rw [hs o i]
  exact wpAny_operating (wpAny_mono h₂ (fun r s₃ h₃=>wpAny_bind (wpAny_letTemporaryGo (wpAny_pure h₃))) fun _ _ x=>x)
 first
  | exact wpAny_pure (wpAny_bind fin)
  | exact wpAny_bind (wpAny_pure (wpAny_bind fin))
  | exact wpAny_bind fin
theorem dict_typeIs {X:Cx} {pins:List (Addr×Obj)} {σ:St} {H:Hp} {s:Shared} {a:Addr} {y:V} {o:Option V} (I:Inv X pins σ H s) (g:DGet H a y o):s.TypeIs (.ref a) "dict" := by
 rcases g with ⟨kvs,k,e,_,_⟩ | ⟨kvs,k,b,e,_,_,_⟩
 ·obtain ⟨_,_,vs,_,dd⟩:=dk_rd I.hok e
  exact dd.typeIs
 ·obtain ⟨_,_,xs,_,dd⟩:=dt_rd I.hok e
  exact dd.typeIs
def tDGet (td ty:TE):TE:=fun σ H Q=>td σ H fun x H1=>ty σ H1 fun y H2=>∃ a v,x=.ref a∧DGet H2 a y (some v)∧Q v H2
def tDNotIn (ty td:TE):TE:=fun σ H Q=>ty σ H fun y H1=>td σ H1 fun x H2=>∃ a o,x=.ref a∧DGet H2 a y o∧Q (.bl (!o.isSome)) H2
def sDPut (td ty tv:TE):TS:=fun D σ H=>tv σ H fun v H1=>td σ H1 fun x H2=>ty σ H2 fun y H3=>∃ a H4,x=.ref a∧DPut H3 a y v H4∧D.nx σ H4
section
variable {X:Cx} {o i e value:Expr} {pos pos' tpos:Pos} {td ty tv:TE}
theorem pe_dget (hu:X.A.units + 1 < cLine) (ho:PE X o td) (hi:PE X i ty) (hs:NoSl i):PE X (.Subscript o i pos) (tDGet td ty):=by
 intro pins s σ H Q I h
 refine subD_of PySem.F.slot_dict_getitem.lookup hs (thn (ho pins s σ H _ I h) fun u s1 hz_=>?_)
 obtain ⟨x,H1,I1,rx,q1⟩:=hz_
 refine thn (hi pins s1 σ H1 _ I1 q1) fun iv s2 hz_=>?_
 obtain ⟨y,H2,I2,ry,a,v,ex,g,q2⟩:=hz_
 subst ex
 obtain rfl:u=Value.ref a:=rx
 exact ⟨dict_typeIs I2 g,d_getItem hu I2 g ry fun w' s3 I3 rw'=>⟨v,H2,I3,rw',q2⟩⟩
theorem pc_dnotin (hu:X.A.units + 1 < cLine) (hi:PE X i ty) (ho:PE X o td):PC X .NotIn i o (tDNotIn ty td):=by
 intro pins s σ H Q I h
 refine thn (hi pins s σ H _ I h) fun iv s1 hz_=>?_
 obtain ⟨y,H1,I1,ry,q1⟩:=hz_
 refine thn (ho pins s1 σ H1 _ I1 q1) fun u s2 hz_=>?_
 obtain ⟨x,H2,I2,rx,a,ov,ex,g,q2⟩:=hz_
 subst ex
 obtain rfl:u=Value.ref a:=rx
 exact d_notIn hu I2 g ry fun s3 I3=>⟨.bl (!ov.isSome),H2,I3,rfl,q2⟩
theorem ps_dput (hu:X.A.units + 1 < cLine) (ho:PE X o td) (hi:PE X i ty) (hv:PE X value tv) (hs:swapsWith value (some (.Subscript o i pos')) pos.line X.env=pure false) :
  PS X (.Assign [.Subscript o i pos'] value pos) (sDPut td ty tv):=by
 intro pins s σ H D I h
 refine wpAny_Assign_Subscript (thn (hv pins s σ H _ I h) fun r s1 hz_=>?_) hs
 obtain ⟨v,H1,I1,rv,q1⟩:=hz_
 refine thn (ho pins s1 σ H1 _ I1 q1) fun u s2 hz_=>?_
 obtain ⟨x,H2,I2,rx,q2⟩:=hz_
 refine thn (hi pins s2 σ H2 _ I2 q2) fun iv s3 hz_=>?_
 obtain ⟨y,H3,I3,ry,a,H4,ex,g,q3⟩:=hz_
 subst ex
 obtain rfl:u=Value.ref a:=rx
 exact d_setItem hu I3 g ry rv fun s4 I4=>⟨σ,H4,I4,q3⟩
end
theorem dk_empty {P:Program} {w:World} {H:Hp} (h:Heap) (hb:sysModules < h.objs.size):ObjOk P w H (h.push { cls:=.type "dict",data:=.dict #[] }) h.objs.size (.dK []) :=
 ⟨Nat.zero_le _,beq_eq_false_iff_ne.mpr (Ne.symm (Nat.ne_of_lt hb)),[],.nil,Heap.DictOf.new h⟩
section
variable {X:Cx} {pos:Pos}
end
def tPairs:List (TE×TE)→St→Hp→(List (V×V)→Hp→Prop)→Prop
 | [],_,H,Q=>Q [] H
 | (tk,tv)::r,σ,H,Q=>tk σ H fun x H1=>tv σ H1 fun y H2=>tPairs r σ H2 fun ps H3=>Q ((x,y)::ps) H3
abbrev VV:List (V×V)→List (Value×Value)→Prop:=Paired fun p q=>RelV p.1 q.1∧RelV p.2 q.2
def PPs (X:Cx) (pos:Pos) (keys:List (Option Expr)) (values:List Expr) (trs:List (TE×TE)):Prop :=
 ∀ (pins:List (Addr×Obj)) (s:Shared) (σ:St) (H:Hp) (Q:List (V×V)→Hp→Prop),Inv X pins σ H s→tPairs trs σ H Q →
  wpAny (model X.prog X.w) X.A (evalPairs (pairTrees keys values X.env pos)) (fun vs s'=>∃ ps H',Inv X pins σ H' s'∧VV ps vs∧Q ps H') X.xe s
theorem pps_nil {X:Cx} {pos:Pos}:PPs X pos [] [] []:=fun pins s σ H Q I h=>pairTrees_nil_walk ⟨[],H,I,.nil,h⟩
theorem pps_cons {X:Cx} {pos:Pos} {k v:Expr} {ks:List (Option Expr)} {vs:List Expr} {tk tv:TE} {trs:List (TE×TE)} (hk:PE X k tk) (hv:PE X v tv) (hr:PPs X pos ks vs trs) :
  PPs X pos (some k::ks) (v::vs) ((tk,tv)::trs):=fun pins s σ H Q I h =>
 pairTrees_cons_walk (thn (hk pins s σ H _ I h) fun u s1 ⟨x,H1,I1,rx,q1⟩=>thn (hv pins s1 σ H1 _ I1 q1) fun w2 s2 ⟨y,H2,I2,ry,q2⟩ =>
  thn (hr pins s2 σ H2 _ I2 q2) fun ws s3 ⟨ps,H3,I3,rel,q3⟩=>⟨(x,y)::ps,H3,I3,.cons ⟨rx,ry⟩ rel,q3⟩)
def mergeK (kvs more:List (Key×V)):List (Key×V):=more.foldl (fun acc kv=>putK acc kv.1 kv.2) kvs
theorem KV.merge:∀ {more:List (Key×V)} {rs:List (Key×Value)} {kvs:List (Key×V)} {vs:List (Key×Value)},KV more rs→KV kvs vs→KV (mergeK kvs more) (merged vs rs):=by
 intro more rs kvs vs r
 unfold KV at r
 induction r generalizing kvs vs with
 | nil=>intro q; exact q
 | @cons p q ps qs h t ih =>
  intro r0
  have e:KV (putK kvs p.1 p.2) (stored vs q.1 q.2):=by
   have:=r0.put p.1 h.2
   rw [← h.1]; exact this
  exact ih e
theorem length_mergeK:∀ (more kvs:List (Key×V)),(mergeK kvs more).length≤kvs.length + more.length
 | [],kvs=>by show kvs.length≤kvs.length + 0; omega
 | p::r,kvs=>by
  have h1:=length_mergeK r (putK kvs p.1 p.2)
  have h2:=length_putK kvs p.1 p.2
  show (mergeK (putK kvs p.1 p.2) r).length≤_
  rw [List.length_cons]; omega
theorem carries_of {P:Program} {w:World}:∀ {kvs:List (Key×V)} {ws:List (Value×Value)},VV (kvs.map fun kv=>(kV kv.1,kv.2)) ws→∃ rs,Carries (mixKind P w) ws rs∧KV kvs rs
 | [],_,r=>by rw [List.map_nil] at r; cases r; exact ⟨[],True.intro,.nil⟩
 | p::kvs,_,r=>by
  rw [List.map_cons] at r
  cases r with
  | @cons a b as bs h t =>
   obtain ⟨rs,c,q⟩:=carries_of (P:=P) (w:=w) t
   obtain ⟨b1,b2⟩:=b
   exact ⟨(p.1,b2)::rs,⟨kV_is h.1,rfl,c⟩,.cons ⟨rfl,h.2⟩ q⟩
def tDisp (trs:List (TE×TE)):TE:=fun σ H Q=>∀ p,H p=none→tPairs trs σ (upd H p (.dK [])) fun ps H2=>H2 p=some (.dK [])∧∃ kvs:List (Key×V),ps=kvs.map (fun kv=>(kV kv.1,kv.2))∧kvs.length≤15∧Q (.ref p) (upd H2 p (.dK (mergeK [] kvs)))
theorem pe_disp {X:Cx} {pos:Pos} {keys:List (Option Expr)} {values:List Expr} {trs:List (TE×TE)} (h:PPs X pos keys values trs) (hall:keys.all (·.isSome)=true) (hl:keys.length=values.length) (h0:keys≠[])
  (h15:keys.length≤15):PE X (.Dict keys values pos) (tDisp trs):=by
 intro pins s σ H Q I q
 have hn:=I.hok.fresh (Nat.le_refl s.heap.objs.size)
 have I1:=I.laid (a:=s.heap.objs.size) (o:=.dK []) (h':=s.heap.push { cls:=.type "dict",data:=.dict #[] }) (t':=s.toks) (fun _ _ q=>Heap.get?_push_of_some _ q) (Nat.le_refl _) (dk_empty s.heap I.big)
 refine wpAny_Dict_walk (knd:=mixKind X.prog X.w) hall hl h0 h15 (thn (h pins _ σ _ _ I1 (q _ hn)) fun ws s2 hz_=>?_)
 obtain ⟨ps,H2,I2,rel,e,kvs,ep,lk,q2⟩:=hz_
 subst ep
 obtain ⟨rs,c,rk⟩:=carries_of (P:=X.prog) (w:=X.w) rel
 obtain ⟨z,hd,vs0,r0,dd⟩:=dk_of I2.hok e
 cases r0
 refine ⟨rs,c,dd,fun h' dd' hs=>⟨.ref s.heap.objs.size,_,?_,rfl,q2⟩⟩
 have hz:(mergeK [] kvs).length≤sizeLine:=by
  have h1:=length_mergeK kvs []
  rw [List.length_nil] at h1
  rw [sizeLine_eq]; omega
 have he:∃ q,h'.get? s.heap.objs.size=some q:=let ⟨q,_,_,hq,_⟩:=dd'; ⟨q,hq⟩
 exact d_write I2 (by rw [e]; exact True.intro) hs he (dk_new hz hd (rk.merge .nil) dd')
structure M1 (X:Cx) (o:Expr) (m:Str) (apos:Pos) (e:Expr) (cpos:Pos):Prop where
 base:attributeBase o m X.env (eval o X.env)=eval o X.env
 few:((backTo cpos (starEach [e] X.env)).all (fun x=>!x.1)&&(backToKw cpos (keywordEach [] X.env)).all (fun x=>x.1.isSome)
  && decide (([e]:List Expr).length + ([]:List Keyword).length + (if ([]:List Keyword).isEmpty then 0 else 1) < 30))=true
 line:(apos.endLine == cpos.line)=true
 trees:backTo cpos (starEach [e] X.env)=[(false,eval e X.env)]
def IsD (H:Hp) (a:Addr):Prop:=(∃ kvs,Rd H a (.dK kvs))∨∃ kvs,Rd H a (.dT kvs)
theorem isD_at {X:Cx} {pins:List (Addr×Obj)} {σ:St} {H:Hp} {s:Shared} {a:Addr} (I:Inv X pins σ H s) (d:IsD H a) :
  s.TypeIs (.ref a) "dict" ∧ (∀ b,Value.ref a=.ref b→∃ ob,s.heap.get? b=some ob∧ob.dict=none)∧(a == sysModules)=false:=by
 rcases d with ⟨kvs,e⟩ | ⟨kvs,e⟩
 ·obtain ⟨_,hd,vs,_,dd⟩:=dk_rd I.hok e
  refine ⟨dd.typeIs,fun b q=>?_,hd⟩
  cases q
  obtain ⟨ob,_,_,h1,h2,_⟩:=dd
  exact ⟨ob,h1,h2.2.1⟩
 ·obtain ⟨_,hd,xs,_,dd⟩:=dt_rd I.hok e
  refine ⟨dd.typeIs,fun b q=>?_,hd⟩
  cases q
  obtain ⟨ob,_,_,h1,h2,_⟩:=dd
  exact ⟨ob,h1,h2.2.1⟩
section
variable {X:Cx} {pins:List (Addr×Obj)} {σ:St} {H:Hp} {s:Shared} {a:Addr} {y d:V} {u r:Value} {o:Option V} {A:Around} {E:Value→Shared→Prop}
theorem d_get1 {Q:Value→Shared→Prop} (hu:A.units + 1 < cLine) (I:Inv X pins σ H s) (g:DGet H a y o) (ry:RelV y u) (h:∀ w' s',Inv X pins σ H s'→RelV (o.getD .non) w'→Q w' s') :
  wpAny (model X.prog X.w) A (call (.builtin "dict.get") [.ref a,u]) Q E s:=by
 rcases g with ⟨kvs,k,e,ey,l⟩ | ⟨kvs,k,b,e,ey,eb,l⟩
 ·subst ey
  obtain ⟨z,hd,vs,rel,dd⟩:=dk_rd I.hok e
  refine call_meetsIn PySem.F.slot_dict_get dd.typeIs PySem.F.entry_dict_get (PySem.F.args_dict_get_2 _ _) (meets_dict_get (mixKind X.prog X.w) a (kV_is ry) hd) ⟨_,dd.mapOf,h _ _ (I.tok _) ?_⟩
  rw [l]
  exact (rel.val k).getD rfl
 ·subst ey
  cases (show u=Value.ref b from ry)
  obtain ⟨z,hd,xs,rel,dd⟩:=dt_rd I.hok e
  refine call_meetsIn PySem.F.slot_dict_get dd.typeIs PySem.F.entry_dict_get (PySem.F.args_dict_get_2 _ _) (meetsH_dict_get (tupleKind (mixKind X.prog X.w)) a b hd) ⟨tupleKind_room_in1 hu,k,xs,key_of I.hok eb,dd,h _ _ (I.tok _) ?_⟩
  rw [l]
  exact (rel.val k).getD rfl
end
def tDGet1 (td ty:TE):TE:=fun σ H Q=>td σ H fun x H1=>∃ a,x=.ref a∧IsD H1 a∧ty σ H1 fun y H2=>∃ o,DGet H2 a y o∧Q (o.getD .non) H2
section
variable {X:Cx} {o e f:Expr} {apos cpos:Pos} {td ty tx:TE}
theorem pe_dget1 (hu:X.A.units + 1 < cLine) (ho:PE X o td) (he:PE X e ty) (m:M1 X o "get" apos e cpos):PE X (.Call (.Attribute o "get" apos) [e] [] cpos) (tDGet1 td ty):=by
 intro pins s σ H Q I h
 refine wpAny_Call_method m.base m.few m.line PySem.F.plainAttrs_dict PySem.F.slot_dict_get PySem.F.type_dict_get (thn (ho pins s σ H _ I h) fun u s1 hz_=>?_)
 obtain ⟨x,H1,I1,rx,a,ex,d,q1⟩:=hz_
 subst ex
 obtain rfl:u=Value.ref a:=rx
 obtain ⟨t1,t2,_⟩:=isD_at I1 d
 refine ⟨t1,t2,?_⟩
 rw [m.trees]
 refine Calls.callWith_builtin rfl (Calls.evalArgs_plain (Calls.spliced_cons (thn (he pins s1 σ H1 _ I1 q1) fun iv s2 hz_=>?_)))
 obtain ⟨y,H2,I2,ry,ov,g,q2⟩:=hz_
 refine Calls.spliced_nil ?_
 exact d_get1 hu I2 g ry fun w' s3 I3 rw'=>⟨_,H2,I3,rw',q2⟩
end
section
variable {X:Cx} {pins:List (Addr×Obj)} {σ:St} {H:Hp} {s:Shared} {a:Addr} {kvs:List (Key×V)} {A:Around} {E:Value→Shared→Prop}
end
section
variable {X:Cx} {pins:List (Addr×Obj)} {σ:St} {H:Hp} {s:Shared} {a:Addr} {y:V} {u:Value} {A:Around} {E:Value→Shared→Prop}
end
end L2
namespace Att
open PySem PySem.W PySem.Calls PyProof.Rows
theorem ints_of_wellAll {P:Params} {h:Heap}:∀ (ns:List Int) (vs:List Value),WellAll P h vs (ns.map WData.int)→IntsAre vs ns:=by
 intro ns
 induction ns with
 | nil =>
  intro vs w
  rw [List.map_nil] at w
  cases w
  exact .nil
 | cons n ns ih =>
  intro vs w
  rw [List.map_cons] at w
  cases w with
  | cons a b =>
   cases a
   exact .cons _ _ (ih _ b)
theorem script_of {l:OpenLaw} {n:Nat} (hn:l.most=some n) {P:Params} {h:Heap} {args:List WData} {vals:List Value}
  (hpre:l.row.toRowW.claim.pre args=true) (hwl:WellAll P h vals args) :
  ∃ a vs ns,vals=[Value.ref a]∧args=[WData.list (ns.map WData.int)]∧h.get? a=some { cls:=.type "list",data:=.seq vs.toArray }∧IntsAre vs ns∧ns.length≤n:=by
 have hsh:WShape.hasAll [] args [.list .int]=true:=(pre_splitW hpre).1
 have hc:l.pre.holds [] { args:=args }=true:=(pre_splitW hpre).2
 obtain ⟨d,r,rfl,h1,h2⟩:=hasAllW_cons hsh
 obtain rfl:=hasAllW_nil h2
 obtain ⟨xs,rfl,h3⟩:=hasW_list h1
 obtain ⟨ns,rfl⟩:=items_int h3
 have hlen:ns.length≤n:=by
  unfold OpenLaw.pre at hc
  have h4:(WTm.not (.lt (.lit (.int (n:Int))) (.len (.arg 0)))).holds [] { args:=[.list (ns.map .int)] }=true:=by
   have h4:=(holds_andW hc).1
   rw [hn] at h4
   exact h4
  have h5:=condW_of h4 (w_not (w_lt w_lit (w_len_list (w_arg rfl))))
  rw [List.length_map] at h5
  refine Nat.le_of_not_lt fun q=>?_
  have q':(n:Int) < ((ns.length:Nat):Int):=by omega
  first
   | (rw [decide_eq_true q'] at h5; exact absurd h5 (by decide))
   | (simp at h5; omega)
 cases hwl with
 | cons w1 w2 =>
  cases w2
  cases w1 with
  | list ho hall=>exact ⟨_,_,ns,rfl,rfl,ho,ints_of_wellAll ns _ hall,hlen⟩
theorem post_true (l:OpenLaw) (args:List WData):l.row.toRowW.claim.post args (.bool true) args=true :=
 postW_of (r:=l.row.toRowW) (X:=(true == true))
  (show WShape.has [] (.bool true) .bool=true by first | rfl | decide | simp [WShape.has,WShape.arms,WShape.armsAll])
  (show (WTm.eq .res (.lit (.bool true))).value [] { args:=args,res:=some (.bool true),after:=args }=some (.bool (true == true)) from w_eq_bool (w_res rfl) w_lit) rfl
theorem attach_call {l:OpenLaw} {n:Nat} {q:Program} {loose:List Str} {XP:(Str→Option Value)→Heap→Prop} {YP:World→Heap→Prop} {d:DefRec}
  (hn:l.most=some n) (hdf:d.params.defaults=[])
  (call:∀ (w:World) (s₀ s₁:Shared) (mg mb:Str→Option Value) (fa:Addr) (o:Obj) (pm cd doc:Value) (a:Addr) (vs:List Value) (ns:List Int),
   Ground q loose [] XP w s₀ mg mb s₁.heap→YP w s₁.heap →
   s₁.heap.get? fa=some o→o.data=.func (docDef d.name d.params d.body d.scope pm cd doc)→s₁.heap.CodeRec cd d.name→mg d.name=some (.ref fa) →
   s₁.heap.get? a=some { cls:=.type "list",data:=.seq vs.toArray }→IntsAre vs ns→ns.length≤n→s₁.gens=#[] →
   codeAny (model l.prog w) callerA (.call (.ref fa) ⟨[.ref a],[]⟩) (fun r s'=>r=.ok (.ret (.bool true))∧OldK s₁.heap s'.heap∧s'.os=s₁.os∧AllBare s'.gens) s₁) :
  WalkO q loose XP YP l.row.toRowW d [] (fun f vs=>PySem.call f vs):=by
 intro w s₀ s₁ mg mb G Y fa o pm cd doc dV kV ho hd hcd hD hmg hg args vals as hpre hlay hrd hwl hlo
 obtain rfl:dV=.none:=Dflts.none hD hdf
 obtain rfl:kV=.none:=Dflts.noKw hD
 obtain ⟨a,vs,ns,rfl,rfl,hobj,hints,hlen⟩:=script_of hn hpre hwl
 refine enter_call (codeAny_mono (call w s₀ s₁ mg mb fa o pm cd doc a vs ns G Y ho (fd_plain hd) hcd hmg hobj hints hlen hg) fun r s' hq=>?_)
 obtain ⟨rfl,h2,h3,h4⟩:=hq
 exact ⟨.inl ⟨.bool true,.bool true,[],rfl,fun _=>rfl,.bool true,post_true l _,fun _=>⟨List.Pairwise.nil,fun _ hm=>(nomatch hm)⟩⟩,h2,h3,h4⟩
section
variable {prog:Program} {w:World} {A:Around} {E:Value→Shared→Prop} {s:Shared} {K:Frag}
def ledger (h:Heap) (L d:Addr):List (Addr×Obj):=(List.range h.objs.size).filterMap fun a=>if a=L∨a=d then none else (h.get? a).map fun o=>(a,o)
end
end Att
namespace L2
open PySem PySem.Spec PyProof.Rows
theorem vals_ints:∀ {vs:List Value} {ns:List Int},IntsAre vs ns→Vals (ns.map V.int) vs
 | _,_,.nil=>.nil
 | _,_,.cons n t h=>.cons ⟨t,rfl⟩ (vals_ints h)
end L2
namespace L2
open PySem PySem.Spec PyProof.Rows
end L2
namespace L2
open PySem PySem.Spec PyProof.Rows
def inClass (s:Stmt) (j:Nat):Stmt:=match s with
 | .ClassDef _ _ _ body _ _ _ _ _ _ _=>body.getD j (.Pass ⟨0,0,0,0⟩)
 | _=>.Pass ⟨0,0,0,0⟩
def defArgs (s:Stmt):Arguments:=match s with
 | .FunctionDef _ a _ _ _ _ _ _ _ _=>a
 | _=>{ posonlyargs:=[],args:=[],vararg:=none,kwonlyargs:=[],kw_defaults:=[],kwarg:=none,defaults:=[] }
def defBody (s:Stmt):List Stmt:=match s with
 | .FunctionDef _ _ b _ _ _ _ _ _ _=>b
 | _=>[]
def defScope (s:Stmt):Scope:=match s with
 | .FunctionDef _ _ _ _ _ _ sc _ _ _=>sc
 | _=>{ kind:=.function,names:=[],isGenerator:=false,isCoroutine:=false }
abbrev CX0:CXT:=fun _ _ _ _ _ _=>False
abbrev E0:XK:=fun _ _ _=>False
theorem pass0 {X:Cx}:Passes CX0 X E0:=fun _ _ _ _ _ _ _ h=>h.elim
structure Fun (K:PySem.W.Frag) (x qual:Str) (st:Stmt) (f:Addr) (fd:FuncData):Prop where
 ex:∃ (oc:Value) (od:Option Addr) (kV doc pm:Value) (an:Option Addr) (cdv ct:Value) (osl:Array (Option Value)),
  fd=PySem.W.fnOf x qual (defArgs st) (defBody st) (defScope st) .none kV doc pm an cdv ct∧K.lookup f=some ⟨oc,od,.func fd,osl⟩∧PySem.W.codeIn K cdv qual=true
 kp:PySem.W.keepIn K (.ref f)=true
section
variable {P:Program} {w:World} {K:PySem.W.Frag} {mg:Str→Option Value} {base:Heap}
theorem Fun.ok {x qual:Str} {st:Stmt} {f:Addr} {fd:FuncData} {N ps:List Str} {k:Nat} {sp:Sp} (F:Fun K x qual st f fd) (S:FnScope N ps (defScope st)) (len:∀ vs H Q E,sp vs H Q E→vs.length=ps.length)
  (hbody:∀ (cdv:Value) (A:Around) (outer:List Env) (s:Shared) (H:Hp) (vs:List V) (Q:VK) (E:XK),Room k (A.deeper (envOfC qual (defScope st) s.heap.objs.size f cdv))→sp vs H Q E →
   ∃ t,PSs (cxOf CX0 P w K mg base N qual (defScope st) f cdv A outer s H E).nox (defBody st) t∧t { nx:=fun _ H'=>Q .non H',rt:=Q } (start N vs) H):FnOk P w K mg base CX0 (k + 1) f fd ps sp:=by
 obtain ⟨oc,od,kV,doc,pm,an,cdv,ct,osl,rfl,lk,hcd⟩:=F.ex
 refine fn_of lk hcd S len fun A outer s H vs Q E hr hsp=>?_
 obtain ⟨t,h,q⟩:=hbody cdv A outer s H vs Q E hr hsp
 exact ⟨t,h.nox,q⟩
theorem Fun.binds {x qual:Str} {st:Stmt} {f:Addr} {fd:FuncData} {ps:List Str} (F:Fun K x qual st f fd)
  (h:∀ (kV doc pm:Value) (an:Option Addr) (cdv ct:Value) (us:List Value),us.length=ps.length→bindArgs (PySem.W.fnOf x qual (defArgs st) (defBody st) (defScope st) .none kV doc pm an cdv ct) ⟨us,[]⟩=pure (ps.zip us)):Binds K fd ps []:=by
 obtain ⟨oc,od,kV,doc,pm,an,cdv,ct,osl,rfl,lk,hcd⟩:=F.ex
 exact .all (h kV doc pm an cdv ct)
theorem fun_mk {x qual:Str} {st:Stmt} {f:Addr} {oc:Value} {od an:Option Addr} {osl:Array (Option Value)} {kV doc pm cdv ct:Value} (l:K.lookup f=some ⟨oc,od,.func (PySem.W.fnOf x qual (defArgs st) (defBody st) (defScope st) .none kV doc pm an cdv ct),osl⟩)
  (c:PySem.W.codeIn K cdv qual=true) (k:PySem.W.keepIn K (.ref f)=true):Fun K x qual st f (PySem.W.fnOf x qual (defArgs st) (defBody st) (defScope st) .none kV doc pm an cdv ct):=⟨⟨oc,od,kV,doc,pm,an,cdv,ct,osl,rfl,l,c⟩,k⟩
end
theorem hu_of {A:Around} {k:Nat} (hr:Room k A):A.units + 1 < cLine:=Nat.lt_of_le_of_lt (Nat.add_le_add_left (by decide:1≤64) _) hr.units
section
variable {X:Cx}
theorem pv (i:Nat) {x:Str} {pos:Pos} (hN:X.N[i]?=some x:=by rfl) (hv:Vis X.env.scope x:=by first | exact Or.inl rfl | exact Or.inr (Or.inl rfl) | exact Or.inr (Or.inr rfl)) (hd:(x == ("__debug__" : Str))=false:=by decide)
  (hcd:(x == ("__classdict__" : Str))=false:=by decide):PE X (.Name x pos) (tVar i):=pe_var hN hv hd hcd
theorem call_lenD:CallR X (.builtin "len") (fun xs H Q=>∃ a kvs,xs=[V.ref a]∧H a=some (.dK kvs)∧Q (.int kvs.length) H):=by
 intro pins s σ H xs us Q I r h
 obtain ⟨a,kvs,rfl,ha,q⟩:=h
 obtain ⟨u,rfl,ru⟩:=vals1 r
 cases ru
 exact d_len I (.inl ha) fun t s' I'=>⟨.int kvs.length,H,I',⟨t,rfl⟩,q⟩
end
theorem iteF {A B:Prop} (h:B):if false=true then A else B:=by
 rw [if_neg Bool.false_ne_true]
 exact h
theorem iteT {A B:Prop} (h:A):if true=true then A else B:=by
 rw [if_pos rfl]
 exact h
theorem ite2 {c A B:Prop} [Decidable c] (h1:c→A) (h2:¬ c→B):if c then A else B:=by
 by_cases h:c
 ·rw [if_pos h]
  exact h1 h
 ·rw [if_neg h]
  exact h2 h
def Same (H H':Hp):Prop:=∀ b o,H b=some o→H' b=some o
theorem Same.refl (H:Hp):Same H H:=fun _ _ h=>h
theorem Same.trans {H H1 H2:Hp} (a:Same H H1) (b:Same H1 H2):Same H H2:=fun c o h=>b c o (a c o h)
theorem Same.free {H H':Hp} (e:Same H H') {l:Addr} (h:H' l=Option.none):H l=Option.none:=by
 cases q:H l with
 | none=>rfl
 | some o =>
  rw [e l o q] at h
  cases h
section
variable {κ:Type} [DecidableEq κ]
theorem nd_snoc:∀ {l:List κ} {k:κ},l.Nodup→¬ k∈l→(l++[k]).Nodup
 | [],k,_,_=>by simp
 | a::r,k,h,hk=>by
  obtain ⟨h1,h2⟩:=List.nodup_cons.mp h
  show (a::(r++[k])).Nodup
  refine List.nodup_cons.mpr ⟨fun m=>?_,nd_snoc h2 fun m=>hk (List.mem_cons.mpr (Or.inr m))⟩
  rcases List.mem_append.mp m with q | q
  ·exact h1 q
  ·exact hk (List.mem_cons.mpr (Or.inl (List.mem_singleton.mp q).symm))
end
end L2
namespace WR
abbrev Road:=Int×Int×Int
def Joins (rs:List Road) (i:Nat) (p x l:Int):Prop:=rs[i]?=some (p,x,l)∨rs[i]?=some (x,p,l)
theorem Joins.symm {rs:List Road} {i:Nat} {p x l:Int} (h:Joins rs i p x l):Joins rs i x p l:=Or.symm h
theorem Joins.lt {rs:List Road} {i:Nat} {p x l:Int} (h:Joins rs i p x l):i < rs.length:=by
 rcases h with h | h <;> exact (List.getElem?_eq_some_iff.mp h).1
theorem Joins.len {rs:List Road} {i:Nat} {p x l q y m:Int} (h:Joins rs i p x l) (g:Joins rs i q y m):l=m:=by
 rcases h with h | h <;> rcases g with g | g <;> (rw [h] at g; simp only [Option.some.injEq,Prod.mk.injEq] at g; omega)
theorem Joins.ends {rs:List Road} {i:Nat} {p x l q y m:Int} (h:Joins rs i p x l) (g:Joins rs i q y m):(q=p∧y=x)∨(q=x∧y=p):=by
 rcases h with h | h <;> rcases g with g | g <;> (rw [h] at g; simp only [Option.some.injEq,Prod.mk.injEq] at g; omega)
structure Roads (n:Nat) (rs:List Road):Prop where
 lo:∀ r∈rs,0≤r.1∧0≤r.2.1
 hi:∀ r∈rs,r.1 < n∧r.2.1 < n
 ne:∀ r∈rs,r.1≠r.2.1
 ps:∀ r∈rs,1≤r.2.2∧r.2.2≤1000000
def InV (n:Nat) (x:Int):Prop:=0≤x∧x < n
theorem Roads.joins {n:Nat} {rs:List Road} {i:Nat} {p x l:Int} (R:Roads n rs) (h:Joins rs i p x l):InV n p∧InV n x∧p≠x∧1≤l∧l≤1000000:=by
 rcases h with h | h
 ·have m:=List.mem_of_getElem? h
  have:=R.lo _ m; have:=R.hi _ m; have:=R.ne _ m; have:=R.ps _ m
  exact ⟨⟨by simp_all,by simp_all⟩,⟨by simp_all,by simp_all⟩,by simp_all,by simp_all,by simp_all⟩
 ·have m:=List.mem_of_getElem? h
  have:=R.lo _ m; have:=R.hi _ m; have:=R.ne _ m; have:=R.ps _ m
  exact ⟨⟨by simp_all,by simp_all⟩,⟨by simp_all,by simp_all⟩,fun e=>R.ne _ m e.symm,by simp_all,by simp_all⟩
theorem nodup_le {α:Type} [DecidableEq α]:∀ {l m:List α},l.Nodup→(∀ x∈l,x∈m)→l.length≤m.length
 | [],_,_,_=>Nat.zero_le _
 | a::r,m,h,s=>by
  obtain ⟨h1,h2⟩:=List.nodup_cons.mp h
  have ha:a∈m:=s a List.mem_cons_self
  have:=nodup_le (l:=r) (m:=m.erase a) h2 fun x hx=>by
   have hne:x≠a:=fun e=>h1 (e ▸ hx)
   exact (List.mem_erase_of_ne hne).mpr (s x (List.mem_cons_of_mem _ hx))
  rw [List.length_erase_of_mem ha] at this
  have:0 < m.length:=List.length_pos_of_mem ha
  rw [List.length_cons]
  omega
theorem nodup_all {α:Type} [DecidableEq α] {l m:List α} (h:l.Nodup) (s:∀ x∈l,x∈m) (e:m.length≤l.length):∀ x∈m,x∈l:=by
 intro x hx
 refine Decidable.byContradiction fun hn=>?_
 have:=nodup_le (l:=x::l) (m:=m) (List.nodup_cons.mpr ⟨hn,h⟩) (fun y hy=>by
  rcases List.mem_cons.mp hy with rfl | hy
  ·exact hx
  ·exact s y hy)
 rw [List.length_cons] at this
 omega
theorem map_nodup_on {α β:Type} {f:α→β}:∀ {l:List α},l.Nodup→(∀ x∈l,∀ y∈l,f x=f y→x=y)→(l.map f).Nodup
 | [],_,_=>List.nodup_nil
 | a::r,h,g=>by
  obtain ⟨h1,h2⟩:=List.nodup_cons.mp h
  rw [List.map_cons]
  refine List.nodup_cons.mpr ⟨fun m=>?_,map_nodup_on h2 fun x hx y hy=>g x (List.mem_cons_of_mem _ hx) y (List.mem_cons_of_mem _ hy)⟩
  obtain ⟨y,hy,e⟩:=List.mem_map.mp m
  have:=g y (List.mem_cons_of_mem _ hy) a List.mem_cons_self e
  exact h1 (this ▸ hy)
def vil (n:Nat):List Int:=(List.range n).map fun (k:Nat)=>(k:Int)
theorem mem_vil {n:Nat} {x:Int}:x∈vil n↔InV n x:=by
 unfold vil InV
 rw [List.mem_map]
 constructor
 ·rintro ⟨k,hk,rfl⟩
  have:=List.mem_range.mp hk
  omega
 ·rintro ⟨h0,h1⟩
  exact ⟨x.toNat,List.mem_range.mpr (by omega),by omega⟩
theorem vil_nodup (n:Nat):(vil n).Nodup:=by
 unfold vil
 exact map_nodup_on List.nodup_range fun a _ b _ e=>by omega
theorem vil_length (n:Nat):(vil n).length=n:=by simp [vil]
structure Span (n:Nat) (rs:List Road) (s:Int) (par:Int→Int) (idx:Int→Nat) (D:Int→Int) (rk:Int→Nat):Prop where
 start:D s=0
 ins:InV n s
 pin:∀ x,InV n x→x≠s→InV n (par x)
 rank:∀ x,InV n x→x≠s→rk (par x) < rk x
 road:∀ x,InV n x→x≠s→∃ l,Joins rs (idx x) (par x) x l∧D x=D (par x) + l
section
variable {n:Nat} {rs:List Road} {s:Int} {par par':Int→Int} {idx idx':Int→Nat} {D D':Int→Int} {rk rk':Int→Nat}
theorem Span.inj (S:Span n rs s par idx D rk) {x y:Int} (hx:InV n x) (hy:InV n y) (nx:x≠s) (ny:y≠s) (e:idx x=idx y):x=y:=by
 obtain ⟨l,j,_⟩:=S.road x hx nx
 obtain ⟨m,k,_⟩:=S.road y hy ny
 rw [e] at j
 rcases j.ends k with ⟨a,b⟩ | ⟨a,b⟩
 ·exact b.symm
 ·have r1:=S.rank x hx nx
  have r2:=S.rank y hy ny
  rw [a] at r2
  rw [← b] at r1
  omega
theorem Span.surj (S:Span n rs s par idx D rk) (hn:rs.length + 1=n) {i:Nat} (hi:i < rs.length):∃ x,InV n x∧x≠s∧idx x=i:=by
 have hs:s∈vil n:=mem_vil.mpr S.ins
 have hl:((vil n).erase s).length=rs.length:=by
  rw [List.length_erase_of_mem hs,vil_length]
  omega
 have mem:∀ x,x∈(vil n).erase s→InV n x∧x≠s:=fun x hx=>by
  have:=(List.Nodup.mem_erase_iff (vil_nodup n)).mp hx
  exact ⟨mem_vil.mp this.2,this.1⟩
 have nd:(((vil n).erase s).map idx).Nodup:=map_nodup_on ((vil_nodup n).erase s) fun x hx y hy e=>S.inj (mem x hx).1 (mem y hy).1 (mem x hx).2 (mem y hy).2 e
 have sub:∀ j∈((vil n).erase s).map idx,j∈List.range rs.length:=fun j hj=>by
  obtain ⟨x,hx,rfl⟩:=List.mem_map.mp hj
  obtain ⟨l,jn,_⟩:=S.road x (mem x hx).1 (mem x hx).2
  exact List.mem_range.mpr jn.lt
 have:=nodup_all nd sub (by rw [List.length_map,hl,List.length_range]; exact Nat.le_refl _) i (List.mem_range.mpr hi)
 obtain ⟨x,hx,e⟩:=List.mem_map.mp this
 exact ⟨x,(mem x hx).1,(mem x hx).2,e⟩
theorem Span.uniq_idx (S:Span n rs s par idx D rk) (S':Span n rs s par' idx' D' rk') (hn:rs.length + 1=n):∀ x,InV n x→x≠s→idx x=idx' x:=by
 have all:∀ k x,rk' x < k→InV n x→x≠s→idx x=idx' x:=by
  intro k
  induction k with
  | zero=>intro x h; omega
  | succ k ih =>
   intro x hk hx nx
   obtain ⟨l,j,_⟩:=S'.road x hx nx
   obtain ⟨y,hy,ny,ey⟩:=S.surj hn j.lt
   obtain ⟨m,jy,_⟩:=S.road y hy ny
   rw [ey] at jy
   rcases j.ends jy with ⟨a,b⟩ | ⟨a,b⟩
   ·rw [b] at ey; exact ey
   ·
    have r1:=S'.rank x hx nx
    have e1:idx y=idx' y:=ih y (by rw [b]; omega) hy ny
    have e2:y=x:=S'.inj hy hx ny nx (by rw [← e1,ey])
    rw [← b] at r1
    rw [e2] at r1
    omega
 exact fun x=>all (rk' x + 1) x (Nat.lt_succ_self _)
theorem Span.uniq_par (S:Span n rs s par idx D rk) (S':Span n rs s par' idx' D' rk') (hn:rs.length + 1=n) (x:Int) (hx:InV n x) (nx:x≠s):par x=par' x:=by
 obtain ⟨l,j,_⟩:=S.road x hx nx
 obtain ⟨m,j',_⟩:=S'.road x hx nx
 rw [S.uniq_idx S' hn x hx nx] at j
 rcases j.ends j' with ⟨a,b⟩ | ⟨a,b⟩
 ·exact a.symm
 ·rw [a,← b]
theorem Span.uniq (S:Span n rs s par idx D rk) (S':Span n rs s par' idx' D' rk') (hn:rs.length + 1=n):∀ x,InV n x→D x=D' x:=by
 have all:∀ k x,rk' x < k→InV n x→D x=D' x:=by
  intro k
  induction k with
  | zero=>intro x h; omega
  | succ k ih =>
   intro x hk hx
   by_cases nx:x=s
   ·rw [nx,S.start,S'.start]
   ·obtain ⟨l,j,e⟩:=S.road x hx nx
    obtain ⟨m,j',e'⟩:=S'.road x hx nx
    rw [S.uniq_idx S' hn x hx nx] at j
    have:=j.len j'
    have hp:=S.uniq_par S' hn x hx nx
    have:=ih (par' x) (by have:=S'.rank x hx nx; omega) (S'.pin x hx nx)
    rw [e,e',hp]
    omega
 exact fun x=>all (rk' x + 1) x (Nat.lt_succ_self _)
theorem Span.pos (S:Span n rs s par idx D rk) (R:Roads n rs):∀ x,InV n x→0≤D x∧(x≠s→0 < D x):=by
 have all:∀ k x,rk x < k→InV n x→0≤D x∧(x≠s→0 < D x):=by
  intro k
  induction k with
  | zero=>intro x h; omega
  | succ k ih =>
   intro x hk hx
   by_cases nx:x=s
   ·rw [nx,S.start]; exact ⟨Int.le_refl _,fun h=>absurd rfl h⟩
   ·obtain ⟨l,j,e⟩:=S.road x hx nx
    have:=(R.joins j).2.2.2
    have:=ih (par x) (by have:=S.rank x hx nx; omega) (S.pin x hx nx)
    omega
 exact fun x=>all (rk x + 1) x (Nat.lt_succ_self _)
end
def up (par:Int→Int):Nat→Int→Int
 | 0,x=>x
 | k + 1,x=>up par k (par x)
theorem up_succ (par:Int→Int):∀ k x,up par (k + 1) x=par (up par k x)
 | 0,_=>rfl
 | k + 1,x=>by
  show up par (k + 1) (par x)=par (up par k (par x))
  exact up_succ par k (par x)
section
variable {n:Nat} {rs:List Road} {s t:Int} {par par':Int→Int} {idx idx':Int→Nat} {D D':Int→Int} {rk rk':Int→Nat}
theorem Span.reach (S:Span n rs s par idx D rk):∀ x,InV n x→∃ k,up par k x=s∧∀ j,j < k→InV n (up par j x)∧up par j x≠s:=by
 have all:∀ k x,rk x < k→InV n x→∃ k,up par k x=s∧∀ j,j < k→InV n (up par j x)∧up par j x≠s:=by
  intro k
  induction k with
  | zero=>intro x h; omega
  | succ k ih =>
   intro x hk hx
   by_cases nx:x=s
   ·exact ⟨0,nx,fun j hj=>absurd hj (Nat.not_lt_zero _)⟩
   ·obtain ⟨m,h1,h2⟩:=ih (par x) (by have:=S.rank x hx nx; omega) (S.pin x hx nx)
    refine ⟨m + 1,h1,fun j hj=>?_⟩
    cases j with
    | zero=>exact ⟨hx,nx⟩
    | succ j=>exact h2 j (by omega)
 exact fun x=>all (rk x + 1) x (Nat.lt_succ_self _)
theorem Span.turn (S:Span n rs s par idx D rk) (T:Span n rs t par' idx' D' rk') (hn:rs.length + 1=n) {k:Nat} (hk:∀ j,j < k→InV n (up par j t)∧up par j t≠s) :
  ∀ j,j < k→InV n (up par (j + 1) t)∧up par (j + 1) t≠t∧idx' (up par (j + 1) t)=idx (up par j t)∧par' (up par (j + 1) t)=up par j t∧D' (up par (j + 1) t) + D (up par (j + 1) t)=D t:=by
 intro j
 induction j with
 | zero =>
  intro hj
  obtain ⟨h1,h2⟩:=hk 0 hj
  obtain ⟨l,jn,e⟩:=S.road t h1 h2
  obtain ⟨y,hy,ny,ey⟩:=T.surj hn jn.lt
  obtain ⟨m,jy,ed⟩:=T.road y hy ny
  rw [ey] at jy
  have hne:par t≠t:=fun z=>by have:=S.rank t h1 h2; rw [z] at this; omega
  rcases jn.ends jy with ⟨a,b⟩ | ⟨a,b⟩
  ·exact absurd b ny
  ·show InV n (par t)∧par t≠t∧idx' (par t)=idx t∧par' (par t)=t∧D' (par t) + D (par t)=D t
   rw [b] at a ey ed
   have:=jn.len jy
   have e0:D' t=0:=T.start
   refine ⟨S.pin t h1 h2,hne,ey,a,?_⟩
   rw [a,e0] at ed
   omega
 | succ j ih =>
  intro hj
  obtain ⟨i1,i2,i3,i4,i5⟩:=ih (by omega)
  obtain ⟨h1,h2⟩:=hk (j + 1) hj
  obtain ⟨g1,g2⟩:=hk j (by omega)
  rw [up_succ par (j + 1) t]
  generalize hz:up par (j + 1) t=z at *
  obtain ⟨l,jn,e⟩:=S.road z h1 h2
  obtain ⟨y,hy,ny,ey⟩:=T.surj hn jn.lt
  obtain ⟨m,jy,ed⟩:=T.road y hy ny
  rw [ey] at jy
  have hne:par z≠z:=fun q=>by have:=S.rank z h1 h2; rw [q] at this; omega
  have noz:y≠z:=fun q=>by
   rw [q,i3] at ey
   have:=S.inj g1 h1 g2 h2 ey
   have r:=S.rank _ g1 g2
   have:par (up par j t)=z:=by rw [← up_succ par j t]; exact hz
   rw [this] at r
   rw [‹up par j t=z›] at r
   omega
  rcases jn.ends jy with ⟨a,b⟩ | ⟨a,b⟩
  ·exact absurd b noz
  ·rw [b] at a ey ed ny
   have:=jn.len jy
   rw [a] at ed
   refine ⟨S.pin z h1 h2,ny,ey,a,?_⟩
   omega
theorem Span.symm (S:Span n rs s par idx D rk) (T:Span n rs t par' idx' D' rk') (hn:rs.length + 1=n):D t=D' s:=by
 obtain ⟨k,h1,h2⟩:=S.reach t T.ins
 cases k with
 | zero =>
  have h1:t=s:=h1
  rw [h1,S.start,← h1,T.start]
 | succ k =>
  have:=(S.turn T hn h2 k (Nat.lt_succ_self _)).2.2.2.2
  rw [h1,S.start] at this
  omega
theorem Span.one (S : Span n rs s par idx D rk) (hn : rs.length + 1 = n) {i j : Nat} {l m y : Int} (h : Joins rs i s y l) (g : Joins rs j s y m) : i = j := by
  obtain ⟨x, hx, nx, ex⟩ := S.surj hn h.lt
  obtain ⟨z, hz, nz, ez⟩ := S.surj hn g.lt
  obtain ⟨_, jx, _⟩ := S.road x hx nx
  obtain ⟨_, jz, _⟩ := S.road z hz nz
  rw [ex] at jx
  rw [ez] at jz
  have e1 : x = y := by rcases h.ends jx with ⟨_, b⟩ | ⟨_, b⟩
                        · exact b
                        · exact absurd b nx
  have e2 : z = y := by rcases g.ends jz with ⟨_, b⟩ | ⟨_, b⟩
                        · exact b
                        · exact absurd b nz
  rw [← ex, ← ez, e1, e2]
end
abbrev Ent:=Int×Int×Int
def keys (tab:List Ent):List Int:=tab.map (·.1)
structure Tab (rs:List Road) (s:Int) (tab:List Ent):Prop where
 hd:tab[0]?=some (s,s,0)
 nd:(keys tab).Nodup
 en:∀ (j:Nat) (x p d:Int),tab[j]?=some (x,p,d)→0 < j→∃ (j':Nat) (q e:Int) (i:Nat) (l:Int),j' < j∧tab[j']?=some (p,q,e)∧Joins rs i p x l∧d=e + l
theorem mem_keys {tab:List Ent} {x:Int}:x∈keys tab↔∃ p d,(x,p,d)∈tab:=by
 unfold keys
 rw [List.mem_map]
 constructor
 ·rintro ⟨⟨y,p,d⟩,h,rfl⟩; exact ⟨p,d,h⟩
 ·rintro ⟨p,d,h⟩; exact ⟨_,h,rfl⟩
theorem keys_append (a b:List Ent):keys (a++b)=keys a++keys b:=List.map_append
theorem Tab.one (rs:List Road) (s:Int):Tab rs s [(s,s,0)]:=by
 refine ⟨rfl,by simp [keys],fun j x p d h hj=>?_⟩
 cases j with
 | zero=>omega
 | succ j=>simp at h
section
variable {n:Nat} {rs:List Road} {s:Int} {tab:List Ent}
theorem Tab.start (T:Tab rs s tab):(s,s,0)∈tab:=List.mem_of_getElem? T.hd
theorem Tab.skey (T:Tab rs s tab):s∈keys tab:=mem_keys.mpr ⟨_,_,T.start⟩
theorem nd_snoc {α:Type} {l:List α} {a:α} (h:l.Nodup) (ha:a ∉ l):(l++[a]).Nodup:=by
 rw [List.nodup_append]
 refine ⟨h,by simp,fun x hx y hy e=>?_⟩
 have:=List.mem_singleton.mp hy
 subst this
 exact ha (e ▸ hx)
theorem Tab.snoc (T:Tab rs s tab) {p q e x l:Int} {i:Nat} (hp:(p,q,e)∈tab) (hj:Joins rs i p x l) (hx:x ∉ keys tab):Tab rs s (tab++[(x,p,e + l)]):=by
 have hlen:0 < tab.length:=by
  have:=T.hd
  cases tab with
  | nil=>simp at this
  | cons _ _=>simp
 refine ⟨?_,?_,fun j y r d h hj'=>?_⟩
 ·rw [List.getElem?_append_left hlen]; exact T.hd
 ·rw [keys_append]; exact nd_snoc T.nd hx
 ·by_cases hlt:j < tab.length
  ·rw [List.getElem?_append_left hlt] at h
   obtain ⟨j',q',e',i',l',h1,h2,h3⟩:=T.en j y r d h hj'
   exact ⟨j',q',e',i',l',h1,by rw [List.getElem?_append_left (by omega)]; exact h2,h3⟩
  ·have hj2:j=tab.length:=by
    have:=(List.getElem?_eq_some_iff.mp h).1
    simp at this; omega
   subst hj2
   rw [List.getElem?_append_right (Nat.le_refl _)] at h
   simp at h
   obtain ⟨rfl,rfl,rfl⟩:=h
   obtain ⟨j',hj1,hj2⟩:=List.mem_iff_getElem.mp hp
   exact ⟨j',q,e,i,l,hj1,by rw [List.getElem?_append_left hj1,List.getElem?_eq_getElem hj1,hj2],hj,rfl⟩
def look (tab:List Ent) (x:Int):Option (Int×Int):=(tab.find? fun e=>decide (e.1=x)).map (·.2)
theorem look_mem {x p d:Int} (nd:(keys tab).Nodup) (h:(x,p,d)∈tab):look tab x=some (p,d):=by
 induction tab with
 | nil=>simp at h
 | cons a r ih =>
  unfold look keys at *
  rw [List.map_cons] at nd
  obtain ⟨n1,n2⟩:=List.nodup_cons.mp nd
  rw [List.find?_cons]
  rcases List.mem_cons.mp h with e | e
  ·subst e; simp
  ·have:¬ a.1=x:=fun z=>n1 (by rw [z]; exact List.mem_map.mpr ⟨_,e,rfl⟩)
   simp [this]
   simpa using ih n2 e
theorem nodup_place {α:Type}:∀ {l:List α},l.Nodup→∀ {i j:Nat} {x:α},l[i]?=some x→l[j]?=some x→i=j
 | [],_,i,j,x,h,_=>by simp at h
 | a::r,nd,i,j,x,h,g=>by
  obtain ⟨n1,n2⟩:=List.nodup_cons.mp nd
  cases i with
  | zero =>
   cases j with
   | zero=>rfl
   | succ j =>
    simp at h g
    exact absurd (h ▸ List.mem_of_getElem? g) n1
  | succ i =>
   cases j with
   | zero =>
    simp at h g
    exact absurd (g ▸ List.mem_of_getElem? h) n1
   | succ j =>
    simp at h g
    rw [nodup_place n2 h g]
theorem keys_place (nd:(keys tab).Nodup) {i j:Nat} {x p d q e:Int} (h:tab[i]?=some (x,p,d)) (g:tab[j]?=some (x,q,e)):i=j:=by
 have h':(keys tab)[i]?=some x:=by unfold keys; rw [List.getElem?_map,h]; rfl
 have g':(keys tab)[j]?=some x:=by unfold keys; rw [List.getElem?_map,g]; rfl
 exact nodup_place nd h' g'
theorem Tab.span (T:Tab rs s tab) (hv:∀ x,InV n x→x∈keys tab) (hs:InV n s) (hk:∀ x∈keys tab,InV n x) :
  ∃ (par:Int→Int) (idx:Int→Nat) (D:Int→Int) (rk:Int→Nat),Span n rs s par idx D rk∧(∀ x p d,(x,p,d)∈tab→D x=d∧par x=p):=by
 have place:∀ x,∃ j:Nat,InV n x→∃ p d,tab[j]?=some (x,p,d):=fun x=>by
  by_cases h:InV n x
  ·obtain ⟨p,d,hm⟩:=mem_keys.mp (hv x h)
   obtain ⟨j,hj⟩:=List.mem_iff_getElem?.mp hm
   exact ⟨j,fun _=>⟨p,d,hj⟩⟩
  ·exact ⟨0,fun q=>absurd q h⟩
 let rk:Int→Nat:=fun x=>Classical.choose (place x)
 have hrk:∀ x,InV n x→∃ p d,tab[rk x]?=some (x,p,d):=fun x=>Classical.choose_spec (place x)
 let par:Int→Int:=fun x=>((look tab x).map (·.1)).getD 0
 let D:Int→Int:=fun x=>((look tab x).map (·.2)).getD 0
 have val:∀ x p d,(x,p,d)∈tab→D x=d∧par x=p:=fun x p d h=>by
  have:=look_mem T.nd h
  exact ⟨by show ((look tab x).map (·.2)).getD 0=d; rw [this]; rfl,by show ((look tab x).map (·.1)).getD 0=p; rw [this]; rfl⟩
 have step:∀ x,∃ i:Nat,InV n x→x≠s→InV n (par x)∧rk (par x) < rk x∧∃ l,Joins rs i (par x) x l∧D x=D (par x) + l:=fun x=>by
  by_cases h:InV n x∧x≠s
  ·obtain ⟨hx,nx⟩:=h
   obtain ⟨p,d,hj⟩:=hrk x hx
   have h0:0 < rk x:=by
    refine Nat.pos_of_ne_zero fun z=>?_
    rw [z,T.hd] at hj
    simp at hj
    exact nx hj.1.symm
   obtain ⟨j',q,e,i,l,h1,h2,h3,h4⟩:=T.en _ x p d hj h0
   obtain ⟨vd,vp⟩:=val x p d (List.mem_of_getElem? hj)
   obtain ⟨ve,_⟩:=val p q e (List.mem_of_getElem? h2)
   have hp:InV n p:=hk p (mem_keys.mpr ⟨q,e,List.mem_of_getElem? h2⟩)
   obtain ⟨q',e',hj'⟩:=hrk p hp
   have:=keys_place T.nd h2 hj'
   refine ⟨i,fun _ _=>?_⟩
   rw [vp,vd,ve]
   exact ⟨hp,by omega,l,h3,h4⟩
  ·exact ⟨0,fun a b=>absurd ⟨a,b⟩ h⟩
 refine ⟨par,fun x=>Classical.choose (step x),D,rk,⟨(val s s 0 T.start).1,hs,fun x hx nx=>?_,fun x hx nx=>?_,fun x hx nx=>?_⟩,val⟩
 ·exact (Classical.choose_spec (step x) hx nx).1
 ·exact (Classical.choose_spec (step x) hx nx).2.1
 ·exact (Classical.choose_spec (step x) hx nx).2.2
end
def Conn (n:Nat) (rs:List Road):Prop:=∀ K:Int→Prop,K 0→(∀ i x y l,K x→Joins rs i x y l→K y)→∀ v,InV n v→K v
structure Tree (n:Nat) (rs:List Road):Prop where
 roads:Roads n rs
 count:rs.length + 1=n
 conn:Conn n rs
section
variable {n:Nat} {rs:List Road} {s:Int} {tab:List Ent}
theorem Conn.from (C:Conn n rs) (h0:InV n s) (K:Int→Prop) (hs:K s) (hc:∀ i x y l,K x→Joins rs i x y l→K y):∀ v,InV n v→K v:=by
 have k0:K 0:=by
  refine Classical.byContradiction fun h=>?_
  exact C (fun v=>¬ K v) h (fun i x y l nx j ky=>nx (hc i y x l ky j.symm)) s h0 hs
 exact C K k0 hc
def Closed (rs:List Road) (tab:List Ent) (x:Int):Prop:=∀ (i:Nat) (y l:Int),Joins rs i x y l→y∈keys tab
theorem Tab.inv (T:Tab rs s tab) (R:Roads n rs) (hs:InV n s):∀ x∈keys tab,InV n x:=by
 have all:∀ (k j:Nat) (x p d:Int),j < k→tab[j]?=some (x,p,d)→InV n x:=by
  intro k
  induction k with
  | zero=>intro j x p d h; omega
  | succ k ih =>
   intro j x p d hj h
   cases j with
   | zero =>
    rw [T.hd] at h
    simp at h
    rw [← h.1]; exact hs
   | succ j =>
    obtain ⟨j',q,e,i,l,h1,h2,h3,h4⟩:=T.en _ x p d h (Nat.succ_pos _)
    exact (R.joins h3).2.1
 intro x hx
 obtain ⟨p,d,hm⟩:=mem_keys.mp hx
 obtain ⟨j,hj⟩:=List.mem_iff_getElem?.mp hm
 exact all (j + 1) j x p d (Nat.lt_succ_self _) hj
theorem keys_length (tab:List Ent):(keys tab).length=tab.length:=by simp [keys]
theorem Tab.le (T:Tab rs s tab) (R:Roads n rs) (hs:InV n s):tab.length≤n:=by
 have:=nodup_le T.nd (m:=vil n) fun x hx=>mem_vil.mpr (T.inv R hs x hx)
 rw [vil_length,keys_length] at this
 exact this
theorem Tab.all (T:Tab rs s tab) (C:Conn n rs) (hs:InV n s) (hc:∀ x∈keys tab,Closed rs tab x):∀ x,InV n x→x∈keys tab :=
 C.from hs (fun x=>x∈keys tab) T.skey fun i x y l kx j=>hc x kx i y l j
theorem Tab.full (T:Tab rs s tab) (R:Roads n rs) (C:Conn n rs) (hs:InV n s) (hc:∀ x∈keys tab,Closed rs tab x):tab.length=n:=by
 have h1:=T.le R hs
 have h2:=nodup_le (vil_nodup n) (m:=keys tab) fun x hx=>T.all C hs hc x (mem_vil.mp hx)
 rw [vil_length,keys_length] at h2
 omega
theorem Tab.conn (T:Tab rs 0 tab) (R:Roads n rs) (h0:InV n 0) (hl:tab.length=n):Conn n rs:=by
 intro K k0 hc v hv
 have all:∀ (k j:Nat) (x p d:Int),j < k→tab[j]?=some (x,p,d)→K x:=by
  intro k
  induction k with
  | zero=>intro j x p d h; omega
  | succ k ih =>
   intro j x p d hj h
   cases j with
   | zero =>
    rw [T.hd] at h
    simp at h
    rw [← h.1]; exact k0
   | succ j =>
    obtain ⟨j',q,e,i,l,h1,h2,h3,h4⟩:=T.en _ x p d h (Nat.succ_pos _)
    exact hc i p x l (ih j' p q e (by omega) h2) h3
 have hm:v∈keys tab:=nodup_all T.nd (m:=vil n) (fun x hx=>mem_vil.mpr (T.inv R h0 x hx)) (by rw [vil_length,keys_length,hl]; exact Nat.le_refl _) v (mem_vil.mpr hv)
 obtain ⟨p,d,hm⟩:=mem_keys.mp hm
 obtain ⟨j,hj⟩:=List.mem_iff_getElem?.mp hm
 exact all (j + 1) j v p d (Nat.lt_succ_self _) hj
end
end WR
namespace WR
def stepsOf (r:Road) (v:Int):List (Int×Int):=(if r.1=v then [(r.2.1,r.2.2)] else [])++(if r.2.1=v then [(r.1,r.2.2)] else [])
def stepsM (rs:List Road) (v:Int):List (Int×Int):=rs.flatMap fun r=>stepsOf r v
theorem stepsM_take {rs:List Road} {v:Int} {i:Nat} {r:Road} (h:rs[i]?=some r):stepsM (rs.take (i + 1)) v=stepsM (rs.take i) v++stepsOf r v:=by
 unfold stepsM
 rw [List.take_add_one,h,List.flatMap_append]
 simp
theorem mem_stepsOf {r:Road} {v y l:Int}:(y,l)∈stepsOf r v↔r=(v,y,l)∨r=(y,v,l):=by
 obtain ⟨a,b,c⟩:=r
 unfold stepsOf
 rw [List.mem_append]
 simp only [Prod.mk.injEq]
 constructor
 ·rintro (h | h)
  ·split at h
   ·simp at h; omega
   ·simp at h
  ·split at h
   ·simp at h; omega
   ·simp at h
 ·rintro (⟨h1,h2,h3⟩ | ⟨h1,h2,h3⟩)
  ·left; simp [h1,h2,h3]
  ·right; simp [h1,h2,h3]
theorem mem_stepsM {rs:List Road} {v y l:Int}:(y,l)∈stepsM rs v↔∃ i,Joins rs i v y l:=by
 unfold stepsM
 rw [List.mem_flatMap]
 constructor
 ·rintro ⟨r,hr,h⟩
  obtain ⟨i,hi⟩:=List.mem_iff_getElem?.mp hr
  refine ⟨i,?_⟩
  rcases mem_stepsOf.mp h with e | e
  ·left; rw [hi,e]
  ·right; rw [hi,e]
 ·rintro ⟨i,h | h⟩
  ·exact ⟨_,List.mem_of_getElem? h,mem_stepsOf.mpr (.inl rfl)⟩
  ·exact ⟨_,List.mem_of_getElem? h,mem_stepsOf.mpr (.inr rfl)⟩
theorem stepsOf_length (r:Road) (v:Int):(stepsOf r v).length≤2:=by
 unfold stepsOf
 split <;> split <;> simp
theorem stepsM_length (rs:List Road) (v:Int):(stepsM rs v).length≤2 * rs.length:=by
 unfold stepsM
 induction rs with
 | nil=>simp
 | cons r t ih =>
  rw [List.flatMap_cons,List.length_append,List.length_cons]
  have:=stepsOf_length r v
  omega
structure RI (rs:List Road) (s:Int) (tab:List Ent) (ws:List Int):Prop where
 T:Tab rs s tab
 sub:∀ x∈ws,x∈keys tab
 cl:∀ x∈keys tab,x ∉ ws→Closed rs tab x
structure RJ (rs:List Road) (s h:Int) (j:Nat) (tab:List Ent) (ws:List Int):Prop where
 T:Tab rs s tab
 sub:∀ x∈ws,x∈keys tab
 here:h∈keys tab
 cl:∀ x∈keys tab,x ∉ ws→x≠h→Closed rs tab x
 done:∀ y l,(y,l)∈(stepsM rs h).take j→y∈keys tab
section
variable {rs:List Road} {s h:Int} {j:Nat} {tab:List Ent} {ws:List Int}
theorem RI.begin (rs:List Road) (s:Int):RI rs s [(s,s,0)] [s]:=by
 refine ⟨Tab.one rs s,fun x hx=>?_,fun x hx nx=>?_⟩
 ·simpa [keys] using hx
 ·exact absurd (by simpa [keys] using hx) nx
theorem RI.pop (I:RI rs s tab (ws++[h])):RJ rs s h 0 tab ws :=
 ⟨I.T,fun x hx=>I.sub x (List.mem_append_left _ hx),I.sub h (by simp),fun x hx nx ne=>I.cl x hx (by simp [nx,ne]),fun y l m=>by simp at m⟩
theorem Closed.more {tab more:List Ent} {x:Int} (c:Closed rs tab x):Closed rs (tab++more) x:=fun i y l jn=>by
 rw [keys_append]
 exact List.mem_append_left _ (c i y l jn)
theorem take_next {α:Type} {l:List α} {j:Nat} {a x:α} (h:l[j]?=some a) (m:x∈l.take (j + 1)):x∈l.take j∨x=a:=by
 rw [List.take_add_one,h] at m
 simpa using m
theorem RJ.skip (I:RJ rs s h j tab ws) {y l:Int} (e:(stepsM rs h)[j]?=some (y,l)) (k:y∈keys tab):RJ rs s h (j + 1) tab ws :=
 ⟨I.T,I.sub,I.here,I.cl,fun z m hm=>by
  rcases take_next e hm with q | q
  ·exact I.done z m q
  ·simp at q; rw [q.1]; exact k⟩
theorem RJ.add (I:RJ rs s h j tab ws) {y l q d:Int} (e:(stepsM rs h)[j]?=some (y,l)) (k:y ∉ keys tab) (hq:(h,q,d)∈tab):RJ rs s h (j + 1) (tab++[(y,h,d + l)]) (ws++[y]):=by
 obtain ⟨i,jn⟩:=mem_stepsM.mp (List.mem_of_getElem? e)
 have ky:y∈keys (tab++[(y,h,d + l)]):=by rw [keys_append]; simp [keys]
 have mono:∀ x,x∈keys tab→x∈keys (tab++[(y,h,d + l)]):=fun x hx=>by rw [keys_append]; exact List.mem_append_left _ hx
 refine ⟨I.T.snoc hq jn k,fun x hx=>?_,mono _ I.here,fun x hx nx ne=>?_,fun z m hm=>?_⟩
 ·rcases List.mem_append.mp hx with z | z
  ·exact mono x (I.sub x z)
  ·rw [List.mem_singleton.mp z]; exact ky
 ·rw [keys_append] at hx
  rcases List.mem_append.mp hx with z | z
  ·exact (I.cl x z (fun m=>nx (List.mem_append_left _ m)) ne).more
  ·exact absurd (by simpa [keys] using z) (fun z:x=y=>nx (by rw [z]; simp))
 ·rcases take_next e hm with q | q
  ·exact mono z (I.done z m q)
  ·simp at q; rw [q.1]; exact ky
theorem RJ.fin (I:RJ rs s h (stepsM rs h).length tab ws):RI rs s tab ws :=
 ⟨I.T,I.sub,fun x hx nx=>by
  by_cases e:x=h
  ·subst e
   intro i y l jn
   exact I.done y l (by rw [List.take_length]; exact mem_stepsM.mpr ⟨i,jn⟩)
  ·exact I.cl x hx nx e⟩
theorem RI.fin (I:RI rs s tab []):∀ x∈keys tab,Closed rs tab x:=fun x hx=>I.cl x hx (by simp)
theorem Tab.key_end (T:Tab rs s tab):∀ x∈keys tab,x∈s::(rs.map (·.1)++rs.map (·.2.1)):=by
 intro x hx
 obtain ⟨p,d,hm⟩:=mem_keys.mp hx
 obtain ⟨j,hj⟩:=List.mem_iff_getElem?.mp hm
 cases j with
 | zero =>
  rw [T.hd] at hj
  simp at hj
  rw [hj.1]; simp
 | succ j =>
  obtain ⟨j',q,e,i,l,h1,h2,h3,h4⟩:=T.en _ x p d hj (Nat.succ_pos _)
  refine List.mem_cons_of_mem _ (List.mem_append.mpr ?_)
  rcases h3 with z | z
  ·right; exact List.mem_map.mpr ⟨_,List.mem_of_getElem? z,rfl⟩
  ·left; exact List.mem_map.mpr ⟨_,List.mem_of_getElem? z,rfl⟩
theorem Tab.bound (T:Tab rs s tab):tab.length≤2 * rs.length + 1:=by
 have:=nodup_le T.nd T.key_end
 rw [keys_length,List.length_cons,List.length_append,List.length_map,List.length_map] at this
 omega
end
def dist (tab:List Ent) (x:Int):Int:=((look tab x).map (·.2)).getD 0
def relax1 (tab:List Ent) (r:Road):List Ent :=
 if r.1∈keys tab∧r.2.1 ∉ keys tab then tab++[(r.2.1,r.1,dist tab r.1 + r.2.2)]
 else if r.2.1∈keys tab∧r.1 ∉ keys tab then tab++[(r.1,r.2.1,dist tab r.2.1 + r.2.2)] else tab
def relaxR (rs:List Road) (tab:List Ent):List Ent:=rs.foldl relax1 tab
def relaxN (rs:List Road):Nat→List Ent→List Ent
 | 0,tab=>tab
 | k + 1,tab=>relaxR rs (relaxN rs k tab)
section
variable {n:Nat} {rs:List Road} {s:Int} {tab:List Ent}
theorem look_key {x:Int} (nd:(keys tab).Nodup) (h:x∈keys tab):∃ p,(x,p,dist tab x)∈tab:=by
 obtain ⟨p,d,hm⟩:=mem_keys.mp h
 refine ⟨p,?_⟩
 have:=look_mem nd hm
 unfold dist
 rw [this]
 exact hm
theorem relax1_more (tab:List Ent) (r:Road):∃ more,relax1 tab r=tab++more:=by
 unfold relax1
 split
 ·exact ⟨_,rfl⟩
 ·split
  ·exact ⟨_,rfl⟩
  ·exact ⟨[],by simp⟩
theorem Tab.relax1 (T:Tab rs s tab) {i:Nat} {r:Road} (h:rs[i]?=some r):Tab rs s (WR.relax1 tab r):=by
 obtain ⟨a,b,l⟩:=r
 unfold WR.relax1
 split
 ·rename_i c
  obtain ⟨p,hp⟩:=look_key T.nd c.1
  exact T.snoc hp (i:=i) (.inl h) c.2
 ·split
  ·rename_i c
   obtain ⟨p,hp⟩:=look_key T.nd c.1
   exact T.snoc hp (i:=i) (.inr h) c.2
  ·exact T
theorem foldl_more (f:List Ent→Road→List Ent) (hf:∀ t r,∃ more,f t r=t++more):∀ (l:List Road) (t:List Ent),∃ more,l.foldl f t=t++more
 | [],t=>⟨[],by simp⟩
 | r::l,t=>by
  obtain ⟨m1,e1⟩:=hf t r
  obtain ⟨m2,e2⟩:=foldl_more f hf l (f t r)
  exact ⟨m1++m2,by rw [List.foldl_cons,e2,e1,List.append_assoc]⟩
theorem Tab.relaxL (T:Tab rs s tab):∀ (l:List Road),(∀ r∈l,r∈rs)→Tab rs s (l.foldl WR.relax1 tab):=by
 intro l
 induction l generalizing tab with
 | nil=>intro _; exact T
 | cons r l ih =>
  intro h
  obtain ⟨i,hi⟩:=List.mem_iff_getElem?.mp (h r List.mem_cons_self)
  rw [List.foldl_cons]
  exact ih (T.relax1 hi) fun q hq=>h q (List.mem_cons_of_mem _ hq)
theorem Tab.relaxR (T:Tab rs s tab):Tab rs s (WR.relaxR rs tab):=T.relaxL rs fun _ h=>h
theorem Tab.relaxN (T:Tab rs s tab):∀ k,Tab rs s (WR.relaxN rs k tab)
 | 0=>T
 | k + 1=>(T.relaxN k).relaxR
theorem relax_grow (T:Tab rs s tab) (C:Conn n rs) (hs:InV n s) (hlt:∃ x,InV n x∧x ∉ keys tab):tab.length + 1≤(WR.relaxR rs tab).length:=by
 have hex:∃ i x y l,Joins rs i x y l∧x∈keys tab∧y ∉ keys tab:=by
  refine Classical.byContradiction fun hn=>?_
  obtain ⟨x,hx,nx⟩:=hlt
  refine nx (T.all C hs (fun z hz i y l jn=>?_) x hx)
  exact Classical.byContradiction fun q=>hn ⟨i,z,y,l,jn,hz,q⟩
 obtain ⟨i,x,y,l,jn,kx,ky⟩:=hex
 have grow:∀ t:List Ent,(∃ more,t=tab++more)→y∈keys t→tab.length + 1≤t.length:=by
  rintro t ⟨more,rfl⟩ hy
  cases more with
  | nil=>simp at hy; exact absurd hy ky
  | cons _ _=>simp
 have hi:=jn.lt
 unfold WR.relaxR
 have split:rs=rs.take i++rs[i]::rs.drop (i + 1):=by
  rw [← List.drop_eq_getElem_cons hi,List.take_append_drop]
 have hr:rs[i]?=some rs[i]:=List.getElem?_eq_getElem hi
 generalize rs[i]=r at split hr
 rw [split,List.foldl_append,List.foldl_cons]
 obtain ⟨m1,e1⟩:=foldl_more relax1 relax1_more (rs.take i) tab
 obtain ⟨m2,e2⟩:=relax1_more ((rs.take i).foldl relax1 tab) r
 obtain ⟨m3,e3⟩:=foldl_more relax1 relax1_more (rs.drop (i + 1)) (relax1 ((rs.take i).foldl relax1 tab) r)
 have T1:Tab rs s ((rs.take i).foldl relax1 tab):=T.relaxL _ fun q hq=>List.mem_of_mem_take hq
 have kx1:x∈keys ((rs.take i).foldl relax1 tab):=by rw [e1,keys_append]; exact List.mem_append_left _ kx
 have step:y∈keys (relax1 ((rs.take i).foldl relax1 tab) r):=by
  by_cases hy:y∈keys ((rs.take i).foldl relax1 tab)
  ·rw [e2,keys_append]; exact List.mem_append_left _ hy
  ·unfold relax1
   rcases jn with z | z
   ·rw [hr] at z
    have z:=Option.some.inj z
    subst z
    rw [if_pos ⟨kx1,hy⟩,keys_append]
    simp [keys]
   ·rw [hr] at z
    have z:=Option.some.inj z
    subst z
    rw [if_neg (fun c=>hy c.1),if_pos ⟨kx1,hy⟩,keys_append]
    simp [keys]
 refine grow _ ⟨m1++m2++m3,by rw [e3,e2,e1]; simp⟩ ?_
 rw [e3,keys_append]
 exact List.mem_append_left _ step
theorem relaxN_len (T:Tab rs s tab) (R:Roads n rs) (C:Conn n rs) (hs:InV n s):∀ k,min n (tab.length + k)≤(relaxN rs k tab).length
 | 0=>by simp only [relaxN]; omega
 | k + 1=>by
  have ih:=relaxN_len T R C hs k
  have Tk:=T.relaxN k
  by_cases h:∃ x,InV n x∧x ∉ keys (relaxN rs k tab)
  ·have:=relax_grow Tk C hs h
   show _≤(relaxR rs (relaxN rs k tab)).length
   omega
  ·have h2:=nodup_le (vil_nodup n) (m:=keys (relaxN rs k tab)) fun x hx=>Classical.byContradiction fun q=>h ⟨x,mem_vil.mp hx,q⟩
   rw [vil_length,keys_length] at h2
   obtain ⟨m,e⟩:=foldl_more relax1 relax1_more rs (relaxN rs k tab)
   show _≤(relaxR rs (relaxN rs k tab)).length
   unfold relaxR
   rw [e,List.length_append]
   omega
theorem relax_all (R:Roads n rs) (C:Conn n rs) (hs:InV n s):∀ x,InV n x→x∈keys (relaxN rs n [(s,s,0)]):=by
 intro x hx
 have T:=(Tab.one rs s).relaxN n
 have:=relaxN_len (Tab.one rs s) R C hs n
 have l2:n≤(relaxN rs n [(s,s,0)]).length:=by omega
 exact nodup_all T.nd (m:=vil n) (fun y hy=>mem_vil.mpr (T.inv R hs y hy)) (by rw [vil_length,keys_length]; exact l2) x (mem_vil.mpr hx)
end
def far (n:Nat) (rs:List Road) (s x:Int):Int:=dist (relaxN rs n [(s,s,0)]) x
section
variable {n:Nat} {rs:List Road} {s t:Int} {tab:List Ent}
theorem dist_mem {x p d:Int} (nd:(keys tab).Nodup) (h:(x,p,d)∈tab):dist tab x=d:=by
 unfold dist
 rw [look_mem nd h]
 rfl
theorem Span.congr {par:Int→Int} {idx:Int→Nat} {D D':Int→Int} {rk:Int→Nat} (S:Span n rs s par idx D rk) (e:∀ x,InV n x→D x=D' x):Span n rs s par idx D' rk :=
 ⟨by rw [← e s S.ins]; exact S.start,S.ins,S.pin,S.rank,fun x hx nx=>by
  obtain ⟨l,j,h⟩:=S.road x hx nx
  exact ⟨l,j,by rw [← e x hx,← e _ (S.pin x hx nx)]; exact h⟩⟩
theorem Tree.span (W:Tree n rs) (hs:InV n s):∃ (par:Int→Int) (idx:Int→Nat) (rk:Int→Nat),Span n rs s par idx (far n rs s) rk:=by
 have T:=(Tab.one rs s).relaxN n
 obtain ⟨par,idx,D,rk,S,v⟩:=T.span (relax_all W.roads W.conn hs) hs (T.inv W.roads hs)
 refine ⟨par,idx,rk,S.congr fun x hx=>?_⟩
 obtain ⟨p,d,hm⟩:=mem_keys.mp (relax_all W.roads W.conn hs x hx)
 rw [(v x p d hm).1]
 exact (dist_mem T.nd hm).symm
theorem Tree.table (W:Tree n rs) (hs:InV n s) (T:Tab rs s tab) (hc:∀ x∈keys tab,Closed rs tab x) :
  ∃ (par:Int→Int) (idx:Int→Nat) (rk:Int→Nat),Span n rs s par idx (far n rs s) rk∧(∀ x,InV n x→x∈keys tab)∧(∀ x∈keys tab,InV n x)∧∀ x p d,(x,p,d)∈tab→d=far n rs s x∧par x=p:=by
 have hv:=T.all W.conn hs hc
 have hk:=T.inv W.roads hs
 obtain ⟨par,idx,D,rk,S,v⟩:=T.span hv hs hk
 obtain ⟨par',idx',rk',S'⟩:=W.span hs
 have e:=S.uniq S' W.count
 refine ⟨par,idx,rk,S.congr e,hv,hk,fun x p d hm=>?_⟩
 obtain ⟨h1,h2⟩:=v x p d hm
 exact ⟨by rw [← h1]; exact e x (hk x (mem_keys.mpr ⟨p,d,hm⟩)),h2⟩
theorem Tree.far_symm (W:Tree n rs) (hs:InV n s) (ht:InV n t):far n rs s t=far n rs t s:=by
 obtain ⟨_,_,_,S⟩:=W.span hs
 obtain ⟨_,_,_,S'⟩:=W.span ht
 exact S.symm S' W.count
theorem Tree.far_self (W:Tree n rs) (hs:InV n s):far n rs s s=0:=by
 obtain ⟨_,_,_,S⟩:=W.span hs
 exact S.start
theorem Tree.far_pos (W:Tree n rs) (hs:InV n s) (ht:InV n t) (h:t≠s):0 < far n rs s t:=by
 obtain ⟨_,_,_,S⟩:=W.span hs
 exact (S.pos W.roads t ht).2 h
theorem Tree.far_nn (W:Tree n rs) (hs:InV n s) (ht:InV n t):0≤far n rs s t:=by
 obtain ⟨_,_,_,S⟩:=W.span hs
 exact (S.pos W.roads t ht).1
theorem Tree.one_road (W:Tree n rs) (hs:InV n s) {i j:Nat} {l m y:Int} (h:Joins rs i s y l) (g:Joins rs j s y m):i=j:=by
 obtain ⟨_,_,_,S⟩:=W.span hs
 exact S.one W.count h g
end
theorem InV.zero {n:Nat} (h:0 < n):InV n 0:=⟨Int.le_refl _,by omega⟩
theorem tree_iff {n:Nat} {rs:List Road} {tab:List Ent} (R:Roads n rs) (hl:rs.length + 1=n) (T:Tab rs 0 tab) (hc:∀ x∈keys tab,Closed rs tab x):tab.length=n↔Tree n rs:=by
 have h0:InV n 0:=InV.zero (by omega)
 constructor
 ·intro e
  exact ⟨R,hl,T.conn R h0 e⟩
 ·intro W
  exact T.full R W.conn h0 hc
end WR
namespace WR
def nameM (k n turn:Int):Int:=if 1 < n∧(turn=1∨n % turn≠0) then k * turn % n else k
theorem nameM_all:∀ (n:Fin 12) (t:Fin 4) (k j:Fin 12),k.val < n.val + 1→j.val < n.val + 1 →
  (0≤nameM k.val (n.val + 1:Nat) ([1,5,7,11].getD t.val 1)∧nameM k.val (n.val + 1:Nat) ([1,5,7,11].getD t.val 1) < (n.val + 1:Nat)) ∧
  (nameM k.val (n.val + 1:Nat) ([1,5,7,11].getD t.val 1)=nameM j.val (n.val + 1:Nat) ([1,5,7,11].getD t.val 1)→k=j):=by
 decide +kernel
def IsTurn (t:Int):Prop:=t=1∨t=5∨t=7∨t=11
theorem IsTurn.at {t:Int} (h:IsTurn t):∃ i:Fin 4,([1,5,7,11]:List Int).getD i.val 1=t:=by
 rcases h with rfl | rfl | rfl | rfl
 ·exact ⟨0,rfl⟩
 ·exact ⟨1,rfl⟩
 ·exact ⟨2,rfl⟩
 ·exact ⟨3,rfl⟩
theorem name_in {n k:Nat} {t:Int} (ht:IsTurn t) (hn:n≤12) (hk:k < n):InV n (nameM k n t):=by
 obtain ⟨i,rfl⟩:=ht.at
 obtain ⟨m,rfl⟩:∃ m,n=m + 1:=⟨n - 1,by omega⟩
 exact (nameM_all ⟨m,by omega⟩ i ⟨k,by omega⟩ ⟨k,by omega⟩ hk hk).1
theorem name_inj {n k j:Nat} {t:Int} (ht:IsTurn t) (hn:n≤12) (hk:k < n) (hj:j < n) (e:nameM k n t=nameM j n t):k=j:=by
 obtain ⟨i,rfl⟩:=ht.at
 obtain ⟨m,rfl⟩:∃ m,n=m + 1:=⟨n - 1,by omega⟩
 have:=(nameM_all ⟨m,by omega⟩ i ⟨k,by omega⟩ ⟨j,by omega⟩ hk hj).2 e
 exact congrArg Fin.val this
theorem name_zero (n t:Int):nameM 0 n t=0:=by
 unfold nameM
 split
 ·rw [Int.zero_mul,Int.zero_emod]
 ·rfl
structure Built (n:Nat) (t:Int) (k:Nat) (rs:List Road):Prop where
 len:rs.length + 1=k
 roads:Roads n rs
 conn:∀ K:Int→Prop,K 0→(∀ i x y l,K x→Joins rs i x y l→K y)→∀ j:Nat,j < k→K (nameM j n t)
theorem Built.begin (n:Nat) (t:Int):Built n t 1 []:=by
 refine ⟨rfl,⟨by simp,by simp,by simp,by simp⟩,fun K k0 _ j hj=>?_⟩
 have:j=0:=by omega
 subst this
 show K (nameM 0 n t)
 rw [name_zero]
 exact k0
def putAt {α:Type} (rs:List α) (p:Nat) (r:α):List α:=rs.take p++r::rs.drop p
theorem mem_putAt {α:Type} {rs:List α} {p:Nat} {r x:α}:x∈putAt rs p r↔x=r∨x∈rs:=by
 unfold putAt
 rw [List.mem_append,List.mem_cons]
 constructor
 ·rintro (h | h | h)
  ·exact .inr (List.mem_of_mem_take h)
  ·exact .inl h
  ·exact .inr (List.mem_of_mem_drop h)
 ·rintro (h | h)
  ·exact .inr (.inl h)
  ·rw [← List.take_append_drop p rs] at h
   rcases List.mem_append.mp h with h | h
   ·exact .inl h
   ·exact .inr (.inr h)
theorem length_putAt {α:Type} {rs:List α} {p:Nat} {r:α} (hp:p≤rs.length):(putAt rs p r).length=rs.length + 1:=by
 unfold putAt
 rw [List.length_append,List.length_take,List.length_cons,List.length_drop]
 omega
theorem joins_mem {rs:List Road} {x y l:Int}:(∃ i,Joins rs i x y l)↔(x,y,l)∈rs∨(y,x,l)∈rs:=by
 constructor
 ·rintro ⟨i,h | h⟩
  ·exact .inl (List.mem_of_getElem? h)
  ·exact .inr (List.mem_of_getElem? h)
 ·rintro (h | h)
  ·obtain ⟨i,hi⟩:=List.mem_iff_getElem?.mp h
   exact ⟨i,.inl hi⟩
  ·obtain ⟨i,hi⟩:=List.mem_iff_getElem?.mp h
   exact ⟨i,.inr hi⟩
theorem Built.step {n k:Nat} {t:Int} {rs:List Road} (B:Built n t k rs) (ht:IsTurn t) (hn:n≤12) (hk:k < n) {a p:Nat} {l:Int} {r:Road} (ha:a < k) (hp:p≤rs.length) (l1:1≤l) (l2:l≤1000000)
  (hr:r=(nameM k n t,nameM a n t,l)∨r=(nameM a n t,nameM k n t,l)):Built n t (k + 1) (putAt rs p r):=by
 have hin1:=name_in ht hn hk
 have hin2:=name_in ht hn (show a < n by omega)
 have hne:nameM k n t≠nameM a n t:=fun e=>by have:=name_inj ht hn hk (by omega) e; omega
 refine ⟨by rw [length_putAt hp,B.len],⟨fun q hq=>?_,fun q hq=>?_,fun q hq=>?_,fun q hq=>?_⟩,fun K k0 hc j hj=>?_⟩
 ·rcases mem_putAt.mp hq with rfl | h
  ·rcases hr with rfl | rfl
   ·exact ⟨hin1.1,hin2.1⟩
   ·exact ⟨hin2.1,hin1.1⟩
  ·exact B.roads.lo q h
 ·rcases mem_putAt.mp hq with rfl | h
  ·rcases hr with rfl | rfl
   ·exact ⟨hin1.2,hin2.2⟩
   ·exact ⟨hin2.2,hin1.2⟩
  ·exact B.roads.hi q h
 ·rcases mem_putAt.mp hq with rfl | h
  ·rcases hr with rfl | rfl
   ·exact hne
   ·exact hne.symm
  ·exact B.roads.ne q h
 ·rcases mem_putAt.mp hq with rfl | h
  ·rcases hr with rfl | rfl <;> exact ⟨l1,l2⟩
  ·exact B.roads.ps q h
 ·have old:∀ j:Nat,j < k→K (nameM j n t):=B.conn K k0 fun i x y m kx jn=>by
   have hm:=joins_mem.mp ⟨i,jn⟩
   obtain ⟨i',jn'⟩:=(joins_mem (rs:=putAt rs p r) (x:=x) (y:=y) (l:=m)).mpr (hm.imp (fun h=>mem_putAt.mpr (.inr h)) fun h=>mem_putAt.mpr (.inr h))
   exact hc i' x y m kx jn'
  by_cases e:j < k
  ·exact old j e
  ·have:j=k:=by omega
   subst this
   have hm:(nameM a n t,nameM j n t,l)∈putAt rs p r∨(nameM j n t,nameM a n t,l)∈putAt rs p r:=by
    rcases hr with h | h
    ·exact .inr (mem_putAt.mpr (.inl h.symm))
    ·exact .inl (mem_putAt.mpr (.inl h.symm))
   obtain ⟨i',jn'⟩:=joins_mem.mpr hm
   exact hc i' _ _ l (old a ha) jn'
end WR
namespace WR
def upList (par:Int→Int) (k:Nat) (t:Int):List Int:=(List.range (k + 1)).map fun (j:Nat)=>up par j t
section
variable {n:Nat} {rs:List Road} {s t:Int} {par:Int→Int} {idx:Int→Nat} {D:Int→Int} {rk:Int→Nat}
end
end WR
namespace WR
inductive Clo (rs:List Road) (i:Nat) (s:Int):Int→Prop where
 | refl:Clo rs i s s
 | step {x y l:Int} {j:Nat}:Clo rs i s x→j≠i→Joins rs j x y l→Clo rs i s y
theorem Clo.trans {rs:List Road} {i:Nat} {s x y:Int} (h:Clo rs i s x) (g:Clo rs i x y):Clo rs i s y:=by
 induction g with
 | refl=>exact h
 | step _ n j ih=>exact ih.step n j
theorem Clo.head {rs:List Road} {i j:Nat} {s x l:Int} (n:j≠i) (h:Joins rs j s x l):Clo rs i s x:=Clo.refl.step n h
theorem Clo.symm {rs:List Road} {i:Nat} {s x:Int} (h:Clo rs i s x):Clo rs i x s:=by
 induction h with
 | refl=>exact .refl
 | step _ n j ih=>exact (Clo.head n j.symm).trans ih
theorem Clo.inV {n:Nat} {rs:List Road} {i:Nat} {s x:Int} (R:Roads n rs) (hs:InV n s) (h:Clo rs i s x):InV n x:=by
 induction h with
 | refl=>exact hs
 | step _ _ j _=>exact (R.joins j).2.1
section
variable {n:Nat} {rs:List Road} {s:Int} {par:Int→Int} {idx:Int→Nat} {D:Int→Int} {rk:Int→Nat}
theorem Span.count_le (S:Span n rs s par idx D rk):n≤rs.length + 1:=by
 have hs:s∈vil n:=mem_vil.mpr S.ins
 have mem:∀ x,x∈(vil n).erase s→InV n x∧x≠s:=fun x hx=>by
  have:=(List.Nodup.mem_erase_iff (vil_nodup n)).mp hx
  exact ⟨mem_vil.mp this.2,this.1⟩
 have nd:(((vil n).erase s).map idx).Nodup:=map_nodup_on ((vil_nodup n).erase s) fun x hx y hy e=>S.inj (mem x hx).1 (mem y hy).1 (mem x hx).2 (mem y hy).2 e
 have sub:∀ j∈((vil n).erase s).map idx,j∈List.range rs.length:=fun j hj=>by
  obtain ⟨x,hx,rfl⟩:=List.mem_map.mp hj
  obtain ⟨l,jn,_⟩:=S.road x (mem x hx).1 (mem x hx).2
  exact List.mem_range.mpr jn.lt
 have:=nodup_le nd sub
 rw [List.length_map,List.length_erase_of_mem hs,vil_length,List.length_range] at this
 omega
theorem Span.clo_up (S:Span n rs s par idx D rk) {z:Int} (hz:InV n z) (nz:z≠s):∀ (k:Nat) (v:Int),rk v=k→InV n v→rk v < rk z→Clo rs (idx z) v s:=by
 intro k
 induction k using Nat.strongRecOn with
 | ind k ih =>
  intro v hk hv hr
  by_cases e:v=s
  ·subst e; exact .refl
  ·obtain ⟨l,j,_⟩:=S.road v hv e
   have r:=S.rank v hv e
   have ni:idx v≠idx z:=fun q=>by
    have:=S.inj hv hz e nz q
    subst this; omega
   exact (Clo.head ni j.symm).trans (ih (rk (par v)) (by omega) (par v) rfl (S.pin v hv e) (by omega))
theorem joins_erase {rs:List Road} {i j:Nat} {x y l:Int} (h:Joins rs j x y l) (n:j≠i):∃ k,Joins (rs.eraseIdx i) k x y l:=by
 by_cases c:j < i
 ·refine ⟨j,?_⟩
  unfold Joins at *
  rw [List.getElem?_eraseIdx,if_pos c]
  exact h
 ·refine ⟨j - 1,?_⟩
  unfold Joins at *
  rw [List.getElem?_eraseIdx,if_neg (by omega),show j - 1 + 1=j by omega]
  exact h
theorem Roads.erase (R:Roads n rs) (i:Nat):Roads n (rs.eraseIdx i):=by
 have m:∀ r∈rs.eraseIdx i,r∈rs:=fun r h=>List.mem_of_mem_eraseIdx h
 exact ⟨fun r h=>R.lo r (m r h),fun r h=>R.hi r (m r h),fun r h=>R.ne r (m r h),fun r h=>R.ps r (m r h)⟩
theorem Conn.count (C:Conn n rs) (R:Roads n rs) (h0:0 < n):n≤rs.length + 1:=by
 have hs:InV n 0:=InV.zero h0
 have T:=(Tab.one rs 0).relaxN n
 obtain ⟨_,_,_,_,S,_⟩:=T.span (relax_all R C hs) hs (T.inv R hs)
 exact S.count_le
theorem Tree.apart (W:Tree n rs) {i:Nat} {p x l:Int} (hj:Joins rs i p x l):¬ Clo rs i p x:=by
 intro h
 have C:Conn n (rs.eraseIdx i):=fun K k0 hc=>by
  have hc':∀ j a b m,j≠i→K a→Joins rs j a b m→K b:=fun j a b m nj ka jn=>by
   obtain ⟨k,jk⟩:=joins_erase jn nj
   exact hc k a b m ka jk
  have clo:∀ a b,Clo rs i a b→K a→K b:=fun a b g ka=>by
   induction g with
   | refl=>exact ka
   | step _ nj jn ih=>exact hc' _ _ _ _ nj ih jn
  refine W.conn K k0 fun j a b m ka jn=>?_
  by_cases e:j=i
  ·subst e
   rcases hj.ends jn with ⟨rfl,rfl⟩ | ⟨rfl,rfl⟩
   ·exact clo _ _ h ka
   ·exact clo _ _ h.symm ka
  ·exact hc' j a b m e ka jn
 have:=C.count (W.roads.erase i) (by have:=W.count; omega)
 rw [List.length_eraseIdx,if_pos hj.lt] at this
 have:=W.count
 have:=hj.lt
 omega
theorem Tree.edge (W:Tree n rs) {i:Nat} {p x l y:Int} (hj:Joins rs i p x l) (S:Span n rs y par idx (far n rs y) rk) :
  (idx x=i∧x≠y∧par x=p∧far n rs y x=far n rs y p + l∧Clo rs i p y)∨(idx p=i∧p≠y∧par p=x∧far n rs y p=far n rs y x + l∧Clo rs i x y):=by
 obtain ⟨z,hz,nz,e⟩:=S.surj W.count hj.lt
 obtain ⟨m,jz,hd⟩:=S.road z hz nz
 have up:=S.clo_up hz nz _ (par z) rfl (S.pin z hz nz) (S.rank z hz nz)
 rw [e] at jz up
 have lm:=hj.len jz
 subst lm
 rcases hj.ends jz with ⟨a,b⟩ | ⟨a,b⟩
 ·subst b
  rw [a] at hd up
  exact .inl ⟨e,nz,a,hd,up⟩
 ·subst b
  rw [a] at hd up
  exact .inr ⟨e,nz,a,hd,up⟩
theorem Tree.side (W:Tree n rs) {i:Nat} {p x l y:Int} (hj:Joins rs i p x l) (hy:InV n y) :
  (Clo rs i x y∧¬ Clo rs i p y∧far n rs y p=far n rs y x + l)∨(Clo rs i p y∧¬ Clo rs i x y∧far n rs y x=far n rs y p + l):=by
 obtain ⟨_,_,_,S⟩:=W.span hy
 have ap:=W.apart hj
 rcases W.edge hj S with ⟨_,_,_,h,c⟩ | ⟨_,_,_,h,c⟩
 ·exact .inr ⟨c,fun g=>ap (c.trans g.symm),h⟩
 ·exact .inl ⟨c,fun g=>ap (g.trans c.symm),h⟩
end
def grow1 (i:Nat) (f:List Int) (k:Nat) (r:Road):List Int :=
 if k≠i∧(decide (r.1∈f)≠decide (r.2.1∈f)) then f++[if r.1∈f then r.2.1 else r.1] else f
def growTo (rs:List Road) (i:Nat):Nat→List Int→List Int
 | 0,f=>f
 | k + 1,f=>match rs[k]? with
  | some r=>grow1 i (growTo rs i k f) k r
  | none=>growTo rs i k f
def growN (rs:List Road) (i:Nat):Nat→List Int→List Int
 | 0,f=>f
 | m + 1,f=>growTo rs i rs.length (growN rs i m f)
theorem growTo_succ {rs:List Road} {i k:Nat} {r:Road} (h:rs[k]?=some r) (f:List Int):growTo rs i (k + 1) f=grow1 i (growTo rs i k f) k r:=by
 show (match rs[k]? with | some r=>grow1 i (growTo rs i k f) k r | none=>growTo rs i k f)=_
 rw [h]
structure GI (rs:List Road) (i:Nat) (s:Int) (f:List Int):Prop where
 st:s∈f
 nd:f.Nodup
 cl:∀ x∈f,Clo rs i s x
theorem GI.begin (rs:List Road) (i:Nat) (s:Int):GI rs i s [s]:=⟨by simp,by simp,fun x h=>by simp at h; subst h; exact .refl⟩
theorem GI.one {rs:List Road} {i k:Nat} {s:Int} {f:List Int} {r:Road} (g:GI rs i s f) (h:rs[k]?=some r):GI rs i s (grow1 i f k r):=by
 unfold grow1
 split
 ·rename_i c
  obtain ⟨a,b,l⟩:=r
  by_cases ha:a∈f
  ·have hb:b ∉ f:=fun hb=>by simp [ha,hb] at c
   rw [if_pos ha]
   exact ⟨List.mem_append_left _ g.st,nd_snoc g.nd hb,fun x hx=>by
    rcases List.mem_append.mp hx with hx | hx
    ·exact g.cl x hx
    ·have:x=b:=by simpa using hx
     subst this
     exact (g.cl a ha).step c.1 (.inl h)⟩
  ·have hb:b∈f:=Classical.byContradiction fun hb=>by simp [ha,hb] at c
   rw [if_neg ha]
   exact ⟨List.mem_append_left _ g.st,nd_snoc g.nd ha,fun x hx=>by
    rcases List.mem_append.mp hx with hx | hx
    ·exact g.cl x hx
    ·have:x=a:=by simpa using hx
     subst this
     exact (g.cl b hb).step c.1 (.inr h)⟩
 ·exact g
theorem GI.to {rs:List Road} {i:Nat} {s:Int} {f:List Int} (g:GI rs i s f):∀ k,GI rs i s (growTo rs i k f)
 | 0=>g
 | k + 1=>by
  cases h:rs[k]? with
  | none =>
   have:growTo rs i (k + 1) f=growTo rs i k f:=by
    show (match rs[k]? with | some r=>grow1 i (growTo rs i k f) k r | none=>growTo rs i k f)=_
    rw [h]
   rw [this]; exact g.to k
  | some r=>rw [growTo_succ h]; exact (g.to k).one h
theorem GI.N {rs:List Road} {i:Nat} {s:Int} {f:List Int} (g:GI rs i s f):∀ m,GI rs i s (growN rs i m f)
 | 0=>g
 | m + 1=>(g.N m).to _
theorem grow1_more (i:Nat) (f:List Int) (k:Nat) (r:Road):∃ more,grow1 i f k r=f++more:=by
 unfold grow1
 split
 ·exact ⟨_,rfl⟩
 ·exact ⟨[],by simp⟩
theorem growTo_more (rs:List Road) (i:Nat) (f:List Int) (k d:Nat):∃ more,growTo rs i (k + d) f=growTo rs i k f++more:=by
 induction d with
 | zero=>exact ⟨[],by simp⟩
 | succ d ih =>
  obtain ⟨m,e⟩:=ih
  cases h:rs[k + d]? with
  | none =>
   refine ⟨m,?_⟩
   show (match rs[k + d]? with | some r=>grow1 i (growTo rs i (k + d) f) (k + d) r | none=>growTo rs i (k + d) f)=_
   rw [h]; exact e
  | some r =>
   obtain ⟨m2,e2⟩:=grow1_more i (growTo rs i (k + d) f) (k + d) r
   refine ⟨m++m2,?_⟩
   rw [show k + (d + 1)=k + d + 1 by omega,growTo_succ h,e2,e,List.append_assoc]
def ClosedF (rs:List Road) (i:Nat) (f:List Int):Prop:=∀ j x y l,j≠i→Joins rs j x y l→x∈f→y∈f
theorem closed_of_len {rs:List Road} {i:Nat} {f:List Int} (h:(growTo rs i rs.length f).length=f.length):ClosedF rs i f:=by
 have st:∀ k,k≤rs.length→growTo rs i k f=f:=fun k hk=>by
  obtain ⟨m,e⟩:=growTo_more rs i f 0 k
  obtain ⟨m2,e2⟩:=growTo_more rs i f k (rs.length - k)
  rw [show k + (rs.length - k)=rs.length by omega] at e2
  rw [Nat.zero_add] at e
  have e0:growTo rs i 0 f=f:=rfl
  rw [e0] at e
  rw [e2,e,List.length_append,List.length_append] at h
  have:m=[]:=List.eq_nil_of_length_eq_zero (by omega)
  rw [e,this,List.append_nil]
 intro j x y l nj jn hx
 have hlt:=jn.lt
 obtain ⟨r,hr⟩:∃ r,rs[j]?=some r:=⟨rs[j],List.getElem?_eq_getElem hlt⟩
 have e:=growTo_succ (i:=i) hr f
 rw [st j (by omega),st (j + 1) (by omega)] at e
 unfold grow1 at e
 split at e
 ·exfalso
  have:=congrArg List.length e
  rw [List.length_append] at this
  simp at this
 ·rename_i c
  refine Classical.byContradiction fun hy=>c ⟨nj,?_⟩
  rcases jn with q | q
  ·rw [hr] at q; cases q
   simp [hx,hy]
  ·rw [hr] at q; cases q
   simp [hx,hy]
theorem growTo_closed {rs:List Road} {i:Nat} {f:List Int} (c:ClosedF rs i f):∀ k,growTo rs i k f=f
 | 0=>rfl
 | k + 1=>by
  have ih:=growTo_closed c k
  cases h:rs[k]? with
  | none =>
   show (match rs[k]? with | some r=>grow1 i (growTo rs i k f) k r | none=>growTo rs i k f)=_
   rw [h]; exact ih
  | some r =>
   rw [growTo_succ h,ih]
   unfold grow1
   rw [if_neg]
   rintro ⟨ni,ne⟩
   apply ne
   obtain ⟨a,b,l⟩:=r
   have h1:a∈f→b∈f:=fun z=>c k a b l ni (.inl h) z
   have h2:b∈f→a∈f:=fun z=>c k b a l ni (.inr h) z
   by_cases ha:a∈f
   ·simp [ha,h1 ha]
   ·have hb:b ∉ f:=fun z=>ha (h2 z)
    simp [ha,hb]
theorem grown {n:Nat} {rs:List Road} {i:Nat} {s:Int} (R:Roads n rs) (hs:InV n s):ClosedF rs i (growN rs i n [s]):=by
 have key:∀ m,ClosedF rs i (growN rs i m [s])∨m + 1≤(growN rs i m [s]).length:=by
  intro m
  induction m with
  | zero=>exact .inr (by simp [growN])
  | succ m ih =>
   rcases ih with c | h
   ·left
    show ClosedF rs i (growTo rs i rs.length (growN rs i m [s]))
    rw [growTo_closed c]; exact c
   ·obtain ⟨mo,e⟩:=growTo_more rs i (growN rs i m [s]) 0 rs.length
    rw [Nat.zero_add] at e
    have e0:growTo rs i 0 (growN rs i m [s])=growN rs i m [s]:=rfl
    rw [e0] at e
    by_cases q:mo=[]
    ·left
     have c:=closed_of_len (rs:=rs) (i:=i) (f:=growN rs i m [s]) (by rw [e,q,List.append_nil])
     show ClosedF rs i (growTo rs i rs.length (growN rs i m [s]))
     rw [growTo_closed c]; exact c
    ·right
     show m + 1 + 1≤(growTo rs i rs.length (growN rs i m [s])).length
     rw [e,List.length_append]
     have:=List.length_pos_iff.mpr q
     omega
 rcases key n with c | h
 ·exact c
 ·exfalso
  have g:=(GI.begin rs i s).N n
  have:=nodup_le g.nd (m:=vil n) fun x hx=>mem_vil.mpr ((g.cl x hx).inV R hs)
  rw [vil_length] at this
  omega
end WR
namespace WR
section
variable {n:Nat} {rs:List Road} {pp:Int→Int}
end
def Before (x y a b:Int):Prop:=x < a∨(x=a∧y < b)
def Best (F:Int→Int→Int) (n:Nat) (i j:Int) (a b d:Int):Prop :=
 (a=0∧b=0∧d=0∧∀ (x y:Int),0≤x→x < y→y < n→¬ Before x y i j) ∨
 (0≤a∧a < b∧b < n∧Before a b i j∧d=F a b∧0 < d∧∀ (x y:Int),0≤x→x < y→y < n→Before x y i j→F x y≤d∧(Before x y a b→F x y < d))
theorem Best.step {F:Int→Int→Int} {n:Nat} {i j a b d:Int} (B:Best F n i j a b d) (pos:∀ (x y:Int),0≤x→x < y→y < n→0 < F x y) (i0:0≤i) (ij:i < j) (jn:j < n) :
  (F i j > d→Best F n i (j + 1) i j (F i j))∧(¬ F i j > d→Best F n i (j + 1) a b d):=by
 have nx:∀ (x y:Int),Before x y i (j + 1)→Before x y i j∨(x=i∧y=j):=fun x y h=>by unfold Before at *; omega
 constructor
 ·intro h
  refine .inr ⟨i0,ij,jn,by unfold Before; omega,rfl,pos i j i0 ij jn,fun x y h1 h2 h3 h4=>?_⟩
  rcases nx x y h4 with q | ⟨rfl,rfl⟩
  ·rcases B with ⟨_,_,_,no⟩ | ⟨_,_,_,_,_,_,al⟩
   ·exact absurd q (no x y h1 h2 h3)
   ·have:=(al x y h1 h2 h3 q).1
    exact ⟨by omega,fun _=>by omega⟩
  ·exact ⟨Int.le_refl _,fun z=>by unfold Before at z; omega⟩
 ·intro h
  rcases B with ⟨rfl,rfl,rfl,no⟩ | ⟨a0,ab,bn,bf,rfl,dp,al⟩
  ·exact absurd (pos i j i0 ij jn) (by omega)
  ·refine .inr ⟨a0,ab,bn,by unfold Before at *; omega,rfl,dp,fun x y h1 h2 h3 h4=>?_⟩
   rcases nx x y h4 with q | ⟨rfl,rfl⟩
   ·exact al x y h1 h2 h3 q
   ·exact ⟨by omega,fun z=>by unfold Before at *; omega⟩
def Top (F:Int→Int→Int) (n:Nat) (a b d:Int):Prop :=
 (n=1∧a=0∧b=0∧d=0)∨(0≤a∧a < b∧b < n∧d=F a b∧0 < d∧∀ (x y:Int),0≤x→x < y→y < n→F x y≤d∧(Before x y a b→F x y < d))
end WR
namespace WR
def those (P:Nat→Bool) (n:Nat):List Int:=((List.range n).filter P).map fun (k:Nat)=>(k:Int)
section
variable {n:Nat} {rs:List Road} {i:Nat} {a b l x y:Int}
end
end WR
namespace WR
inductive Bel (s:Int) (par:Int→Int) (c:Int):Int→Prop where
 | refl:Bel s par c c
 | step {x:Int}:x≠s→Bel s par c (par x)→Bel s par c x
section
variable {n:Nat} {rs:List Road} {s:Int} {par:Int→Int} {idx:Int→Nat} {D:Int→Int} {rk:Int→Nat}
theorem Bel.trans {a b c:Int} (h:Bel s par a b) (g:Bel s par b c):Bel s par a c:=by
 induction g with
 | refl=>exact h
 | step nx _ ih=>exact .step nx ih
theorem Span.bel_rank (S:Span n rs s par idx D rk) {c x:Int} (h:Bel s par c x):InV n x→rk c≤rk x:=by
 induction h with
 | refl=>exact fun _=>Nat.le_refl _
 | step nx _ ih =>
  intro hx
  have:=ih (S.pin _ hx nx)
  have:=S.rank _ hx nx
  omega
theorem Span.mem_up (S:Span n rs s par idx D rk) {o:Int}:∀ {k:Nat},up par k o=s→(∀ j,j < k→InV n (up par j o)∧up par j o≠s)→∀ x,x∈upList par k o↔Bel s par x o:=by
 have down:∀ (k:Nat) (o:Int),(∀ j,j < k→up par j o≠s)→∀ j,j≤k→Bel s par (up par j o) o:=by
  intro k
  induction k with
  | zero=>intro o _ j hj; rw [Nat.le_zero.mp hj]; exact .refl
  | succ k ih =>
   intro o h j hj
   cases j with
   | zero=>exact .refl
   | succ j=>exact .step (h 0 (by omega)) (ih (par o) (fun i hi=>h (i + 1) (by omega)) j (by omega))
 have upw:∀ {x o:Int},Bel s par x o→∀ k,up par k o=s→∃ j,j≤k∧up par j o=x:=by
  intro x o h
  induction h with
  | refl=>exact fun k _=>⟨0,Nat.zero_le _,rfl⟩
  | step ny _ ih =>
   intro k hk
   cases k with
   | zero=>exact absurd hk ny
   | succ k =>
    obtain ⟨j,a,b⟩:=ih k hk
    exact ⟨j + 1,by omega,b⟩
 intro k h1 h2 x
 unfold upList
 rw [List.mem_map]
 constructor
 ·rintro ⟨j,hj,rfl⟩
  exact down k o (fun i hi=>(h2 i hi).2) j (by have:=List.mem_range.mp hj; omega)
 ·intro h
  obtain ⟨j,a,b⟩:=upw h k h1
  exact ⟨j,List.mem_range.mpr (by omega),b⟩
end
def isRoad (rs:List Road) (i:Nat) (u v:Int):Bool:=match rs[i]? with
 | some r=>(decide (r.1=u)&&decide (r.2.1=v)) || (decide (r.1=v)&&decide (r.2.1=u))
 | none=>false
def cnt (rs:List Road) (i:Nat):Int→List Int→Nat
 | _,[]=>0
 | u,v::r=>(if isRoad rs i u v=true then 1 else 0) + cnt rs i v r
theorem Tree.steps_nodup {n:Nat} {rs:List Road} (W:Tree n rs) {v:Int} (hv:InV n v):((stepsM rs v).map (·.1)).Nodup:=by
 unfold stepsM
 rw [List.map_flatMap,List.nodup_iff_pairwise_ne,List.pairwise_flatMap]
 have mem:∀ {r:Road} {y:Int},y∈(stepsOf r v).map (·.1)→∃ l,r=(v,y,l)∨r=(y,v,l):=fun h=>by
  obtain ⟨⟨z,l⟩,h',e⟩:=List.mem_map.mp h
  cases e
  exact ⟨l,mem_stepsOf.mp h'⟩
 constructor
 ·intro r hr
  have:=W.roads.ne r hr
  unfold stepsOf
  split <;> split <;> simp
  omega
 ·rw [List.pairwise_iff_getElem]
  intro i j hi hj hij x hx y hy e
  subst e
  obtain ⟨l,h1⟩:=mem hx
  obtain ⟨m,h2⟩:=mem hy
  have j1:Joins rs i v x l:=by unfold Joins; rw [List.getElem?_eq_getElem hi]; rcases h1 with h | h <;> rw [h] <;> simp
  have j2:Joins rs j v x m:=by unfold Joins; rw [List.getElem?_eq_getElem hj]; rcases h2 with h | h <;> rw [h] <;> simp
  have:=W.one_road hv j1 j2
  omega
end WR
namespace WR
open Classical
section
variable {n:Nat} {rs:List Road} {s:Int} {par:Int→Int} {idx:Int→Nat} {D:Int→Int} {rk:Int→Nat}
end
end WR
namespace WR
open Classical
section
variable {n:Nat} {rs:List Road} {s o:Int} {par:Int→Int} {idx:Int→Nat} {D:Int→Int} {rk:Int→Nat}
theorem Span.apart_clo (S:Span n rs s par idx D rk) {x:Int} (hx:InV n x) (nx:x≠s):∀ (k:Nat) (y:Int),rk y < k→InV n y→¬ Bel s par x y→Clo rs (idx x) y s:=by
 intro k
 induction k with
 | zero=>intro y h; omega
 | succ k ih =>
  intro y hk hy nb
  by_cases e:y=s
  ·subst e; exact .refl
  ·obtain ⟨l,j,_⟩:=S.road y hy e
   have ni:idx y≠idx x:=fun z=>nb (by rw [S.inj hy hx e nx z]; exact .refl)
   exact (Clo.head ni j.symm).trans (ih (par y) (by have:=S.rank y hy e; omega) (S.pin y hy e) fun z=>nb (.step e z))
theorem Tree.tri (W:Tree n rs) (S:Span n rs s par idx (far n rs s) rk) (ho:InV n o):∀ (k:Nat) (y:Int),rk y < k→InV n y→far n rs o s≤far n rs o y + far n rs s y:=by
 intro k
 induction k with
 | zero=>intro y h; omega
 | succ k ih =>
  intro y hk hy
  by_cases e:y=s
  ·subst e
   have:far n rs y y=0:=S.start
   omega
  ·obtain ⟨l,j,d⟩:=S.road y hy e
   have:=ih (par y) (by have:=S.rank y hy e; omega) (S.pin y hy e)
   have lp:=(W.roads.joins j).2.2.2.1
   rcases W.side j ho with ⟨_,_,h⟩ | ⟨_,_,h⟩ <;> omega
theorem Tree.on_way (W:Tree n rs) (S:Span n rs s par idx (far n rs s) rk) (ho:InV n o) {x a b l:Int} (hx:InV n x) (nx:x≠s) (hr:rs[idx x]?=some (a,b,l)) :
  (far n rs o s=far n rs o a + l + far n rs b s∨far n rs o s=far n rs o b + l + far n rs a s)↔Bel s par x o:=by
 obtain ⟨m,j,d⟩:=S.road x hx nx
 have hs:=S.ins
 have hp:=S.pin x hx nx
 have jr:Joins rs (idx x) a b l:=.inl hr
 have em:=j.len jr
 subst em
 have key:(far n rs o s=far n rs o x + m + far n rs s (par x)∨far n rs o s=far n rs o (par x) + m + far n rs s x)↔Bel s par x o:=by
  have tri:=W.tri S ho _ (par x) (Nat.lt_succ_self _) hp
  have lp:=(W.roads.joins j).2.2.2.1
  constructor
  ·intro h
   refine Decidable.byContradiction fun nb=>?_
   have c1:=S.apart_clo hx nx _ o (Nat.lt_succ_self _) ho nb
   have nbp:¬ Bel s par x (par x):=fun z=>by
    have:=S.bel_rank z hp
    have:=S.rank x hx nx
    omega
   have c2:=S.apart_clo hx nx _ (par x) (Nat.lt_succ_self _) hp nbp
   have c3:=c2.trans c1.symm
   rcases W.side j ho with ⟨g1,g2,_⟩ | ⟨_,_,g⟩
   ·exact g2 c3
   ·omega
  ·intro h
   obtain ⟨k,h1,h2⟩:=S.reach o ho
   obtain ⟨j',hj',e⟩:∃ j',j'≤k∧up par j' o=x:=by
    have:=(S.mem_up h1 h2 x).mpr h
    unfold upList at this
    obtain ⟨j',a,b⟩:=List.mem_map.mp this
    exact ⟨j',by have:=List.mem_range.mp a; omega,b⟩
   obtain ⟨par',idx',rk',T⟩:=W.span ho
   have sy:=W.far_symm hs ho
   left
   cases j' with
   | zero =>
    have e:o=x:=e
    subst e
    have:far n rs o o=0:=T.start
    omega
   | succ j' =>
    have:=(S.turn T W.count h2 j' (by omega)).2.2.2.2
    rw [e] at this
    omega
 rw [← key]
 rcases j.ends jr with ⟨rfl,rfl⟩ | ⟨rfl,rfl⟩
 ·rw [W.far_symm hx hs,W.far_symm hp hs]
  exact Or.comm
 ·rw [W.far_symm hx hs,W.far_symm hp hs]
end
end WR
namespace WR
def WalkAt (rs:List Road) (ws:List Int):Prop:=∀ j,j + 1 < ws.length→∃ i l,Joins rs i (ws.getD j 0) (ws.getD (j + 1) 0) l
def WalkTo (rs:List Road) (ws:List Int) (k:Nat):Prop:=∀ j,j < k→∃ i l,Joins rs i (ws.getD j 0) (ws.getD (j + 1) 0) l
theorem WalkTo.at {rs:List Road} {ws:List Int} {k:Nat} (h:WalkTo rs ws k) (e:ws.length≤k + 1):WalkAt rs ws:=fun j hj=>h j (by omega)
section
variable {n:Nat} {rs:List Road} {ws:List Int} {k j:Nat} {l:Int}
end
end WR
namespace WR
section
variable {n:Nat} {rs:List Road} {par:Int→Int} {idx:Int→Nat} {rk:Int→Nat}
theorem Tree.tri3 (W:Tree n rs) {u v w:Int} (hu:InV n u) (hv:InV n v) (hw:InV n w):far n rs u w≤far n rs u v + far n rs v w:=by
 obtain ⟨_,_,_,S⟩:=W.span hw
 have:=W.tri S hu _ v (Nat.lt_succ_self _) hv
 rw [W.far_symm hw hv] at this
 exact this
theorem Tree.far_zero (W:Tree n rs) {u v:Int} (hu:InV n u) (hv:InV n v) (h:far n rs u v≤0):v=u:=by
 refine Decidable.byContradiction fun z=>?_
 have:=W.far_pos hu hv z
 omega
theorem Tree.climb (W:Tree n rs) (S:Span n rs 0 par idx (far n rs 0) rk) {u v:Int} (hu:InV n u) (hv:InV n v) (ne:u≠v) (h:far n rs 0 v≤far n rs 0 u) :
  InV n (par u)∧1≤far n rs 0 u - far n rs 0 (par u)∧far n rs u v=(far n rs 0 u - far n rs 0 (par u)) + far n rs (par u) v:=by
 have h0:=S.ins
 have nu:u≠0:=fun z=>by
  subst z
  have e:far n rs 0 0=0:=S.start
  exact ne (W.far_zero h0 hv (by omega)).symm
 obtain ⟨l,j,d⟩:=S.road u hu nu
 have hp:=S.pin u hu nu
 have lp:=(W.roads.joins j).2.2.2.1
 refine ⟨hp,by omega,?_⟩
 have key:far n rs v u=far n rs v (par u) + l:=by
  by_cases nb:Bel 0 par u v
  ·exfalso
   have pos:0 < far n rs v u:=W.far_pos hv hu ne
   have nn:=W.far_nn hv hp
   have sv:=W.far_symm hv h0
   have su:=W.far_symm hu h0
   have sp:=W.far_symm hp h0
   rcases j with jr | jr
   ·have:=(W.on_way S hv hu nu jr).mpr nb
    rcases this with e | e <;> omega
   ·have:=(W.on_way S hv hu nu jr).mpr nb
    rcases this with e | e <;> omega
  ·have c:=S.apart_clo hu nu _ v (Nat.lt_succ_self _) hv nb
   rcases W.side j hv with ⟨g1,_,_⟩ | ⟨_,_,g⟩
   ·exfalso
    rcases W.side j h0 with ⟨_,_,e⟩ | ⟨_,f,_⟩
    ·omega
    ·exact f (g1.trans c)
   ·exact g
 rw [W.far_symm hu hv,W.far_symm hp hv]
 omega
def Anc (n:Nat) (rs:List Road) (a c:Int):Prop:=far n rs 0 c=far n rs 0 a + far n rs a c
theorem Tree.lca (W:Tree n rs) (S:Span n rs 0 par idx (far n rs 0) rk):∀ (k:Nat) (u v:Int),InV n u→InV n v→far n rs 0 u + far n rs 0 v < k→∃ m,InV n m∧far n rs u v=far n rs u m + far n rs m v∧Anc n rs m u∧Anc n rs m v:=by
 intro k
 induction k with
 | zero =>
  intro u v hu hv h
  have:=W.far_nn S.ins hu
  have:=W.far_nn S.ins hv
  omega
 | succ k ih =>
  have main:∀ u v,InV n u→InV n v→far n rs 0 u + far n rs 0 v < (k + 1:Nat)→far n rs 0 v≤far n rs 0 u→∃ m,InV n m∧far n rs u v=far n rs u m + far n rs m v∧Anc n rs m u∧Anc n rs m v:=fun u v hu hv hk h=>by
   by_cases e:u=v
   ·subst e
    have:=W.far_self hu
    exact ⟨u,hu,by omega,by unfold Anc; omega,by unfold Anc; omega⟩
   ·obtain ⟨hp,l1,c⟩:=W.climb S hu hv e h
    obtain ⟨m,hm,e1,e2,e3⟩:=ih (par u) v hp hv (by omega)
    have nm:=W.far_nn hm hp
    have nu:u≠m:=fun z=>by
     subst z
     unfold Anc at e2
     omega
    unfold Anc at e2
    obtain ⟨_,_,c2⟩:=W.climb S hu hm nu (by omega)
    have s1:=W.far_symm hm hp
    have s2:=W.far_symm hm hu
    exact ⟨m,hm,by omega,by unfold Anc; omega,e3⟩
  intro u v hu hv h
  by_cases c:far n rs 0 v≤far n rs 0 u
  ·exact main u v hu hv h c
  ·obtain ⟨m,hm,e1,e2,e3⟩:=main v u hv hu (by omega) (by omega)
   exact ⟨m,hm,by rw [W.far_symm hu hv,W.far_symm hu hm,W.far_symm hm hv]; omega,e3,e2⟩
theorem Tree.line (W:Tree n rs) (S:Span n rs 0 par idx (far n rs 0) rk):∀ (k:Nat) (c a m:Int),InV n c→InV n a→InV n m→far n rs 0 c < k→Anc n rs a c→Anc n rs m c→far n rs 0 a≤far n rs 0 m→Anc n rs a m∧far n rs c a=far n rs c m + far n rs m a:=by
 intro k
 induction k with
 | zero =>
  intro c a m hc _ _ h
  have:=W.far_nn S.ins hc
  omega
 | succ k ih =>
  intro c a m hc ha hm hk ea em h
  by_cases e:c=m
  ·subst e
   have:=W.far_self hc
   exact ⟨ea,by omega⟩
  ·have pm:=W.far_pos hm hc e
   unfold Anc at ea em
   have na:c≠a:=fun z=>by subst z; omega
   obtain ⟨hp,l1,c1⟩:=W.climb S hc hm e (by omega)
   obtain ⟨_,_,c2⟩:=W.climb S hc ha na (by omega)
   have s1:=W.far_symm hc hm
   have s2:=W.far_symm hc ha
   have s3:=W.far_symm hp hm
   have s4:=W.far_symm hp ha
   obtain ⟨g1,g2⟩:=ih (par c) a m hp ha hm (by omega) (by unfold Anc; omega) (by unfold Anc; omega) h
   exact ⟨g1,by omega⟩
theorem Tree.line' (W:Tree n rs) (S:Span n rs 0 par idx (far n rs 0) rk) {c a m:Int} (hc:InV n c) (ha:InV n a) (hm:InV n m) (ea:Anc n rs a c) (em:Anc n rs m c) (h:far n rs 0 a≤far n rs 0 m):Anc n rs a m∧far n rs c a=far n rs c m + far n rs m a :=
 W.line S ((far n rs 0 c).toNat + 1) c a m hc ha hm (by have:=W.far_nn S.ins hc; omega) ea em h
theorem Tree.lca' (W:Tree n rs) (S:Span n rs 0 par idx (far n rs 0) rk) {u v:Int} (hu:InV n u) (hv:InV n v):∃ m,InV n m∧far n rs u v=far n rs u m + far n rs m v∧Anc n rs m u∧Anc n rs m v :=
 W.lca S ((far n rs 0 u + far n rs 0 v).toNat + 1) u v hu hv (by have:=W.far_nn S.ins hu; have:=W.far_nn S.ins hv; omega)
structure Inner (n:Nat) (rs:List Road) (w c a:Int):Prop where
 iv:InV n a
 near:far n rs c a≤w
 least:∀ u,InV n u→far n rs c u≤w→far n rs 0 a≤far n rs 0 u
theorem Tree.inner_anc (W:Tree n rs) (S:Span n rs 0 par idx (far n rs 0) rk) {w c a:Int} (hc:InV n c) (I:Inner n rs w c a):Anc n rs a c:=by
 obtain ⟨m,hm,e1,e2,e3⟩:=W.lca' S I.iv hc
 have n1:=W.far_nn I.iv hm
 have n2:=W.far_nn hm hc
 have s1:=W.far_symm I.iv hc
 have s2:=W.far_symm hm hc
 have s3:=W.far_symm I.iv hm
 have:=I.near
 have le:=I.least m hm (by omega)
 unfold Anc at e2 e3
 have:m=a:=W.far_zero I.iv hm (by omega)
 subst this
 exact e3
theorem Tree.inner_all (W:Tree n rs) (S:Span n rs 0 par idx (far n rs 0) rk) {w c a u:Int} (hc:InV n c) (I:Inner n rs w c a) (hu:InV n u) (h:far n rs c u≤w):Anc n rs a u:=by
 have ea:=W.inner_anc S hc I
 obtain ⟨m,hm,e1,e2,e3⟩:=W.lca' S hc hu
 have n1:=W.far_nn hm hu
 have le:=I.least m hm (by omega)
 obtain ⟨g1,_⟩:=W.line' S hc I.iv hm ea e2 le
 have t:=W.tri3 I.iv hm hu
 have t2:=W.tri3 S.ins I.iv hu
 unfold Anc at e3 g1 ⊢
 omega
theorem Tree.share (W:Tree n rs) {w c a e b x:Int} (hc:InV n c) (he:InV n e) (hx:InV n x) (I:Inner n rs w c a) (J:Inner n rs w e b) (h:far n rs 0 b≤far n rs 0 a) (h1:far n rs c x≤w) (h2:far n rs e x≤w):far n rs e a≤w:=by
 have h0:InV n 0:=by have:=hc.1; have:=hc.2; exact ⟨by omega,by omega⟩
 obtain ⟨par,idx,rk,S⟩:=W.span h0
 have xa:=W.inner_all S hc I hx h1
 have xb:=W.inner_all S he J hx h2
 have eb:=W.inner_anc S he J
 have fin:Anc n rs a e→far n rs e a≤w:=fun z=>by
  have:=(W.line' S he J.iv I.iv eb z h).2
  have:=W.far_nn I.iv J.iv
  have:=J.near
  omega
 obtain ⟨k,hk,e1,e2,e3⟩:=W.lca' S he hx
 by_cases c1:far n rs 0 a≤far n rs 0 k
 ·have g:=(W.line' S hx I.iv hk xa e3 c1).1
  refine fin ?_
  have t:=W.tri3 I.iv hk he
  have t2:=W.tri3 S.ins I.iv he
  unfold Anc at g e2 ⊢
  omega
 ·have g:=(W.line' S hx hk I.iv e3 xa (by omega)).2
  have t:=W.tri3 he hk I.iv
  have s1:=W.far_symm hx hk
  have s2:=W.far_symm I.iv hk
  have nn:=W.far_nn hx I.iv
  omega
structure Dug (n:Nat) (rs:List Road) (w:Int) (pre wells callers:List Int):Prop where
 len:wells.length=callers.length
 iv:∀ x∈wells,InV n x
 cv:∀ x∈callers,InV n x∧x∈pre
 at_:∀ (i:Nat) c,callers[i]?=some c→∃ a,wells[i]?=some a∧Inner n rs w c a
 cover:∀ v∈pre,∃ x∈wells,far n rs v x≤w
 apart:callers.Pairwise fun c e=>∀ x,InV n x→¬ (far n rs c x≤w∧far n rs e x≤w)
theorem Dug.nil (w:Int):Dug n rs w [] [] []:=⟨rfl,by simp,by simp,by simp,by simp,.nil⟩
theorem Dug.skip {w v:Int} {pre wells callers:List Int} (D:Dug n rs w pre wells callers) (h:∃ x∈wells,far n rs v x≤w):Dug n rs w (pre++[v]) wells callers :=
 ⟨D.len,D.iv,fun x hx=>⟨(D.cv x hx).1,List.mem_append_left _ (D.cv x hx).2⟩,D.at_,fun y hy=>by
  rcases List.mem_append.mp hy with hy | hy
  ·exact D.cover y hy
  ·rw [List.mem_singleton.mp hy]; exact h,D.apart⟩
theorem Dug.add (W:Tree n rs) {w v a:Int} {pre wells callers:List Int} (D:Dug n rs w pre wells callers) (hv:InV n v) (I:Inner n rs w v a) (h:∀ x∈wells,¬ far n rs v x≤w) (hd:∀ c b,c∈pre→Inner n rs w c b→far n rs 0 a≤far n rs 0 b):Dug n rs w (pre++[v]) (wells++[a]) (callers++[v]):=by
 refine ⟨by simp [D.len],fun x hx=>?_,fun x hx=>?_,fun i c hi=>?_,fun y hy=>?_,?_⟩
 ·rcases List.mem_append.mp hx with hx | hx
  ·exact D.iv x hx
  ·rw [List.mem_singleton.mp hx]; exact I.iv
 ·rcases List.mem_append.mp hx with hx | hx
  ·exact ⟨(D.cv x hx).1,List.mem_append_left _ (D.cv x hx).2⟩
  ·rw [List.mem_singleton.mp hx]; exact ⟨hv,by simp⟩
 ·by_cases hl:i < callers.length
  ·rw [List.getElem?_append_left hl] at hi
   obtain ⟨b,e1,e2⟩:=D.at_ i c hi
   exact ⟨b,by rw [List.getElem?_append_left (by rw [D.len]; exact hl)]; exact e1,e2⟩
  ·have:i=callers.length:=by have:=(List.getElem?_eq_some_iff.mp hi).1; simp at this; omega
   subst this
   rw [List.getElem?_append_right (Nat.le_refl _),Nat.sub_self] at hi
   cases hi
   exact ⟨a,by rw [← D.len,List.getElem?_append_right (Nat.le_refl _),Nat.sub_self]; rfl,I⟩
 ·rcases List.mem_append.mp hy with hy | hy
  ·obtain ⟨x,h1,h2⟩:=D.cover y hy
   exact ⟨x,List.mem_append_left _ h1,h2⟩
  ·rw [List.mem_singleton.mp hy]; exact ⟨a,by simp,I.near⟩
 ·rw [List.pairwise_append]
  refine ⟨D.apart,List.pairwise_singleton _ _,fun c hc e he x hx z=>?_⟩
  rw [List.mem_singleton.mp he] at z
  obtain ⟨i,hi,rfl⟩:=List.getElem_of_mem hc
  obtain ⟨b,e1,e2⟩:=D.at_ i _ (List.getElem?_eq_getElem hi)
  have cv:=D.cv _ hc
  exact h b (List.mem_of_getElem? e1) (W.share cv.1 hv hx e2 I (hd _ b cv.2 e2) z.1 z.2)
open Classical in
theorem Dug.le (W:Tree n rs) {w:Int} {pre wells callers other:List Int} (D:Dug n rs w pre wells callers) (h:∀ v,InV n v→∃ x∈other,InV n x∧far n rs v x≤w):wells.length≤other.length:=by
 rw [D.len]
 have:∃ f:Int→Int,∀ c∈callers,f c∈other∧InV n (f c)∧far n rs c (f c)≤w:=by
  refine ⟨fun c=>if q:∃ x∈other,InV n x∧far n rs c x≤w then Classical.choose q else 0,fun c hc=>?_⟩
  have q:=h c (D.cv c hc).1
  dsimp only
  rw [dif_pos q]
  exact Classical.choose_spec q
 obtain ⟨f,hf⟩:=this
 have nd:(callers.map f).Nodup:=by
  rw [List.Nodup,List.pairwise_map]
  refine D.apart.imp_of_mem fun {c e} hc he z q=>?_
  exact z (f c) (hf c hc).2.1 ⟨(hf c hc).2.2,by rw [q]; exact (hf e he).2.2⟩
 have:=nodup_le nd (m:=other) fun x hx=>by
  obtain ⟨c,hc,rfl⟩:=List.mem_map.mp hx
  exact (hf c hc).1
 rw [List.length_map] at this
 exact this
def Enough (n:Nat) (rs:List Road) (w:Int) (many:Int):Prop:=∃ pre wells callers,(∀ v,InV n v→v∈pre)∧Dug n rs w pre wells callers∧(wells.length:Int)≤many
theorem Dug.enough (W:Tree n rs) {w many:Int} {pre wells callers:List Int} (D:Dug n rs w pre wells callers) (hp:∀ v,InV n v→v∈pre):((wells.length:Int)≤many)↔Enough n rs w many:=by
 refine ⟨fun h=>⟨pre,wells,callers,hp,D,h⟩,fun hz_=>?_⟩
 obtain ⟨pre',wells',callers',hp',D',h⟩:=hz_
 have:=D.le W (other:=wells') fun v hv=>by
  obtain ⟨x,h1,h2⟩:=D'.cover v (hp' v hv)
  exact ⟨x,h1,D'.iv x h1,h2⟩
 omega
theorem Dug.one (W:Tree n rs) {w:Int} {pre wells callers:List Int} (D:Dug n rs w pre wells callers) (h0:InV n 0) (h:∀ v,InV n v→far n rs v 0≤w):wells.length≤1:=D.le W (other:=[0]) fun v hv=>⟨0,by simp,h0,h v hv⟩
end
end WR
namespace WR
theorem countP_lt {p q:Int→Bool}:∀ {l:List Int},(∀ y∈l,p y=true→q y=true)→(∃ y∈l,q y=true∧p y=false)→l.countP p + 1≤l.countP q
 | [],_,⟨_,h,_⟩=>by simp at h
 | a::r,hpq,⟨y,hy,h1,h2⟩=>by
  have mono:r.countP p≤r.countP q:=List.countP_mono_left fun z hz=>hpq z (List.mem_cons_of_mem _ hz)
  rw [List.countP_cons,List.countP_cons]
  rcases List.mem_cons.mp hy with rfl | hy
  ·rw [h1,h2]; simp; omega
  ·have ih:=countP_lt (p:=p) (q:=q) (l:=r) (fun z hz=>hpq z (List.mem_cons_of_mem _ hz)) ⟨y,hy,h1,h2⟩
   by_cases c:p a=true
   ·rw [c,hpq a (List.mem_cons_self ..) c]; simp; omega
   ·have:(if p a=true then 1 else 0)=0:=if_neg c
    rw [this]; omega
theorem Span.bound {n:Nat} {rs:List Road} {s:Int} {par:Int→Int} {idx:Int→Nat} {D:Int→Int} {rk:Int→Nat} (R:Roads n rs) (S:Span n rs s par idx D rk):∀ (k:Nat) (x:Int),rk x < k→InV n x→D x≤1000000 * ((vil n).countP fun y=>decide (rk y < rk x):Nat):=by
 intro k
 induction k with
 | zero=>intro x h; omega
 | succ k ih =>
  intro x h hx
  by_cases e:x=s
  ·subst e
   rw [S.start]; omega
  ·obtain ⟨l,j,d⟩:=S.road x hx e
   have r:=S.rank x hx e
   have hp:=S.pin x hx e
   have:=ih (par x) (by omega) hp
   have lp:=(R.joins j).2.2.2.2
   have c:=countP_lt (p:=fun y=>decide (rk y < rk (par x))) (q:=fun y=>decide (rk y < rk x)) (l:=vil n) (fun y _ h=>by simp at h ⊢; omega) ⟨par x,mem_vil.mpr hp,by simpa using r,by simp⟩
   omega
theorem Tree.far_le (W:Tree n rs) {u v:Int} (hu:InV n u) (hv:InV n v):far n rs u v≤1000000 * (n:Int):=by
 obtain ⟨par,idx,rk,S⟩:=W.span hu
 have:=S.bound W.roads _ v (Nat.lt_succ_self _) hv
 have c:(vil n).countP (fun y=>decide (rk y < rk v))≤(vil n).length:=List.countP_le_length
 have l:(vil n).length=n:=by simp [vil]
 omega
def IsDist (n:Nat) (rs:List Road) (d:Int):Prop:=∃ u v,InV n u∧InV n v∧d=far n rs u v
def pairsM (n:Nat) (rs:List Road):List Int:=(List.range n).flatMap fun (i:Nat)=>(List.range (i + 1)).map fun (j:Nat)=>far n rs (i:Int) (j:Int)
theorem pairsM_len {n:Nat} {rs:List Road} (h:n≤8):(pairsM n rs).length < 64:=by
 unfold pairsM
 rw [List.length_flatMap]
 simp only [List.length_map,List.length_range]
 have:∀ m,m≤8→((List.range m).map fun i=>i + 1).sum < 64:=by decide
 exact this n h
theorem Tree.in_pairs (W:Tree n rs) {d:Int} (h:IsDist n rs d):d∈pairsM n rs:=by
 obtain ⟨u,v,hu,hv,rfl⟩:=h
 obtain ⟨i,rfl⟩:=Int.eq_ofNat_of_zero_le hu.1
 obtain ⟨j,rfl⟩:=Int.eq_ofNat_of_zero_le hv.1
 have hi:i < n:=by have:=hu.2; omega
 have hj:j < n:=by have:=hv.2; omega
 unfold pairsM
 rw [List.mem_flatMap]
 by_cases c:j≤i
 ·exact ⟨i,List.mem_range.mpr hi,List.mem_map.mpr ⟨j,List.mem_range.mpr (by omega),rfl⟩⟩
 ·exact ⟨j,List.mem_range.mpr hj,List.mem_map.mpr ⟨i,List.mem_range.mpr (by omega),W.far_symm hv hu⟩⟩
theorem Tree.few_dists (W:Tree n rs) (h:n≤8) {ks:List Int} (nd:ks.Nodup) (hk:∀ x∈ks,IsDist n rs x):ks.length < 64:=by
 have:=nodup_le nd (m:=pairsM n rs) fun x hx=>W.in_pairs (hk x hx)
 have:=pairsM_len (rs:=rs) h
 omega
theorem Tree.dist_nn (W:Tree n rs) {d:Int} (h:IsDist n rs d):0≤d∧d≤1000000 * (n:Int):=by
 obtain ⟨u,v,hu,hv,rfl⟩:=h
 exact ⟨W.far_nn hu hv,W.far_le hu hv⟩
theorem Tree.outmost (W:Tree n rs):∀ k:Nat,0 < k→k≤n→∃ d,IsDist n rs d∧∀ v:Int,0≤v→v < k→far n rs v 0≤d:=by
 intro k
 induction k with
 | zero=>intro h; omega
 | succ k ih =>
  intro _ hk
  have h0:InV n 0:=⟨by omega,by omega⟩
  have hkv:InV n (k:Int):=⟨by omega,by omega⟩
  by_cases c:k=0
  ·subst c
   exact ⟨_,⟨0,0,h0,h0,rfl⟩,fun v a b=>by
    have:v=0:=by omega
    subst this; exact Int.le_refl _⟩
  ·obtain ⟨d,hd,hall⟩:=ih (by omega) (by omega)
   by_cases c2:far n rs k 0≤d
   ·exact ⟨d,hd,fun v a b=>by
     by_cases e:v=k
     ·subst e; exact c2
     ·exact hall v a (by omega)⟩
   ·exact ⟨_,⟨k,0,hkv,h0,rfl⟩,fun v a b=>by
     by_cases e:v=k
     ·subst e; exact Int.le_refl _
     ·have:=hall v a (by omega); omega⟩
end WR
namespace WR
section
variable {n:Nat} {rs:List Road} {w:Int} {pre wells callers:List Int}
end
end WR
namespace WR
section
variable {n:Nat} {rs:List Road}
end
end WR
namespace L2
open PySem PySem.Spec PyProof.Rows
abbrev cxComp (X:Cx) (N:List Str) (sc:Scope) (cl:List (Str×Addr)) (C:Addr) (s₀:Shared) (H₀:Hp) (ex:List Addr) (pn:List (Addr×Obj)):Cx where
 prog:=X.prog
 w:=X.w
 K:=X.K
 mg:=X.mg
 base:=X.base
 A:=X.A
 N:=N
 s₀:=s₀
 H₀:=H₀
 env:=compEnvC sc cl C X.env
 outer:=X.stack
 stack:=X.stack
 ex:=ex
 fn:=fun _=>false
 calm:=X.calm
 pn:=pn
 xe:=X.xe
section
variable {prog:Program} {w:World} {A:Around} {R:Result→Shared→Prop} {s:Shared}
theorem compLoop_go {elt target iter:Expr} {ifs:List Expr} {scope:Scope} {pos:Pos} {it acc:Value} {env:Env} (I:Nat→Shared→Prop)
  (turn:∀ n s,I n s→wpAny (model prog w) A (pyNext it) (fun r s₁=>match r with
   | none=>R (.ok .next) s₁
   | some v=>wpAny (model prog w) A (letOwnedTupleGo target it v) (fun _ s₁'=>wpAny (model prog w) A (assign target env v) (fun _ s₂ =>
     wpAny (model prog w) A (forIn ifs true fun c r=>if r=true then do let ok ← isTrue c env (eval c env); pure (ForInStep.yield ok) else pure (ForInStep.yield r)) (fun ok s₃ =>
      if ok=true then wpAny (model prog w) A (eval elt env) (fun x s₄ =>
       wpAny (model prog w) A (call (.builtin "list.append") [acc,x]) (fun _ s₅=>∃ m,m < n∧I m s₅) (fun _ _=>False) s₄) (fun _ _=>False) s₃
      else ∃ m,m < n∧I m s₃) (fun _ _=>False) s₂) (fun _ _=>False) s₁') (fun _ _=>False) s₁) (fun _ _=>False) s)
  (n:Nat) (h:I n s) :
  codeAny (model prog w) A (.compLoop (.ListComp elt [⟨target,iter,ifs,0⟩] scope pos) 0 it acc env) R s:=by
 refine codeAny_loop rfl I (fun n s hI=>?_) n h
 show wpAny _ A ((compTurn (.ListComp elt [⟨target,iter,ifs,0⟩] scope pos) 0 it acc env).onRaise (fun x=>do noteFrame x env; theTreesLotGoes x)) _ _ s
 refine wpAny_noted ?_
 rw [compTurn_list]
 refine wpAny_bind (wpAny_standAt (wpAny_bind (wpAny_mono (turn n s hI) (fun r s₁ h₁=>?_) fun _ _ h'=>False.elim h')))
 cases r with
 | none=>exact wpAny_pure h₁
 | some v =>
  refine wpAny_bind (wpAny_mono h₁ (fun _ s₁' h₁'=>?_) fun _ _ h'=>False.elim h')
  refine wpAny_bind (wpAny_mono h₁' (fun _ s₂ h₂=>wpAny_bind (wpAny_mono h₂ (fun ok s₃ h₃=>?_) fun _ _ h'=>False.elim h')) fun _ _ h'=>False.elim h')
  cases ok with
  | false=>exact wpAny_pure ⟨rfl,h₃⟩
  | true =>
   exact wpAny_bind (wpAny_bind (wpAny_mono h₃ (fun x s₄ h₄=>wpAny_bind (wpAny_mono h₄ (fun _ s₅ h₅=>wpAny_pure (wpAny_pure ⟨rfl,h₅⟩)) fun _ _ h'=>False.elim h')) fun _ _ h'=>False.elim h'))
end
def PIfs (X:Cx) (ifs:List Expr) (t:TT):Prop :=
 ∀ (pins:List (Addr×Obj)) (s:Shared) (σ:St) (H:Hp) (Q:Bool→Hp→Prop),Inv X pins σ H s→t σ H Q →
  wpAny (model X.prog X.w) X.A (forIn ifs true fun c r=>if r=true then do let ok ← isTrue c X.env (eval c X.env); pure (ForInStep.yield ok) else pure (ForInStep.yield r)) (TP X pins σ Q) X.xe s
def tNoIf:TT:=fun _ H Q=>Q true H
theorem pf_none {X:Cx}:PIfs X [] tNoIf:=fun _ _ _ H _ I h=>wpAny_tests_nil ⟨H,I,h⟩
theorem pf_one {X:Cx} {c:Expr} {t:TT} (h:PT X c t):PIfs X [c] t:=fun pins s σ H Q I hw=>wpAny_tests_one (h pins s σ H Q I hw)
structure CompOk (X:Cx) (N:List Str) (sc:Scope) (cl:List (Str×Addr)) (fr:List (Nat×Nat)):Prop where
 clos:closureFor sc X.env=pure cl
 kind:sc.kind=.function
 nocell:∀ x∈sc.names,x.2≠.cell
 names:∀ x∈sc.names,x.2=.local→sc.names.lookup x.1=some .local
 sub:∀ x c,cl.lookup x=some c→X.env.cells.lookup x=some c
 has:∀ x,((relabel sc X.env).names.lookup x=some .cell∨(relabel sc X.env).names.lookup x=some .free)→∃ c,cl.lookup x=some c
 frees:∀ p∈fr,∃ x,N[p.1]?=some x∧X.N[p.2]?=some x∧(X.env.scope.names.lookup x=some .cell∨X.env.scope.names.lookup x=some .free)∧((relabel sc X.env).names.lookup x=some .cell∨(relabel sc X.env).names.lookup x=some .free)
def startC (n:Nat) (fr:List (Nat×Nat)) (σ:St):St:=(List.range n).map fun i=>match fr.find? (fun p=>p.1 == i) with | some p=>(σ[p.2]?).join | none=>none
def tComp (n:Nat) (fr:List (Nat×Nat)) (wi:TI) (g:TG) (tf:TT) (te:TE):TE:=fun σ H Q=>wi σ H fun J H1=>∀ acc,H1 acc=none →
 ∃ W:Nat→Nat→St→List V→Hp→Prop,(∃ m,W 0 m (startC n fr σ) [] (upd H1 acc (.lst [])))∧∀ i m τ ys H2,W i m τ ys H2 →
  H2 acc=some (.lst ys)∧((J.stop i H2∧Q (.ref acc) H2)∨(J.go i H2∧∀ x H3,J.yld i H2 x H3→g x τ H3 fun τ4 H4=>tf τ4 H4 fun b H5 =>
   if b=true then te τ4 H5 fun v H6=>H6 acc=some (.lst ys)∧ys.length < sizeLine∧∃ m',m' < m∧W (i + 1) m' τ4 (ys++[v]) (upd H6 acc (.lst (ys++[v])))
   else ∃ m',m' < m∧W (i + 1) m' τ4 ys H5))
section
variable {X:Cx} {N:List Str} {sc:Scope} {cl:List (Str×Addr)} {fr:List (Nat×Nat)} {pins:List (Addr×Obj)} {σ:St} {H:Hp} {s:Shared}
theorem comp_ok {fp:List Addr} (I:Inv X pins σ H s) (K:CompOk X N sc cl fr) (f:∀ b∈fp,FpOk X pins H b) (ho:∀ b∈fp,∃ o,s.heap.get? b=some o) :
  (cxComp X N sc cl s.heap.objs.size s H fp (X.pn++pins)).Ok where
 mod:=I.mod
 kind:=K.kind
 glob:=I.ok.glob
 blt:=I.ok.blt
 above:=Nat.le_refl _
 inj:=fun x y c h1 h2=>I.ok.inj x y c (K.sub x c h1) (K.sub y c h2)
 has:=fun x h=>K.has x h
 cab:=fun x c h=>absurd h (by simp)
 hd:=I.ok.hd
 frames:=I.ok.frames
 stk:=.inl rfl
 exf:=fun b hb=>⟨fun z=>by
   obtain ⟨o,ho⟩:=ho b hb
   have z:b=s.heap.objs.size:=z
   exact absurd (Heap.lt_size ho) (by rw [z]; exact Nat.lt_irrefl _),fun x c h=>(f b hb).2.2.2.2.1 x c (K.sub x c h)⟩
 bs:=I.bs
 bsz:=Nat.le_trans I.ok.bsz I.sz
 noex:=fun b o e hb=>by
  rcases (f b hb).2.2.2.1 with z | z
  ·exact I.ok.noex b o e z
  ·exact absurd (Nat.lt_of_lt_of_le (Heap.lt_size e) (Nat.le_trans I.ok.bsz z)) (Nat.lt_irrefl _)
 exfs:=fun b hb z=>by
  rcases List.mem_cons.mp (I.stkSub b z) with q | q
  ·exact (f b hb).2.1 q
  ·exact (f b hb).2.2.1 q
 funs:=I.stack
 frf:=I.stkFree
theorem startC_get {n i:Nat} {v:V} (h:(startC n fr σ)[i]?=some (some v)):∃ p∈fr,p.1=i∧σ[p.2]?=some (some v):=by
 unfold startC at h
 rw [List.getElem?_map] at h
 cases q:(List.range n)[i]? with
 | none=>rw [q] at h; cases h
 | some j =>
  rw [q] at h
  have hj:j=i:=by
   obtain ⟨hlt,e⟩:=List.getElem?_eq_some_iff.mp q
   rw [List.getElem_range] at e
   exact e.symm
  subst hj
  simp only [Option.map_some,Option.some.injEq] at h
  cases r:fr.find? (fun p=>p.1 == j) with
  | none=>rw [r] at h; cases h
  | some p =>
   rw [r] at h
   have h:(σ[p.2]?).join=some v:=h
   refine ⟨p,List.mem_of_find?_eq_some r,by simpa using List.find?_some r,?_⟩
   cases t:σ[p.2]? with
   | none=>rw [t] at h; cases h
   | some o =>
    rw [t] at h
    have h:o=some v:=h
    rw [h]
theorem comp_start {fp:List Addr} {h':Heap} {t':Nat} {m:Str→Option Value} (I:Inv X pins σ H s) (K:CompOk X N sc cl fr) (f:∀ b∈fp,FpOk X pins H b) (ho:∀ b∈fp,∃ o,s.heap.get? b=some o)
  (hn:h'.Ns s.heap.objs.size m) (hk:∀ b o,s.heap.get? b=some o→h'.get? b=some o) :
  Inv (cxComp X N sc cl s.heap.objs.size s H fp (X.pn++pins)) [] (startC N.length fr σ) H { s with heap:=h',toks:=t' }:=by
 refine ⟨comp_ok I K f ho,rfl,I.bare,Un.kept hk,⟨m,hn,fun i x v e1 e2 e3=>?_⟩,fun x c h=>?_,I.hok.fresh (Nat.le_refl _),fun x c h=>I.freeC x c (K.sub x c h),fun p hp=>?_,I.hok.kept hk,by simp [startC]⟩
 ·obtain ⟨p,hp,rfl,hv⟩:=startC_get e2
  obtain ⟨y,h1,h2,h3,h4⟩:=K.frees p hp
  have e1:N[p.1]?=some x:=e1
  rw [e1] at h1; cases h1
  obtain ⟨m0,hm0,hl⟩:=I.loc
  have vis:Vis X.env.scope x:=by
   rcases h3 with z | z
   ·exact .inr (.inl z)
   ·exact .inr (.inr z)
  obtain ⟨u,ru,l⟩:=hl p.2 x v h2 hv vis
  refine ⟨u,ru,?_⟩
  rcases l with ⟨z,_⟩ | ⟨_,c,hc,hcell⟩
  ·exfalso
   have z:X.env.scope.names.lookup x=some .local:=z
   rcases h3 with q | q <;> (rw [z] at q; cases q)
  ·obtain ⟨c',hc'⟩:=K.has x h4
   have:=K.sub x c' hc'
   rw [hc] at this; cases this
   obtain ⟨o,ho',hd⟩:=hcell
   exact .inr ⟨h4,c,hc',o,hk _ _ ho',hd⟩
 ·obtain ⟨v,o,ho',hd⟩:=I.cell x c (K.sub x c h)
  exact ⟨v,o,hk _ _ ho',hd⟩
 ·have hp:p∈X.pn++pins:=by simpa using hp
  obtain ⟨e,n,ne,nf,d⟩:=I.pin p hp
  refine ⟨hk _ _ e,n,fun z=>?_,fun z=>?_,d⟩
  ·have z:p.1=s.heap.objs.size:=z
   exact absurd (Heap.lt_size e) (by rw [z]; exact Nat.lt_irrefl _)
  ·rcases List.mem_cons.mp (I.stkSub _ z) with q | q
   ·exact ne q
   ·exact nf q
theorem comp_back {fp:List Addr} {τ:St} {H':Hp} {s':Shared} {h':Heap} (I:Inv X pins σ H s) (f:∀ b∈fp,FpOk X pins H b)
  (J:Inv (cxComp X N sc cl s.heap.objs.size s H fp (X.pn++pins)) [] τ H' s') (hs:Heap.SameBut s.heap.objs.size s'.heap h') :
  Inv X pins σ H' { s' with heap:=h' }:=by
 have hlt:∀ b o,s.heap.get? b=some o→b≠s.heap.objs.size:=fun b o e=>Nat.ne_of_lt (Heap.lt_size e)
 have u:=J.base
 refine I.call' (ch:=fp) J.os ⟨fun b o e n hb hx=>?_,fun b o e n hb hx=>?_,u.free,fun b o e hx=>?_,u.tups,u.frzs,u.tbls⟩ (fun a o e=>?_) J.bare fun b hb=>⟨(f b hb).2.2.2.1,(f b hb).2.1,(f b hb).2.2.2.2.1,(f b hb).2.2.2.2.2⟩
 ·exact (hs.2 b (hlt b o e)).trans (u.keep b o e n hb hx)
 ·obtain ⟨sl,q⟩:=u.slot b o e n hb hx
  exact ⟨sl,(hs.2 b (hlt b o e)).trans q⟩
 ·obtain ⟨o',q⟩:=u.there b o e hx
  exact ⟨o',(hs.2 b (hlt b o e)).trans q⟩
 ·have hC:H' s.heap.objs.size=none:=J.free
  refine (J.hok a o e).stay (fun b v hb q=>(hs.2 b ?_).trans q) (fun _ q=>q) fun _ _ q=>q
  intro z
  rcases hb with hb | hb
  ·rw [← hb,z,hC] at e; cases e
  ·rw [z,hC] at hb; cases hb
theorem comp_run {elt tg iter:Expr} {ifs:List Expr} {pos:Pos} {g:TG} {tf:TT} {te:TE} {Q:VK} {RR:Value→Addr→Result→Shared→Prop} {itv:Value} (hx:X.xe=fun _ _=>False) (hc:X.calm=true)
  (K:CompOk X N sc cl fr)
  (hb:∀ C s₀ H₀ ex pn,PG (cxComp X N sc cl C s₀ H₀ ex pn) tg g∧PIfs (cxComp X N sc cl C s₀ H₀ ex pn) ifs tf∧PE (cxComp X N sc cl C s₀ H₀ ex pn) elt te)
  (h2:PIE X pins σ tg (fun J H1=>∀ acc,H1 acc=none →
   ∃ W:Nat→Nat→St→List V→Hp→Prop,(∃ m,W 0 m (startC N.length fr σ) [] (upd H1 acc (.lst [])))∧∀ i m τ ys H2,W i m τ ys H2 →
    H2 acc=some (.lst ys)∧((J.stop i H2∧Q (.ref acc) H2)∨(J.go i H2∧∀ x H3,J.yld i H2 x H3→g x τ H3 fun τ4 H4=>tf τ4 H4 fun b H5 =>
     if b=true then te τ4 H5 fun v H6=>H6 acc=some (.lst ys)∧ys.length < sizeLine∧∃ m',m' < m∧W (i + 1) m' τ4 (ys++[v]) (upd H6 acc (.lst (ys++[v])))
     else ∃ m',m' < m∧W (i + 1) m' τ4 ys H5))) itv s)
  (hR:∀ (acc:Addr) (s3:Shared) (H3 H':Hp) (fp:List Addr) (τ:St) (s':Shared),Inv X pins σ H3 s3→(∀ b∈fp,FpOk X pins H3 b)→Inv (cxComp X N sc cl s3.heap.objs.size s3 H3 fp (X.pn++pins)) [] τ H' s'→Q (.ref acc) H'→RR (.ref acc) s3.heap.objs.size (.ok .next) s') :
  wpAny (model X.prog X.w) X.A (newList []) (fun acc s₃=>wpAny (model X.prog X.w) X.A (newFunctionEnv sc X.env.globals cl [] X.env.qual none .none (some X.env)) (fun cenv s₄ =>
   codeAny (model X.prog X.w) X.A (.compStart (.ListComp elt [⟨tg,iter,ifs,0⟩] sc pos) 0 itv acc { cenv with scope:=relabel sc X.env }) (RR acc cenv.locals) s₄) X.xe s₃) X.xe s:=by
 obtain ⟨it,fp,tn,J,H1,e,I1,T,st1,f1,hw⟩:=h2
 subst e
 have hfr:=I1.hok.fresh (Nat.le_refl _)
 obtain ⟨W,⟨m0,w0⟩,turn⟩:=hw s.heap.objs.size hfr
 refine wpAny_newObj_type ?_
 have I3:Inv X pins σ (upd H1 s.heap.objs.size (.lst [])) { s with heap:=s.heap.push { cls:=.type "list",data:=.seq ([]:List Value).toArray } }:=I1.lnew (t':=s.toks) (its:=[]) .nil (Nat.zero_le _)
 have fpne:∀ b∈fp,b≠s.heap.objs.size:=fun b hb=>by
  obtain ⟨o,ho,_⟩:=T.obj _ _ st1 b hb
  exact Nat.ne_of_lt (Heap.lt_size ho)
 have f3:∀ b∈fp,FpOk X pins (upd H1 s.heap.objs.size (.lst [])) b:=fun b hb=>⟨by rw [upd_ne (fpne b hb)]; exact (f1 b hb).1,(f1 b hb).2⟩
 generalize hs3:({ s with heap:=s.heap.push { cls:=.type "list",data:=.seq ([]:List Value).toArray } }:Shared)=s3 at I3
 have st3:tn 0 s3.heap:=T.keep _ _ _ st1 fun b _ o e=>by rw [← hs3]; exact Heap.get?_push_of_some _ e
 have ho3:∀ b∈fp,∃ o,s3.heap.get? b=some o:=fun b hb=>by obtain ⟨o,ho,_⟩:=T.obj _ _ st3 b hb; exact ⟨o,ho⟩
 generalize hacc:s.heap.objs.size=acc at *
 refine wpAny_newFunctionEnv K.nocell (by intro y hy; simp at hy) (fun h₁ hns₁ hsb₁=>?_) K.kind
 have hk:∀ b o,s3.heap.get? b=some o→h₁.get? b=some o:=fun b o e=>(hsb₁.2 b (Nat.ne_of_lt (Heap.lt_size e))).trans (Heap.get?_push_of_some _ e)
 have I4:=comp_start (t':=s3.toks + ([]:List (Str×Value)).length) I3 K f3 ho3 hns₁ hk
 have st4:tn 0 h₁:=T.keep _ _ _ st3 fun b _ o e=>hk b o e
 have stat:∀ {H':Hp} {b:Addr},b∈fp→H' b=none→FpOk (cxComp X N sc cl s3.heap.objs.size s3 (upd H1 acc (.lst [])) fp (X.pn++pins)) [] H' b:=fun {H' b} hb hn=>by
  refine ⟨hn,fun z=>?_,fun z=>?_,.inl hb,fun x c h=>(f3 b hb).2.2.2.2.1 x c (K.sub x c h),fun p hp=>(f3 b hb).2.2.2.2.2 p (by simpa using hp)⟩
  ·obtain ⟨o,ho⟩:=ho3 b hb
   have z:b=s3.heap.objs.size:=z
   exact absurd (Heap.lt_size ho) (by rw [z]; exact Nat.lt_irrefl _)
  ·rcases List.mem_cons.mp (I3.stkSub b z) with q | q
   ·exact (f3 b hb).2.1 q
   ·exact (f3 b hb).2.2.1 q
 obtain ⟨hg,hf,he⟩:=hb s3.heap.objs.size s3 (upd H1 acc (.lst [])) fp (X.pn++pins)
 have loop:∀ s₄:Shared,s₄={ s3 with heap:=h₁,toks:=s3.toks + ([]:List (Str×Value)).length } →
   codeAny (model X.prog X.w) X.A (.compLoop (.ListComp elt [⟨tg,iter,ifs,0⟩] sc pos) 0 (.ref it) (.ref acc) (compEnvC sc cl s3.heap.objs.size X.env)) (RR (.ref acc) s3.heap.objs.size) s₄:=by
  rintro s₄ rfl
  refine compLoop_go (fun n s'=>∃ i τ ys H',Inv (cxComp X N sc cl s3.heap.objs.size s3 (upd H1 acc (.lst [])) fp (X.pn++pins)) [] τ H' s'∧tn i s'.heap∧(∀ b∈fp,H' b=none)∧W i n τ ys H') ?_ m0
   ⟨0,_,[],_,I4,st4,fun b hb=>(f3 b hb).1,w0⟩
  rintro n s5 ⟨i,τ,ys,H5,I5,st5,fr5,w5⟩
  obtain ⟨hacc5,tr⟩:=turn i n τ ys H5 w5
  rcases tr with ⟨stop,q⟩ | ⟨go,step⟩
  ·refine thn (T.done (cxComp X N sc cl s3.heap.objs.size s3 (upd H1 acc (.lst [])) fp (X.pn++pins)) rfl rfl rfl hc i [] s5 τ H5 _ I5 (fun b hb=>stat hb (fr5 b hb)) st5 stop) fun r s6 hz_=>?_
   obtain ⟨hr,I6⟩:=hz_
   subst hr
   exact hR acc s3 _ H5 fp τ s6 I3 f3 I6 q
  ·refine thn (T.item (cxComp X N sc cl s3.heap.objs.size s3 (upd H1 acc (.lst [])) fp (X.pn++pins)) rfl rfl rfl hc i [] s5 τ H5 _ I5 (fun b hb=>stat hb (fr5 b hb)) st5 go) fun r s6 hz_=>?_
   obtain ⟨u,hr,h6⟩:=hz_
   subst hr
   refine thn h6 fun _ s7 hz_=>?_
   obtain ⟨x,H7,I7,r7,y7,st7,fr7⟩:=hz_
   have I7':=I7.pinned (fun b hb=>stat hb (fr7 b hb)) (T.obj _ _ st7)
   have again:∀ {τ8:St} {H8:Hp} {s8:Shared} {ys8:List V},Inv (cxComp X N sc cl s3.heap.objs.size s3 (upd H1 acc (.lst [])) fp (X.pn++pins)) ([]++pinsAt fp s7.heap) τ8 H8 s8→(∃ m',m' < n∧W (i + 1) m' τ8 ys8 H8) →
     ∃ m,m < n∧∃ i τ ys H',Inv (cxComp X N sc cl s3.heap.objs.size s3 (upd H1 acc (.lst [])) fp (X.pn++pins)) [] τ H' s8∧tn i s8.heap∧(∀ b∈fp,H' b=none)∧W i m τ ys H':=fun {τ8 H8 s8 ys8} I8 ⟨m',hm,w8⟩=>by
    refine ⟨m',hm,i + 1,τ8,ys8,H8,I8.unpinned,T.keep _ _ _ st7 fun b hb o e=>(I8.pin (b,o) (List.mem_append_right _ (List.mem_append_right _ (mem_pinsAt hb e)))).1,fun b hb=>?_,w8⟩
    obtain ⟨o,e,d⟩:=T.obj _ _ st7 b hb
    exact (I8.pin (b,o) (List.mem_append_right _ (List.mem_append_right _ (mem_pinsAt hb e)))).2.1
   have xf:∀ (e:Value) (s:Shared),X.xe e s→False:=fun e s h=>by rw [hx] at h; exact h
   refine wpAny_mono (hg _ s7 τ H7 x u _ I7' r7 (step x H7 y7)) (fun _ s8 hz_=>?_) xf
   obtain ⟨τ8,H8,I8,q8⟩:=hz_
   refine wpAny_mono (hf _ s8 τ8 H8 _ I8 q8) (fun ok s9 hz_=>?_) xf
   obtain ⟨H9,I9,q9⟩:=hz_
   cases ok with
   | false=>exact again I9 q9
   | true =>
    rw [if_pos rfl] at q9 ⊢
    refine wpAny_mono (he _ s9 τ8 H9 _ I9 q9) (fun v s10 hz_=>?_) xf
    obtain ⟨y,H10,I10,ry,q10⟩:=hz_
    obtain ⟨h10,hz,q10⟩:=q10
    refine wpAny_mono (mt_append (X:=cxComp X N sc cl s3.heap.objs.size s3 (upd H1 acc (.lst [])) fp (X.pn++pins)) _ s10 τ8 H10 (.ref acc) [y] (.ref acc) [v] (fun _ H'=>H'=upd H10 acc (.lst (ys++[y]))) I10 rfl (.cons ry .nil) ⟨acc,ys,y,rfl,rfl,h10,hz,rfl⟩) (fun _ s11 hz_=>?_) xf
    obtain ⟨z,H11,I11,_,e11⟩:=hz_
    subst e11
    exact again I11 q10
 exact codeAny_compStart_list (loop _ rfl) (T.self _ 0 _ _ _ st4 (loop _ rfl))
end
theorem pe_comp {X:Cx} {N:List Str} {sc:Scope} {cl:List (Str×Addr)} {fr:List (Nat×Nat)} {elt tg iter:Expr} {ifs:List Expr} {pos:Pos} {wi:TI} {g:TG} {tf:TT} {te:TE} (hc:X.calm=true)
  (K:CompOk X N sc cl fr) (hi:PI X tg iter wi)
  (hb:∀ C s₀ H₀ ex pn,PG (cxComp X.nox N sc cl C s₀ H₀ ex pn) tg g∧PIfs (cxComp X.nox N sc cl C s₀ H₀ ex pn) ifs tf∧PE (cxComp X.nox N sc cl C s₀ H₀ ex pn) elt te)
  (hs:∀ x,foldedSetIterable iter X.env x=pure x:=by intro _; rfl):PE X (.ListComp elt [⟨tg,iter,ifs,0⟩] sc pos) (tComp N.length fr wi g tf te):=by
 intro pins s σ H Q I h
 rw [eval_ListComp]
 refine wpAny_comprehension_free (use:=none) rfl hs K.clos K.kind K.names (thn (hi pins s σ H _ I h) fun v s1 h1=>thn h1 fun itv s2 h2=>?_)
 have K':CompOk X.nox N sc cl fr:=⟨K.clos,K.kind,K.nocell,K.names,K.sub,K.has,K.frees⟩
 obtain ⟨it,fp,tn,J,H1,e,I1,T,st1,f1,hw⟩:=h2
 refine wpAny_mono (comp_run (X:=X.nox) (pins:=pins) (σ:=σ) (Q:=Q) (RR:=fun acc C=>compPost (model X.prog X.w) X.A X.xe none (EP X pins σ Q) acc C) rfl hc K' hb ⟨it,fp,tn,J,H1,e,I1.wish _,T,st1,f1,hw⟩ ?_) (fun _ _ q=>wpAny_mono q (fun _ _ z=>z) fun _ _ z=>False.elim z) fun _ _ z=>False.elim z
 intro acc s3 H3 H' fp' τ s' I3 f3 J' q
 obtain ⟨m,hm,_⟩:=J'.loc
 exact ⟨m,hm,fun h' hs'=>⟨.ref acc,H',(comp_back I3 f3 J' hs').unwish,rfl,q⟩⟩
end L2
namespace L2
open PySem PySem.Spec PyProof.Rows
def closL (cells:List (Str×Addr)):List (Str×NameKind)→List (Str×Addr)→List (Str×Addr)
 | [],cs=>cs
 | (n,k)::r,cs=>closL cells r (if k == .free then (n,(cells.lookup n).getD 0)::cs else cs)
theorem closL_forIn {env:Env}:∀ (names:List (Str×NameKind)) (cs:List (Str×Addr)),(∀ y∈names,y.2=.free→∃ c,env.cells.lookup y.1=some c) →
  (forIn names cs (fun x r=>match x with | (name,kind)=>if (kind == NameKind.free)=true then (do let a ← cellOf env name; pure (ForInStep.yield ((name,a)::r))) else pure (ForInStep.yield r)):Sem (List (Str×Addr)))=pure (closL env.cells names cs)
 | [],cs,_=>by rfl
 | (n,k)::r,cs,h=>by
  rw [List.forIn_cons]
  by_cases hk:k=.free
  ·subst hk
   obtain ⟨c,hc⟩:=h (n,.free) List.mem_cons_self rfl
   have e:cellOf env n=pure c:=by unfold cellOf; rw [hc]
   simp only [e,closL,hc,Option.getD_some,beq_self_eq_true,if_true]
   exact closL_forIn r _ fun y hy=>h y (List.mem_cons_of_mem _ hy)
  ·have hb:(k == NameKind.free)=false:=by simpa using hk
   simp only [hb,closL,Bool.false_eq_true,if_false]
   exact closL_forIn r _ fun y hy=>h y (List.mem_cons_of_mem _ hy)
theorem closureFor_eq {sc:Scope} {env:Env} (h:∀ y∈sc.names,y.2=.free→∃ c,env.cells.lookup y.1=some c):closureFor sc env=pure (closL env.cells sc.names []):=by
 unfold closureFor
 have:=closL_forIn (env:=env) sc.names [] h
 simp only [bind_pure_comp,id_map'] at *
 first
  | exact this
  | (rw [this]; rfl)
theorem closL_mem {cells:List (Str×Addr)}:∀ {names:List (Str×NameKind)} {cs:List (Str×Addr)} {p:Str×Addr},p∈closL cells names cs→p∈cs∨((p.1,NameKind.free)∈names∧p.2=(cells.lookup p.1).getD 0)
 | [],cs,p,h=>.inl h
 | (n,k)::r,cs,p,h=>by
  unfold closL at h
  rcases closL_mem h with q | ⟨q1,q2⟩
  ·by_cases hk:k=.free
   ·subst hk
    rw [if_pos (by simp)] at q
    rcases List.mem_cons.mp q with e | e
    ·subst e; exact .inr ⟨List.mem_cons_self,rfl⟩
    ·exact .inl e
   ·rw [if_neg (by simpa using hk)] at q
    exact .inl q
  ·exact .inr ⟨List.mem_cons_of_mem _ q1,q2⟩
theorem closL_acc {cells:List (Str×Addr)}:∀ {names:List (Str×NameKind)} {cs:List (Str×Addr)} {x:Str},x∈cs.map (·.1)→x∈(closL cells names cs).map (·.1)
 | [],cs,x,h=>h
 | (n,k)::r,cs,x,h=>by
  unfold closL
  refine closL_acc ?_
  split
  ·rw [List.map_cons]; exact List.mem_cons_of_mem _ h
  ·exact h
theorem closL_has {cells:List (Str×Addr)}:∀ {names:List (Str×NameKind)} {cs:List (Str×Addr)} {x:Str},(x,NameKind.free)∈names→x∈(closL cells names cs).map (·.1)
 | [],cs,x,h=>by simp at h
 | (n,k)::r,cs,x,h=>by
  unfold closL
  rcases List.mem_cons.mp h with e | e
  ·cases e
   rw [if_pos (by simp)]
   exact closL_acc (by simp)
  ·exact closL_has e
theorem lookup_mem {β:Type}:∀ {l:List (Str×β)} {x:Str} {b:β},l.lookup x=some b→(x,b)∈l
 | [],x,b,h=>by simp at h
 | (n,c)::r,x,b,h=>by
  rw [List.lookup_cons] at h
  cases hx:x == n with
  | true=>rw [hx] at h; cases h; rw [eq_of_beq hx]; exact List.mem_cons_self
  | false=>rw [hx] at h; exact List.mem_cons_of_mem _ (lookup_mem h)
theorem lookup_some {β:Type}:∀ {l:List (Str×β)} {x:Str},x∈l.map (·.1)→∃ b,l.lookup x=some b
 | [],x,h=>by simp at h
 | (n,c)::r,x,h=>by
  rw [List.lookup_cons]
  cases hx:x == n with
  | true=>exact ⟨c,rfl⟩
  | false =>
   rw [List.map_cons] at h
   rcases List.mem_cons.mp h with e | e
   ·subst e; simp at hx
   ·exact lookup_some e
def compChk (N0 N:List Str) (sc0 sc:Scope) (fr:List (Nat×Nat)):Bool :=
 sc.kind == .function&&sc0.kind == .function&&sc.names.all (fun x=>!(x.2 == .cell))&&sc.names.all (fun x=>!(x.2 == .local) || sc.names.lookup x.1 == some .local) &&
 sc.names.all (fun x=>!(x.2 == .free) || (sc0.names.lookup x.1 == some .cell || sc0.names.lookup x.1 == some .free)) &&
 fr.all (fun p=>match N[p.1]? with | some x=>N0[p.2]? == some x&&(sc0.names.lookup x == some .cell || sc0.names.lookup x == some .free)&&sc.names.lookup x == some .free | none=>false)
theorem relabel_free {sc:Scope} {env:Env} {x:Str} (hn:∀ y∈sc.names,y.2≠.cell) (h:(relabel sc env).names.lookup x=some .cell∨(relabel sc env).names.lookup x=some .free):(x,NameKind.free)∈sc.names:=by
 have all:∀ (k:NameKind),(k=.cell∨k=.free)→(x,k)∈(relabel sc env).names→(x,NameKind.free)∈sc.names:=by
  intro k hk hm
  unfold relabel at hm
  simp only [List.mem_map] at hm
  obtain ⟨⟨n,k'⟩,hy,e⟩:=hm
  dsimp only at e
  split at e
  ·rename_i c
   cases e
   simp only [Bool.and_eq_true] at c
   have:k'=.free:=by simpa using c.1.1
   rw [← this]; exact hy
  ·cases e
   rcases hk with rfl | rfl
   ·exact absurd rfl (hn _ hy)
   ·exact hy
 rcases h with h | h
 ·exact all _ (.inl rfl) (lookup_mem h)
 ·exact all _ (.inr rfl) (lookup_mem h)
theorem relabel_get {sc:Scope} {env:Env} {x:Str}:∀ {names:List (Str×NameKind)},names.lookup x=some .free →
  (names.map fun (n,k)=>if (k == NameKind.free&&env.scope.kind == .function&&env.kindOf n == some .cell) then (n,NameKind.cell) else (n,k)).lookup x=some .cell ∨
  (names.map fun (n,k)=>if (k == NameKind.free&&env.scope.kind == .function&&env.kindOf n == some .cell) then (n,NameKind.cell) else (n,k)).lookup x=some .free
 | [],h=>by simp at h
 | (n,k)::r,h=>by
  rw [List.map_cons]
  rw [List.lookup_cons] at h
  cases hx:x == n with
  | true =>
   rw [hx] at h
   cases h
   dsimp only
   split <;> simp [List.lookup_cons,hx]
  | false =>
   rw [hx] at h
   have ih:=relabel_get (sc:=sc) (env:=env) (x:=x) (names:=r) h
   dsimp only
   split <;> (rw [List.lookup_cons,hx]; exact ih)
def HasC (X:Cx) (sc0:Scope):Prop:=∀ x,(sc0.names.lookup x=some .cell∨sc0.names.lookup x=some .free)→∃ c,X.env.cells.lookup x=some c
theorem compOkG {X:Cx} {N0 N:List Str} {sc0 sc:Scope} {fr:List (Nat×Nat)} (hN:X.N=N0) (hs:X.env.scope=sc0) (hce:HasC X sc0) (hc:compChk N0 N sc0 sc fr=true):CompOk X N sc (closL X.env.cells sc.names []) fr:=by
 unfold compChk at hc
 simp only [Bool.and_eq_true] at hc
 obtain ⟨⟨⟨⟨⟨c1,c2⟩,c3⟩,c4⟩,c5⟩,c6⟩:=hc
 have nocell:∀ x∈sc.names,x.2≠.cell:=fun x hx e=>by
  have:=List.all_eq_true.mp c3 x hx
  rw [e] at this
  exact absurd this (by decide)
 have cells:∀ y∈sc.names,y.2=.free→∃ c,X.env.cells.lookup y.1=some c:=fun y hy e=>by
  have:=List.all_eq_true.mp c5 y hy
  rw [e] at this
  exact hce y.1 (by simpa using this)
 have sub:∀ x c,(closL X.env.cells sc.names []).lookup x=some c→X.env.cells.lookup x=some c:=fun x c h=>by
  rcases closL_mem (lookup_mem h) with q | ⟨q1,q2⟩
  ·simp at q
  ·obtain ⟨c',hc'⟩:=cells _ q1 rfl
   have hc':X.env.cells.lookup x=some c':=hc'
   have q2:c=(X.env.cells.lookup x).getD 0:=q2
   rw [hc'] at q2
   rw [hc',q2]; rfl
 refine ⟨closureFor_eq fun y hy e=>cells y hy e,by simpa using c1,nocell,fun x hx e=>?_,sub,fun x h=>lookup_some (closL_has (relabel_free nocell h)),fun p hp=>?_⟩
 ·have:=List.all_eq_true.mp c4 x hx
  rw [e] at this
  simpa using this
 ·have:=List.all_eq_true.mp c6 p hp
  cases q:N[p.1]? with
  | none=>rw [q] at this; simp at this
  | some x =>
   rw [q] at this
   simp only [Bool.and_eq_true,Bool.or_eq_true,beq_iff_eq] at this
   refine ⟨x,rfl,by rw [hN]; exact this.1.1,by rw [hs]; exact this.1.2,?_⟩
   exact relabel_get (sc:=sc) (env:=X.env) this.2
theorem hasC_def {X:Cx} {sc0:Scope} {n0:Nat} (h:X.env.cells=cellsFrom n0 sc0.names []) (nf:sc0.names.all (fun y=>!(y.2 == .free))=true):HasC X sc0:=fun x hx=>by
 rcases hx with q | q
 ·rw [h]; exact cell_has q
 ·have:=List.all_eq_true.mp nf _ (lookup_mem q)
  exact absurd (show (!(NameKind.free == NameKind.free))=true from this) (by decide)
theorem compOk {X:Cx} {N0 N:List Str} {sc0 sc:Scope} {fr:List (Nat×Nat)} {n0:Nat} (hN:X.N=N0) (hs:X.env.scope=sc0∧X.env.cells=cellsFrom n0 sc0.names []) (hc:(sc0.names.all (fun y=>!(y.2 == .free))&&compChk N0 N sc0 sc fr)=true):CompOk X N sc (closL X.env.cells sc.names []) fr:=by
 rw [Bool.and_eq_true] at hc
 exact compOkG hN hs.1 (hasC_def hs.2 hc.1) hc.2
theorem ps_setC {X:Cx} {N:List Str} {sc:Scope} {cl:List (Str×Addr)} {fr:List (Nat×Nat)} {elt tg iter:Expr} {ifs:List Expr} {pos pos' spos:Pos} {wi:TI} {g:TG} {tf:TT} {te:TE} {i:Nat} {x:Str}
  (hN:X.N.Nodup) (hi':X.N[i]?=some x) (hx:X.env.scope.names.lookup x=some .local) (hc:X.calm=true)
  (K:CompOk X N sc cl fr) (hi:PI X tg iter wi)
  (hb:∀ C s₀ H₀ ex pn,PG (cxComp X.nox N sc cl C s₀ H₀ ex pn) tg g∧PIfs (cxComp X.nox N sc cl C s₀ H₀ ex pn) ifs tf∧PE (cxComp X.nox N sc cl C s₀ H₀ ex pn) elt te)
  (hsw:swapsWith (.ListComp elt [⟨tg,iter,ifs,0⟩] sc pos) (some (.Name x pos')) spos.line X.env=pure true:=by rfl)
  (hs:∀ x,foldedSetIterable iter X.env x=pure x:=by intro _; rfl):PS X (.Assign [.Name x pos'] (.ListComp elt [⟨tg,iter,ifs,0⟩] sc pos) spos) (tAsg (tComp N.length fr wi g tf te) (gName i)):=by
 intro pins s σ H D I h
 rw [exec_Assign_Name_used _ _ _ _ hsw]
 refine wpAny_bind (wpAny_standAt (wpAny_bind ?_))
 show wpAny _ X.A (do let _ ← comprehension (.ListComp elt [⟨tg,iter,ifs,0⟩] sc pos) sc X.env _ (newList []) false (eval iter X.env) (some (assign (.Name x pos') X.env))) _ _ s
 refine wpAny_bind (wpAny_mono (wpAny_comprehension_free (use:=some (assign (.Name x pos') X.env)) (Q:=fun _ s'=>SP X pins D .next s') rfl hs K.clos K.kind K.names
  (thn (hi pins s σ H _ I h) fun v s1 h1=>thn h1 fun itv s2 h2=>?_)) (fun _ s' hq=>wpAny_pure (wpAny_pure hq)) fun _ _ e=>e)
 have K':CompOk X.nox N sc cl fr:=⟨K.clos,K.kind,K.nocell,K.names,K.sub,K.has,K.frees⟩
 obtain ⟨it,fp,tn,J,H1,e,I1,T,st1,f1,hw⟩:=h2
 refine wpAny_mono (comp_run (X:=X.nox) (pins:=pins) (σ:=σ) (Q:=fun v H'=>D.nx (σ.set i (some v)) H') (RR:=fun acc C=>compPost (model X.prog X.w) X.A X.xe (some (assign (.Name x pos') X.env)) (fun _ s'=>SP X pins D .next s') acc C) rfl hc K' hb ⟨it,fp,tn,J,H1,e,I1.wish _,T,st1,f1,hw⟩ ?_) (fun _ _ q=>wpAny_mono q (fun _ _ z=>z) fun _ _ z=>False.elim z) fun _ _ z=>False.elim z
 intro acc s3 H3 H' fp' τ s' I3 f3 J' q
 obtain ⟨m,hm,_⟩:=J'.loc
 have Ib:=(comp_back I3 f3 J' (Heap.SameBut.refl _ _)).unwish
 show wpAny _ X.A (assign (.Name x pos') X.env (.ref acc)) _ _ _
 refine wpAny_assign_Name (store_ok2 Ib hN hi' (.inl hx) (v:=.ref acc) rfl (fun s'' I'' hsb=>?_) (.inr hx))
 obtain ⟨c,hsb,hcc⟩:=hsb
 have hlt:X.env.locals < s3.heap.objs.size:=I3.lt
 have hne:s3.heap.objs.size≠c:=by
  rcases hcc with e | e
  ·rw [e]; exact Nat.ne_of_gt hlt
  ·intro z
   obtain ⟨w',o,ho,_⟩:=I3.cell x c e
   exact absurd (Heap.lt_size ho) (by rw [← z]; exact Nat.lt_irrefl _)
 refine ⟨m,hm.sameBut hsb hne,fun h' hs'=>?_⟩
 refine ⟨_,H',I''.turned (t':=s''.toks) (it:=s3.heap.objs.size) (fun b o hb e=>(hs'.2 b hb).trans e) J'.free (Nat.ne_of_gt hlt) (.inr I3.sz) (fun y c' e z=>?_) (fun p hp z=>?_),q⟩
 ·obtain ⟨w',o,ho,_⟩:=I3.cell y c' e
  exact absurd (Heap.lt_size ho) (by rw [z]; exact Nat.lt_irrefl _)
 ·exact absurd (Heap.lt_size (I3.pin p hp).1) (by rw [z]; exact Nat.lt_irrefl _)
end L2
namespace L2
open PySem PySem.Spec PyProof.Rows
inductive Dt where
 | v (x:V)
 | tup (l:List Dt)
 | lst (l:List Dt)
def Sc (x:V):Prop:=match x with
 | .int _=>True
 | .str _=>True
 | .non=>True
 | _=>False
mutual
def Rep (H:Hp) (x:V):Dt→Prop
 | .v y=>x=y∧Sc y
 | .tup ds=>∃ a xs,x=.ref a∧H a=some (.tup xs)∧Reps H xs ds
 | .lst ds=>∃ a xs,x=.ref a∧H a=some (.lst xs)∧Reps H xs ds
def Reps (H:Hp) (xs:List V):List Dt→Prop
 | []=>xs=[]
 | d::ds=>∃ x r,xs=x::r∧Rep H x d∧Reps H r ds
end
theorem Reps.nil {H:Hp}:Reps H [] []:=by unfold Reps; rfl
theorem Reps.cons {H:Hp} {x:V} {xs:List V} {d:Dt} {ds:List Dt} (h:Rep H x d) (t:Reps H xs ds):Reps H (x::xs) (d::ds):=by
 unfold Reps; exact ⟨x,xs,rfl,h,t⟩
theorem Rep.sc {H:Hp} {x:V} (h:Sc x):Rep H x (.v x):=by unfold Rep; exact ⟨rfl,h⟩
theorem Rep.int {H:Hp} (i:Int):Rep H (.int i) (.v (.int i)):=.sc trivial
theorem Reps.length {H:Hp}:∀ {xs:List V} {ds:List Dt},Reps H xs ds→xs.length=ds.length
 | xs,[],h=>by unfold Reps at h; rw [h]; rfl
 | xs,d::ds,h=>by
  unfold Reps at h
  obtain ⟨x,r,rfl,_,h2⟩:=h
  rw [List.length_cons,List.length_cons,Reps.length h2]
theorem Reps.get {H:Hp}:∀ {xs:List V} {ds:List Dt} {i:Nat} {d:Dt},Reps H xs ds→ds[i]?=some d→∃ x,xs[i]?=some x∧Rep H x d
 | xs,[],i,d,_,e=>by simp at e
 | xs,d'::ds,i,d,h,e=>by
  unfold Reps at h
  obtain ⟨x,r,rfl,h1,h2⟩:=h
  cases i with
  | zero=>simp at e; subst e; exact ⟨x,by simp,h1⟩
  | succ i =>
   obtain ⟨y,hy,q⟩:=Reps.get (i:=i) (d:=d) h2 (by simpa using e)
   exact ⟨y,by simpa using hy,q⟩
theorem Reps.at {H:Hp} {xs:List V} {ds:List Dt} {i:Nat} {x:V} (h:Reps H xs ds) (e:xs[i]?=some x):∃ d,ds[i]?=some d∧Rep H x d:=by
 have hl:=h.length
 have hi:i < ds.length:=by have:=(List.getElem?_eq_some_iff.mp e).1; omega
 obtain ⟨y,hy,q⟩:=h.get (List.getElem?_eq_getElem hi)
 rw [e] at hy; cases hy
 exact ⟨_,List.getElem?_eq_getElem hi,q⟩
theorem Reps.append {H:Hp}:∀ {xs:List V} {ds:List Dt} {ys:List V} {es:List Dt},Reps H xs ds→Reps H ys es→Reps H (xs++ys) (ds++es)
 | xs,[],ys,es,h,g=>by unfold Reps at h; subst h; exact g
 | xs,d::ds,ys,es,h,g=>by
  unfold Reps at h
  obtain ⟨x,r,rfl,h1,h2⟩:=h
  exact .cons h1 (Reps.append h2 g)
theorem Reps.take {H:Hp}:∀ {xs:List V} {ds:List Dt} (n:Nat),Reps H xs ds→Reps H (xs.take n) (ds.take n)
 | xs,ds,0,_=>by simp; exact .nil
 | xs,[],n + 1,h=>by unfold Reps at h; subst h; simp; exact .nil
 | xs,d::ds,n + 1,h=>by
  unfold Reps at h
  obtain ⟨x,r,rfl,h1,h2⟩:=h
  exact .cons h1 (Reps.take n h2)
theorem Reps.drop {H:Hp}:∀ {xs:List V} {ds:List Dt} (n:Nat),Reps H xs ds→Reps H (xs.drop n) (ds.drop n)
 | xs,ds,0,h=>by simpa using h
 | xs,[],n + 1,h=>by unfold Reps at h; subst h; simp; exact .nil
 | xs,d::ds,n + 1,h=>by
  unfold Reps at h
  obtain ⟨x,r,rfl,h1,h2⟩:=h
  simpa using Reps.drop n h2
mutual
theorem Rep.keep {H H':Hp} (k:∀ b o,H b=some o→H' b=some o) {x:V}:∀ {d:Dt},Rep H x d→Rep H' x d
 | .v y,h=>by unfold Rep at h ⊢; exact h
 | .tup ds,h=>by
  unfold Rep at h ⊢
  obtain ⟨a,xs,e,h1,h2⟩:=h
  exact ⟨a,xs,e,k _ _ h1,Reps.keep k h2⟩
 | .lst ds,h=>by
  unfold Rep at h ⊢
  obtain ⟨a,xs,e,h1,h2⟩:=h
  exact ⟨a,xs,e,k _ _ h1,Reps.keep k h2⟩
theorem Reps.keep {H H':Hp} (k:∀ b o,H b=some o→H' b=some o) {xs:List V}:∀ {ds:List Dt},Reps H xs ds→Reps H' xs ds
 | [],h=>by unfold Reps at h ⊢; exact h
 | d::ds,h=>by
  unfold Reps at h ⊢
  obtain ⟨x,r,e,h1,h2⟩:=h
  exact ⟨x,r,e,Rep.keep k h1,Reps.keep k h2⟩
end
mutual
def Froz:Dt→Prop
 | .v _=>True
 | .tup ds=>Frozs ds
 | .lst _=>False
def Frozs:List Dt→Prop
 | []=>True
 | d::ds=>Froz d∧Frozs ds
end
mutual
theorem Rep.froz {H H':Hp} (k:∀ b xs,H b=some (.tup xs)→H' b=some (.tup xs)) {x:V}:∀ {d:Dt},Froz d→Rep H x d→Rep H' x d
 | .v y,_,h=>by unfold Rep at h ⊢; exact h
 | .tup ds,f,h=>by
  unfold Froz at f
  unfold Rep at h ⊢
  obtain ⟨a,xs,e,h1,h2⟩:=h
  exact ⟨a,xs,e,k _ _ h1,Reps.froz k f h2⟩
 | .lst ds,f,h=>by unfold Froz at f; exact f.elim
theorem Reps.froz {H H':Hp} (k:∀ b xs,H b=some (.tup xs)→H' b=some (.tup xs)) {xs:List V}:∀ {ds:List Dt},Frozs ds→Reps H xs ds→Reps H' xs ds
 | [],_,h=>by unfold Reps at h ⊢; exact h
 | d::ds,f,h=>by
  unfold Frozs at f
  unfold Reps at h ⊢
  obtain ⟨x,r,e,h1,h2⟩:=h
  exact ⟨x,r,e,Rep.froz k f.1 h1,Reps.froz k f.2 h2⟩
end
mutual
def eqD:Dt→Dt→Bool
 | .v x,.v y=>decide (x=y)
 | .tup a,.tup b=>eqDs a b
 | .lst a,.lst b=>eqDs a b
 | _,_=>false
def eqDs:List Dt→List Dt→Bool
 | [],[]=>true
 | a::r,b::t=>eqD a b&&eqDs r t
 | _,_=>false
end
mutual
theorem eqD_refl:∀ d:Dt,eqD d d=true
 | .v x=>by unfold eqD; simp
 | .tup a=>by unfold eqD; exact eqDs_refl a
 | .lst a=>by unfold eqD; exact eqDs_refl a
theorem eqDs_refl:∀ d:List Dt,eqDs d d=true
 | []=>by unfold eqDs; rfl
 | a::r=>by unfold eqDs; rw [eqD_refl a,eqDs_refl r]; rfl
end
mutual
theorem eqD_eq:∀ {a b:Dt},eqD a b=true→a=b
 | .v x,.v y,h=>by unfold eqD at h; rw [of_decide_eq_true h]
 | .tup a,.tup b,h=>by unfold eqD at h; rw [eqDs_eq h]
 | .lst a,.lst b,h=>by unfold eqD at h; rw [eqDs_eq h]
 | .v _,.tup _,h=>by simp [eqD] at h
 | .v _,.lst _,h=>by simp [eqD] at h
 | .tup _,.v _,h=>by simp [eqD] at h
 | .tup _,.lst _,h=>by simp [eqD] at h
 | .lst _,.v _,h=>by simp [eqD] at h
 | .lst _,.tup _,h=>by simp [eqD] at h
theorem eqDs_eq:∀ {a b:List Dt},eqDs a b=true→a=b
 | [],[],_=>rfl
 | a::r,b::t,h=>by
  unfold eqDs at h
  rw [Bool.and_eq_true] at h
  rw [eqD_eq h.1,eqDs_eq h.2]
 | [],_::_,h=>by simp [eqDs] at h
 | _::_,[],h=>by simp [eqDs] at h
end
theorem eqDs_len:∀ {a b:List Dt},a.length≠b.length→eqDs a b=false
 | [],[],h=>absurd rfl h
 | [],_::_,_=>by unfold eqDs; rfl
 | _::_,[],_=>by unfold eqDs; rfl
 | a::r,b::t,h=>by
  unfold eqDs
  rw [eqDs_len (a:=r) (b:=t) (fun e=>h (by rw [List.length_cons,List.length_cons,e])),Bool.and_false]
theorem eqDs_all:∀ {a b:List Dt} {e:Nat→Bool},a.length=b.length→(∀ (j:Nat) x y,a[j]?=some x→b[j]?=some y→e j=eqD x y)→(List.range a.length).all e=eqDs a b
 | [],[],e,_,_=>by unfold eqDs; rfl
 | [],_::_,_,h,_=>by simp at h
 | _::_,[],_,h,_=>by simp at h
 | a::r,b::t,e,h,g=>by
  have h':r.length=t.length:=by simpa using h
  have:=eqDs_all (a:=r) (b:=t) (e:=fun j=>e (j + 1)) h' fun j x y hx hy=>g (j + 1) x y (by simpa using hx) (by simpa using hy)
  unfold eqDs
  rw [List.length_cons,List.range_succ_eq_map,List.all_cons,List.all_map,← this,g 0 a b (by simp) (by simp)]
  rfl
mutual
def depD:Dt→Nat
 | .v _=>0
 | .tup l=>depDs l + 1
 | .lst l=>depDs l + 1
def depDs:List Dt→Nat
 | []=>0
 | d::r=>max (depD d) (depDs r)
end
theorem depDs_get:∀ {l:List Dt} {j:Nat} {x:Dt},l[j]?=some x→depD x≤depDs l
 | [],j,x,h=>by simp at h
 | d::r,j,x,h=>by
  unfold depDs
  cases j with
  | zero=>simp at h; subst h; exact Nat.le_max_left _ _
  | succ j=>exact Nat.le_trans (depDs_get (l:=r) (j:=j) (by simpa using h)) (Nat.le_max_right _ _)
section
variable {X:Cx} {pins:List (Addr×Obj)} {σ:St} {H:Hp} {s:Shared}
theorem Inv.isList (I:Inv X pins σ H s) {a:Addr} {xs:List V} (h:H a=some (.lst xs)):∃ its:List Value,Vals xs its∧s.heap.IsList a its.toArray:=by
 obtain ⟨z,its,n,r,e⟩:=I.hok a _ h
 exact ⟨its,r,_,e,rfl,n,rfl⟩
theorem Inv.isTup (I:Inv X pins σ H s) {a:Addr} {xs:List V} (h:H a=some (.tup xs)):∃ its:List Value,Vals xs its∧IsTup s.heap a its.toArray:=by
 obtain ⟨z,its,r,e⟩:=I.hok a _ h
 exact ⟨its,r,e⟩
theorem eqAt_sc {A:Around} {x y:V} {u v:Value} (hx:Sc x) (hy:Sc y) (rx:RelV x u) (ry:RelV y v):SeqAt.EqAt A s u v (decide (x=y)):=by
 cases x with
 | int i =>
  obtain ⟨t,rfl⟩:=rx
  cases y with
  | int j=>obtain ⟨t',rfl⟩:=ry; rw [dec_int]; exact SeqAt.EqAt.int_int i t j t'
  | str j=>obtain ⟨t',rfl⟩:=ry; rw [decide_eq_false (by simp)]; exact SeqAt.EqAt.int_str i t j t'
  | non=>cases ry; rw [decide_eq_false (by simp)]; exact SeqAt.EqAt.int_none i t
  | _=>exact hy.elim
 | str i =>
  obtain ⟨t,rfl⟩:=rx
  cases y with
  | int j=>obtain ⟨t',rfl⟩:=ry; rw [decide_eq_false (by simp)]; exact SeqAt.EqAt.str_int i t j t'
  | str j=>obtain ⟨t',rfl⟩:=ry; rw [dec_str]; exact SeqAt.EqAt.str_str i t j t'
  | non=>cases ry; rw [decide_eq_false (by simp)]; exact SeqAt.EqAt.str_none i t
  | _=>exact hy.elim
 | non =>
  cases rx
  cases y with
  | int j=>obtain ⟨t',rfl⟩:=ry; rw [decide_eq_false (by simp)]; exact SeqAt.EqAt.none_int j t'
  | str j=>obtain ⟨t',rfl⟩:=ry; rw [decide_eq_false (by simp)]; exact SeqAt.EqAt.none_str j t'
  | non=>cases ry; rw [decide_eq_true rfl]; exact SeqAt.EqAt.same .none
  | _=>exact hy.elim
 | _=>exact hx.elim
theorem A_in1 (A:Around):A.in1.units=A.units + 1:=rfl
mutual
theorem Rep.inj {x:V}:∀ {d e:Dt},Rep H x d→Rep H x e→d=e
 | .v a,e,h,g=>by
  unfold Rep at h
  obtain ⟨rfl,sx⟩:=h
  cases e with
  | v b=>unfold Rep at g; rw [g.1]
  | tup b=>unfold Rep at g; obtain ⟨a,xs,rfl,_⟩:=g; exact sx.elim
  | lst b=>unfold Rep at g; obtain ⟨a,xs,rfl,_⟩:=g; exact sx.elim
 | .tup ds,e,h,g=>by
  unfold Rep at h
  obtain ⟨a,xs,rfl,ha,hd⟩:=h
  cases e with
  | v b=>unfold Rep at g; obtain ⟨rfl,sx⟩:=g; exact sx.elim
  | tup b =>
   unfold Rep at g
   obtain ⟨a',xs',q,ha',hd'⟩:=g
   cases q
   rw [ha] at ha'; cases ha'
   rw [Reps.inj hd hd']
  | lst b =>
   unfold Rep at g
   obtain ⟨a',xs',q,ha',hd'⟩:=g
   cases q
   rw [ha] at ha'; cases ha'
 | .lst ds,e,h,g=>by
  unfold Rep at h
  obtain ⟨a,xs,rfl,ha,hd⟩:=h
  cases e with
  | v b=>unfold Rep at g; obtain ⟨rfl,sx⟩:=g; exact sx.elim
  | lst b =>
   unfold Rep at g
   obtain ⟨a',xs',q,ha',hd'⟩:=g
   cases q
   rw [ha] at ha'; cases ha'
   rw [Reps.inj hd hd']
  | tup b =>
   unfold Rep at g
   obtain ⟨a',xs',q,ha',hd'⟩:=g
   cases q
   rw [ha] at ha'; cases ha'
theorem Reps.inj {xs:List V}:∀ {d e:List Dt},Reps H xs d→Reps H xs e→d=e
 | [],[],_,_=>rfl
 | [],e::es,h,g=>by
  unfold Reps at h g
  obtain ⟨x,r,q,_⟩:=g
  rw [h] at q; cases q
 | d::ds,[],h,g=>by
  unfold Reps at h g
  obtain ⟨x,r,q,_⟩:=h
  rw [g] at q; cases q
 | d::ds,e::es,h,g=>by
  unfold Reps at h g
  obtain ⟨x,r,rfl,h1,h2⟩:=h
  obtain ⟨x',r',q,g1,g2⟩:=g
  injection q with q1 q2
  subst q1 q2
  rw [Rep.inj h1 g1,Reps.inj h2 g2]
end
theorem eqAt_v (I:Inv X pins σ H s) {A:Around} {x y:V} {u v:Value} {e:Dt} (hu:A.units < cLine) (rx:RelV x u) (ry:RelV y v) (sx:Sc x) (hy:Rep H y e):SeqAt.EqAt A s u v (eqD (.v x) e):=by
 cases e with
 | v b =>
  unfold Rep at hy
  obtain ⟨rfl,sy⟩:=hy
  unfold eqD
  exact eqAt_sc sx sy rx ry
 | tup es =>
  unfold Rep at hy
  obtain ⟨b,ys,rfl,hb,_⟩:=hy
  cases ry
  obtain ⟨its,_,ht⟩:=I.isTup hb
  have e0:eqD (.v x) (.tup es)=false:=by simp [eqD]
  rw [e0]
  cases x with
  | int i=>obtain ⟨t,rfl⟩:=rx; exact SeqAt.EqAt.int_tuple i t ht hu
  | str i=>obtain ⟨t,rfl⟩:=rx; exact SeqAt.EqAt.str_tuple i t ht hu
  | non=>cases rx; exact SeqAt.EqAt.none_tuple ht hu
  | _=>exact sx.elim
 | lst es =>
  unfold Rep at hy
  obtain ⟨b,ys,rfl,hb,_⟩:=hy
  cases ry
  obtain ⟨its,_,ht⟩:=I.isList hb
  have e0:eqD (.v x) (.lst es)=false:=by simp [eqD]
  rw [e0]
  cases x with
  | int i=>obtain ⟨t,rfl⟩:=rx; exact SeqAt.EqAt.int_list i t ht hu
  | str i=>obtain ⟨t,rfl⟩:=rx; exact SeqAt.EqAt.str_list i t ht hu
  | non=>cases rx; exact SeqAt.EqAt.none_list ht hu
  | _=>exact sx.elim
theorem eqAt_tv (I:Inv X pins σ H s) {A:Around} {a:Addr} {xs:List V} {y:V} {v:Value} (hu:A.units < cLine) (ha:H a=some (.tup xs)) (ry:RelV y v) (sy:Sc y):SeqAt.EqAt A s (.ref a) v false:=by
 obtain ⟨its,_,ht⟩:=I.isTup ha
 cases y with
 | int i=>obtain ⟨t,rfl⟩:=ry; exact SeqAt.EqAt.tuple_int i t ht hu
 | str i=>obtain ⟨t,rfl⟩:=ry; exact SeqAt.EqAt.tuple_str i t ht hu
 | non=>cases ry; exact SeqAt.EqAt.tuple_none ht hu
 | _=>exact sy.elim
theorem eqAt_lv (I:Inv X pins σ H s) {A:Around} {a:Addr} {xs:List V} {y:V} {v:Value} (hu:A.units < cLine) (ha:H a=some (.lst xs)) (ry:RelV y v) (sy:Sc y):SeqAt.EqAt A s (.ref a) v false:=by
 obtain ⟨its,_,ht⟩:=I.isList ha
 cases y with
 | int i=>obtain ⟨t,rfl⟩:=ry; exact SeqAt.EqAt.list_int i t ht hu
 | str i=>obtain ⟨t,rfl⟩:=ry; exact SeqAt.EqAt.list_str i t ht hu
 | non=>cases ry; exact SeqAt.EqAt.list_none ht hu
 | _=>exact sy.elim
theorem eqAt_items {A:Around} {xs ys:List V} {its jts:List Value} {ds es:List Dt} (rx:Vals xs its) (ry:Vals ys jts) (hx:Reps H xs ds) (hy:Reps H ys es)
  (ih:∀ {x y:V} {u v:Value} {d e:Dt},(∃ j:Nat,ds[j]?=some d)→RelV x u→RelV y v→Rep H x d→Rep H y e→SeqAt.EqAt A s u v (eqD d e)) :
  ∀ j (h1:j < its.toArray.size) (h2:j < jts.toArray.size),SeqAt.EqAt A s its.toArray[j] jts.toArray[j] ((ds[j]?).elim false fun d=>(es[j]?).elim false fun e=>eqD d e):=by
 intro j h1 h2
 have l1:=rx.length
 have l2:=ry.length
 have l3:=hx.length
 have l4:=hy.length
 have h1':j < its.length:=by simpa using h1
 have h2':j < jts.length:=by simpa using h2
 have k1:j < ds.length:=by omega
 have k2:j < es.length:=by omega
 obtain ⟨x,ex,qx⟩:=hx.get (List.getElem?_eq_getElem k1)
 obtain ⟨y,ey,qy⟩:=hy.get (List.getElem?_eq_getElem k2)
 obtain ⟨u,eu,ru⟩:=rx.get ex
 obtain ⟨v,ev,rv⟩:=ry.get ey
 rw [List.getElem?_eq_getElem k1,List.getElem?_eq_getElem k2]
 have eu':its.toArray[j]=u:=by
  rw [List.getElem?_eq_getElem h1'] at eu
  simpa using eu
 have ev':jts.toArray[j]=v:=by
  rw [List.getElem?_eq_getElem h2'] at ev
  simpa using ev
 rw [eu',ev']
 exact ih ⟨j,List.getElem?_eq_getElem k1⟩ ru rv qx qy
theorem elim_eqD {ds es:List Dt}:∀ (j:Nat) x y,ds[j]?=some x→es[j]?=some y→((ds[j]?).elim false fun d=>(es[j]?).elim false fun e=>eqD d e)=eqD x y:=fun j x y hx hy=>by rw [hx,hy]; rfl
theorem range_min_all {n m:Nat} {e:Nat→Bool}:((List.range (min n m)).all e&&n == m)=(if n=m then (List.range n).all e else false):=by
 by_cases h:n=m
 ·subst h; simp
 ·rw [if_neg h]
  have:(n == m)=false:=by simpa using h
  rw [this,Bool.and_false]
theorem rcAt_tups (I:Inv X pins σ H s) {A:Around} {a b:Addr} {xs ys:List V} {ds es:List Dt} (hu:A.units < cLine) (ha:H a=some (.tup xs)) (hb:H b=some (.tup ys)) (hx:Reps H xs ds) (hy:Reps H ys es)
  (ih:∀ {x y:V} {u v:Value} {d e:Dt},(∃ j:Nat,ds[j]?=some d)→RelV x u→RelV y v→Rep H x d→Rep H y e→SeqAt.EqAt A.in1 s u v (eqD d e)):SeqAt.RcAt A s (.ref a) (.ref b) (eqDs ds es):=by
 obtain ⟨its,rx,hl⟩:=I.isTup ha
 obtain ⟨jts,ry,hr⟩:=I.isTup hb
 have:=SeqAt.RcAt.tuples hl hr hu (eqAt_items rx ry hx hy ih)
 have l1:=rx.length
 have l2:=ry.length
 have l3:=hx.length
 have l4:=hy.length
 rw [range_min_all] at this
 simp only [List.size_toArray] at this
 by_cases h:its.length=jts.length
 ·rw [if_pos h] at this
  have e:=eqDs_all (a:=ds) (b:=es) (e:=fun j=>(ds[j]?).elim false fun d=>(es[j]?).elim false fun e=>eqD d e) (by omega) elim_eqD
  rw [← e,show ds.length=its.length by omega]
  exact this
 ·rw [if_neg h] at this
  rw [eqDs_len (by omega)]
  exact this
theorem rcAt_lsts (I:Inv X pins σ H s) {A:Around} {a b:Addr} {xs ys:List V} {ds es:List Dt} (hu:A.units < cLine) (ha:H a=some (.lst xs)) (hb:H b=some (.lst ys)) (hx:Reps H xs ds) (hy:Reps H ys es)
  (ih:∀ {x y:V} {u v:Value} {d e:Dt},(∃ j:Nat,ds[j]?=some d)→RelV x u→RelV y v→Rep H x d→Rep H y e→SeqAt.EqAt A.in1 s u v (eqD d e)):SeqAt.RcAt A s (.ref a) (.ref b) (eqDs ds es):=by
 obtain ⟨its,rx,hl⟩:=I.isList ha
 obtain ⟨jts,ry,hr⟩:=I.isList hb
 have l1:=rx.length
 have l2:=ry.length
 have l3:=hx.length
 have l4:=hy.length
 by_cases h:its.length=jts.length
 ·have:=SeqAt.RcAt.lists hl hr (by simpa using h) hu (eqAt_items rx ry hx hy ih)
  have e:=eqDs_all (a:=ds) (b:=es) (e:=fun j=>(ds[j]?).elim false fun d=>(es[j]?).elim false fun e=>eqD d e) (by omega) elim_eqD
  rw [← e,show ds.length=its.toArray.size by rw [List.size_toArray]; omega]
  exact this
 ·rw [eqDs_len (by omega)]
  exact SeqAt.RcAt.lists_lengths hl hr (by simpa using h) hu
theorem eqAt_rep (I:Inv X pins σ H s):∀ (n:Nat) (A:Around) {x y:V} {u v:Value} {d e:Dt},depD d≤n→A.units + n < cLine→RelV x u→RelV y v→Rep H x d→Rep H y e→SeqAt.EqAt A s u v (eqD d e):=by
 intro n
 induction n with
 | zero =>
  intro A x y u v d e hd hu rx ry hx hy
  cases d with
  | v a =>
   unfold Rep at hx
   obtain ⟨rfl,sx⟩:=hx
   exact eqAt_v I (by omega) rx ry sx hy
  | tup ds=>unfold depD at hd; omega
  | lst ds=>unfold depD at hd; omega
 | succ n ih =>
  intro A x y u v d e hd hu rx ry hx hy
  have hx0:=hx
  have hy0:=hy
  cases d with
  | v a =>
   unfold Rep at hx
   obtain ⟨rfl,sx⟩:=hx
   exact eqAt_v I (by omega) rx ry sx hy
  | tup ds =>
   unfold depD at hd
   unfold Rep at hx
   obtain ⟨a,xs,rfl,ha,hxs⟩:=hx
   cases rx
   cases e with
   | v b =>
    unfold Rep at hy
    obtain ⟨rfl,sy⟩:=hy
    have e0:eqD (.tup ds) (.v y)=false:=by simp [eqD]
    rw [e0]
    exact eqAt_tv I (by omega) ha ry sy
   | tup es =>
    unfold Rep at hy
    obtain ⟨b,ys,rfl,hb,hys⟩:=hy
    cases ry
    by_cases ab:a=b
    ·subst ab
     rw [Rep.inj hx0 hy0,eqD_refl]
     exact SeqAt.EqAt.same _
    ·refine .of_refs ab ?_
     unfold eqD
     refine rcAt_tups I (by omega) ha hb hxs hys fun {x y u v d e} ⟨j,hj⟩ r1 r2 q1 q2=>ih A.in1 ?_ ?_ r1 r2 q1 q2
     ·have:=depDs_get hj; omega
     ·rw [A_in1]; omega
   | lst es =>
    unfold Rep at hy
    obtain ⟨b,ys,rfl,hb,hys⟩:=hy
    cases ry
    have e0:eqD (.tup ds) (.lst es)=false:=by simp [eqD]
    rw [e0]
    obtain ⟨its,_,ht⟩:=I.isTup ha
    obtain ⟨jts,_,hl⟩:=I.isList hb
    exact SeqAt.EqAt.tuple_list ht hl (by omega)
  | lst ds =>
   unfold depD at hd
   unfold Rep at hx
   obtain ⟨a,xs,rfl,ha,hxs⟩:=hx
   cases rx
   cases e with
   | v b =>
    unfold Rep at hy
    obtain ⟨rfl,sy⟩:=hy
    have e0:eqD (.lst ds) (.v y)=false:=by simp [eqD]
    rw [e0]
    exact eqAt_lv I (by omega) ha ry sy
   | lst es =>
    unfold Rep at hy
    obtain ⟨b,ys,rfl,hb,hys⟩:=hy
    cases ry
    by_cases ab:a=b
    ·subst ab
     rw [Rep.inj hx0 hy0,eqD_refl]
     exact SeqAt.EqAt.same _
    ·refine .of_refs ab ?_
     unfold eqD
     refine rcAt_lsts I (by omega) ha hb hxs hys fun {x y u v d e} ⟨j,hj⟩ r1 r2 q1 q2=>ih A.in1 ?_ ?_ r1 r2 q1 q2
     ·have:=depDs_get hj; omega
     ·rw [A_in1]; omega
   | tup es =>
    unfold Rep at hy
    obtain ⟨b,ys,rfl,hb,hys⟩:=hy
    cases ry
    have e0:eqD (.lst ds) (.tup es)=false:=by simp [eqD]
    rw [e0]
    obtain ⟨its,_,ht⟩:=I.isTup hb
    obtain ⟨jts,_,hl⟩:=I.isList ha
    exact SeqAt.EqAt.list_tuple hl ht (by omega)
end
end L2
namespace L2
open PySem PySem.Spec PyProof.Rows
section
variable {X:Cx}
def rEqD (k:Nat):R2:=fun x y H Q=>∃ d e,Rep H x d∧Rep H y e∧depD d≤k∧Q (.bl (eqD d e)) H
theorem rc_rep {pins:List (Addr×Obj)} {σ:St} {H:Hp} {s:Shared} (I:Inv X pins σ H s) {n:Nat} {A:Around} {x y:V} {u v:Value} {d e:Dt} (hd:depD d≤n) (hu:A.units + n < cLine) (rx:RelV x u) (ry:RelV y v) (hx:Rep H x d) (hy:Rep H y e) :
  SeqAt.RcAt A s u v (eqD d e):=by
 cases d with
 | v a =>
  unfold Rep at hx
  obtain ⟨rfl,sx⟩:=hx
  cases e with
  | v b =>
   unfold Rep at hy
   obtain ⟨rfl,sy⟩:=hy
   unfold eqD
   cases x with
   | int i =>
    obtain ⟨t,rfl⟩:=rx
    cases y with
    | int j=>obtain ⟨t',rfl⟩:=ry; rw [dec_int]; exact SeqAt.RcAt.int_int i t j t'
    | str j=>obtain ⟨t',rfl⟩:=ry; rw [decide_eq_false (by simp)]; exact SeqAt.RcAt.int_str i t j t'
    | non=>cases ry; rw [decide_eq_false (by simp)]; exact SeqAt.RcAt.int_none i t
    | _=>exact sy.elim
   | str i =>
    obtain ⟨t,rfl⟩:=rx
    cases y with
    | int j=>obtain ⟨t',rfl⟩:=ry; rw [decide_eq_false (by simp)]; exact SeqAt.RcAt.str_int i t j t'
    | str j=>obtain ⟨t',rfl⟩:=ry; rw [dec_str]; exact SeqAt.RcAt.str_str i t j t'
    | non=>cases ry; rw [decide_eq_false (by simp)]; exact SeqAt.RcAt.str_none i t
    | _=>exact sy.elim
   | non =>
    cases rx
    cases y with
    | int j=>obtain ⟨t',rfl⟩:=ry; rw [decide_eq_false (by simp)]; exact SeqAt.RcAt.none_int j t'
    | str j=>obtain ⟨t',rfl⟩:=ry; rw [decide_eq_false (by simp)]; exact SeqAt.RcAt.none_str j t'
    | non=>cases ry; rw [decide_eq_true rfl]; exact SeqAt.RcAt.none_none
    | _=>exact sy.elim
   | _=>exact sx.elim
  | tup es =>
   unfold Rep at hy
   obtain ⟨b,ys,rfl,hb,_⟩:=hy
   cases ry
   obtain ⟨its,_,ht⟩:=I.isTup hb
   have e0:eqD (.v x) (.tup es)=false:=by simp [eqD]
   rw [e0]
   cases x with
   | int i=>obtain ⟨t,rfl⟩:=rx; exact SeqAt.RcAt.int_tuple i t ht (by omega)
   | str i=>obtain ⟨t,rfl⟩:=rx; exact SeqAt.RcAt.str_tuple i t ht (by omega)
   | non=>cases rx; exact SeqAt.RcAt.none_tuple ht (by omega)
   | _=>exact sx.elim
  | lst es =>
   unfold Rep at hy
   obtain ⟨b,ys,rfl,hb,_⟩:=hy
   cases ry
   obtain ⟨its,_,ht⟩:=I.isList hb
   have e0:eqD (.v x) (.lst es)=false:=by simp [eqD]
   rw [e0]
   cases x with
   | int i=>obtain ⟨t,rfl⟩:=rx; exact SeqAt.RcAt.int_list i t ht (by omega)
   | str i=>obtain ⟨t,rfl⟩:=rx; exact SeqAt.RcAt.str_list i t ht (by omega)
   | non=>cases rx; exact SeqAt.RcAt.none_list ht (by omega)
   | _=>exact sx.elim
 | tup ds =>
  unfold depD at hd
  unfold Rep at hx
  obtain ⟨a,xs,rfl,ha,hxs⟩:=hx
  cases rx
  cases e with
  | v b =>
   unfold Rep at hy
   obtain ⟨rfl,sy⟩:=hy
   have e0:eqD (.tup ds) (.v y)=false:=by simp [eqD]
   rw [e0]
   obtain ⟨its,_,ht⟩:=I.isTup ha
   cases y with
   | int i=>obtain ⟨t,rfl⟩:=ry; exact SeqAt.RcAt.tuple_int i t ht (by omega)
   | str i=>obtain ⟨t,rfl⟩:=ry; exact SeqAt.RcAt.tuple_str i t ht (by omega)
   | non=>cases ry; exact SeqAt.RcAt.tuple_none ht (by omega)
   | _=>exact sy.elim
  | tup es =>
   unfold Rep at hy
   obtain ⟨b,ys,rfl,hb,hys⟩:=hy
   cases ry
   unfold eqD
   refine rcAt_tups I (by omega) ha hb hxs hys fun {x y u v d e} ⟨j,hj⟩ r1 r2 q1 q2=>eqAt_rep I (n - 1) A.in1 ?_ ?_ r1 r2 q1 q2
   ·have:=depDs_get hj; omega
   ·rw [A_in1]; omega
  | lst es =>
   unfold Rep at hy
   obtain ⟨b,ys,rfl,hb,hys⟩:=hy
   cases ry
   have e0:eqD (.tup ds) (.lst es)=false:=by simp [eqD]
   rw [e0]
   obtain ⟨its,_,ht⟩:=I.isTup ha
   obtain ⟨jts,_,hl⟩:=I.isList hb
   exact SeqAt.RcAt.tuple_list ht hl (by omega)
 | lst ds =>
  unfold depD at hd
  unfold Rep at hx
  obtain ⟨a,xs,rfl,ha,hxs⟩:=hx
  cases rx
  cases e with
  | v b =>
   unfold Rep at hy
   obtain ⟨rfl,sy⟩:=hy
   have e0:eqD (.lst ds) (.v y)=false:=by simp [eqD]
   rw [e0]
   obtain ⟨its,_,ht⟩:=I.isList ha
   cases y with
   | int i=>obtain ⟨t,rfl⟩:=ry; exact SeqAt.RcAt.list_int i t ht (by omega)
   | str i=>obtain ⟨t,rfl⟩:=ry; exact SeqAt.RcAt.list_str i t ht (by omega)
   | non=>cases ry; exact SeqAt.RcAt.list_none ht (by omega)
   | _=>exact sy.elim
  | lst es =>
   unfold Rep at hy
   obtain ⟨b,ys,rfl,hb,hys⟩:=hy
   cases ry
   unfold eqD
   refine rcAt_lsts I (by omega) ha hb hxs hys fun {x y u v d e} ⟨j,hj⟩ r1 r2 q1 q2=>eqAt_rep I (n - 1) A.in1 ?_ ?_ r1 r2 q1 q2
   ·have:=depDs_get hj; omega
   ·rw [A_in1]; omega
  | tup es =>
   unfold Rep at hy
   obtain ⟨b,ys,rfl,hb,hys⟩:=hy
   cases ry
   have e0:eqD (.lst ds) (.tup es)=false:=by simp [eqD]
   rw [e0]
   obtain ⟨its,_,ht⟩:=I.isTup hb
   obtain ⟨jts,_,hl⟩:=I.isList ha
   exact SeqAt.RcAt.list_tuple hl ht (by omega)
theorem op_eqD {k:Nat} (hu:X.A.units + k < cLine):OpR X (compareOp .Eq) (rEqD k):=by
 intro pins s σ H x y v u Q I rx ry h
 obtain ⟨d,e,hx,hy,hd,q⟩:=h
 exact rc_rep I hd hu rx ry hx hy X.prog X.w X.xe _ ⟨.bl (eqD d e),H,I,rfl,q⟩
def rNeL (k:Nat):R2:=fun x y H Q=>∃ a b xs ys ds es,x=.ref a∧y=.ref b∧((H a=some (.lst xs)∧H b=some (.lst ys))∨(H a=some (.tup xs)∧H b=some (.tup ys)))∧Reps H xs ds∧Reps H ys es∧depDs ds≤k∧Q (.bl (!eqDs ds es)) H
theorem op_neL {k:Nat} (hu:X.A.units + k + 1 < cLine):OpR X (compareOp .NotEq) (rNeL k):=by
 intro pins s σ H x y v u Q I rx ry h
 obtain ⟨a,b,xs,ys,ds,es,rfl,rfl,hab,hx,hy,hd,q⟩:=h
 cases rx; cases ry
 have l3:=hx.length
 have l4:=hy.length
 have ih:∀ {x y:V} {u v:Value} {d e:Dt},(∃ j:Nat,ds[j]?=some d)→RelV x u→RelV y v→Rep H x d→Rep H y e→SeqAt.EqAt X.A.in1 s u v (eqD d e):=fun {x y u v d e} ⟨j,hj⟩ r1 r2 q1 q2 =>
  eqAt_rep I k X.A.in1 (Nat.le_trans (depDs_get hj) hd) (by rw [A_in1]; omega) r1 r2 q1 q2
 rcases hab with ⟨ha,hb⟩ | ⟨ha,hb⟩
 ·obtain ⟨its,r1,hl⟩:=I.isList ha
  obtain ⟨jts,r2,hr⟩:=I.isList hb
  have l1:=r1.length
  have l2:=r2.length
  by_cases h:its.length=jts.length
  ·refine (SeqAt.RcNeAt.lists (A:=X.A) hl hr (by simpa using h) (by omega) (eqAt_items r1 r2 hx hy ih) X.prog X.w X.xe _ ?_:wpAny _ _ (richCompare .NotEq _ _) _ _ _)
   have e:=eqDs_all (a:=ds) (b:=es) (e:=fun j=>(ds[j]?).elim false fun d=>(es[j]?).elim false fun e=>eqD d e) (by omega) elim_eqD
   rw [← e] at q
   rw [show its.toArray.size=ds.length by rw [List.size_toArray]; omega]
   exact ⟨.bl _,H,I,rfl,q⟩
  ·refine (SeqAt.RcNeAt.lists_lengths (A:=X.A) hl hr (by simpa using h) (by omega) X.prog X.w X.xe _ ?_:wpAny _ _ (richCompare .NotEq _ _) _ _ _)
   rw [eqDs_len (by omega)] at q
   exact ⟨.bl true,H,I,rfl,q⟩
 ·obtain ⟨its,r1,hl⟩:=I.isTup ha
  obtain ⟨jts,r2,hr⟩:=I.isTup hb
  have l1:=r1.length
  have l2:=r2.length
  refine (SeqAt.RcNeAt.tuples (A:=X.A) hl hr (by omega) (eqAt_items r1 r2 hx hy ih) X.prog X.w X.xe _ ?_:wpAny _ _ (richCompare .NotEq _ _) _ _ _)
  rw [range_min_all]
  simp only [List.size_toArray]
  by_cases h:its.length=jts.length
  ·rw [if_pos h]
   have e:=eqDs_all (a:=ds) (b:=es) (e:=fun j=>(ds[j]?).elim false fun d=>(es[j]?).elim false fun e=>eqD d e) (by omega) elim_eqD
   rw [← e] at q
   rw [show its.length=ds.length by omega]
   exact ⟨.bl _,H,I,rfl,q⟩
  ·rw [if_neg h]
   rw [eqDs_len (by omega)] at q
   exact ⟨.bl true,H,I,rfl,q⟩
theorem Vals.bools:∀ {bs:List Bool} {us:List Value},Vals (bs.map V.bl) us→∀ (i:Nat) (v:Value),us[i]?=some v→∃ b,bs[i]?=some b∧v=.bool b
 | [],us,h,i,v,e=>by cases h; simp at e
 | b::bs,us,h,i,v,e=>by
  cases h with
  | cons r t =>
   cases i with
   | zero=>simp at e; subst e; cases r; exact ⟨b,by simp,rfl⟩
   | succ i =>
    obtain ⟨c,h1,h2⟩:=Vals.bools t i v (by simpa using e)
    exact ⟨c,by simpa using h1,h2⟩
theorem call_all (hc:X.calm=true):CallR X (.builtin "all") (fun xs H Q=>∃ (p:Addr) (bs:List Bool),xs=[.ref p]∧SqL X.K H p (bs.map V.bl)∧Q (.bl (bs.all id)) H):=by
 intro pins s σ H xs us Q I r h
 obtain ⟨p,bs,rfl,hp,q⟩:=h
 obtain ⟨u,rfl,ru⟩:=vals1 r
 cases ru
 obtain ⟨its,rv,⟨o,n,ho,hcl,_,hd⟩,hz⟩:=I.list hp
 have hl:s.heap.IsList p its.toArray:=⟨o,ho,hcl,n,hd⟩
 have hlt:p < s.heap.objs.size:=Heap.lt_size ho
 have hh:X.A.handled=none:=I.ok.hd hc
 refine call_all_walk (wpAny_pyIter_list hl ?_)
 refine ⟨s.heap.objs.size,[s.heap.objs.size,p],[s.heap.objs.size],its.toArray.size,_,_,fun i=>(bs[i]?).getD true,rfl,Walks.list (A:=X.A.in1) hh _ p (Nat.ne_of_lt hlt) its.toArray,
  ⟨⟨_,Heap.get?_push_size _ rfl,rfl,rfl⟩,hl.push _⟩,fun i v s' Q' E' hP hQ=>?_,fun h' tk hk=>?_⟩
 ·obtain ⟨b,e,rfl⟩:=rv.bools i v (by simpa using hP)
  simp only [e,Option.getD_some] at hQ
  exact wpAny_truthy_bool hQ
 ·have e:((List.range its.toArray.size).all fun i=>(bs[i]?).getD true)=bs.all id:=by
   rw [List.size_toArray,← rv.length,List.length_map]; exact LSm.range_all bs
  rw [e]
  exact ⟨.bl _,H,I.kept (LSm.kept_iter hk),rfl,q⟩
theorem call_isinst:CallR X (.builtin "isinstance") (fun xs H Q=>∃ x n t b,xs=[x,.ty n]∧TyOf X.K H x t∧PySem.W.kitOne X.K t (.type n)=some b∧Q (.bl b) H):=by
 intro pins s σ H xs us Q I r h
 obtain ⟨x,n,t,b,rfl,ty,e,q⟩:=h
 obtain ⟨u,c,rfl,ru,rc⟩:=vals2 r
 cases rc
 exact isinst_ok I ru ty e fun tk=>⟨.bl b,H,I.tok tk,rfl,q⟩
end
end L2
namespace L2
open PySem PySem.Spec PyProof.Rows
section
variable {prog:Program} {w:World} {A:Around} {E:Value→Shared→Prop} {s:Shared}
theorem collect_seq {l:Addr} {vs:List Value} {T:String} {o:Obj} {n:Nat} {Q:List Value→Shared→Prop} (ho:s.heap.get? l=some o) (hc:o.cls=.type T) (hT:T = "list" ∨ T = "tuple") (hd:o.data=.seq vs.toArray n)
  (h:Q vs { s with heap:=(s.heap.push (seqObj "list" #[] 0)).update s.heap.objs.size (Obj.mapSeq (·++vs.toArray)) }) (hsz:vs.length≤sizeLine) :
  wpAny (model prog w) A (collect (.ref l)) Q E s:=by
 unfold collect
 refine wpAny_bind (wpAny_runValue (codeAny_builtin entry_proto_collect' ?_))
 show wpAny _ _ (do again (.builtin "list.__iadd__" ⟨[← newList [],.ref l],[]⟩)) _ _ s
 refine wpAny_bind (wpAny_newList (wpAny_pure ⟨Code.quiet_builtin _ (by decide +kernel),codeAny_builtin entry_list_iadd' ?_⟩))
 show wpAny _ _ (Builtin.List.listExtendWith (.ref s.heap.objs.size) (.ref l) (.ref s.heap.objs.size)) _ _ { s with heap:=s.heap.push (seqObj "list" #[] 0) }
 unfold Builtin.List.listExtendWith
 have ho':(s.heap.push (seqObj "list" #[] 0)).get? l=some o:=Heap.get?_push_of_some _ ho
 refine wpAny_bind (wpAny_typeOf (T:=T) ⟨o,ho',hc⟩ ?_)
 have ht:((Builtin.List.listSameRef (.ref s.heap.objs.size) (.ref l) || Value.type T == Value.type "list" || Value.type T == Value.type "tuple"))=true:=by
  rcases hT with rfl | rfl
  ·rw [show (Value.type "list" == Value.type "list")=true by rfl]; simp
  ·rw [show (Value.type "tuple" == Value.type "tuple")=true by rfl]; simp
 rw [if_pos ht]
 refine wpAny_bind (listItems_at ho' hd ?_)
 refine wpAny_bind (listItems_at (xs:=#[]) (n:=0) (Heap.get?_push_size _ rfl) rfl ?_)
 rw [if_neg (by simp)]
 refine wpAny_bind (listUpdate_at (xs:=#[]) (n:=0) (Heap.get?_push_size _ rfl) rfl ?_ (Nat.zero_le _) (by show (#[]++vs.toArray).size≤sizeLine + 1; simp only [Array.size_append,List.size_toArray,List.length_nil]; omega))
 refine wpAny_pure ?_
 show wpAny (model prog w) A (do
   let o ← load s.heap.objs.size
   match o.data with
   | .seq xs _=>pure xs.toList
   | _=>unsupported "internal:collect") Q E { s with heap:=(s.heap.push (seqObj "list" #[] 0)).update s.heap.objs.size (Obj.mapSeq (·++vs.toArray)) }
 refine wpAny_bind (wpAny_load (get?_update_seq (Heap.get?_push_size _ rfl) _) ?_)
 show wpAny _ _ (pure ((#[]:Array Value)++vs.toArray).toList) Q E _
 rw [show ((#[]:Array Value)++vs.toArray).toList=vs by simp]
 exact wpAny_pure h
theorem sorted_seq {l:Addr} {vs:List Value} {ns:List Int} {T:String} {o:Obj} {n:Nat} {Q:Value→Shared→Prop} (ho:s.heap.get? l=some o) (hc:o.cls=.type T) (hT:T = "list" ∨ T = "tuple") (hd:o.data=.seq vs.toArray n) (hI:IntsAre vs ns) (h64:vs.length < 64)
  (h:∀ (out:Array Value) (ns':List Int),IntsAre out.toList ns'→ns'.Perm ns→ns'.Pairwise (·≤·)→Q (.ref (s.heap.objs.size + 1)) { s with heap:=sortedAll s.heap vs out }) :
  wpAny (model prog w) A (call (.builtin "sorted") [.ref l]) Q E s:=by
 refine Calls.call_function_entry kind_sorted plain_sorted entry_sorted (args_sorted1 _) ?_
 unfold Builtin.«sorted»
 refine wpAny_bind (m:=checkCount "sorted" 1 1 _) (wpAny_pure ?_)
 refine wpAny_bind (collect_seq ho hc hT hd ?_ (by rw [sizeLine_eq]; omega))
 refine wpAny_bind (wpAny_newList ?_)
 have hsz:((s.heap.push (seqObj "list" #[] 0)).update s.heap.objs.size (Obj.mapSeq (·++vs.toArray))).objs.size=s.heap.objs.size + 1:=by
  rw [Heap.size_update,size_push']
 have hoL:(((s.heap.push (seqObj "list" #[] 0)).update s.heap.objs.size (Obj.mapSeq (·++vs.toArray))).push (seqObj "list" vs.toArray 0)).get? (s.heap.objs.size + 1)=some (seqObj "list" vs.toArray 0):=by
  rw [← hsz]; exact Heap.get?_push_size _ rfl
 show wpAny _ _ _ _ _ { s with heap:=((s.heap.push (seqObj "list" #[] 0)).update s.heap.objs.size (Obj.mapSeq (·++vs.toArray))).push (seqObj "list" vs.toArray 0) }
 rw [hsz]
 refine wpAny_bind (wpAny_holding (wpAny_call_entry slot_list_sort ⟨_,hoL,rfl⟩ entry_list_sort (list_sort_tree hoL hI h64 fun out ns' a1 a2 a3=>⟨_,rfl,?_⟩) (args_list_sort _)))
 exact wpAny_pure ⟨_,rfl,h out ns' a1 a2 a3⟩
end
section
variable {X:Cx}
theorem vals_of_ints:∀ {us:List Value} {ns:List Int},IntsAre us ns→Vals (ns.map V.int) us
 | _,_,h=>vals_ints h
def rSorted (xs:List V) (P:Addr→List Int→Prop) (H:Hp) (Q:VK):Prop:=∃ (p:Addr) (ns:List Int),xs=[.ref p]∧P p ns∧ns.length < 64∧∀ (l:Addr) (ms:List Int),H l=none→ms.Perm ns→ms.Pairwise (·≤·)→Q (.ref l) (upd H l (.lst (ms.map V.int)))
theorem sorted_done {pins:List (Addr×Obj)} {s:Shared} {σ:St} {H:Hp} {Q:VK} {vs:List Value} {ns:List Int} {out:Array Value} {ns':List Int} (I:Inv X pins σ H s) (a1:IntsAre out.toList ns') (a2:ns'.Perm ns) (a3:ns'.Pairwise (·≤·)) (h64:ns.length < 64)
  (q:∀ (l:Addr) (ms:List Int),H l=none→ms.Perm ns→ms.Pairwise (·≤·)→Q (.ref l) (upd H l (.lst (ms.map V.int)))) :
  EP X pins σ Q (.ref (s.heap.objs.size + 1)) { s with heap:=sortedAll s.heap vs out }:=by
 obtain ⟨e,he⟩:=sortedAll_at s.heap vs out
 have hf:H (s.heap.objs.size + 1)=none:=I.hok.fresh (Nat.le_succ _)
 refine ⟨.ref (s.heap.objs.size + 1),_,I.laid (t':=s.toks) (fun _ _=>sortedAll_old) (Nat.le_succ _) (show ObjOk X.prog X.w _ _ _ (.lst (ns'.map V.int)) from ⟨?_,out.toList,e,vals_of_ints a1,?_⟩),rfl,q _ ns' hf a2 a3⟩
 ·rw [List.length_map,a2.length_eq,sizeLine_eq]; omega
 ·simpa [seqObj] using he
theorem call_sortedL:CallR X (.builtin "sorted") (fun xs H Q=>rSorted xs (fun p ns=>SqL X.K H p (ns.map V.int)) H Q):=by
 intro pins s σ H xs us Q I r h
 obtain ⟨p,ns,rfl,hp,h64,q⟩:=h
 obtain ⟨u,rfl,ru⟩:=vals1 r
 cases ru
 obtain ⟨its,rv,⟨o,n,ho,hc,_,hd⟩,hz⟩:=I.list hp
 have hl:=rv.length
 rw [List.length_map] at hl
 exact sorted_seq ho hc (.inl rfl) hd (intsAre_of rv) (by omega) fun out ns' a1 a2 a3=>sorted_done I a1 a2 a3 h64 q
theorem call_sumL (hc:X.calm=true):CallR X (.builtin "sum") (fun xs H Q=>∃ (p:Addr) (ns:List Int),xs=[.ref p]∧SqL X.K H p (ns.map V.int)∧Q (.int ns.sum) H):=by
 intro pins s σ H xs us Q I r h
 obtain ⟨p,ns,rfl,hp,q⟩:=h
 obtain ⟨u,rfl,ru⟩:=vals1 r
 cases ru
 obtain ⟨its,rv,⟨o,n,ho,hcl,_,hd⟩,hz⟩:=I.list hp
 have hi:=intsAre_of rv
 have hl:s.heap.IsList p its.toArray:=⟨o,ho,hcl,n,hd⟩
 obtain ⟨xs,hx⟩:=hi.allInts.items
 have hl':s.heap.IsList p (intItems xs):=hx ▸ hl
 refine sum_intListG (I.ok.hd hc) hl' fun h' tk t' hk=>?_
 have e1:ns=xs.toList.map (·.1):=by
  rw [← nums_intItems,← hx]
  exact (show numsOf its.toArray.toList=ns from hi.numsOf).symm
 have e2:preSum (numAt xs) xs.size=ns.sum:=by
  rw [preSum_eq,List.take_of_length_le (by simp),e1]
 rw [e2]
 exact ⟨.int ns.sum,H,I.kept hk,⟨_,rfl⟩,q⟩
end
end L2
namespace WR
open PySem L2
def roadD (r:Road):Dt:=.tup [.v (.int r.1),.v (.int r.2.1),.v (.int r.2.2)]
def pairD (p:Int×Int):Dt:=.tup [.v (.int p.1),.v (.int p.2)]
def RoadsAt (H:Hp) (p:Addr) (rs:List Road):Prop:=∃ xs,H p=some (.lst xs)∧Reps H xs (rs.map roadD)
def PairsAt (H:Hp) (p:Addr) (ps:List (Int×Int)):Prop:=∃ xs,H p=some (.lst xs)∧Reps H xs (ps.map pairD)
def FoundAt (H:Hp) (q:Addr) (tab:List Ent):Prop:=∃ kvs,H q=some (.dK kvs)∧Paired (fun (kv:Key×V) (e:Ent)=>kv.1=Sum.inl e.1∧Rep H kv.2 (pairD e.2)) kvs tab
theorem RoadsAt.keep {H H':Hp} {p:Addr} {rs:List Road} (k:Same H H') (h:RoadsAt H p rs):RoadsAt H' p rs:=let ⟨xs,h1,h2⟩:=h; ⟨xs,k _ _ h1,h2.keep k⟩
theorem PairsAt.keep {H H':Hp} {p:Addr} {rs:List (Int×Int)} (k:Same H H') (h:PairsAt H p rs):PairsAt H' p rs:=let ⟨xs,h1,h2⟩:=h; ⟨xs,k _ _ h1,h2.keep k⟩
theorem FoundAt.keep {H H':Hp} {p:Addr} {rs:List Ent} (k:Same H H') (h:FoundAt H p rs):FoundAt H' p rs:=let ⟨xs,h1,h2⟩:=h; ⟨xs,k _ _ h1,Paired.mapP h2 fun _ _ z=>⟨z.1,z.2.keep k⟩⟩
theorem frozs_roads:∀ rs:List Road,Frozs (rs.map roadD)
 | []=>by unfold List.map Frozs; trivial
 | r::t=>by
  rw [List.map_cons]
  unfold Frozs
  exact ⟨by unfold roadD Froz Frozs Frozs Frozs Frozs Froz; simp,frozs_roads t⟩
theorem roadD_at {H:Hp} {x:V} {r:Road} (h:Rep H x (roadD r)):∃ a,x=.ref a∧H a=some (.tup [.int r.1,.int r.2.1,.int r.2.2]):=by
 unfold roadD Rep at h
 obtain ⟨a,xs,rfl,ha,hr⟩:=h
 unfold Reps at hr
 obtain ⟨x1,r1,rfl,h1,hr⟩:=hr
 unfold Reps at hr
 obtain ⟨x2,r2,rfl,h2,hr⟩:=hr
 unfold Reps at hr
 obtain ⟨x3,r3,rfl,h3,hr⟩:=hr
 unfold Reps at hr
 subst hr
 unfold Rep at h1 h2 h3
 rw [h1.1,h2.1,h3.1] at ha
 exact ⟨a,rfl,ha⟩
theorem pairD_at {H:Hp} {x:V} {r:Int×Int} (h:Rep H x (pairD r)):∃ a,x=.ref a∧H a=some (.tup [.int r.1,.int r.2]):=by
 unfold pairD Rep at h
 obtain ⟨a,xs,rfl,ha,hr⟩:=h
 unfold Reps at hr
 obtain ⟨x1,r1,rfl,h1,hr⟩:=hr
 unfold Reps at hr
 obtain ⟨x2,r2,rfl,h2,hr⟩:=hr
 unfold Reps at hr
 subst hr
 unfold Rep at h1 h2
 rw [h1.1,h2.1] at ha
 exact ⟨a,rfl,ha⟩
theorem roadD_mk {H:Hp} {a:Addr} {x y l:Int} (h:H a=some (.tup [.int x,.int y,.int l])):Rep H (.ref a) (roadD (x,y,l)):=by
 unfold roadD Rep
 exact ⟨a,_,rfl,h,.cons (.int _) (.cons (.int _) (.cons (.int _) .nil))⟩
theorem pairD_mk {H:Hp} {a:Addr} {x y:Int} (h:H a=some (.tup [.int x,.int y])):Rep H (.ref a) (pairD (x,y)):=by
 unfold pairD Rep
 exact ⟨a,_,rfl,h,.cons (.int _) (.cons (.int _) .nil)⟩
theorem same_new {H:Hp} {p:Addr} {o:HO} (h:H p=none):Same H (upd H p o):=fun b u e=>by rw [upd_ne (ne_of_none e h)]; exact e
theorem RoadsAt.get {H:Hp} {p:Addr} {rs:List Road} {xs:List V} (h1:H p=some (.lst xs)) (h:Reps H xs (rs.map roadD)) {i:Nat} {x:V} (hx:xs[i]?=some x):∃ r a,rs[i]?=some r∧x=.ref a∧H a=some (.tup [.int r.1,.int r.2.1,.int r.2.2]):=by
 obtain ⟨d,hd,hr⟩:=h.at hx
 rw [List.getElem?_map] at hd
 cases q:rs[i]? with
 | none=>rw [q] at hd; cases hd
 | some r =>
  rw [q] at hd
  cases hd
  obtain ⟨a,e,ha⟩:=roadD_at hr
  exact ⟨r,a,rfl,e,ha⟩
end WR
namespace L2
open PySem PySem.Spec PyProof.Rows
theorem comp_list {K:PySem.W.Frag} {a acc:Addr} {xs:List V} {n:Nat} {fr:List (Nat×Nat)} {g:TG} {tf:TT} {te:TE} {Qa:Hp→Prop} {σ:St} {H1:Hp} (Pv:Nat→St→List V→Hp→Prop) (h0:Pv 0 (startC n fr σ) [] (upd H1 acc (.lst [])))
  (hl:∀ i τ ys H,i≤xs.length→Pv i τ ys H→SqL K H a xs∧H acc=some (.lst ys))
  (hs:∀ i x τ ys H (R:St→List V→Hp→Prop),xs[i]?=some x→Pv i τ ys H→(∀ τ' ys' H',Pv (i + 1) τ' ys' H'→R τ' ys' H')→g x τ H fun τ4 H4=>tf τ4 H4 fun b H5 =>
   if b=true then te τ4 H5 fun v H6=>H6 acc=some (.lst ys)∧ys.length < sizeLine∧R τ4 (ys++[v]) (upd H6 acc (.lst (ys++[v]))) else R τ4 ys H5)
  (hd:∀ τ ys H,Pv xs.length τ ys H→Qa H) :
  ∃ W:Nat→Nat→St→List V→Hp→Prop,(∃ m,W 0 m (startC n fr σ) [] (upd H1 acc (.lst [])))∧∀ i m τ ys H2,W i m τ ys H2 →
   H2 acc=some (.lst ys)∧(((Itl K a).stop i H2∧Qa H2)∨((Itl K a).go i H2∧∀ x H3,(Itl K a).yld i H2 x H3→g x τ H3 fun τ4 H4=>tf τ4 H4 fun b H5 =>
    if b=true then te τ4 H5 fun v H6=>H6 acc=some (.lst ys)∧ys.length < sizeLine∧∃ m',m' < m∧W (i + 1) m' τ4 (ys++[v]) (upd H6 acc (.lst (ys++[v])))
    else ∃ m',m' < m∧W (i + 1) m' τ4 ys H5)):=by
 refine ⟨fun i m τ ys H=>m=xs.length - i∧i≤xs.length∧Pv i τ ys H,⟨xs.length,by simp,Nat.zero_le _,h0⟩,?_⟩
 rintro i m τ ys H2 ⟨rfl,hi,p⟩
 obtain ⟨q,hacc⟩:=hl i τ ys H2 hi p
 refine ⟨hacc,?_⟩
 by_cases hlt:i < xs.length
 ·refine .inr ⟨⟨xs,xs[i],q,by simp [hlt]⟩,fun x H' y=>?_⟩
  obtain ⟨e,y⟩:=y
  subst e
  exact hs i x τ ys _ (fun τ' ys' H'=>∃ m',m' < xs.length - i∧m'=xs.length - (i + 1)∧i + 1≤xs.length∧Pv (i + 1) τ' ys' H') (y xs q) p fun τ' ys' H' p'=>⟨xs.length - (i + 1),by omega,rfl,hlt,p'⟩
 ·have e:i=xs.length:=by omega
  subst e
  exact .inl ⟨⟨xs,q,Nat.le_refl _⟩,hd τ ys H2 p⟩
theorem comp_range {acc:Addr} {lo:Int} {k n:Nat} {fr:List (Nat×Nat)} {g:TG} {tf:TT} {te:TE} {Qa:Hp→Prop} {σ:St} {H1:Hp} (Pv:Nat→St→List V→Hp→Prop) (h0:Pv 0 (startC n fr σ) [] (upd H1 acc (.lst [])))
  (hl:∀ i τ ys H,i≤k→Pv i τ ys H→H acc=some (.lst ys))
  (hs:∀ i τ ys H (R:St→List V→Hp→Prop),i < k→Pv i τ ys H→(∀ τ' ys' H',Pv (i + 1) τ' ys' H'→R τ' ys' H')→g (.int (lo + i)) τ H fun τ4 H4=>tf τ4 H4 fun b H5 =>
   if b=true then te τ4 H5 fun v H6=>H6 acc=some (.lst ys)∧ys.length < sizeLine∧R τ4 (ys++[v]) (upd H6 acc (.lst (ys++[v]))) else R τ4 ys H5)
  (hd:∀ τ ys H,Pv k τ ys H→Qa H) :
  ∃ W:Nat→Nat→St→List V→Hp→Prop,(∃ m,W 0 m (startC n fr σ) [] (upd H1 acc (.lst [])))∧∀ i m τ ys H2,W i m τ ys H2 →
   H2 acc=some (.lst ys)∧(((Itr lo k).stop i H2∧Qa H2)∨((Itr lo k).go i H2∧∀ x H3,(Itr lo k).yld i H2 x H3→g x τ H3 fun τ4 H4=>tf τ4 H4 fun b H5 =>
    if b=true then te τ4 H5 fun v H6=>H6 acc=some (.lst ys)∧ys.length < sizeLine∧∃ m',m' < m∧W (i + 1) m' τ4 (ys++[v]) (upd H6 acc (.lst (ys++[v])))
    else ∃ m',m' < m∧W (i + 1) m' τ4 ys H5)):=by
 refine ⟨fun i m τ ys H=>m=k - i∧i≤k∧Pv i τ ys H,⟨k,by simp,Nat.zero_le _,h0⟩,?_⟩
 rintro i m τ ys H2 ⟨rfl,hi,p⟩
 refine ⟨hl i τ ys H2 hi p,?_⟩
 by_cases hlt:i < k
 ·refine .inr ⟨hlt,fun x H' y=>?_⟩
  obtain ⟨e,e2⟩:=y
  subst e e2
  exact hs i τ ys _ (fun τ' ys' H'=>∃ m',m' < k - i∧m'=k - (i + 1)∧i + 1≤k∧Pv (i + 1) τ' ys' H') hlt p fun τ' ys' H' p'=>⟨k - (i + 1),by omega,rfl,hlt,p'⟩
 ·have e:i=k:=by omega
  subst e
  exact .inl ⟨Nat.le_refl _,hd τ ys H2 p⟩
theorem noif {τ:St} {H:Hp} {A B:Hp→Prop} (h:A H):tNoIf τ H (fun b H5=>if b=true then A H5 else B H5):=by
 show if true=true then A H else B H
 rw [if_pos rfl]
 exact h
theorem noifN {i:Nat} {x:V} {τ:St} {H:Hp} {A B:St→Hp→Prop} (h:A (τ.set i (some x)) H):gName i x τ H (fun τ4 H4=>tNoIf τ4 H4 fun b H5=>if b=true then A τ4 H5 else B τ4 H5):=by
 show if true=true then A (τ.set i (some x)) H else B (τ.set i (some x)) H
 rw [if_pos rfl]
 exact h
end L2
namespace L2
open PySem PySem.Spec PyProof.Rows
section
variable {X:Cx} {K:PySem.W.Frag}
theorem ix_listK (h:X.K=K):IxR X (rIxL K):=by subst h; exact ix_list
theorem ix_tupK (h:X.K=K):IxR X (rIxT K):=by subst h; exact ix_tup
theorem call_len_seqK (h:X.K=K):CallR X (.builtin "len") (fun xs H Q=>∃ p ys,xs=[.ref p]∧(SqL K H p ys∨SqT K H p ys)∧Q (.int ys.length) H):=by subst h; exact call_len_seq
theorem pe_fldK {e:Expr} {f:Str} {pos:Pos} {ta:TE} (h:X.K=K) (he:PE X e ta) (hb:attributeBase e f X.env (eval e X.env)=eval e X.env):PE X (.Attribute e f pos) (tFld K ta f):=by subst h; exact pe_fld he hb
theorem pg_tupK {es:List Expr} {k:Nat} {t:TGs} {n:Nat} {pos:Pos} (h:X.K=K) (hc:X.calm=true) (hg:PGs X es t) (hn:(assignEach es X.env).length=n) (hst:(assignEach es X.env).findIdx? (·.1)=none:=by rfl):PG X (.Tuple es k pos) (gTup K n t):=by subst h; exact pg_tup hc hg hn hst
end
end L2
namespace L2
open PySem PySem.Spec PyProof.Rows
section
variable {X:Cx} {pins:List (Addr×Obj)} {σ:St} {H:Hp} {s:Shared}
theorem Inv.turnedL {t':Nat} {h':Heap} {ch:List Addr} (I:Inv X pins σ H s) (k:∀ b o,b ∉ ch→s.heap.get? b=some o→h'.get? b=some o) (hf:∀ b∈ch,FpOk X pins H b) :
  Inv X pins σ H { s with heap:=h',toks:=t' }:=by
 have nit:∀ b u,H b=some u→b ∉ ch:=fun b u e z=>by rw [(hf b z).1] at e; cases e
 refine I.step (g':=s.gens) (d':=s.drawn) (ch:=ch) (fun b hb=>⟨(hf b hb).2.2.2.1,(hf b hb).2.1,(hf b hb).2.2.2.2.1,(hf b hb).2.2.2.2.2⟩) (fun b o _ _ hc e _=>k b o hc e) (fun b o _ _ hc e _=>⟨o.slots,k b o hc e⟩) (fun _ _ _ _ n=>n)
  (fun b o hc e=>⟨o,k b o hc e⟩) (fun _ _ q=>q) (fun _ _ _ q=>q) (fun _ ps q=>⟨#[],by rw [q]; simp⟩) (fun m hm=>?_) (fun a o e=>?_) I.bare
 ·obtain ⟨o,es,ep,ho,r⟩:=hm
  exact ⟨o,es,ep,k _ _ (fun z=>(hf _ z).2.1 rfl) ho,r⟩
 ·refine (I.hok a o e).stay (fun b u hb q=>k b u (fun z=>?_) q) (fun _ q=>q) fun _ _ q=>q
  rcases hb with rfl | hb
  ·exact nit _ _ e z
  ·exact nit _ _ hb z
end
def Ite (K:PySem.W.Frag) (a:Addr):It :=
 ⟨fun i H=>∃ xs x,SqL K H a xs∧xs[i]?=some x,fun i H x H'=>∃ p y,H p=none∧x=.ref p∧(∀ xs,SqL K H a xs→xs[i]?=some y)∧H'=upd H p (.tup [.int i,y]),fun i H=>∃ xs,SqL K H a xs∧xs.length≤i⟩
theorem turn_enum {P:Program} {w:World} {K:PySem.W.Frag} {elts:List Expr} {x1:Nat} {pos:Pos} (a e it:Addr) (hne:e≠it):Turn P w K (.Tuple elts x1 pos) (Ite K a) [e,it] e (fun i h=>(∃ old,IsEnum h e it i old)∧h.IsListIter it a i) where
 mem:=by simp
 obj:=fun i h st b hb=>by
  obtain ⟨⟨old,he⟩,o,e1,c,d⟩:=st
  rcases List.mem_cons.mp hb with rfl | hb
  ·exact ⟨_,he,fun v z=>by cases z⟩
  ·have:b=it:=by simpa using hb
   subst this
   exact ⟨o,e1,fun v z=>by rw [d] at z; cases z⟩
 keep:=fun i h h' st k=>⟨let ⟨old,he⟩:=st.1; ⟨old,k e (by simp) _ he⟩,st.2.at fun o e1=>k it (by simp) o e1⟩
 item:=by
  intro X hP hw hK hc i pins s σ H E I hf st hg
  subst hP hw hK
  obtain ⟨xs,x,hq,hx⟩:=hg
  obtain ⟨its,rv,p,hz⟩:=I.list hq
  obtain ⟨u,hu,ru⟩:=rv.get hx
  obtain ⟨⟨old,he⟩,hit⟩:=st
  refine wpAny_pyNext_enum_item he hit p.isList (x:=u) (by simpa using hu) hne fun h' hOut hit' htup hsz hk=>⟨_,rfl,?_⟩
  refine wpAny_letOwnedTupleGo_enum (s:={ s with heap:=h',toks:=s.toks + 1 }) hOut fun h'' he'' hsb=>?_
  have hp0:H s.heap.objs.size=none:=I.hok.fresh (Nat.le_refl _)
  have hen:e≠s.heap.objs.size:=Nat.ne_of_lt (Heap.lt_size he)
  have hin:it≠s.heap.objs.size:=by obtain ⟨o,e1,_⟩:=hit; exact Nat.ne_of_lt (Heap.lt_size e1)
  have I1:Inv X pins σ (upd H s.heap.objs.size (.tup [.int i,x])) { s with heap:=s.heap.push { cls:=.type "tuple",data:=.seq #[.int i s.toks,u] },toks:=s.toks } :=
   I.laid (fun _ _ q=>Heap.get?_push_of_some _ q) (Nat.le_refl _) (show ObjOk X.prog X.w _ _ _ (.tup [.int i,x]) from ⟨by show 2≤sizeLine; decide,[.int i s.toks,u],.cons ⟨_,rfl⟩ (.cons ru .nil),_,Heap.get?_push_size _ rfl,rfl,0,rfl⟩)
  have kp:∀ b o,b ∉ [e,it]→(s.heap.push { cls:=.type "tuple",data:=.seq #[.int i s.toks,u] }).get? b=some o→h''.get? b=some o:=fun b o hb q=>by
   have hbe:b≠e:=fun z=>hb (by simp [z])
   have hbi:b≠it:=fun z=>hb (by simp [z])
   rw [show h''.get? b=h'.get? b from hsb.2 b hbe]
   rcases Heap.get?_push_cases q with ⟨rfl,rfl⟩ | q
   ·exact htup
   ·exact hk b o hbe hbi q
  have hf1:∀ b∈[e,it],FpOk X pins (upd H s.heap.objs.size (.tup [.int i,x])) b:=fun b hb=>⟨by
   rw [upd_ne (by rcases List.mem_cons.mp hb with rfl | hb; exact hen; rw [show b=it by simpa using hb]; exact hin)]
   exact (hf b hb).1,(hf b hb).2⟩
  have I2:=I1.turnedL (t':=s.toks + 1) (h':=h'') kp hf1
  refine ⟨.ref s.heap.objs.size,_,I2,rfl,⟨_,x,hp0,rfl,fun ys hy=>by rw [I.list_inj hy hq]; exact hx,rfl⟩,⟨⟨u,by simpa using he''⟩,?_⟩,fun b hb=>(hf1 b hb).1⟩
  obtain ⟨o',e1,r⟩:=hit'
  exact ⟨o',(hsb.2 _ hne.symm).trans e1,r⟩
 done:=by
  intro X hP hw hK hc i pins s σ H E I hf st hg
  subst hP hw hK
  obtain ⟨xs,hq,hx⟩:=hg
  obtain ⟨its,rv,p,hz⟩:=I.list hq
  obtain ⟨⟨old,he⟩,hit⟩:=st
  have hl:=rv.length
  obtain ⟨f0,f1,f2,f3,f4,f5⟩:=hf it (by simp)
  exact wpAny_pyNext_enum_end (I.ok.hd hc) he hit p.isList (by simp; omega) fun h' eb=>⟨rfl,I.turned (t':=s.toks) (fun b o hb q=>eb b o hb q) f0 f1 f3 f4 f5⟩
 self:=fun _ _ _ _ _ st h=>let ⟨_,he⟩:=st.1; wpAny_pyIter_enum he h
def iEnum (K:PySem.W.Frag) (ta:TA):TI:=fun σ H R=>ta σ H fun vs H1=>∃ a xs,vs=[.ref a]∧SqL K H1 a xs∧R (Ite K a) H1
theorem boot_enumerate':bootBuiltins "enumerate" = some (.type "enumerate"):=by decide +kernel
theorem boot_zip':bootBuiltins "zip" = some (.type "zip"):=by decide +kernel
theorem pi_enum {X:Cx} {elts:List Expr} {x1:Nat} {tpos:Pos} {a:Expr} {ta:TA} {p pos:Pos} (hg:Gl X "enumerate") (hm:X.mg "enumerate" = none) (ha:PA X [a] ta) (hs:starEach [a] X.env=[(false,eval a X.env)]:=by rfl):PI X (.Tuple elts x1 tpos) (.Call (.Name "enumerate" p) [a] [] pos) (iEnum X.K ta):=by
 intro pins s σ H R I h
 refine Call_ (ld_blt I hg hm boot_enumerate' (PyProof.Rows.callWith_type1 (thn (ha pos pins s σ H _ I h) fun us s1 hz_=>?_) hs rfl))
 obtain ⟨vs,H1,I1,r1,q1⟩:=hz_
 obtain ⟨l,xs,rfl,hq,q⟩:=q1
 obtain ⟨u,rfl,ru⟩:=vals1 r1
 cases ru
 obtain ⟨its,rv,pl,hz⟩:=I1.list hq
 refine call_enumerate_list pl.isList fun h' he hit hsz hk=>?_
 refine wpAny_pyIter_enum (s:={ s1 with heap:=h' }) he ?_
 have I2:Inv X pins σ H1 { s1 with heap:=h' }:=I1.kept (t':=s1.toks) hk
 refine ⟨s1.heap.objs.size + 1,[s1.heap.objs.size + 1,s1.heap.objs.size],_,_,H1,rfl,I2,turn_enum l _ _ (Nat.succ_ne_self _),⟨⟨_,he⟩,hit⟩,fun b hb=>?_,q⟩
 rcases List.mem_cons.mp hb with rfl | hb
 ·exact I1.fpOk (Nat.le_succ _) (I1.hok.fresh (Nat.le_succ _))
 ·have:b=s1.heap.objs.size:=by simpa using hb
  subst this
  exact I1.fpOk (Nat.le_refl _) (I1.hok.fresh (Nat.le_refl _))
def Itz (K:PySem.W.Frag) (a b:Addr):It :=
 ⟨fun i H=>∃ xs ys x y,SqL K H a xs∧SqL K H b ys∧xs[i]?=some x∧ys[i]?=some y,fun i H x H'=>∃ p y z,H p=none∧x=.ref p∧(∀ xs,SqL K H a xs→xs[i]?=some y)∧(∀ ys,SqL K H b ys→ys[i]?=some z)∧H'=upd H p (.tup [y,z]),fun i H=>∃ xs ys,SqL K H a xs∧SqL K H b ys∧(xs.length≤i∨ys.length≤i)⟩
theorem turn_zip {P:Program} {w:World} {K:PySem.W.Frag} {elts:List Expr} {x1:Nat} {pos:Pos} (a b z TI TO i1 i2:Addr) (D:ZipApart z TI TO i1 i2 a b) :
  Turn P w K (.Tuple elts x1 pos) (Itz K a b) [z,TI,TO,i1,i2] z (fun i h=>IsZip h z TI TO .none∧IsPair h TI (.ref i1) (.ref i2)∧(∃ c d,IsPair h TO c d)∧h.IsListIter i1 a i∧h.IsListIter i2 b i) where
 mem:=by simp
 obj:=fun i h st c hc=>by
  obtain ⟨h1,h2,⟨v1,v2,h3⟩,⟨o4,h4,c4,d4⟩,⟨o5,h5,c5,d5⟩⟩:=st
  simp only [List.mem_cons,List.not_mem_nil,or_false] at hc
  rcases hc with rfl | rfl | rfl | rfl | rfl
  ·exact ⟨_,h1,fun v q=>by cases q⟩
  ·exact ⟨_,h2,fun v q=>by cases q⟩
  ·exact ⟨_,h3,fun v q=>by cases q⟩
  ·exact ⟨_,h4,fun v q=>by rw [d4] at q; cases q⟩
  ·exact ⟨_,h5,fun v q=>by rw [d5] at q; cases q⟩
 keep:=fun i h h' st k=>⟨k z (by simp) _ st.1,k TI (by simp) _ st.2.1,let ⟨c,d,q⟩:=st.2.2.1; ⟨c,d,k TO (by simp) _ q⟩,st.2.2.2.1.at fun o q=>k i1 (by simp) o q,st.2.2.2.2.at fun o q=>k i2 (by simp) o q⟩
 item:=by
  intro X hP hw hK hc i pins s σ H E I hf st hg
  subst hP hw hK
  obtain ⟨xs,ys,x,y,hq1,hq2,hx,hy⟩:=hg
  obtain ⟨its,rv,p,hz⟩:=I.list hq1
  obtain ⟨jts,rw',p2,hz2⟩:=I.list hq2
  obtain ⟨u,hu,ru⟩:=rv.get hx
  obtain ⟨v,hv,rvv⟩:=rw'.get hy
  obtain ⟨h1,h2,⟨v1,v2,h3⟩,h4,h5⟩:=st
  refine wpAny_pyNext_zip_item D h1 h2 h3 h4 h5 p.isList p2.isList (x:=u) (y:=v) (by simpa using hu) (by simpa using hv) fun h' hZ hTO h4' h5' htup hsz hk=>⟨_,rfl,?_⟩
  refine wpAny_letOwnedTupleGo_zip (s:={ s with heap:=h' }) hZ fun h'' hZ'' hsb=>?_
  have hp0:H s.heap.objs.size=none:=I.hok.fresh (Nat.le_refl _)
  have lt:∀ c∈[z,TI,TO,i1,i2],∃ o,s.heap.get? c=some o:=fun c hc=>by
   simp only [List.mem_cons,List.not_mem_nil,or_false] at hc
   rcases hc with rfl | rfl | rfl | rfl | rfl
   ·exact ⟨_,h1⟩
   ·exact ⟨_,h2⟩
   ·exact ⟨_,h3⟩
   ·obtain ⟨o,e,_⟩:=h4; exact ⟨o,e⟩
   ·obtain ⟨o,e,_⟩:=h5; exact ⟨o,e⟩
  have hne:∀ c∈[z,TI,TO,i1,i2],c≠s.heap.objs.size:=fun c hc=>by obtain ⟨o,e⟩:=lt c hc; exact Nat.ne_of_lt (Heap.lt_size e)
  have I1:Inv X pins σ (upd H s.heap.objs.size (.tup [x,y])) { s with heap:=s.heap.push { cls:=.type "tuple",data:=.seq #[u,v] },toks:=s.toks } :=
   I.laid (fun _ _ q=>Heap.get?_push_of_some _ q) (Nat.le_refl _) (show ObjOk X.prog X.w _ _ _ (.tup [x,y]) from ⟨by show 2≤sizeLine; decide,[u,v],.cons ru (.cons rvv .nil),_,Heap.get?_push_size _ rfl,rfl,0,rfl⟩)
  have kp:∀ c o,c ∉ [z,TI,TO,i1,i2]→(s.heap.push { cls:=.type "tuple",data:=.seq #[u,v] }).get? c=some o→h''.get? c=some o:=fun c o hc q=>by
   simp only [List.mem_cons,List.not_mem_nil,or_false,not_or] at hc
   rw [show h''.get? c=h'.get? c from hsb.2 c hc.1]
   rcases Heap.get?_push_cases q with ⟨rfl,rfl⟩ | q
   ·exact htup
   ·exact hk c o hc.1 hc.2.2.1 hc.2.2.2.1 hc.2.2.2.2 q
  have hTI'':IsPair h'' TI (.ref i1) (.ref i2):=(hsb.2 TI D.TIz).trans (hk TI _ D.TIz D.TITO D.TIi1 D.TIi2 h2)
  have hTO'':IsPair h'' TO u v:=(hsb.2 TO D.TOz).trans hTO
  have h4'':h''.IsListIter i1 a (i + 1):=by obtain ⟨o,e,r⟩:=h4'; exact ⟨o,(hsb.2 i1 D.i1z).trans e,r⟩
  have h5'':h''.IsListIter i2 b (i + 1):=by obtain ⟨o,e,r⟩:=h5'; exact ⟨o,(hsb.2 i2 D.i2z).trans e,r⟩
  have hf1:∀ c∈[z,TI,TO,i1,i2],FpOk X pins (upd H s.heap.objs.size (.tup [x,y])) c:=fun c hc=>⟨by rw [upd_ne (hne c hc)]; exact (hf c hc).1,(hf c hc).2⟩
  have I2:=I1.turnedL (t':=s.toks) (h':=h'') kp hf1
  exact ⟨.ref s.heap.objs.size,_,I2,rfl,⟨_,x,y,hp0,rfl,fun zs hy'=>by rw [I.list_inj hy' hq1]; exact hx,fun zs hy'=>by rw [I.list_inj hy' hq2]; exact hy,rfl⟩,⟨hZ'',hTI'',⟨u,v,hTO''⟩,h4'',h5''⟩,fun c hc=>(hf1 c hc).1⟩
 done:=by
  intro X hP hw hK hc i pins s σ H E I hf st hg
  subst hP hw hK
  obtain ⟨xs,ys,hq1,hq2,hx⟩:=hg
  obtain ⟨its,rv,p,hz⟩:=I.list hq1
  obtain ⟨jts,rw',p2,hz2⟩:=I.list hq2
  obtain ⟨h1,h2,⟨v1,v2,h3⟩,h4,h5⟩:=st
  have hl:=rv.length
  have hl2:=rw'.length
  refine wpAny_pyNext_zip_end (I.ok.hd hc) D h1 h2 h3 h4 h5 p.isList p2.isList (hx.imp (fun q=>by simp; omega) (fun q=>by simp; omega)) fun h' hk=>⟨rfl,I.turnedL (t':=s.toks) (ch:=[z,TI,TO,i1,i2]) (fun c o hc q=>?_) hf⟩
  simp only [List.mem_cons,List.not_mem_nil,or_false,not_or] at hc
  exact hk c o hc.1 hc.2.2.1 hc.2.2.2.1 hc.2.2.2.2 q
 self:=fun _ _ _ _ _ st h=>wpAny_pyIter_zip st.1 h
def iZip (K:PySem.W.Frag) (ta:TA):TI:=fun σ H R=>ta σ H fun vs H1=>∃ a b xs ys,vs=[.ref a,.ref b]∧SqL K H1 a xs∧SqL K H1 b ys∧R (Itz K a b) H1
theorem pi_zip {X:Cx} {elts:List Expr} {x1:Nat} {tpos:Pos} {a b:Expr} {ta:TA} {p pos:Pos} (hg:Gl X "zip") (hm:X.mg "zip" = none) (ha:PA X [a,b] ta) (hs:starEach [a,b] X.env=[(false,eval a X.env),(false,eval b X.env)]:=by rfl) (hs2:starEach [b] X.env=[(false,eval b X.env)]:=by rfl) :
  PI X (.Tuple elts x1 tpos) (.Call (.Name "zip" p) [a,b] [] pos) (iZip X.K ta):=by
 intro pins s σ H R I h
 refine Call_ (ld_blt I hg hm boot_zip' (PyProof.Rows.callWith_type1 (thn (ha pos pins s σ H _ I h) fun us s1 hz_=>?_) (by rw [hs,hs2]) (by rw [hs2]; rfl)))
 obtain ⟨vs,H1,I1,r1,q1⟩:=hz_
 obtain ⟨l1,l2,xs,ys,rfl,hq1,hq2,q⟩:=q1
 obtain ⟨u,v,rfl,ru,rv'⟩:=vals2 r1
 cases ru; cases rv'
 obtain ⟨its,rv,pl,hz⟩:=I1.list hq1
 obtain ⟨jts,rw',pl2,hz2⟩:=I1.list hq2
 have b1:l1 < s1.heap.objs.size:=by obtain ⟨o,e,_⟩:=pl.isList; exact Heap.lt_size e
 have b2:l2 < s1.heap.objs.size:=by obtain ⟨o,e,_⟩:=pl2.isList; exact Heap.lt_size e
 refine call_zip_2 pl.isList pl2.isList fun h' hZ hTI hTO h4 h5 hsz hk=>?_
 refine wpAny_pyIter_zip (s:={ s1 with heap:=h' }) hZ ?_
 have I2:Inv X pins σ H1 { s1 with heap:=h' }:=I1.kept (t':=s1.toks) hk
 generalize hn:s1.heap.objs.size=n at *
 have ne:∀ {i j:Nat},i≠j→(n + i:Nat)≠n + j:=fun h z=>h (by omega)
 have D:ZipApart (n + 4) (n + 2) (n + 3) n (n + 1) l1 l2:=by
  constructor <;> first | exact Nat.ne_of_gt (by omega) | exact Nat.ne_of_lt (by omega) | exact Nat.ne_of_lt (Nat.lt_of_lt_of_le b1 (by omega)) | exact Nat.ne_of_lt (Nat.lt_of_lt_of_le b2 (by omega)) | exact Nat.ne_of_lt b1 | exact Nat.ne_of_lt b2
 refine ⟨n + 4,[n + 4,n + 2,n + 3,n,n + 1],_,_,H1,rfl,I2,turn_zip l1 l2 _ _ _ _ _ D,⟨hZ,hTI,⟨_,_,hTO⟩,h4,h5⟩,fun c hc=>?_,q⟩
 have:n≤c:=by
  simp only [List.mem_cons,List.not_mem_nil,or_false] at hc
  rcases hc with rfl | rfl | rfl | rfl | rfl
  ·exact Nat.le_add_right _ _
  ·exact Nat.le_add_right _ _
  ·exact Nat.le_add_right _ _
  ·exact Nat.le_refl _
  ·exact Nat.le_add_right _ _
 exact I1.fpOk (by rw [hn]; exact this) (I1.hok.fresh (by rw [hn]; exact this))
end L2
namespace L2
open PySem PySem.Spec PyProof.Rows
def maxI (ns:List Int):Int:=ns.max?.getD 0
def minI (ns:List Int):Int:=ns.min?.getD 0
theorem maxI_of {ns:List Int} {M:Int} (h1:M∈ns) (h2:∀ a,a∈ns→a≤M):maxI ns=M:=by
 have:ns.max?=some M:=List.max?_eq_some_iff.mpr ⟨h1,h2⟩
 unfold maxI; rw [this]; rfl
theorem minI_of {ns:List Int} {M:Int} (h1:M∈ns) (h2:∀ a,a∈ns→M≤a):minI ns=M:=by
 have:ns.min?=some M:=List.min?_eq_some_iff.mpr ⟨h1,h2⟩
 unfold minI; rw [this]; rfl
theorem minI_mem {ns:List Int} (h:ns≠[]):minI ns∈ns∧∀ a∈ns,minI ns≤a:=by
 cases e:ns.min? with
 | none=>exact absurd (List.min?_eq_none_iff.mp e) h
 | some M =>
  have:=List.min?_eq_some_iff.mp e
  unfold minI; rw [e]; exact this
section
variable {X:Cx}
theorem call_maxL (hc:X.calm=true):CallR X (.builtin "max") (fun xs H Q=>∃ (p:Addr) (ns:List Int),xs=[.ref p]∧SqL X.K H p (ns.map V.int)∧ns≠[]∧Q (.int (maxI ns)) H):=by
 intro pins s σ H xs us Q I r h
 obtain ⟨p,ns,rfl,hp,hne,q⟩:=h
 obtain ⟨u,rfl,ru⟩:=vals1 r
 cases ru
 obtain ⟨its,rv,⟨o,n,ho,hcl,_,hd⟩,hz⟩:=I.list hp
 have hi:=intsAre_of rv
 have hl:s.heap.IsList p its.toArray:=⟨o,ho,hcl,n,hd⟩
 obtain ⟨xs,hx⟩:=hi.allInts.items
 have hl':s.heap.IsList p (intItems xs):=hx ▸ hl
 have e1:ns=xs.toList.map (·.1):=by
  rw [← nums_intItems,← hx]
  exact (show numsOf its.toArray.toList=ns from hi.numsOf).symm
 have hsz:0 < xs.size:=by
  have:xs.size=ns.length:=by rw [e1]; simp
  have:=List.length_pos_iff.mpr hne
  omega
 refine max_intList (I.ok.hd hc) hl' hsz fun v h' tk hv hk=>?_
 obtain ⟨t,rfl⟩:=intItems_at hv
 obtain ⟨h1,h2⟩:=argBest_gt (numAt xs) (xs.size - 1)
 have em:maxI ns=numAt xs (argBest (fun i j=>decide (numAt xs i > numAt xs j)) (xs.size - 1)):=by
  refine maxI_of ?_ fun a ha=>?_
  ·rw [e1,numAt_eq]; exact getD_mem (by rw [List.length_map,Array.length_toList]; omega)
  ·rw [e1] at ha
   obtain ⟨j,hj,rfl⟩:=mem_getD ha
   rw [List.length_map,Array.length_toList] at hj
   rw [← numAt_eq]; exact h2 j (by omega)
 exact ⟨.int (maxI ns),H,I.kept hk,⟨t,by rw [em]⟩,q⟩
theorem call_minL (hc:X.calm=true):CallR X (.builtin "min") (fun xs H Q=>∃ (p:Addr) (ns:List Int),xs=[.ref p]∧SqL X.K H p (ns.map V.int)∧ns≠[]∧Q (.int (minI ns)) H):=by
 intro pins s σ H xs us Q I r h
 obtain ⟨p,ns,rfl,hp,hne,q⟩:=h
 obtain ⟨u,rfl,ru⟩:=vals1 r
 cases ru
 obtain ⟨its,rv,⟨o,n,ho,hcl,_,hd⟩,hz⟩:=I.list hp
 have hi:=intsAre_of rv
 have hl:s.heap.IsList p its.toArray:=⟨o,ho,hcl,n,hd⟩
 obtain ⟨xs,hx⟩:=hi.allInts.items
 have hl':s.heap.IsList p (intItems xs):=hx ▸ hl
 have e1:ns=xs.toList.map (·.1):=by
  rw [← nums_intItems,← hx]
  exact (show numsOf its.toArray.toList=ns from hi.numsOf).symm
 have hsz:0 < xs.size:=by
  have:xs.size=ns.length:=by rw [e1]; simp
  have:=List.length_pos_iff.mpr hne
  omega
 refine min_intList (I.ok.hd hc) hl' hsz fun v h' tk hv hk=>?_
 obtain ⟨t,rfl⟩:=intItems_at hv
 obtain ⟨h1,h2⟩:=argBest_lt (numAt xs) (xs.size - 1)
 have em:minI ns=numAt xs (argBest (fun i j=>decide (numAt xs i < numAt xs j)) (xs.size - 1)):=by
  refine minI_of ?_ fun a ha=>?_
  ·rw [e1,numAt_eq]; exact getD_mem (by rw [List.length_map,Array.length_toList]; omega)
  ·rw [e1] at ha
   obtain ⟨j,hj,rfl⟩:=mem_getD ha
   rw [List.length_map,Array.length_toList] at hj
   rw [← numAt_eq]; exact h2 j (by omega)
 exact ⟨.int (minI ns),H,I.kept hk,⟨t,by rw [em]⟩,q⟩
end
end L2
namespace L2
theorem same_iff {H H':Hp}:Same H H'↔∀ b,H b=none∨H' b=H b:=by
 constructor
 ·intro h b
  cases e:H b with
  | none=>exact .inl rfl
  | some o=>exact .inr (h b o e)
 ·intro h b o e
  rcases h b with q | q
  ·rw [q] at e; cases e
  ·rw [q]; exact e
end L2
namespace L2
open PySem PySem.Spec PyProof.Rows
theorem comp_enum {K:PySem.W.Frag} {a acc:Addr} {xs:List V} {n:Nat} {fr:List (Nat×Nat)} {g:TG} {tf:TT} {te:TE} {Qa:Hp→Prop} {σ:St} {H1:Hp} (Pv:Nat→St→List V→Hp→Prop) (h0:Pv 0 (startC n fr σ) [] (upd H1 acc (.lst [])))
  (hl:∀ i τ ys H,i≤xs.length→Pv i τ ys H→SqL K H a xs∧H acc=some (.lst ys))
  (hs:∀ i x p τ ys H (R:St→List V→Hp→Prop),xs[i]?=some x→H p=none→Pv i τ ys H→(∀ τ' ys' H',Pv (i + 1) τ' ys' H'→R τ' ys' H')→g (.ref p) τ (upd H p (.tup [.int i,x])) fun τ4 H4=>tf τ4 H4 fun b H5 =>
   if b=true then te τ4 H5 fun v H6=>H6 acc=some (.lst ys)∧ys.length < sizeLine∧R τ4 (ys++[v]) (upd H6 acc (.lst (ys++[v]))) else R τ4 ys H5)
  (hd:∀ τ ys H,Pv xs.length τ ys H→Qa H) :
  ∃ W:Nat→Nat→St→List V→Hp→Prop,(∃ m,W 0 m (startC n fr σ) [] (upd H1 acc (.lst [])))∧∀ i m τ ys H2,W i m τ ys H2 →
   H2 acc=some (.lst ys)∧(((Ite K a).stop i H2∧Qa H2)∨((Ite K a).go i H2∧∀ x H3,(Ite K a).yld i H2 x H3→g x τ H3 fun τ4 H4=>tf τ4 H4 fun b H5 =>
    if b=true then te τ4 H5 fun v H6=>H6 acc=some (.lst ys)∧ys.length < sizeLine∧∃ m',m' < m∧W (i + 1) m' τ4 (ys++[v]) (upd H6 acc (.lst (ys++[v])))
    else ∃ m',m' < m∧W (i + 1) m' τ4 ys H5)):=by
 refine ⟨fun i m τ ys H=>m=xs.length - i∧i≤xs.length∧Pv i τ ys H,⟨xs.length,by simp,Nat.zero_le _,h0⟩,?_⟩
 rintro i m τ ys H2 ⟨rfl,hi,p⟩
 obtain ⟨q,hacc⟩:=hl i τ ys H2 hi p
 refine ⟨hacc,?_⟩
 by_cases hlt:i < xs.length
 ·refine .inr ⟨⟨xs,xs[i],q,by simp [hlt]⟩,fun x H' y=>?_⟩
  obtain ⟨pa,z,hp,rfl,y,rfl⟩:=y
  exact hs i z pa τ ys _ (fun τ' ys' H'=>∃ m',m' < xs.length - i∧m'=xs.length - (i + 1)∧i + 1≤xs.length∧Pv (i + 1) τ' ys' H') (y xs q) hp p fun τ' ys' H' p'=>⟨xs.length - (i + 1),by omega,rfl,hlt,p'⟩
 ·have e:i=xs.length:=by omega
  subst e
  exact .inl ⟨⟨xs,q,Nat.le_refl _⟩,hd τ ys H2 p⟩
theorem comp_zip {K:PySem.W.Frag} {a b acc:Addr} {xs zs:List V} {n:Nat} {fr:List (Nat×Nat)} {g:TG} {tf:TT} {te:TE} {Qa:Hp→Prop} {σ:St} {H1:Hp} (len:zs.length=xs.length) (Pv:Nat→St→List V→Hp→Prop) (h0:Pv 0 (startC n fr σ) [] (upd H1 acc (.lst [])))
  (hl:∀ i τ ys H,i≤xs.length→Pv i τ ys H→SqL K H a xs∧SqL K H b zs∧H acc=some (.lst ys))
  (hs:∀ i x z p τ ys H (R:St→List V→Hp→Prop),xs[i]?=some x→zs[i]?=some z→H p=none→Pv i τ ys H→(∀ τ' ys' H',Pv (i + 1) τ' ys' H'→R τ' ys' H')→g (.ref p) τ (upd H p (.tup [x,z])) fun τ4 H4=>tf τ4 H4 fun b H5 =>
   if b=true then te τ4 H5 fun v H6=>H6 acc=some (.lst ys)∧ys.length < sizeLine∧R τ4 (ys++[v]) (upd H6 acc (.lst (ys++[v]))) else R τ4 ys H5)
  (hd:∀ τ ys H,Pv xs.length τ ys H→Qa H) :
  ∃ W:Nat→Nat→St→List V→Hp→Prop,(∃ m,W 0 m (startC n fr σ) [] (upd H1 acc (.lst [])))∧∀ i m τ ys H2,W i m τ ys H2 →
   H2 acc=some (.lst ys)∧(((Itz K a b).stop i H2∧Qa H2)∨((Itz K a b).go i H2∧∀ x H3,(Itz K a b).yld i H2 x H3→g x τ H3 fun τ4 H4=>tf τ4 H4 fun b H5 =>
    if b=true then te τ4 H5 fun v H6=>H6 acc=some (.lst ys)∧ys.length < sizeLine∧∃ m',m' < m∧W (i + 1) m' τ4 (ys++[v]) (upd H6 acc (.lst (ys++[v])))
    else ∃ m',m' < m∧W (i + 1) m' τ4 ys H5)):=by
 refine ⟨fun i m τ ys H=>m=xs.length - i∧i≤xs.length∧Pv i τ ys H,⟨xs.length,by simp,Nat.zero_le _,h0⟩,?_⟩
 rintro i m τ ys H2 ⟨rfl,hi,p⟩
 obtain ⟨q,q2,hacc⟩:=hl i τ ys H2 hi p
 refine ⟨hacc,?_⟩
 by_cases hlt:i < xs.length
 ·refine .inr ⟨⟨xs,zs,xs[i],zs[i]'(by omega),q,q2,by simp [hlt],by simp [len,hlt]⟩,fun x H' y=>?_⟩
  obtain ⟨pa,z1,z2,hp,rfl,y1,y2,rfl⟩:=y
  exact hs i z1 z2 pa τ ys _ (fun τ' ys' H'=>∃ m',m' < xs.length - i∧m'=xs.length - (i + 1)∧i + 1≤xs.length∧Pv (i + 1) τ' ys' H') (y1 xs q) (y2 zs q2) hp p fun τ' ys' H' p'=>⟨xs.length - (i + 1),by omega,rfl,hlt,p'⟩
 ·have e:i=xs.length:=by omega
  subst e
  exact .inl ⟨⟨xs,zs,q,q2,.inl (Nat.le_refl _)⟩,hd τ ys H2 p⟩
theorem atI_int {xs:List V} {k:Int} {j:Nat} {x:V} (e:k=j) (h:xs[j]?=some x):atI xs k=some x:=by subst e; exact atI_nat h
end L2
namespace L2
open PySem PySem.Spec PyProof.Rows
section
variable {M:Model} {A:Around} {E:Value→Shared→Prop} {s:Shared}
end
section
variable {X:Cx} {N:List Str} {sc:Scope} {cl:List (Str×Addr)} {fr:List (Nat×Nat)} {pins:List (Addr×Obj)} {σ:St} {H:Hp} {s:Shared}
end
end L2
namespace L2
open PySem PySem.Spec PyProof.Rows
theorem Obj.dict_mapFields (o:Obj) (f:Array Value→Array Value):(o.mapFields f).dict=o.dict:=by
 obtain ⟨c,d,dt,sl⟩:=o; cases dt <;> rfl
def FlyX (B:Heap) (l:List Env) (e:Addr) (cls:Value) (dx:Option Addr) (fl:Value) (h:Heap):Prop:=B.StaysIn h∧B.get? e=none∧h.FunFrames B l∧∃ oe vs T oT ts,h.get? e=some oe∧oe.cls=cls∧oe.dict=dx∧oe.data=.fields vs∧vs[2]?=some .none ∧
 vs[1]?=some (.ref T)∧B.get? T=none∧T≠e∧h.get? T=some oT∧oT.data=.fields ts∧ts[3]?=some fl
theorem FlyX.at {B h:Heap} {l:List Env} {e:Addr} {cls fl:Value} {dx:Option Addr} (x:FlyX B l e cls dx fl h):∃ ob,h.get? e=some ob∧ob.cls=cls:=by
 obtain ⟨_,_,_,oe,_,_,_,_,h1,h2,_⟩:=x
 exact ⟨oe,h1,h2⟩
theorem FlyX.rec {B h:Heap} {l:List Env} {e:Addr} {cls fl:Value} {dx:Option Addr} (x:FlyX B l e cls dx fl h):∃ ob vs,h.get? e=some ob∧ob.cls=cls∧ob.dict=dx∧ob.data=.fields vs∧vs[2]?=some .none:=by
 obtain ⟨_,_,_,oe,vs,_,_,_,h1,h2,h3,h4,h5,_⟩:=x
 exact ⟨oe,vs,h1,h2,h3,h4,h5⟩
theorem FlyX.tail {B h:Heap} {env:Env} {l:List Env} {e:Addr} {cls fl:Value} {dx:Option Addr} (x:FlyX B (env::l) e cls dx fl h):FlyX B l e cls dx fl h:=by
 obtain ⟨x1,x2,⟨_,_,x3⟩,x4⟩:=x
 exact ⟨x1,x2,x3,x4⟩
section
variable {M:Model} {A:Around} {E:Value→Shared→Prop} {s:Shared} {B:Heap} {env:Env} {outer:List Env} {L e:Addr} {Q:Unit→Shared→Prop}
theorem entryX {oe:Obj} {vs:Array Value} {head:Value} {had:Bool} (fr:A.frames=some (env::outer)) (ff:s.heap.FunFrames B (env::outer)) (fe:env.frame=some L) (ge:s.heap.get? e=some oe) (st:B.StaysIn s.heap) (ne:B.get? e=none)
  (dt:oe.data=.fields vs) (v1:1 < vs.size) (v2:vs[2]?=some .none) (k:∀ hh,FlyX B (env::outer) e oe.cls oe.dict (rawInt L) hh→s.heap.UpToSlots hh→Q () { s with heap:=hh }) :
  wpAny M A (do let fo ← frameOf env; let pp ← entryPlaceOf L had; let tb ← EntryCells.newEntry head fo .none (rawInt L) .none pp; setField (.ref e) 1 tb) Q E s:=by
 have out:e ∉ (env::outer).filterMap (·.frame):=fun z=>by
  obtain ⟨_,ob,h1,h2⟩:=ff.mem z
  rw [ge] at h1; cases h1
  exact h2 vs dt
 refine wpAny_bind (wpAny_frameOf_fun fr ff fe fun ha sa=>wpAny_bind (wpAny_entryPlaceOf fun pp hp=>?_))
 unfold EntryCells.newEntry newFields
 refine wpAny_bind (wpAny_newObj_type ?_ (hp.sizeOk5 _ _ _ _ _))
 generalize hnew:({ cls:=.type "traceback",dict:=none,data:=.fields ([head,Value.ref L,.none,rawInt L,.none]++(if pp.isEmpty then List.replicate 6 Value.none else pp)).toArray }:Obj)=tbo
 have tdat:∃ ts,tbo.data=.fields ts∧ts[3]?=some (rawInt L):=⟨_,by rw [← hnew],by simp⟩
 have tfree:tbo.isFreed=false:=by rw [← hnew]; rfl
 obtain ⟨ts,td,t3⟩:=tdat
 have ea:ha.get? e=some oe:=(sa.2.1 e out).trans ge
 have sta:B.StaysIn ha:=fun b o q=>(sa.2.1 b fun z=>by rw [(ff.mem z).1] at q; cases q).trans (st b o q)
 have eb:(ha.push tbo).get? e=some oe:=Heap.get?_push_of_some tbo ea
 refine wpAny_setField eb dt v1 (k _ ?_ ?_)
 ·have tne:ha.objs.size≠e:=Nat.ne_of_gt (Heap.lt_size ea)
  have dd:=Obj.data_mapFields dt (·.setIfInBounds 1 (Value.ref ha.objs.size))
  have other:∀ b o,b≠e→ha.get? b=some o→((ha.push tbo).update e (Obj.mapFields (·.setIfInBounds 1 (Value.ref ha.objs.size)))).get? b=some o:=fun b o n q=>by
   rw [Heap.get?_update_other _ _ (Ne.symm n)]
   exact Heap.get?_push_of_some _ q
  refine ⟨fun b o q=>other b o (fun z=>by rw [z,ne] at q; cases q) (sta b o q),ne,ff.of_keeps fun b o q nf=>?_,?_⟩
  ·obtain ⟨sl,q2⟩:=sa.2.2 b o q
   exact ⟨_,other b _ (fun z=>by rw [z,ge] at q; cases q; exact nf vs dt) q2,rfl⟩
  ·refine ⟨_,_,ha.objs.size,tbo,ts,Heap.get?_update_self _ eb (Obj.isFreed_of_fields dd),Obj.cls_mapFields _ _,Obj.dict_mapFields _ _,dd,?_,by simp [v1],sta.fresh,tne,?_,td,t3⟩
   ·rw [Array.getElem?_setIfInBounds_ne (by decide)]; exact v2
   ·rw [Heap.get?_update_other _ _ (Ne.symm tne)]
    exact Heap.get?_push_size ha tfree
 ·intro b o q nf
  obtain ⟨sl,q2⟩:=sa.2.2 b o q
  refine ⟨sl,?_⟩
  rw [Heap.get?_update_other _ _ (fun z=>by rw [← z,ge] at q; cases q; exact nf vs dt)]
  exact Heap.get?_push_of_some _ q2
theorem noteX_first {oe:Obj} {vs:Array Value} (fr:A.frames=some (env::outer)) (ff:s.heap.FunFrames B (env::outer)) (fe:env.frame=some L) (ge:s.heap.get? e=some oe) (st:B.StaysIn s.heap) (ne:B.get? e=none)
  (dt:oe.data=.fields vs) (v1:vs[1]?=some .none) (v2:vs[2]?=some .none) (k:∀ hh,FlyX B (env::outer) e oe.cls oe.dict (rawInt L) hh→s.heap.UpToSlots hh→Q () { s with heap:=hh }):wpAny M A (noteFrame (.ref e) env) Q E s:=by
 unfold noteFrame
 simp only [fe]
 refine wpAny_bind (wpAny_field ge dt v1 ?_)
 rw [if_neg (by decide)]
 exact entryX fr ff fe ge st ne dt (Array.getElem?_eq_some_iff.mp v1).1 v2 k
theorem noteX {cls:Value} {dx:Option Addr} (fr:A.frames=some (env::outer)) (fe:env.frame=some L) (x:FlyX B (env::outer) e cls dx .none s.heap) (k:∀ hh,FlyX B (env::outer) e cls dx (rawInt L) hh→s.heap.UpToSlots hh→Q () { s with heap:=hh }) :
  wpAny M A (noteFrame (.ref e) env) Q E s:=by
 obtain ⟨st,ne,ff,oe,vs,T,oT,ts,ge,rfl,rfl,dt,v2,v1,nT,Te,gT,dT,t3⟩:=x
 unfold noteFrame
 simp only [fe]
 refine wpAny_bind (wpAny_field ge dt v1 ?_)
 rw [if_pos (show (Value.ref T != Value.none)=true by simp)]
 refine wpAny_bind (wpAny_field gT dT t3 ?_)
 rw [if_neg (show ¬ ((Value.none == rawInt L)=true) by simp [rawInt])]
 refine wpAny_bind (wpAny_setField gT dT (Array.getElem?_eq_some_iff.mp t3).1 ?_)
 have oth:∀ b,b≠T→(s.heap.update T (Obj.mapFields (·.setIfInBounds 3 Value.none))).get? b=s.heap.get? b:=fun b n=>Heap.get?_update_other _ _ (Ne.symm n)
 have nrec:∀ b o,s.heap.get? b=some o→(∀ ws,o.data≠.fields ws)→b≠T:=fun b o q nf z=>by rw [z,gT] at q; cases q; exact nf ts dT
 refine entryX (s:={ s with heap:=s.heap.update T (Obj.mapFields (·.setIfInBounds 3 Value.none)) }) fr (ff.of_keeps fun b o q nf=>⟨o,(oth b (nrec b o q nf)).trans q,rfl⟩) fe ((oth e (Ne.symm Te)).trans ge)
  (fun b o q=>(oth b fun z=>by rw [z,nT] at q; cases q).trans (st b o q)) ne dt (Array.getElem?_eq_some_iff.mp v1).1 v2 fun hh f up=>k hh f fun b o q nf=>?_
 exact up b o ((oth b (nrec b o q nf)).trans q) nf
theorem landX {l:List Env} {cls fl:Value} {dx:Option Addr} (x:FlyX B l e cls dx fl s.heap) (k:∀ hh,FlyX B l e cls dx .none hh→s.heap.UpToSlots hh→Q () { s with heap:=hh }):wpAny M A (setFlight (.ref e) none) Q E s:=by
 obtain ⟨st,ne,ff,oe,vs,T,oT,ts,ge,rfl,rfl,dt,v2,v1,nT,Te,gT,dT,t3⟩:=x
 have sz:3 < ts.size:=(Array.getElem?_eq_some_iff.mp t3).1
 unfold setFlight
 refine wpAny_bind (wpAny_field ge dt v1 ?_)
 rw [if_pos (show (Value.ref T != Value.none)=true by simp)]
 have oth:∀ b,b≠T→(s.heap.update T (Obj.mapFields (·.setIfInBounds 3 ((none:Option Addr).elim Value.none fun f=>rawInt f)))).get? b=s.heap.get? b:=fun b n=>Heap.get?_update_other _ _ (Ne.symm n)
 have nrec:∀ b o,s.heap.get? b=some o→(∀ ws,o.data≠.fields ws)→b≠T:=fun b o q nf z=>by rw [z,gT] at q; cases q; exact nf ts dT
 refine wpAny_setField gT dT sz (k _ ⟨fun b o q=>(oth b fun z=>by rw [z,nT] at q; cases q).trans (st b o q),ne,ff.of_keeps fun b o q nf=>⟨o,(oth b (nrec b o q nf)).trans q,rfl⟩,?_⟩ fun b o q nf=>⟨o.slots,(oth b (nrec b o q nf)).trans q⟩)
 exact ⟨oe,vs,T,_,_,(oth e (Ne.symm Te)).trans ge,rfl,rfl,dt,v2,v1,nT,Te,Heap.get?_update_self _ gT (Obj.isFreed_of_fields (Obj.data_mapFields dT _)),Obj.data_mapFields dT _,by simp [sz]⟩
theorem leaveX {cls:Value} {dx:Option Addr} (fr:A.frames=some (env::outer)) (fe:env.frame=some L) (x:FlyX B (env::outer) e cls dx .none s.heap) (k:∀ hh,FlyX B outer e cls dx .none hh→s.heap.UpToSlots hh→Q () { s with heap:=hh }) :
  wpAny M A (leaving env (.ref e)) Q E s:=by
 unfold leaving
 refine wpAny_bind (noteX fr fe x fun h1 f1 u1=>landX (s:={ s with heap:=h1 }) f1 fun h2 f2 u2=>k h2 f2.tail (u1.trans u2))
theorem leaveX_made {h:Heap} {cls:Value} {args:List Value} (fr:A.frames=some (env::outer)) (fe:env.frame=some L) (st:B.StaysIn h) (ff:h.FunFrames B (env::outer)) (hx:Heap.MadeExcOf h s.heap e cls args)
  (k:∀ hh,FlyX B outer e cls none .none hh→s.heap.UpToSlots hh→Q () { s with heap:=hh }):wpAny M A (leaving env (.ref e)) Q E s:=by
 obtain ⟨t,he,_,_⟩:=hx.there
 have ne:B.get? e=none:=by
  cases q:B.get? e with
  | none=>rfl
  | some o=>have:=st e o q; rw [hx.new] at this; cases this
 unfold leaving
 refine wpAny_bind (noteX_first fr (ff.of_keeps fun b o q _=>⟨o,hx.keeps b o q,rfl⟩) fe he (fun b o q=>hx.keeps b o (st b o q)) ne rfl rfl rfl fun h1 f1 u1=>?_)
 exact landX (s:={ s with heap:=h1 }) f1 fun h2 f2 u2=>k h2 f2.tail (u1.trans u2)
end
end L2
namespace L2
open PySem PySem.Spec PyProof.Rows
theorem ObjOk.there {P:Program} {w:World} {H:Hp} {h:Heap} {a:Addr} {o:HO} (x:ObjOk P w H h a o):∃ u,h.get? a=some u:=by
 cases o with
 | lst xs=>obtain ⟨_,_,_,_,e⟩:=x; exact ⟨_,e⟩
 | tup xs=>obtain ⟨_,_,_,o,e,_⟩:=x; exact ⟨_,e⟩
 | dK kvs=>obtain ⟨_,_,_,_,o,_,_,e,_⟩:=x; exact ⟨_,e⟩
 | dT kvs=>obtain ⟨_,_,_,_,o,_,_,e,_⟩:=x; exact ⟨_,e⟩
 | set S n=>obtain ⟨o,_,_,_,e,_⟩:=x; exact ⟨_,e⟩
 | ins C dx fs=>obtain ⟨_,_,_,e,_⟩:=x; exact ⟨_,e⟩
 | own y=>obtain ⟨_,e⟩:=x; exact ⟨_,e⟩
 | xd fs=>obtain ⟨_,⟨_,_,_,e,_⟩,_⟩:=x; exact ⟨_,e⟩
 | rng lo hi=>obtain ⟨_,_,_,e⟩:=x; exact ⟨_,e⟩
 | frz ob u=>obtain ⟨e,_⟩:=x; exact ⟨_,e⟩
 | tbl ps=>exact ⟨_,(show h.get? a=some _ from x)⟩
 | met f y=>exact ⟨_,(show h.get? a=some _ from x)⟩
 | ext φ=>obtain ⟨_,⟨_,e⟩,_⟩:=x; exact ⟨_,e⟩
theorem HOk.none {P:Program} {w:World} {H:Hp} {h:Heap} {a:Addr} (x:HOk P w H h) (e:h.get? a=Option.none):H a=Option.none:=by
 cases q:H a with
 | none=>rfl
 | some u=>obtain ⟨o,z⟩:=(x a u q).there; rw [e] at z; cases z
structure UnB (fs:List Addr) (H H':Hp) (h B h':Heap):Prop where
 keep:∀ b o,h.get? b=some o→H b=none→b ∉ fs→B.get? b=some o
 slot:∀ b o,h.get? b=some o→H b=none→b∈fs→∃ sl,h'.get? b=some { o with slots:=sl }
 free:∀ b o,h.get? b=some o→H b=none→H' b=none
 there:∀ b o,h.get? b=some o→b ∉ fs→∃ o',B.get? b=some o'
 tfs:∀ b∈fs,∃ o',h'.get? b=some o'
 tups:∀ b xs,H b=some (.tup xs)→H' b=some (.tup xs)
 frzs:∀ b o u,H b=some (.frz o u)→H' b=some (.frz o u)
 tbls:∀ b ps,H b=some (.tbl ps)→∃ more,H' b=some (.tbl (ps++more))
theorem UnB.un {fs:List Addr} {H H':Hp} {h B h':Heap} (u:UnB fs H H' h B h') (k:B.StaysIn h'):Un fs [] H H' h h' where
 keep:=fun b o e n hb _=>k _ _ (u.keep b o e n hb)
 slot:=fun b o e n hb _=>u.slot b o e n hb
 free:=fun b o e n _=>u.free b o e n
 there:=fun b o e _=>by
  by_cases hb:b∈fs
  ·exact u.tfs b hb
  ·obtain ⟨o',q⟩:=u.there b o e hb
   exact ⟨o',k _ _ q⟩
 tups:=u.tups
 frzs:=u.frzs
 tbls:=u.tbls
def CXE (P:Program) (w:World) (base:Heap):CXT:=fun outer H s E e s'=>∃ (a:Addr) (cls:Value) (dx:Option Addr) (H':Hp) (B:Heap),e=.ref a∧s'.os=s.os∧AllBare s'.gens∧FlyX B outer a cls dx .none s'.heap ∧
 base.StaysIn B∧HOk P w H' B∧UnB (frs outer) H H' s.heap B s'.heap∧H' a=none∧E cls dx H'
section
variable {P:Program} {w:World} {K:PySem.W.Frag} {mg:Str→Option Value} {base:Heap}
section
variable {N:List Str} {qual:Str} {scope:Scope} {f:Addr} {cd:Value} {A:Around} {outer:List Env} {s₀:Shared} {H₀:Hp} {E:XK}
theorem passE:Passes (CXE P w base) (cxOf (CXE P w base) P w K mg base N qual scope f cd A outer s₀ H₀ E) E:=by
 intro pins σ H s e s' I h
 obtain ⟨a,cls,dx,H',B,rfl,hos,hb,fl,sb,hok,un,ha,q⟩:=h
 show wpAny _ _ (leaving _ (.ref a)) (fun _ s''=>CXE P w base outer H₀ s₀ E (.ref a) s'') _ s'
 have hst:frs (cxOf (CXE P w base) P w K mg base N qual scope f cd A outer s₀ H₀ E).stack=s₀.heap.objs.size::frs outer:=rfl
 have nin:∀ b o,s₀.heap.get? b=some o→b ∉ frs outer→b ∉ frs (cxOf (CXE P w base) P w K mg base N qual scope f cd A outer s₀ H₀ E).stack:=fun b o e n z=>by
  rw [hst] at z
  rcases List.mem_cons.mp z with z | z
  ·exact absurd (Heap.lt_size e) (by rw [z]; exact Nat.lt_irrefl _)
  ·exact n z
 have noex:∀ b:Addr,b ∉ (cxOf (CXE P w base) P w K mg base N qual scope f cd A outer s₀ H₀ E).ex:=fun b z=>absurd (show b∈([]:List Addr) from z) (by simp)
 have inst:∀ b∈frs outer,b∈frs (cxOf (CXE P w base) P w K mg base N qual scope f cd A outer s₀ H₀ E).stack:=fun b z=>by rw [hst]; exact List.mem_cons_of_mem _ z
 refine leaveX I.ok.frames rfl fl fun h' fl' up=>?_
 have fr:∀ b∈frs outer,∀ o,s'.heap.get? b=some o→∀ vs,o.data≠.fields vs:=fun b hb o e=>by
  obtain ⟨_,o',ho',hd⟩:=fl.2.2.1.mem (inst b hb)
  rw [ho'] at e; cases e; exact hd
 have B1:=I.base
 refine ⟨a,cls,dx,H',B,rfl,hos.trans I.os,hb,fl',sb,hok,⟨fun b o e n hb=>?_,fun b o e n hb=>?_,fun b o e n=>?_,fun b o e hb=>?_,fun b hb=>?_,fun b xs e=>un.tups b xs (B1.tups b xs e),fun b o u e=>un.frzs b o u (B1.frzs b o u e),fun b ps e=>?_⟩,ha,q⟩
 ·exact un.keep b o (B1.keep b o e n hb (noex b)) (B1.free b o e n (noex b)) (nin b o e hb)
 ·obtain ⟨sl,e1⟩:=B1.slot b o e n hb (noex b)
  obtain ⟨sl2,e2⟩:=un.slot b _ e1 (B1.free b o e n (noex b)) (inst b hb)
  obtain ⟨sl3,e3⟩:=up b _ e2 (fr b hb _ e2)
  exact ⟨sl3,e3⟩
 ·obtain ⟨o',e1⟩:=B1.there b o e (noex b)
  exact un.free b o' e1 (B1.free b o e n (noex b))
 ·obtain ⟨o',e1⟩:=B1.there b o e (noex b)
  exact un.there b o' e1 (nin b o e hb)
 ·obtain ⟨o,e1⟩:=un.tfs b (inst b hb)
  obtain ⟨sl,e2⟩:=up b o e1 (fr b hb o e1)
  exact ⟨_,e2⟩
 ·obtain ⟨m1,e1⟩:=B1.tbls b ps e
  obtain ⟨m2,e2⟩:=un.tbls b _ e1
  exact ⟨m1++m2,by rw [e2,Array.append_assoc]⟩
def Raises (X:Cx) (E:XK):Prop:=∀ (pins:List (Addr×Obj)) (σ:St) (H:Hp) (s:Shared) (a:Addr) (cls:Value) (vs:List Value) (h':Heap),Inv X pins σ H s→Heap.MadeExcOf s.heap h' a cls vs→E cls none H→X.xe (.ref a) { s with heap:=h' }
theorem raiseE:Raises (cxOf (CXE P w base) P w K mg base N qual scope f cd A outer s₀ H₀ E) E:=by
 intro pins σ H s a cls vs h' I hx q
 show wpAny _ _ (leaving _ (.ref a)) (fun _ s''=>CXE P w base outer H₀ s₀ E (.ref a) s'') _ { s with heap:=h' }
 have hst:frs (cxOf (CXE P w base) P w K mg base N qual scope f cd A outer s₀ H₀ E).stack=s₀.heap.objs.size::frs outer:=rfl
 have nin:∀ b o,s₀.heap.get? b=some o→b ∉ frs outer→b ∉ frs (cxOf (CXE P w base) P w K mg base N qual scope f cd A outer s₀ H₀ E).stack:=fun b o e n z=>by
  rw [hst] at z
  rcases List.mem_cons.mp z with z | z
  ·exact absurd (Heap.lt_size e) (by rw [z]; exact Nat.lt_irrefl _)
  ·exact n z
 have noex:∀ b:Addr,b ∉ (cxOf (CXE P w base) P w K mg base N qual scope f cd A outer s₀ H₀ E).ex:=fun b z=>absurd (show b∈([]:List Addr) from z) (by simp)
 have inst:∀ b∈frs outer,b∈frs (cxOf (CXE P w base) P w K mg base N qual scope f cd A outer s₀ H₀ E).stack:=fun b z=>by rw [hst]; exact List.mem_cons_of_mem _ z
 generalize hfr:frs (cxOf (CXE P w base) P w K mg base N qual scope f cd A outer s₀ H₀ E).stack=fs at nin inst
 have funs:=I.stack
 have hin:∀ env∈(cxOf (CXE P w base) P w K mg base N qual scope f cd A outer s₀ H₀ E).stack,∀ b,env.frame=some b→b∈fs:=fun env he b hb=>by rw [← hfr]; exact List.mem_filterMap.mpr ⟨env,he,hb⟩
 refine leaveX_made (B:=PySem.W.hideAll s.heap fs) I.ok.frames rfl (fun b o e=>PySem.W.of_hideAll _ e) (PySem.W.funFrames_hide funs hin) hx fun h'' fl up=>?_
 have hfree:∀ b∈fs,H b=none:=fun b hb=>I.stkFree b (by rw [hfr]; exact hb)
 have B1:=I.base
 have up2:∀ b o,s.heap.get? b=some o→(∀ vs,o.data≠.fields vs)→∃ sl,h''.get? b=some { o with slots:=sl }:=fun b o e hd=>up b o (hx.keeps b o e) hd
 have fr:∀ b∈frs outer,∀ o,s.heap.get? b=some o→∀ vs,o.data≠.fields vs:=fun b hb o e=>by
  obtain ⟨_,o',ho',hd⟩:=funs.mem (show b∈List.filterMap (·.frame) (cxOf (CXE P w base) P w K mg base N qual scope f cd A outer s₀ H₀ E).stack by have:=inst b hb; rw [← hfr] at this; exact this)
  rw [ho'] at e; cases e; exact hd
 refine ⟨a,cls,none,H,PySem.W.hideAll s.heap fs,rfl,I.os,I.bare,fl,fun b o e=>?_,fun b o e=>?_,⟨fun b o e n hb=>?_,fun b o e n hb=>?_,fun b o e n=>B1.free b o e n (noex b),fun b o e hb=>?_,fun b hb=>?_,fun b xs e=>B1.tups b xs e,fun b o u e=>B1.frzs b o u e,fun b ps e=>B1.tbls b ps e⟩,?_,q⟩
 ·refine PySem.W.hideAll_get _ (I.bs b o e).1 fun z=>?_
  have:=(funs.mem (show b∈List.filterMap (·.frame) (cxOf (CXE P w base) P w K mg base N qual scope f cd A outer s₀ H₀ E).stack by rw [← hfr] at z; exact z)).1
  have e:base.get? b=some o:=e
  have this:base.get? b=none:=this
  rw [e] at this; cases this
 ·refine (I.hok b o e).stay (fun c u hc z=>PySem.W.hideAll_get _ z fun m=>?_) (fun _ z=>z) fun _ _ z=>z
  have:=hfree c m
  rcases hc with rfl | hc
  ·rw [e] at this; cases this
  ·rw [hc] at this; cases this
 ·exact PySem.W.hideAll_get _ (B1.keep b o e n hb (noex b)) (nin b o e hb)
 ·obtain ⟨sl,e1⟩:=B1.slot b o e n hb (noex b)
  obtain ⟨sl2,e2⟩:=up2 b _ e1 (fr b hb _ e1)
  exact ⟨sl2,e2⟩
 ·obtain ⟨o',e1⟩:=B1.there b o e (noex b)
  exact ⟨o',PySem.W.hideAll_get _ e1 (nin b o e hb)⟩
 ·obtain ⟨_,o,ho,hd⟩:=funs.mem (show b∈List.filterMap (·.frame) (cxOf (CXE P w base) P w K mg base N qual scope f cd A outer s₀ H₀ E).stack by have:=inst b hb; rw [← hfr] at this; exact this)
  obtain ⟨sl,e2⟩:=up2 b o ho hd
  exact ⟨_,e2⟩
 ·exact I.hok.none hx.new
end
theorem Fun.okE {x qual:Str} {st:Stmt} {f:Addr} {fd:FuncData} {N ps:List Str} {k:Nat} {sp:Sp} (F:Fun K x qual st f fd) (S:FnScope N ps (defScope st)) (len:∀ vs H Q E,sp vs H Q E→vs.length=ps.length)
  (hbody:∀ (cdv:Value) (A:Around) (outer:List Env) (s:Shared) (H:Hp) (vs:List V) (Q:VK) (E:XK),Room k (A.deeper (envOfC qual (defScope st) s.heap.objs.size f cdv))→sp vs H Q E →
   ∃ t,PSs (cxOf (CXE P w base) P w K mg base N qual (defScope st) f cdv A outer s H E) (defBody st) t∧t { nx:=fun _ H'=>Q .non H',rt:=Q } (start N vs) H):FnOk P w K mg base (CXE P w base) (k + 1) f fd ps sp:=by
 obtain ⟨oc,od,kV,doc,pm,an,cdv,ct,osl,rfl,lk,hcd⟩:=F.ex
 exact fn_of lk hcd S len fun A outer s H vs Q E hr hsp=>hbody cdv A outer s H vs Q E hr hsp
theorem passN {X:Cx}:Passes (CXE P w base) X E0:=fun _ _ _ _ _ _ _ h=>by
 obtain ⟨_,_,_,_,_,_,_,_,_,_,_,_,_,q⟩:=h
 exact q.elim
end
def tRaise (C:Addr) (E:XK) (t:TA):TS:=fun _ σ H=>t σ H fun vs H1=>vs.length≤sizeLine∧E (.ref C) none H1
theorem ps_raise {X:Cx} {E:XK} {x:Str} {C:Addr} {B Bn newId nid initId inN:String} {bm bmN:List Value} {np cpos pos:Pos} {e:Expr} {es:List Expr} {t:TA} (hR:Raises X E) (hc:X.calm=true) (hg:Gl X x) (hm:X.mg x=some (.ref C))
  (q:PySem.W.excIn X.K C bm newId=true) (Fn:ExcBaseFacts Bn newId inN bmN) (hBn:bm.contains (.type Bn)=true) (FB:ExcBaseFacts B nid initId bm) (ha:PA X (e::es) t)
  (hdb:(x == ("__debug__" : Str))=false:=by decide) (he:starEach (e::es) X.env=(false,eval e X.env)::starEach es X.env:=by rfl) (hpl:(backTo cpos (starEach es X.env)).any (·.1)=false:=by rfl) :
  PS X (.Raise (some (.Call (.Name x np) (e::es) [] cpos)) none pos) (tRaise C E t):=by
 intro pins s σ H D I h
 have O:∀ hp:Heap,X.K.In hp→∃ bm' N nm q bs hdct sn sub ab col dd k0 k1 k2 k3 k5 mN,hp.get? C=some (excClassObj nm q C N bs bm' hdct sn sub ab col dd k0 k1 k2 k3 k5 newId)∧hp.Ns N mN∧mN "__init__" = none∧OwnTail hp bm bm':=fun hp kin=>by
  have q:=q
  unfold PySem.W.excIn at q
  split at q
  ·rename_i dd cd sl ho
   split at q
   ·rename_i C' bm' k0 k1 k2 k3 n k5 hm' hs
    simp only [Bool.and_eq_true,beq_iff_eq,Bool.not_eq_true'] at q
    obtain ⟨⟨⟨⟨⟨rfl,rfl⟩,hdel⟩,ht⟩,hok⟩,hni⟩:=q
    obtain ⟨nm,bs,mro,ns,qn,hd,sn,sub,ab,col,del⟩:=cd
    dsimp only at hm' hdel hok hni
    subst hm' hdel
    have hsl:sl=#[k0,k1,k2,k3,some (.builtin n),k5]:=by
     obtain ⟨l⟩:=sl
     simp only at hs
     rw [hs]
    subst hsl
    exact ⟨bm',ns,nm,qn,bs,hd,sn,sub,ab,col,dd,k0,k1,k2,k3,k5,_,kin _ _ ho,.of_isNs (PySem.W.isNs_of_in kin hok),PySem.W.nsMap_none_of_in kin hok hni,PySem.W.tail_of_in kin ht⟩
   ·cases q
  ·cases q
 obtain ⟨tl,N,nm,qn,bs,hdct,sn,sub,ab,col,dd,k0,k1,k2,k3,k5,mN,hC,hN,hni,T⟩:=O X.base I.mod.kin
 refine wpAny_Raise_call_subU (C:=C) (nm:=nm) (q:=qn) (N:=N) (bs:=bs) (bm:=tl) (hdct:=hdct) (sn:=sn) (sub:=sub) (ab:=ab) (col:=col) (dd:=dd) (k0:=k0) (k1:=k1) (k2:=k2) (k3:=k3) (k5:=k5)
  Fn hBn FB (mN:=mN) (T.hasType FB.hasBase) (I.ok.hd hc) (by rw [he]; show (false || (backTo cpos (starEach es X.env)).any (·.1))=false; rw [hpl]; rfl) hni (ld_glob I hg hm ⟨rfl,?_⟩ hdb)
 rw [he]
 refine Calls.evalArgs_plain ?_
 have ha':=ha cpos pins s σ H _ I h
 rw [he] at ha'
 refine thn ha' fun us s2 hz_=>?_
 obtain ⟨vs,H2,I2,r2,hz,q2⟩:=hz_
 exact ⟨rfl,by rw [← r2.length]; exact hz,I2.bk _ _ hC,hN.keeps I2.bk,T.keeps I2.bk,fun h' a hx=>hR pins σ H2 s2 a _ _ h' I2 hx q2⟩
end L2
namespace L2
open PySem PySem.Spec PyProof.Rows
structure XCls (K:PySem.W.Frag) (C:Addr):Prop where
 ga:PySem.W.findIn K (.ref C) "__getattribute__" = some (some (.builtin "BaseException.__getattribute__"))
 gn:PySem.W.findIn K (.ref C) "__getattr__" = some none
 gc:PySem.W.findIn K (.ref C) "__class__" = some (some (.builtin "object.__class__"))
 sb:PySem.W.subIn K (.ref C) (.type "BaseException")=some true
 so:PySem.W.subIn K (.ref C) (.type "object")=some true
 cl:(PySem.W.clsIn K C).isSome=true
section
variable {prog:Program} {w:World} {A:Around} {E:Value→Shared→Prop} {h:Heap} {g:Array GenState} {d:Drawn} {t:Nat} {os:OsState} {a C:Addr} {o:Obj} {K:PySem.W.Frag}
theorem xc_get {R:Result→Shared→Prop} (X:K.In h) (Z:XCls K C) (hx:h.get? a=some o) (hc:o.cls=.ref C) (hq:R (.ok (.ret (.ref C))) ⟨h,g,d,t,os⟩) :
  codeAny (model prog w) A (.call (.builtin "getset_descriptor.__get__") ⟨[.builtin "object.__class__",.ref a,.ref C],[]⟩) R ⟨h,g,d,t,os⟩:=by
 have hT5:(⟨h,g,d,t,os⟩:Shared).TypeIs (.builtin "object.__class__") "getset_descriptor" := F.typeOf_object_class
 have so:PySem.W.Looks (model prog w) h (isSubtype (.ref C) (.type (".".intercalate ("object.__class__".cutAt '.').dropLast))) true:=by rw [F.owner_object_class]; exact PySem.W.looks_subIn X Z.so
 refine codeAny_call_builtin F.slot_gs_get.plain F.entry_gs_get (F.slot_gs_get.check _ _ _ _ _ _ _ _ hT5 (F.args_gs_get _ _ _) ?_)
 repeat (any_goals (first | assumption | (with_reducible refine wpAny_loadPart_at hx ?_; rw [hc]) | with_reducible refine so.at ?_ | wp_step))
 refine ⟨Code.quiet_builtin _ (by decide +kernel),codeAny_builtin F.entry_object_class ?_⟩
 repeat (any_goals (first | assumption | (with_reducible refine wpAny_loadPart_at hx ?_; rw [hc]) | wp_step))
theorem xc_entry {tk:Tok} {Q:PySem.Fin→Shared→Prop} (X:K.In h) (Z:XCls K C) (hx:h.get? a=some o) (hc:o.cls=.ref C) (hq:Q (.done (.ret (.ref C))) ⟨h,g,d,t,os⟩) :
  wpAny (model prog w) A (Builtin.«object.__getattribute__» ⟨[.ref a,.str "__class__" tk],[]⟩) Q E ⟨h,g,d,t,os⟩:=by
 have hT5:(⟨h,g,d,t,os⟩:Shared).TypeIs (.builtin "object.__class__") "getset_descriptor" := F.typeOf_object_class
 have gc:=PySem.W.looks_findIn (M:=model prog w) X Z.gc
 have f5:=F.typeOf_object_class
 have f6:=F.slot_gs_get.lookup
 have f7:=F.slot_gs_set.lookup
 repeat (any_goals (first | assumption | (with_reducible refine wpAny_loadPart_at hx ?_; rw [hc]) | with_reducible refine gc.at ?_ | wp_step))
 refine xc_get X Z hx hc ?_
 repeat (any_goals (first | assumption | wp_step))
theorem xc_check {M:Model} {nameV:Value} {Q:Unit→Shared→Prop} (X:K.In h) (Z:XCls K C) (hx:h.get? a=some o) (hc:o.cls=.ref C) (hq:Q () ⟨h,g,d,t,os⟩):wpAny M A (checkBuiltinCall "BaseException.__getattribute__" ⟨[.ref a,nameV],[]⟩) Q E ⟨h,g,d,t,os⟩:=by
 have hk:builtinKind "BaseException.__getattribute__" = some .slot:=by decide +kernel
 have hsplit:splitId "BaseException.__getattribute__" = some ("BaseException", "__getattribute__"):=by decide +kernel
 have sb:=PySem.W.looks_subIn (M:=M) X Z.sb
 have ha:=F.args_bexc_ga (.ref a) nameV
 simp only [checkBuiltinCall,hk,hsplit]
 refine wpAny_bind ?_
 ·unfold isInstance
  repeat (first | (with_reducible refine wpAny_loadPart_at hx ?_; rw [hc]) | with_reducible refine sb.at ?_ | wp_step)
  exact hq
theorem xc_by {tk:Tok} {Q:Value→Shared→Prop} (X:K.In h) (Z:XCls K C) (hx:h.get? a=some o) (hc:o.cls=.ref C) (hq:Q (.ref C) ⟨h,g,d,t,os⟩) :
  wpAny (model prog w) A (getAttrBy (.ref a) (.str "__class__" tk) false) Q E ⟨h,g,d,t,os⟩:=by
 have f3:=F.attr_ValueError.ga.bind (.ref a)
 have ga:=PySem.W.looks_findIn (M:=model prog w) X Z.ga
 have gn:=PySem.W.looks_findIn (M:=model prog w) X Z.gn
 have hx2:(Value.builtin "BaseException.__getattribute__" == Value.builtin "object.__getattribute__")=false:=by decide +kernel
 have hx1:(onTheHeap (Value.ref C)&&Value.builtin "BaseException.__getattribute__" == Value.builtin "object.__getattribute__")=false:=by rw [hx2]; rfl
 repeat (any_goals (first | assumption | (with_reducible refine wpAny_loadPart_at hx ?_; rw [hc]) | with_reducible refine ga.at ?_ | with_reducible refine gn.at ?_ | wp_step))
 refine codeAny_call_builtin F.attr_ValueError.ga.plain F.entry_bexc_ga (xc_check X Z hx hc (xc_entry X Z hx hc ?_))
 repeat (any_goals (first | assumption | wp_step))
theorem xc_attr {Q:Option Value→Shared→Prop} (X:K.In h) (Z:XCls K C) (hx:h.get? a=some o) (hc:o.cls=.ref C) (hq:Q (some (.ref C)) ⟨h,g,d,t + 1,os⟩):wpAny (model prog w) A (getAttr? (.ref a) "__class__") Q E ⟨h,g,d,t,os⟩:=by
 unfold getAttr? getAttrBy?
 repeat (any_goals (first | assumption | with_reducible apply xc_by X Z hx hc | wp_step))
end
theorem kitx_exc {K:PySem.W.Frag} {a C:Addr} (Z:XCls K C):PySem.W.KitX K (.ref a) (.ref C) (fun h=>∃ o,h.get? a=some o∧o.cls=.ref C) where
 ty:=fun M h X ⟨o,h1,h2⟩=>h2 ▸ (PySem.W.Looks.ld h1).andThen .now
 it:=fun M h X _=>by
  have z:=Z.cl
  unfold PySem.W.clsIn at z
  split at z
  ·rename_i c' d' cd' sl' ho
   intro A' Q' E' s' k q
   unfold isType loadHead
   exact wpAny_bind (wpAny_loadPart (k _ _ (X _ _ ho)) (wpAny_pure q))
  ·cases z
 ne:=fun h tp dd its n sl X htp=>by
  have z:=Z.cl
  refine Bool.eq_false_iff.mpr fun q=>?_
  have e:C=tp:=Value.ref.inj (beq_iff_eq.mp q)
  subst e
  unfold PySem.W.clsIn at z
  split at z
  ·rename_i c' d' cd' sl' ho
   have z:=(X _ _ ho).symm.trans htp
   cases z
  ·cases z
 ca:=fun {prog w A E Q s} X ⟨o,h1,h2⟩ k=>by obtain ⟨h,g,d,t,os⟩:=s; exact xc_attr X Z h1 h2 k
def excO (a C:Addr) (dx:Option Addr):HO:=.ext fun h=>∃ o vs,h.get? a=some o∧o.cls=.ref C∧o.dict=dx∧o.data=.fields vs∧vs[2]?=some .none
theorem isinst_exc {X:Cx} {pins:List (Addr×Obj)} {σ:St} {H:Hp} {s:Shared} {A:Around} {E:Value→Shared→Prop} {Q:Value→Shared→Prop} {a C:Addr} {dx:Option Addr} {c:Value} {b:Bool} (I:Inv X pins σ H s) (hx:H a=some (excO a C dx)) (Z:XCls X.K C) (e:PySem.W.kitOne X.K (.ref C) c=some b)
  (h:∀ tk,Q (.bool b) { s with toks:=tk }):wpAny (model X.prog X.w) A (call (.builtin "isinstance") [.ref a,c]) Q E s:=by
 obtain ⟨⟨o,_,p1,p2,_⟩,_,_⟩:ObjOk X.prog X.w H s.heap a (excO a C dx):=I.hok a _ hx
 exact PySem.W.kia_one (kitx_exc Z) I.kIn ⟨o,p1,p2⟩ e (fun z=>nomatch z) h
section
variable {M:Model} {A:Around} {E:Value→Shared→Prop} {s:Shared} {K:PySem.W.Frag}
theorem excMatches_kit {e C:Addr} {cls:Value} {oe:Obj} {b:Bool} {Q:Bool→Shared→Prop} (X:K.In s.heap) (Z:XCls K C) (h2:PySem.W.kitCls K cls (.ref C)=some b) (he:s.heap.get? e=some oe) (hcls:oe.cls=cls) (hq:Q b s) :
  wpAny M A (excMatches (.ref e) (.ref C)) Q E s:=by
 obtain ⟨L1,L2,L3⟩:=PySem.W.kit_cls (M:=M) X h2
 have sb:=PySem.W.looks_subIn (M:=M) X Z.sb
 obtain ⟨h,g,d,t,os⟩:=s
 have f:=tc_notTuple
 unfold excMatches
 repeat (first | (with_reducible refine wpAny_loadPart_at he ?_; rw [hcls]) | with_reducible refine L1.at ?_ | with_reducible refine L2.at ?_ | with_reducible refine L3.at ?_ | with_reducible refine sb.at ?_ | wp_step)
 cases b <;> first | exact hq | (wp_walk; exact hq)
end
end L2
namespace L2
open PySem PySem.Spec PyProof.Rows
abbrev Cx.pins (X:Cx) (pn:List (Addr×Obj)):Cx:={ X with pn:=pn }
abbrev Cx.inH (X:Cx) (ev:Value) (pn:List (Addr×Obj)):Cx:={ X with A:=X.A.mark (some ev),calm:=false,pn:=pn,xe:=fun _ _=>False }
def Arr (X:Cx) (E:XK) (e:Value) (s':Shared):Prop:=∃ pins σ H s,Inv X pins σ H s∧CXE X.prog X.w X.base X.stack H s E e s'
theorem passT {X:Cx} {E:XK}:Passes (CXE X.prog X.w X.base) (X.wish (Arr X E)) E:=fun pins σ H s _ _ I h=>⟨pins,σ,H,s,I.unwish,h⟩
section
variable {X:Cx} {pins ps:List (Addr×Obj)} {σ:St} {H:Hp} {s:Shared}
theorem Cx.Ok.pinsOk (ok:X.Ok) (pn:List (Addr×Obj)):(X.pins pn).Ok:=⟨ok.mod,ok.kind,ok.glob,ok.blt,ok.above,ok.inj,ok.has,ok.cab,ok.hd,ok.frames,ok.stk,ok.exf,ok.bs,ok.bsz,ok.noex,ok.exfs,ok.funs,ok.frf⟩
theorem Cx.Ok.ofPins {pn:List (Addr×Obj)} (ok:(X.pins pn).Ok):X.Ok:=⟨ok.mod,ok.kind,ok.glob,ok.blt,ok.above,ok.inj,ok.has,ok.cab,ok.hd,ok.frames,ok.stk,ok.exf,ok.bs,ok.bsz,ok.noex,ok.exfs,ok.funs,ok.frf⟩
theorem Inv.repin (I:Inv X pins σ H s):Inv (X.pins (X.pn++pins)) [] σ H s:=⟨I.ok.pinsOk _,I.os,I.bare,I.base,I.loc,I.cell,I.free,I.freeC,fun p hp=>I.pin p (by simpa using hp),I.hok,I.len⟩
theorem Inv.unpin (I:Inv (X.pins (X.pn++pins)) ps σ H s):Inv X pins σ H s:=⟨I.ok.ofPins,I.os,I.bare,I.base,I.loc,I.cell,I.free,I.freeC,fun p hp=>I.pin p (List.mem_append_left _ hp),I.hok,I.len⟩
theorem Inv.toH (I:Inv (X.pins (X.pn++pins)) ps σ H s) (ev:Value):Inv (X.inH ev (X.pn++pins)) [] σ H s :=
 ⟨⟨I.ok.mod,I.ok.kind,I.ok.glob,I.ok.blt,I.ok.above,I.ok.inj,I.ok.has,I.ok.cab,fun z=>(nomatch z),I.ok.frames,I.ok.stk,I.ok.exf,I.ok.bs,I.ok.bsz,I.ok.noex,I.ok.exfs,I.ok.funs,I.ok.frf⟩,
  I.os,I.bare,I.base,I.loc,I.cell,I.free,I.freeC,fun p hp=>I.pin p (List.mem_append_left _ (by simpa using hp)),I.hok,I.len⟩
theorem Inv.ofH {ev:Value} (ok:X.Ok) (I:Inv (X.inH ev (X.pn++pins)) [] σ H s):Inv X pins σ H s :=
 ⟨ok,I.os,I.bare,I.base,I.loc,I.cell,I.free,I.freeC,fun p hp=>I.pin p (List.mem_append_left _ hp),I.hok,I.len⟩
theorem Inv.forget (I:Inv X pins σ H s):Inv X pins (List.replicate X.N.length none) H s:=by
 obtain ⟨m,hn,_⟩:=I.loc
 refine ⟨I.ok,I.os,I.bare,I.base,⟨m,hn,fun i x v _ e=>?_⟩,I.cell,I.free,I.freeC,I.pin,I.hok,by simp⟩
 rw [List.getElem?_replicate] at e
 split at e <;> cases e
theorem Inv.nsTurned {h':Heap} {t':Nat} {m':Str→Option Value} {σ':St} (I:Inv X pins σ H s) (hs:Heap.SameBut X.env.locals s.heap h') (hn:h'.Ns X.env.locals m') (hl:σ'.length=X.N.length)
  (hv:∀ (i:Nat) (x:Str) (v:V),X.N[i]?=some x→σ'[i]?=some (some v)→Vis X.env.scope x→∃ u,RelV v u∧Look X.env h' m' x u):Inv X pins σ' H { s with heap:=h',toks:=t' }:=by
 have k:∀ b o,b≠X.env.locals→s.heap.get? b=some o→h'.get? b=some o:=fun b o n e=>(hs.2 b n).trans e
 have neL:∀ b o,X.s₀.heap.get? b=some o→b≠X.env.locals:=fun b o e=>Nat.ne_of_lt (Nat.lt_of_lt_of_le (Heap.lt_size e) I.ok.above)
 have B:=I.base
 refine ⟨I.ok,I.os,I.bare,⟨fun b o e n hb hx=>k _ _ (neL b o e) (B.keep b o e n hb hx),fun b o e n hb hx=>?_,fun b o e n hx=>B.free b o e n hx,fun b o e hx=>?_,B.tups,B.frzs,B.tbls⟩,⟨m',hn,hv⟩,fun x c e=>?_,I.free,I.freeC,fun p hp=>?_,fun a o e=>?_,hl⟩
 ·obtain ⟨sl,q⟩:=B.slot b o e n hb hx
  exact ⟨sl,k _ _ (neL b o e) q⟩
 ·obtain ⟨o',q⟩:=B.there b o e hx
  exact ⟨o',k _ _ (neL b o e) q⟩
 ·obtain ⟨v,o,ho,hd⟩:=I.cell x c e
  exact ⟨v,o,k _ _ (I.cne x c e) ho,hd⟩
 ·obtain ⟨e,n,ne,nf,d⟩:=I.pin p hp
  exact ⟨k _ _ ne e,n,ne,nf,d⟩
 ·refine (I.hok a o e).stay (fun b u hb q=>k b u (fun z=>?_) q) (fun _ q=>q) fun _ _ q=>q
  rcases hb with hb | hb
  ·rw [← hb,z,I.free] at e; cases e
  ·rw [z,I.free] at hb; cases hb
theorem Inv.track {a:Addr} {o:HO} (I:Inv X pins σ H s) (hn:H a=none) (h0:∀ o,X.s₀.heap.get? a=some o→a∈X.ex) (hL:a≠X.env.locals) (hc:∀ x c,X.env.cells.lookup x=some c→c≠a) (hp:∀ p∈X.pn++pins,p.1≠a) (ok:ObjOk X.prog X.w (upd H a o) s.heap a o):Inv X pins σ (upd H a o) s:=by
 have B:=I.base
 refine ⟨I.ok,I.os,I.bare,⟨B.keep,B.slot,fun b u e n hx=>?_,B.there,fun b xs e=>?_,fun b u v e=>?_,fun b ps e=>?_⟩,I.loc,I.cell,?_,fun x c e=>?_,fun p hq=>?_,fun b u e=>?_,I.len⟩
 ·rw [upd_ne (fun z=>by subst z; exact hx (h0 u e))]; exact B.free b u e n hx
 ·have:=B.tups b xs e
  rw [upd_ne (ne_of_none this hn)]; exact this
 ·have:=B.frzs b u v e
  rw [upd_ne (ne_of_none this hn)]; exact this
 ·obtain ⟨m,this⟩:=B.tbls b ps e
  exact ⟨m,by rw [upd_ne (ne_of_none this hn)]; exact this⟩
 ·rw [upd_ne hL.symm]; exact I.free
 ·rw [upd_ne (hc x c e)]; exact I.freeC x c e
 ·obtain ⟨e,n,r⟩:=I.pin p hq
  exact ⟨e,by rw [upd_ne (hp p hq)]; exact n,r⟩
 ·by_cases hb:b=a
  ·subst hb; rw [upd_same] at e; cases e; exact ok
  ·rw [upd_ne hb] at e
   exact (I.hok b u e).stay (fun _ _ _ q=>q) (fun c q=>by rw [upd_ne (ne_of_none q hn)]; exact q) fun c xs q=>by rw [upd_ne (ne_of_none q hn)]; exact q
end
theorem Inv.laidAt {X:Cx} {pins:List (Addr×Obj)} {σ:St} {H:Hp} {s:Shared} {h':Heap} {t':Nat} {a:Addr} {o:HO} (I:Inv X pins σ H s) (k:∀ b u,s.heap.get? b=some u→h'.get? b=some u) (hn:s.heap.get? a=none) (ok:ObjOk X.prog X.w (upd H a o) h' a o) :
  Inv X pins σ (upd H a o) { s with heap:=h',toks:=t' }:=by
 refine (I.kept (t':=t') k).track (I.hok.none hn) (fun u e=>Classical.byContradiction fun z=>?_) (fun z=>?_) (fun x c e z=>?_) (fun p hp z=>?_) ok
 ·obtain ⟨u',q⟩:=I.base.there a u e z
  rw [hn] at q; cases q
 ·obtain ⟨m,⟨u,es,ep,hu,_⟩,_⟩:=I.loc
  rw [← z,hn] at hu; cases hu
 ·obtain ⟨v,u,hu,_⟩:=I.cell x c e
  rw [z,hn] at hu; cases hu
 ·have hu:=(I.pin p hp).1
  rw [z,hn] at hu; cases hu
theorem UnB.moved {fs:List Addr} {H H':Hp} {h B h' h'':Heap} (u:UnB fs H H' h B h') (up:h'.UpToSlots h'') (nf:∀ b∈fs,∀ o,h'.get? b=some o→∀ vs,o.data≠.fields vs):UnB fs H H' h B h'' :=
 ⟨u.keep,fun b o e n hb=>by
  obtain ⟨sl,q⟩:=u.slot b o e n hb
  obtain ⟨sl',q'⟩:=up b _ q (nf b hb _ q)
  exact ⟨sl',q'⟩,u.free,u.there,fun b hb=>by
  obtain ⟨o,q⟩:=u.tfs b hb
  obtain ⟨sl',q'⟩:=up b _ q (nf b hb _ q)
  exact ⟨_,q'⟩,u.tups,u.frzs,u.tbls⟩
theorem unbound {X:Cx} {pins:List (Addr×Obj)} {σ:St} {H:Hp} {s:Shared} {i:Nat} {n:Str} {pos:Pos} {E:Value→Shared→Prop} {Q:Unit→Shared→Prop} (I:Inv X pins σ H s) (hN:X.N.Nodup) (hi:X.N[i]?=some n) (hl:X.env.scope.names.lookup n=some .local)
  (k:∀ s',Inv X pins (σ.set i none) H s'→Q () s'):wpAny (model X.prog X.w) X.A (do bindName X.env n .none; unbindBehindTheSuite X.env n pos) Q E s:=by
 refine wpAny_bind ?_
 unfold bindName
 refine wpAny_bind (wpAny_holding (wpAny_point (wpAny_bind ?_)))
 refine store_ok I hN hi (.inl hl) (v:=.non) rfl (fun s1 I1=>wpAny_point ?_) (.inr hl)
 unfold unbindBehindTheSuite
 refine wpAny_onRaise ?_
 obtain ⟨m,hn,hv⟩:=I1.loc
 have hlt:i < σ.length:=by rw [I.len]; exact (List.getElem?_eq_some_iff.mp hi).1
 obtain ⟨u,ru,lk⟩:=hv i n .non hi (by simp [hlt]) (.inl hl)
 have hm:m n=some u:=by
  rcases lk with ⟨_,q⟩ | ⟨q,_⟩
  ·exact q
  ·have hl':X.env.kindOf n=some .local:=hl
   rw [hl'] at q
   rcases q with q | q <;> cases q
 refine wpAny_unbindName_local hl hn hm (by rw [I.ok.kind]; rfl) fun h' u' hn' hs'=>k _ ?_
 refine I1.nsTurned (t':=s1.toks) hs' hn' (by rw [List.length_set]; exact I.len) fun j x v e1 e2 e3=>?_
 have hji:j≠i:=fun z=>by subst z; rw [List.getElem?_set_self hlt] at e2; cases e2
 have hxn:x≠n:=fun z=>by
  subst z
  have a1:=(List.getElem?_eq_some_iff.mp e1)
  have a2:=(List.getElem?_eq_some_iff.mp hi)
  obtain ⟨l1,g1⟩:=a1
  obtain ⟨l2,g2⟩:=a2
  exact hji ((List.getElem_inj hN).mp (g1.trans g2.symm))
 obtain ⟨u2,r2,l2⟩:=hv j x v e1 (by rw [List.getElem?_set_ne (Ne.symm hji)] at e2 ⊢; exact e2) e3
 refine ⟨u2,r2,?_⟩
 rcases l2 with ⟨a,b⟩ | ⟨a,c,b,o,ho,hd⟩
 ·exact .inl ⟨a,by simp only [hxn,if_false]; exact b⟩
 ·exact .inr ⟨a,c,b,o,(hs'.2 c (I1.cne x c b)).trans ho,hd⟩
def tTry (K:PySem.W.Frag) (C:Addr) (n i:Nat) (tb:TS) (th:Addr→TS) (E:XK):TS:=fun D σ H=>tb D σ H∧∀ cls dx H',E cls dx H'→∃ C2,cls=.ref C2∧PySem.W.kitCls K (.ref C2) (.ref C)=some true ∧
 ∀ a,H' a=none→th a { nx:=fun σ' H''=>D.nx (σ'.set i none) H'',rt:=D.rt,bk:=fun σ' H''=>D.bk (σ'.set i none) H'',ct:=fun σ' H''=>D.ct (σ'.set i none) H'' } ((List.replicate n none).set i (some (.ref a))) (upd H' a (excO a C2 dx))
theorem ps_try {X:Cx} {body:List Stmt} {x n:Str} {np hpos pos:Pos} {b₀:Stmt} {suite:List Stmt} {tb:TS} {th:Addr→TS} {C:Addr} {i:Nat} (E:XK) (hst:X.stack=X.env::X.outer) (hfe:X.env.frame=some X.env.locals) (hex:X.ex=[])
  (hN:X.N.Nodup) (hi:X.N[i]?=some n) (hl:X.env.scope.names.lookup n=some .local) (hg:Gl X x) (hm:X.mg x=some (.ref C)) (Z:XCls X.K C)
  (hb:∀ pn,PSs ((X.pins pn).wish (Arr (X.pins pn) E)) body tb) (hh:∀ (a:Addr) pn,PSs (X.inH (.ref a) pn) (b₀::suite) (th a)) (hdb:(x == ("__debug__" : Str))=false:=by decide) :
  PS X (.Try body [.ExceptHandler (some (.Name x np)) (some n) (b₀::suite) hpos] [] [] pos) (tTry X.K C X.N.length i tb th E):=by
 intro pins s σ H D I ⟨h1,h2⟩
 refine wpAny_Try_except ?_
 refine wpAny_mono (hb (X.pn++pins) [] s σ H D (I.repin.wish _) h1) (fun f s1 q=>?_) (fun e s1 q=>?_)
 ·cases f with
  | next=>obtain ⟨σ',H',I',q⟩:=q; exact wpAny_execs_nil ⟨σ',H',I'.unwish.unpin,q⟩
  | brk=>obtain ⟨σ',H',I',q⟩:=q; exact ⟨σ',H',I'.unwish.unpin,q⟩
  | cont=>obtain ⟨σ',H',I',q⟩:=q; exact ⟨σ',H',I'.unwish.unpin,q⟩
  | ret v=>obtain ⟨u,σ',H',I',r,q⟩:=q; exact ⟨u,σ',H',I'.unwish.unpin,r,q⟩
 ·obtain ⟨pins2,σ2,H2,s2,I2,a,cls,dx,H3,B,rfl,hos,hbare,fl,sb,hok,un,ha,hE⟩:=q
  obtain ⟨C2,rfl,hk,hth⟩:=h2 cls dx H3 hE
  have fr:X.A.frames=some (X.env::X.outer):=by rw [← hst]; exact I.ok.frames
  have hst':(X.pins (X.pn++pins)).stack=X.env::X.outer:=hst
  rw [hst'] at fl un
  have nf:∀ {h:Heap} {fv:Value},FlyX B (X.env::X.outer) a (.ref C2) dx fv h→∀ b∈frs (X.env::X.outer),∀ o,h.get? b=some o→∀ vs,o.data≠.fields vs:=fun f b hb o e=>by
   obtain ⟨_,o',ho',hd⟩:=f.2.2.1.mem hb
   rw [ho'] at e; cases e; exact hd
  have new:s2.heap.get? a=none:=by
   cases q:s2.heap.get? a with
   | none=>rfl
   | some o =>
    exfalso
    obtain ⟨ob,vs,g1,_,_,g3,_⟩:=fl.rec
    by_cases hf:a∈frs (X.env::X.outer)
    ·exact nf fl a hf ob g1 vs g3
    ·obtain ⟨o',q'⟩:=un.there a o q hf
     rw [fl.2.1] at q'; cases q'
  refine noteX fr hfe fl fun h4 f4 u4=>?_
  refine landX (s:={ s1 with heap:=h4 }) f4 fun h5 f5 u5=>?_
  have un5:=(un.moved u4 (nf fl)).moved u5 (nf f4)
  have I5:Inv (X.pins (X.pn++pins)) pins2 σ2 H3 { s1 with heap:=h5 }:=I2.call' (s':={ s1 with heap:=h5 }) (ch:=[]) hos (by rw [hst']; exact un5.un f5.1) (hok.kept f5.1) hbare (fun b z=>absurd z (by simp))
  have J5:=I5.forget.toH (.ref a)
  obtain ⟨ob5,g5,c5⟩:=f5.at
  refine wpAny_handleBy_cons (codeAny_handlers_test ?_) (by intro q; cases q)
  refine ld_glob J5 hg hm ?_ hdb
  refine excMatches_kit J5.kIn Z hk g5 c5 ?_
  refine codeAny_handlers_suite_as ?_
  refine landX (s:={ s1 with heap:=h5 }) f5 fun h6 f6 u6=>?_
  have un6:=un5.moved u6 (nf f5)
  have I6:Inv (X.pins (X.pn++pins)) pins2 σ2 H3 { s1 with heap:=h6 }:=I2.call' (s':={ s1 with heap:=h6 }) (ch:=[]) hos (by rw [hst']; exact un6.un f6.1) (hok.kept f6.1) hbare (fun b z=>absurd z (by simp))
  have J6:=I6.forget.toH (.ref a)
  obtain ⟨ob6,vs6,g6,c6,x6,d6,z6⟩:=f6.rec
  have J7:Inv (X.inH (.ref a) (X.pn++pins)) [] (List.replicate X.N.length none) (upd H3 a (excO a C2 dx)) { s1 with heap:=h6 }:=by
   refine J6.track ha ?_ ?_ (fun y c e z=>?_) (fun p hp z=>?_) ⟨⟨ob6,vs6,g6,c6,x6,d6,z6⟩,⟨ob6,g6⟩,fun k1 k2 ⟨o,vs,q1,q2⟩ st=>⟨o,vs,st _ q1,q2⟩⟩
   ·intro o q
    obtain ⟨o',q'⟩:=I2.base.there a o q (by show a ∉ X.ex; rw [hex]; simp)
    rw [new] at q'; cases q'
   ·intro z
    obtain ⟨m,⟨o,es,ep,ho,_⟩,_⟩:=I2.loc
    have ho:s2.heap.get? X.env.locals=some o:=ho
    rw [← z,new] at ho; cases ho
   ·obtain ⟨v,o,ho,_⟩:=I2.cell y c e
    rw [z,new] at ho; cases ho
   ·have ho:=(I2.pin p (List.mem_append_left _ (by simpa using hp))).1
    rw [z,new] at ho; cases ho
  refine store_ok (X:=X.inH (.ref a) (X.pn++pins)) J7 hN hi (.inl hl) (v:=.ref a) rfl (fun s7 I8=>?_) (.inr hl)
  refine wpAny_mono (hh a (X.pn++pins) [] s7 _ _ _ I8 (hth a ha)) (fun f s8 q=>?_) (fun _ _ z=>z.elim)
  cases f with
  | next=>obtain ⟨σ',H',I',q⟩:=q; exact unbound (I'.ofH I.ok) hN hi hl fun s9 I9=>⟨_,_,I9,q⟩
  | brk=>obtain ⟨σ',H',I',q⟩:=q; exact unbound (I'.ofH I.ok) hN hi hl fun s9 I9=>⟨_,_,I9,q⟩
  | cont=>obtain ⟨σ',H',I',q⟩:=q; exact unbound (I'.ofH I.ok) hN hi hl fun s9 I9=>⟨_,_,I9,q⟩
  | ret v=>obtain ⟨u,σ',H',I',r,q⟩:=q; exact unbound (I'.ofH I.ok) hN hi hl fun s9 I9=>⟨u,_,_,I9,r,q⟩
end L2
namespace L2
open PySem PySem.Spec PyProof.Rows
section
variable {prog:Program} {w:World} {A:Around} {E:Value→Shared→Prop} {s:Shared}
end
section
variable {X:Cx}
theorem call_isinstX:CallR X (.builtin "isinstance") (fun xs H Q=>∃ a C dx C' b,xs=[.ref a,.ref C']∧H a=some (excO a C dx)∧XCls X.K C∧PySem.W.kitOne X.K (.ref C) (.ref C')=some b∧Q (.bl b) H):=by
 intro pins s σ H xs us Q I r h
 obtain ⟨a,C,dx,C',b,rfl,ha,Z,e,q⟩:=h
 obtain ⟨u,c,rfl,ru,rc⟩:=vals2 r
 cases ru; cases rc
 exact isinst_exc I ha Z e fun tk=>⟨.bl b,H,I.tok _,rfl,q⟩
theorem call_isinstXT:CallR X (.builtin "isinstance") (fun xs H Q=>∃ a C dx n b,xs=[.ref a,.ty n]∧H a=some (excO a C dx)∧XCls X.K C∧PySem.W.kitOne X.K (.ref C) (.type n)=some b∧Q (.bl b) H):=by
 intro pins s σ H xs us Q I r h
 obtain ⟨a,C,dx,n,b,rfl,ha,Z,e,q⟩:=h
 obtain ⟨u,c,rfl,ru,rc⟩:=vals2 r
 cases ru; cases rc
 exact isinst_exc I ha Z e fun tk=>⟨.bl b,H,I.tok _,rfl,q⟩
theorem call_isinstXK {K:PySem.W.Frag} (h:X.K=K):CallR X (.builtin "isinstance") (fun xs H Q=>∃ a C dx C' b,xs=[.ref a,.ref C']∧H a=some (excO a C dx)∧XCls K C∧PySem.W.kitOne K (.ref C) (.ref C')=some b∧Q (.bl b) H):=by subst h; exact call_isinstX
theorem call_isinstXTK {K:PySem.W.Frag} (h:X.K=K):CallR X (.builtin "isinstance") (fun xs H Q=>∃ a C dx n b,xs=[.ref a,.ty n]∧H a=some (excO a C dx)∧XCls K C∧PySem.W.kitOne K (.ref C) (.type n)=some b∧Q (.bl b) H):=by subst h; exact call_isinstXT
end
theorem kitOne_same (K:PySem.W.Frag) (v:Addr):PySem.W.kitOne K (.ref v) (.ref v)=some true:=by unfold PySem.W.kitOne; rw [if_pos (by simp)]
theorem kitOne_ne {K:PySem.W.Frag} {t c:Value} {b:Bool} (h:(t == c)=false) (e:PySem.W.kitCls K t c=some b):PySem.W.kitOne K t c=some b:=by unfold PySem.W.kitOne; rw [if_neg (by rw [h]; decide)]; exact e
end L2
namespace L2
open PySem PySem.Spec PyProof.Rows PySem.Builtin PySem.Builtin.ObjectAttr
section
variable {prog:Program} {w:World} {A:Around} {R:Result→Shared→Prop} {s:Shared} {K:PySem.W.Frag} {x C:Addr} {ox:Obj} {vs:Array Value} {name:Str} {tk:Tok} {v:Value}
end
section
variable {X:Cx} {pins:List (Addr×Obj)} {σ:St} {H:Hp} {s:Shared} {a C:Addr} {f:Str} {A:Around} {E:Value→Shared→Prop}
end
section
variable {X:Cx} {o e value:Expr} {f:Str} {pos pos' tpos:Pos} {ta tv:TE}
end
section
variable {prog:Program} {w:World} {A:Around} {E:Value→Shared→Prop} {h:Heap} {g:Array GenState} {d:Drawn} {t:Nat} {os:OsState} {a C:Addr} {o od:Obj} {K:PySem.W.Frag} {name:Str} {v:Value}
end
section
variable {prog:Program} {w:World} {A:Around} {E:Value→Shared→Prop} {h:Heap} {g:Array GenState} {d:Drawn} {t:Nat} {os:OsState}
variable {nm q:Str} {C N:Addr} {bs bm bmB:List Value} {hdct:Bool} {sn:List Str} {sub:List Value} {ab:Bool} {col:Option Bool} {dd:Option Addr} {k0 k1 k2 k3 k5:Option Value} {B Bn newId nid initId inN:String} {bmN:List Value}
end
section
variable {prog:Program} {w:World} {A:Around} {E:Value→Shared→Prop} {s:Shared} {env:Env}
variable {nm q:Str} {C N:Addr} {bs bm bmB:List Value} {hdct:Bool} {sn:List Str} {sub:List Value} {ab:Bool} {col:Option Bool} {dd:Option Addr} {k0 k1 k2 k3 k5:Option Value} {B Bn newId nid initId inN:String} {bmN:List Value}
end
end L2
namespace L2
open PySem PySem.Spec PyProof.Rows
def del (H:Hp) (a:Addr):Hp:=fun b=>if b=a then none else H b
section
variable {P:Program} {w:World} {K:PySem.W.Frag} {mg:Str→Option Value} {base:Heap}
variable {N:List Str} {qual:Str} {scope:Scope} {f:Addr} {cd:Value} {A:Around} {outer:List Env} {s₀:Shared} {H₀:Hp} {E:XK}
end
end L2
namespace L2
open PySem PySem.Spec PyProof.Rows
section
variable {prog:Program} {w:World} {A:Around} {E:Value→Shared→Prop} {s:Shared} {T:String} {r d:Addr} {n:Nat} {P:Nat→Value→Prop} {OK:Heap→Prop} {ns:List Int} {Q:Value→Shared→Prop}
end
section
variable {X:Cx}
end
end L2
namespace L2
open PySem PySem.Spec PyProof.Rows
section
variable {X:Cx} {tg:Expr}
end
section
variable {X:Cx}
end
end L2
namespace L2
open PySem PySem.Spec PyProof.Rows
section
variable {X:Cx}
end
end L2
namespace WR
open PySem
end WR
namespace WR
open PySem PySem.NumText
end WR
namespace L2
open PySem PySem.Spec PyProof.Rows
theorem star_const (v:PySem.Const) (j:Nat) (p:Pos) (es:List Expr) (env:Env):starEach (.Constant v j p::es) env=(false,eval (.Constant v j p) env)::starEach es env:=by rfl
theorem star_bin (a:Expr) (o:Operator) (b:Expr) (p:Pos) (es:List Expr) (env:Env):starEach (.BinOp a o b p::es) env=(false,eval (.BinOp a o b p) env)::starEach es env:=by rfl
section
variable {X:Cx} {es:List Expr} {te:TE} {t:TA}
theorem pa_consC {v:PySem.Const} {j:Nat} {p:Pos} (ha:PE X (.Constant v j p) te) (hr:PA X es t):PA X (.Constant v j p::es) (tCons te t):=pa_cons ha hr (star_const v j p es X.env)
theorem pa_consB {a b:Expr} {o:Operator} {p:Pos} (ha:PE X (.BinOp a o b p) te) (hr:PA X es t):PA X (.BinOp a o b p::es) (tCons te t):=pa_cons ha hr (star_bin a o b p es X.env)
end
end L2
namespace L2
open PySem PySem.Spec PyProof.Rows
structure XE (X:Cx) (e:Expr) (t:TE):Prop where
 out:PE X e t
structure XA (X:Cx) (es:List Expr) (t:TA):Prop where
 out:PA X es t
structure XS (X:Cx) (st:Stmt) (t:TS):Prop where
 out:PS X st t
structure XSs (X:Cx) (sts:List Stmt) (t:TS):Prop where
 out:PSs X sts t
section
variable {X:Cx} {e a b:Expr} {es:List Expr} {te ta tb:TE} {tl:TA} {st:Stmt} {sts:List Stmt} {t u:TS} {pos pos':Pos}
theorem xss_cons (h1:XS X st t) (h2:XSs X sts u):XSs X (st::sts) (tSeq t u):=⟨pss_cons h1.out h2.out⟩
theorem xss_one (h1:XS X st t):XSs X [st] t:=⟨pss_one h1.out⟩
theorem xs_set {i:Nat} {x:Str} (hN:X.N.Nodup) (hi:X.N[i]?=some x) (hx:Loc X.env.scope x) (he:XE X e te) (hs:swapsWith e (some (.Name x pos')) pos.line X.env=pure false:=by rfl) (hf:X.fn x=true∨X.env.scope.names.lookup x=some .local:=by first | exact .inl rfl | exact .inr rfl | assumption) :
  XS X (.Assign [.Name x pos'] e pos) (tAsg te (gName i)):=⟨ps_set hN hi hx he.out hs hf⟩
theorem xe_lst (h:XA X es tl):XE X (.List es pos) (tLst tl):=⟨pe_lst h.out⟩
theorem xa_nil:XA X [] tNil:=⟨pa_nil⟩
theorem xa_consC {v:PySem.Const} {j:Nat} {p:Pos} (ha:XE X (.Constant v j p) te) (hr:XA X es tl):XA X (.Constant v j p::es) (tCons te tl):=⟨pa_consC ha.out hr.out⟩
theorem xa_consB {o:Operator} {p:Pos} (ha:XE X (.BinOp a o b p) te) (hr:XA X es tl):XA X (.BinOp a o b p::es) (tCons te tl):=⟨pa_consB ha.out hr.out⟩
theorem xe_str {x:Str} {j:Nat}:XE X (.Constant (.str x) j pos) (tC (.str x)):=⟨pe_str⟩
theorem xe_int {i:Int} {j:Nat}:XE X (.Constant (.int i) j pos) (tC (.int i)):=⟨pe_int⟩
theorem xe_op {op:Operator} {r:R2} (ho:OpR X (binaryOp op) r) (ha:XE X a ta) (hb:XE X b tb):XE X (.BinOp a op b pos) (tOp r ta tb):=⟨pe_op ho ha.out hb.out⟩
theorem xv (i:Nat) {x:Str} (hN:X.N[i]?=some x:=by rfl) (hv:Vis X.env.scope x:=by first | exact Or.inl rfl | exact Or.inr (Or.inl rfl) | exact Or.inr (Or.inr rfl)) (hd:(x == ("__debug__" : Str))=false:=by decide)
  (hcd:(x == ("__classdict__" : Str))=false:=by decide):XE X (.Name x pos) (tVar i):=⟨pe_var hN hv hd hcd⟩
end
theorem Fun.okX {P:Program} {w:World} {K:PySem.W.Frag} {mg:Str→Option Value} {base:Heap} {x qual:Str} {st:Stmt} {f:Addr} {fd:FuncData} {N ps:List Str} {k:Nat} {sp:Sp} (F:Fun K x qual st f fd) (S:FnScope N ps (defScope st)) (len:∀ vs H Q E,sp vs H Q E→vs.length=ps.length)
  (hbody:∀ (cdv:Value) (A:Around) (outer:List Env) (s:Shared) (H:Hp) (vs:List V) (Q:VK) (E:XK),Room k (A.deeper (envOfC qual (defScope st) s.heap.objs.size f cdv))→sp vs H Q E →
   ∃ t,XSs (cxOf CX0 P w K mg base N qual (defScope st) f cdv A outer s H E).nox (defBody st) t∧t { nx:=fun _ H'=>Q .non H',rt:=Q } (start N vs) H):FnOk P w K mg base CX0 (k + 1) f fd ps sp :=
 F.ok S len fun cdv A outer s H vs Q E hr h=>let ⟨t,h1,h2⟩:=hbody cdv A outer s H vs Q E hr h; ⟨t,h1.out,h2⟩
end L2
namespace L2
open PySem
def Rise (l:List Nat):Prop:=l.Pairwise (· < ·)
theorem Rise.get {l:List Nat} (h:Rise l) {i j:Nat} (hi:i < l.length) (hj:j < l.length) (hij:i < j):l[i] < l[j]:=List.pairwise_iff_getElem.mp h i j hi hj hij
theorem below_go (xs:Array Nat) (j:Nat) (h:Rise xs.toList):∀ (fuel lo hi:Nat),lo≤hi→hi≤xs.size→hi - lo≤fuel→(∀ i (q:i < xs.size),i < lo→xs[i] < j)→(∀ i (q:i < xs.size),hi≤i→j≤xs[i]) →
  lo≤SetTable.below.go xs j fuel lo hi∧SetTable.below.go xs j fuel lo hi≤hi∧(∀ i (q:i < xs.size),i < SetTable.below.go xs j fuel lo hi→xs[i] < j)∧(∀ i (q:i < xs.size),SetTable.below.go xs j fuel lo hi≤i→j≤xs[i]):=by
 intro fuel
 induction fuel with
 | zero =>
  intro lo hi h1 h2 h3 h4 h5
  have:lo=hi:=by omega
  subst this
  exact ⟨Nat.le_refl _,Nat.le_refl _,h4,h5⟩
 | succ fuel ih =>
  intro lo hi h1 h2 h3 h4 h5
  have up:∀ a b (qa:a < xs.size) (qb:b < xs.size),a < b→xs[a] < xs[b]:=fun a b qa qb hab=>by
   have:=h.get (i:=a) (j:=b) (by simpa using qa) (by simpa using qb) hab
   simpa using this
  unfold SetTable.below.go
  by_cases c:lo < hi
  ·rw [if_pos c]
   have hm:(lo + hi) / 2 < xs.size:=by omega
   have ed:xs.getD ((lo + hi) / 2) j=xs[(lo + hi) / 2]:=by simp [Array.getD,hm]
   simp only [ed]
   by_cases d:xs[(lo + hi) / 2] < j
   ·rw [if_pos d]
    have:=ih ((lo + hi) / 2 + 1) hi (by omega) h2 (by omega) (fun i q hi'=>by
     by_cases e:i=(lo + hi) / 2
     ·subst e; exact d
     ·exact Nat.lt_trans (up i _ q hm (by omega)) d) h5
    exact ⟨by omega,this.2⟩
   ·rw [if_neg d]
    have:=ih lo ((lo + hi) / 2) (by omega) (by omega) (by omega) h4 (fun i q hi'=>by
     by_cases e:i=(lo + hi) / 2
     ·subst e; omega
     ·have:=up _ i hm q (by omega); omega)
    exact ⟨this.1,by omega,this.2.2⟩
  ·rw [if_neg c]
   have:lo=hi:=by omega
   subst this
   exact ⟨Nat.le_refl _,Nat.le_refl _,h4,h5⟩
theorem below_is {xs:Array Nat} (h:Rise xs.toList) (j:Nat):SetTable.below xs j≤xs.size∧(∀ i (q:i < xs.size),i < SetTable.below xs j→xs[i] < j)∧(∀ i (q:i < xs.size),SetTable.below xs j≤i→j≤xs[i]):=by
 have:=below_go xs j h xs.size 0 xs.size (Nat.zero_le _) (Nat.le_refl _) (by omega) (fun i _ z=>absurd z (Nat.not_lt_zero _)) (fun i q z=>absurd q (by omega))
 exact ⟨this.2.1,this.2.2⟩
theorem below_first {xs:Array Nat} (h:Rise xs.toList):SetTable.below xs 0=0:=by
 obtain ⟨h1,h2,_⟩:=below_is h 0
 refine Decidable.byContradiction fun n=>?_
 have:=h2 0 (by omega) (by omega)
 omega
theorem below_next {xs:Array Nat} (h:Rise xs.toList) {i:Nat} (q:i < xs.size):SetTable.below xs (xs[i] + 1)=i + 1:=by
 obtain ⟨h1,h2,h3⟩:=below_is h (xs[i] + 1)
 have up:∀ a b (qa:a < xs.size) (qb:b < xs.size),a < b→xs[a] < xs[b]:=fun a b qa qb hab=>by
  have:=h.get (i:=a) (j:=b) (by simpa using qa) (by simpa using qb) hab
  simpa using this
 have a:¬ SetTable.below xs (xs[i] + 1)≤i:=fun z=>by have:=h3 i q z; omega
 have b:¬ i + 1 < SetTable.below xs (xs[i] + 1):=fun z=>by
  have:=h2 (i + 1) (by omega) z
  have:=up i (i + 1) q (by omega) (by omega)
  omega
 omega
theorem put_rise {xs:Array Nat} (h:Rise xs.toList) {j:Nat} (hn:xs[SetTable.below xs j]?≠some j):Rise (SetTable.insertAt xs (SetTable.below xs j) j).toList:=by
 obtain ⟨h1,h2,h3⟩:=below_is h j
 unfold Rise
 rw [SetTable.toList_insertAt,List.pairwise_append]
 refine ⟨h.sublist (List.take_sublist _ _),?_,?_⟩
 ·rw [List.pairwise_cons]
  refine ⟨fun y hy=>?_,h.sublist (List.drop_sublist _ _)⟩
  obtain ⟨i,hi,e⟩:=List.mem_iff_getElem.mp hy
  rw [List.getElem_drop] at e
  rw [List.length_drop] at hi
  have q:SetTable.below xs j + i < xs.size:=by simp at hi; omega
  have lo:=h3 _ q (Nat.le_add_right _ _)
  have e':xs[SetTable.below xs j + i]=y:=by rw [← e]; simp
  rw [e'] at lo
  refine Nat.lt_of_le_of_ne lo fun z=>?_
  cases i with
  | zero =>
   apply hn
   simp only [Nat.add_zero] at q e'
   rw [Array.getElem?_eq_getElem q,e',z]
  | succ i =>
   have q0:SetTable.below xs j < xs.size:=by omega
   have l0:=h3 _ q0 (Nat.le_refl _)
   have:=h.get (i:=SetTable.below xs j) (j:=SetTable.below xs j + (i + 1)) (by simpa using q0) (by simpa using q) (by omega)
   simp only [Array.getElem_toList] at this
   rw [e'] at this
   omega
 ·intro x hx y hy
  obtain ⟨i,hi,e⟩:=List.mem_iff_getElem.mp hx
  rw [List.getElem_take] at e
  rw [List.length_take] at hi
  have q:i < xs.size:=by simp at hi; omega
  have lx:x < j:=by
   have:=h2 i q (by omega)
   rw [← e]; simpa using this
  rcases List.mem_cons.mp hy with rfl | hy
  ·exact lx
  ·obtain ⟨k,hk,e2⟩:=List.mem_iff_getElem.mp hy
   rw [List.getElem_drop] at e2
   rw [List.length_drop] at hk
   have q2:SetTable.below xs j + k < xs.size:=by simp at hk; omega
   have:=h3 _ q2 (Nat.le_add_right _ _)
   have e':xs[SetTable.below xs j + k]=y:=by rw [← e2]; simp
   omega
theorem live_rise {β:Type} (f:Nat→Option β):∀ {l:List Nat},l.Pairwise (· < ·)→((l.filterMap fun j=>(f j).map (j,·)).map (·.1)).Pairwise (· < ·)
 | [],_=>.nil
 | a::l,h=>by
  have h:=List.pairwise_cons.mp h
  have ih:=live_rise f h.2
  rw [List.filterMap_cons]
  cases q:f a with
  | none=>simpa using ih
  | some b =>
   simp only [Option.map_some,List.map_cons]
   refine List.pairwise_cons.mpr ⟨fun y hy=>?_,ih⟩
   obtain ⟨p,hp,rfl⟩:=List.mem_map.mp hy
   obtain ⟨c,hc,e⟩:=List.mem_filterMap.mp hp
   cases w:f c with
   | none=>rw [w] at e; cases e
   | some d=>rw [w] at e; cases e; exact h.1 c hc
structure Tb (b:Bool) (t:SetTable):Prop where
 led:t.led=b
 rise:Rise t.place.toList
 none:t.dummies=#[]
theorem Tb.fresh (b:Bool):Tb b (.fresh 0 0 b):=⟨rfl,List.Pairwise.nil,rfl⟩
theorem Tb.standIn {b:Bool} {t:SetTable} (h:Tb b t) (n:Nat):Tb b (t.standIn n):=⟨h.led,by show Rise (Array.range n).toList; rw [Array.toList_range]; exact List.pairwise_lt_range,rfl⟩
theorem Tb.slot {b:Bool} {t:SetTable} (h:Tb b t) (j:Nat):t.slot j=.empty∨∃ i,t.slot j=.live i:=by
 unfold SetTable.slot
 simp only
 by_cases c:(t.place[SetTable.below t.place j]? == some j)=true
 ·rw [if_pos c]; exact .inr ⟨_,rfl⟩
 ·rw [if_neg c]
  have:SetTable.has t.dummies j=false:=by rw [h.none]; rfl
  rw [this]
  exact .inl rfl
theorem Tb.probe {b:Bool} {t:SetTable} (h:Tb b t) (f:Nat→Int) (k:Int):∀ (fuel:Nat) (p:SetTable.Probe) (j:Nat) (d:Option Nat),p.dummy=Option.none→SetTable.probe.go t f k fuel p=some (.empty j d)→d=Option.none∧t.slot j=.empty:=by
 intro fuel
 induction fuel with
 | zero=>intro p j d _ e; cases e
 | succ fuel ih =>
  intro p j d hp e
  have adv:(t.advance p).dummy=Option.none:=by
   unfold SetTable.advance
   split
   ·exact hp
   ·exact hp
  unfold SetTable.probe.go at e
  rcases h.slot p.j with q | ⟨i,q⟩
  ·rw [q] at e
   have e:=Option.some.inj e
   injection e with e1 e2
   subst e1
   exact ⟨e2 ▸ hp,q⟩
  ·rw [q] at e
   simp only at e
   split at e
   ·cases e
   ·exact ih _ _ _ adv e
theorem Tb.layNew {b:Bool} {t:SetTable} (h:Tb b t) (es:Array (Int×Value)) (k:Int) (x:Value):Tb b (layNew t es k x).2.1:=by
 unfold PySem.layNew
 cases q:t.freeSlot k with
 | none=>exact h.standIn _
 | some p =>
  obtain ⟨j,wd⟩:=p
  have hj:t.slot j=.empty:=by
   unfold SetTable.freeSlot at q
   split at q
   ·rename_i j' d e
    obtain ⟨hd,hs⟩:=h.probe _ _ _ _ _ _ rfl e
    subst hd
    have q:=Option.some.inj q
    have:j'=j:=congrArg Prod.fst q
    rw [← this]; exact hs
   ·cases q
  have hn:t.place[SetTable.below t.place j]?≠some j:=fun z=>by
   unfold SetTable.slot at hj
   simp only at hj
   rw [if_pos (by simpa using z)] at hj
   cases hj
  have P:Tb b (t.put j).1:=by
   refine ⟨h.led,put_rise h.rise hn,?_⟩
   show (if SetTable.has t.dummies j=true then _ else t.dummies)=#[]
   rw [h.none]
   rfl
  show Tb b ((t.put j).1.orStandIn _)
  unfold SetTable.orStandIn
  split
  ·exact P
  ·exact P.standIn _
theorem Tb.relayAll {b:Bool} {t:SetTable} (h:Tb b t) (es:Array (Int×Value)) (n:Nat):Tb b (relayAll t es n).2.1:=by
 unfold PySem.relayAll
 split
 ·rename_i t' order e
  dsimp only
  split
  ·show Tb b t'
   unfold SetTable.relaid SetTable.laid at e
   cases q:SetTable.layClean (SetTable.sizeAbove n - 1) (es.map (·.1)) with
   | none=>rw [q] at e; cases e
   | some owner =>
    rw [q] at e
    have e:=Option.some.inj e
    have e1:=congrArg Prod.fst e
    rw [← show _=t' from e1]
    exact ⟨h.led,live_rise _ List.pairwise_lt_range,rfl⟩
  ·exact h.standIn _
 ·exact h.standIn _
end L2
namespace L2
open PySem PySem.Spec PyProof.Rows
def valI:Value→Int
 | .int n _=>n
 | _=>0
def keysI (es:Array (Int×Value)):List Int:=es.toList.map fun e=>valI e.2
def SetI (prog:Program) (w:World) (h:Heap) (a:Addr) (b:Bool) (ks:List Int):Prop:=∃ o es ep t,h.get? a=some o∧o.ExactSet∧o.data=.set es ep t∧ElemsOf (intKind prog w) es.toList∧ks.Perm (keysI es)∧es.size < scanBound∧t.fits es.size=true∧Tb b t
section
variable {prog:Program} {w:World} {A:Around} {E:Value→Shared→Prop} {s:Shared}
theorem SetI.keep {h h':Heap} {a:Addr} {b:Bool} {ks:List Int} (S:SetI prog w h a b ks) (k:∀ o,h.get? a=some o→h'.get? a=some o):SetI prog w h' a b ks :=
 let ⟨o,es,ep,t,h1,r⟩:=S; ⟨o,es,ep,t,k o h1,r⟩
theorem elem_is {es:List (Int×Value)} (hel:ElemsOf (intKind prog w) es) {e:Int×Value} (he:e∈es):∃ t,e.2=.int (valI e.2) t:=by
 obtain ⟨⟨k,hk,_⟩,_⟩:=hel e he
 obtain ⟨t,q⟩:=Value.isInt_shape (show Value.isInt k e.2=true from hk)
 exact ⟨t,by rw [q]; rfl⟩
theorem key_there {es:Array (Int×Value)} (hel:ElemsOf (intKind prog w) es.toList) (k:Int):(∃ e∈es.toList,(intKind prog w).is k e.2=true)↔k∈keysI es:=by
 constructor
 ·rintro ⟨e,he,q⟩
  obtain ⟨t,q⟩:=Value.isInt_shape (show Value.isInt k e.2=true from q)
  exact List.mem_map.mpr ⟨e,he,by rw [q]; rfl⟩
 ·intro h
  obtain ⟨e,he,q⟩:=List.mem_map.mp h
  obtain ⟨t,r⟩:=elem_is hel he
  refine ⟨e,he,?_⟩
  rw [r,q]
  exact intKind_is _ _ _ _
theorem stored_I {h:Heap} {a:Addr} {o:Obj} {es es':Array (Int×Value)} {ep:Nat} {t t':SetTable} (ho:h.get? a=some o) (hx:o.ExactSet) (hd:o.data=.set es ep t) (hel:ElemsOf (intKind prog w) es'.toList) (hb:es'.size < scanBound) (hf:t'.fits es'.size=true) :
  (h.update a (Obj.putSet es' t')).get? a=some { o with data:=.set es' (ep + 1) t' } :=
 (SetOf_store (knd:=intKind prog w) (S':=fun k=>es'.toList.any fun e=>(intKind prog w).is k e.2) ho hx hd hel (fun _=>List.any_eq_true) hb hf).1
theorem tail_I {g : Bool → Sem Unit} (hg : ∀ (c : Bool) (s₁ : Shared) (Q' : Unit → Shared → Prop), Q' () s₁ → wpAny (model prog w) A (g c) Q' E s₁) {a : Addr} {o : Obj} {es es1 : Array (Int × Value)} {ep : Nat} {t t2 : SetTable} {b wd : Bool} {ks : List Int}
    (ho : s.heap.get? a = some o) (hx : o.ExactSet) (hd : o.data = .set es ep t) (hel : ElemsOf (intKind prog w) es1.toList) (hp : ks.Perm (keysI es1)) (hb : es1.size < scanBound) (hf : t2.fits es1.size = true) (ht : Tb b t2) {R : Option Bool → Shared → Prop}
    (h : ∀ h', Heap.SameBut a s.heap h' → SetI prog w h' a b ks → R (some true) { s with heap := h' }) :
    wpAny (model prog w) A (do
        storeSet a es1 t2
        if (!wd && t2.tooFull) = true then do
            g (PySem.relayAll t2 es1 (SetTable.grown es1.size)).2.2
            storeSet a (PySem.relayAll t2 es1 (SetTable.grown es1.size)).1 (PySem.relayAll t2 es1 (SetTable.grown es1.size)).2.1
            pure (some true)
          else pure (some true)) R E s := by
  have g1 := stored_I (prog := prog) (w := w) ho hx hd hel hb hf
  refine wpAny_bind (wpAny_storeSet_of ho hd ?_ (fits_of_scanBound hb))
  have same1 : Heap.SameBut a s.heap (s.heap.update a (Obj.putSet es1 t2)) := Heap.SameBut.update ..
  by_cases c : (!wd && t2.tooFull) = true
  · rw [if_pos c]
    have rp := relayAll_perm t2 es1 (SetTable.grown es1.size)
    have rf := relayAll_fits t2 es1 (SetTable.grown es1.size)
    have rt := ht.relayAll es1 (SetTable.grown es1.size)
    generalize PySem.relayAll t2 es1 (SetTable.grown es1.size) = L at rp rf rt ⊢
    obtain ⟨es2, t3, gv⟩ := L
    dsimp only at rp rf rt ⊢
    have el2 : ElemsOf (intKind prog w) es2.toList := hel.perm rp
    have sz : es2.size = es1.size := by have := rp.length_eq; simpa using this
    have b2 : es2.size < scanBound := by omega
    have g2 := stored_I (prog := prog) (w := w) g1 hx rfl el2 b2 rf
    refine wpAny_bind (hg _ _ _ (wpAny_bind (wpAny_storeSet_of g1 rfl (wpAny_pure (h _ (same1.trans (Heap.SameBut.update ..)) ?_)) (fits_of_scanBound b2))))
    exact ⟨_, es2, _, t3, g2, hx, rfl, el2, hp.trans (rp.map _).symm, b2, rf, rt⟩
  · rw [if_neg c]
    exact wpAny_pure (h _ same1 ⟨_, es1, _, t2, g1, hx, rfl, hel, hp, hb, hf, ht⟩)
theorem add_I {a:Addr} {b:Bool} {ks:List Int} {k:Int} {tok:Tok} {Q:Bool→Shared→Prop} (S:SetI prog w s.heap a b ks) (room:ks.length + 1 < scanBound)
  (h:∀ c h' ks',Heap.SameBut a s.heap h'→SetI prog w h' a b ks'→(k∈ks∧ks'=ks)∨(k ∉ ks∧ks'=ks++[k])→Q c { s with heap:=h' }):wpAny (model prog w) A (setAddHashed a (.int k tok) (hashInt k)) Q E s:=by
 obtain ⟨o,es,ep,t,ho,hx,hd,hel,hp,hb,hf,ht⟩:=S
 have hk:=intKind_is prog w k tok
 have len:ks.length=es.size:=by have:=hp.length_eq; unfold keysI at this; simpa using this
 have hsc:(Value.int k tok).scannable=true:=rfl
 unfold setAddHashed setAddHashedIn
 refine wpAny_holding (wpAny_bind (wpAny_setState_of ho hd hf ?_))
 dsimp only
 rw [byScan_of hsc hb hel,if_pos rfl]
 unfold setAddByScan
 refine wpAny_bind (wpAny_bind (wpAny_rule (wpAny_bind (wpAny_setScan_of (knd:=intKind prog w) hk ho hd hf hel ?_))))
 cases hr:List.findIdx? (fun e=>(intKind prog w).is k e.2) es.toList with
 | some j =>
  obtain ⟨hj,hpj,_⟩:=List.findIdx?_eq_some_iff_getElem.mp hr
  have mem:k∈ks:=hp.mem_iff.mpr ((key_there hel k).mp ⟨_,List.getElem_mem hj,hpj⟩)
  exact wpAny_pure (wpAny_pure (h _ s.heap ks (Heap.SameBut.refl ..) ⟨o,es,ep,t,ho,hx,hd,hel,hp,hb,hf,ht⟩ (.inl ⟨mem,rfl⟩)))
 | none =>
  have nm:k ∉ ks:=fun z=>by
   obtain ⟨e,he,q⟩:=(key_there hel k).mpr (hp.mem_iff.mp z)
   have:=List.findIdx?_eq_none_iff.mp hr e he
   rw [q] at this
   cases this
  dsimp only
  have lp:=layNew_perm t es (hashInt k) (.int k tok)
  have lf:=layNew_fits t es (hashInt k) (.int k tok)
  have lt:=ht.layNew es (hashInt k) (.int k tok)
  generalize PySem.layNew t es (hashInt k) (.int k tok)=L at lp lf lt ⊢
  obtain ⟨es1,t1,wd,gv⟩:=L
  dsimp only at lp lf lt ⊢
  rw [Array.toList_push] at lp
  have el1:ElemsOf (intKind prog w) es1.toList:=(hel.push (k:=k) hk hsc).perm lp
  have kp:(ks++[k]).Perm (keysI es1):=by
   have:=(lp.map fun e=>valI e.2).symm
   rw [List.map_append] at this
   exact (List.Perm.append_right _ hp).trans this
  have b1:es1.size < scanBound:=by
   have:=lp.length_eq
   simp only [Array.length_toList,List.length_append,List.length_cons,List.length_nil] at this
   omega
  have gw:∀ (c:Bool) (s₁:Shared) (Q':Unit→Shared→Prop),Q' () s₁→wpAny (model prog w) A (match c with | true=>rule "set.scan.the-table-gave-way" | false=>pure ()) Q' E s₁:=fun c s₁ Q' q=>by
   cases c
   ·exact wpAny_pure q
   ·exact wpAny_rule q
  refine wpAny_bind (gw _ _ _ ?_)
  have fin:∀ h',Heap.SameBut a s.heap h'→SetI prog w h' a b (ks++[k])→Q true { s with heap:=h' }:=fun h' sb SI=>h _ h' _ sb SI (.inr ⟨nm,rfl⟩)
  by_cases pl:t1.plain=true
  ·rw [if_pos pl,hashByValue_scannable 8 hsc]
   refine wpAny_bind (wpAny_pure ?_)
   simp only [plainKind,↓reduceIte]
   exact tail_I gw ho hx hd el1 kp b1 lf lt fun h' sb SI=>wpAny_pure (fin h' sb SI)
  ·rw [if_neg pl]
   refine wpAny_bind (wpAny_pure ?_)
   simp only [↓reduceIte]
   exact tail_I gw ho hx hd el1 kp b1 lf lt fun h' sb SI=>wpAny_pure (fin h' sb SI)
end
end L2
namespace L2
open PySem PySem.Spec PyProof.Rows
def Those (ks ns:List Int):Prop:=ks.Nodup∧∀ x,x∈ks↔x∈ns
theorem Those.len {ks ns:List Int} (h:Those ks ns):ks.length≤ns.length:=by
 have aux:∀ {l m:List Int},l.Nodup→(∀ x∈l,x∈m)→l.length≤m.length:=by
  intro l
  induction l with
  | nil=>intro m _ _; exact Nat.zero_le _
  | cons a l ih =>
   intro m nd sub
   have nd:=List.nodup_cons.mp nd
   have ha:=sub a (List.mem_cons_self ..)
   have:=ih (m:=m.erase a) nd.2 fun x hx=>by
    have hm:=sub x (List.mem_cons_of_mem _ hx)
    have ne:x≠a:=fun z=>nd.1 (z ▸ hx)
    exact (List.mem_erase_of_ne ne).mpr hm
   rw [List.length_erase_of_mem ha] at this
   have:0 < m.length:=List.length_pos_iff.mpr (List.ne_nil_of_mem ha)
   simp only [List.length_cons]
   omega
 exact aux h.1 fun x hx=>(h.2 x).mp hx
theorem Those.more {ks ks' ns:List Int} {i:Nat} {k:Int} (h:Those ks (ns.take i)) (e:ns[i]?=some k) (c:(k∈ks∧ks'=ks)∨(k ∉ ks∧ks'=ks++[k])):Those ks' (ns.take (i + 1)):=by
 have tk:ns.take (i + 1)=ns.take i++[k]:=by rw [List.take_add_one,e]; rfl
 rw [tk]
 rcases c with ⟨c,rfl⟩ | ⟨c,rfl⟩
 ·refine ⟨h.1,fun x=>?_⟩
  rw [h.2 x,List.mem_append]
  refine ⟨.inl,fun z=>z.elim id fun z=>?_⟩
  rw [List.mem_singleton.mp z]
  exact (h.2 k).mp c
 ·refine ⟨List.nodup_append.mpr ⟨h.1,by simp,fun a ha b hb z=>?_⟩,fun x=>?_⟩
  ·rw [z,List.mem_singleton.mp hb] at ha; exact c ha
  ·rw [List.mem_append,List.mem_append,h.2 x]
section
variable {prog:Program} {w:World} {A:Around} {R:Result→Shared→Prop} {I:Addr} {fp wr:List Addr} {G:Array GenState→Array GenState→Prop} {P:Nat→Value→Prop} {St:Nat→Shared→Prop} {ns:List Int} {b:Bool}
theorem loop_I (W:WalksS prog w A.in1 I fp wr G ns.length P St) (S:Addr) (hS:S ∉ fp) (hv:∀ i v,P i v→∃ k t,ns[i]?=some k∧v=.int k t) (hb:ns.length + 1 < scanBound) :
  ∀ (m i:Nat) (s:Shared) (ks:List Int),ns.length - i=m→i≤ns.length→St i s→SetI prog w s.heap S b ks→Those ks (ns.take i) →
   (∀ s' ks',Moved (S::wr) G s s'→SetI prog w s'.heap S b ks'→Those ks' ns→R (.ok (.ret .none)) s')→codeAny (model prog w) A (.builtin "set.update.loop" ⟨[.ref S,.ref I],[]⟩) R s:=by
 have nw:S ∉ wr:=fun z=>hS (W.sub _ z)
 have up:∀ c∈wr,c∈S::wr:=fun c z=>List.mem_cons_of_mem _ z
 intro m
 induction m with
 | zero =>
  intro i s ks e1 e2 st SI T r
  have:i=ns.length:=by omega
  subst this
  rw [List.take_length] at T
  refine codeAny_builtin PyProof.Rows.F.entry_set_update_loop ?_
  rw [Around.under_plainId PyProof.Rows.F.plain_set_update_loop _]
  show wpAny _ A.in1 (pyNext (.ref I) >>= _) _ _ s
  refine wpAny_bind (W.done s _ _ st fun s' mv=>wpAny_pure (r s' ks (mv.mono up) (SI.keep fun o e=>mv.heap S o nw e) T))
 | succ m ih =>
  intro i s ks e1 e2 st SI T r
  have lt:i < ns.length:=by omega
  refine codeAny_builtin PyProof.Rows.F.entry_set_update_loop ?_
  rw [Around.under_plainId PyProof.Rows.F.plain_set_update_loop _]
  show wpAny _ A.in1 (pyNext (.ref I) >>= _) _ _ s
  refine wpAny_bind (W.item i s _ _ lt st fun v s' pv st' mv=>?_)
  obtain ⟨k,t,ek,rfl⟩:=hv i v pv
  have SI':SetI prog w s'.heap S b ks:=SI.keep fun o e=>mv.heap S o nw e
  show wpAny _ A.in1 (holding [Value.int k t] (setAdd S (.int k t)) >>= _) _ _ s'
  unfold setAdd
  refine wpAny_bind (wpAny_holding (wpAny_holding (wpAny_bind ((intKind prog w).pyHash (k:=k) (intKind_is _ _ _ _) ?_))))
  have room:ks.length + 1 < scanBound:=by have:=T.len; rw [List.length_take] at this; omega
  refine add_I (s:={ s' with toks:=s'.toks + 1 }) SI' room fun c h' ks' sb SI2 cc=>wpAny_pure ⟨plainId_quiet PyProof.Rows.F.plain_set_update_loop _,?_⟩
  refine ih (i + 1) _ ks' (by omega) lt (W.frame _ s' _ _ st' (Nat.le_succ _) fun c hc o e=>?_) SI2 (T.more ek cc) fun s'' ks'' mv'' SI3 T3=>?_
  ·exact (sb.2 c fun z=>hS (z ▸ hc)).trans e
  ·refine r s'' ks'' (Moved.trans W.gtrans ((mv.mono up).then_heap (Nat.le_succ _) fun c o hc e=>?_) mv'') SI3 T3
   exact (sb.2 c fun z=>hc (by rw [z]; exact List.mem_cons_self)).trans e
end
section
variable {prog:Program} {w:World} {A:Around} {E:Value→Shared→Prop} {s:Shared}
def ledOf (w:World):Bool:=!w.params.followText "set-order"
abbrev freshSet (b:Bool):Obj:={ cls:=.type "set",dict:=none,data:=.set #[] 0 (.fresh 0 0 b) }
theorem new_I (a:Value) {Q₁:Value→Shared→Prop} (h:Q₁ (.ref s.heap.objs.size) { s with heap:=s.heap.push (freshSet (ledOf w)) }):codeAny (model prog w) A (.call (.builtin "set.__new__") ⟨[.type "set",a],[]⟩) (wants Q₁ E) s:=by
 refine codeAny_of_tree (wpAny_bind (wpAny_of_eq (PySem.F.newCall_set_1 a) (wpAny_pure ⟨plainId_quiet PySem.F.plain_set_new _,codeAny_builtin PySem.F.entry_set_new ?_⟩)))
 rw [Around.under_plainId PySem.F.plain_set_new _]
 unfold Builtin.«set.__new__» Builtin.Frozenset.newClass
 have hsub:=sub_set_self
 obtain ⟨hp,g,d,tk,os⟩:=s
 dsimp only
 wp_walk
 refine wpAny_askSetting (wpAny_pure ?_)
 dsimp only
 simp only [newObj]
 exact wpAny_bind (wpAny_alloc (wpAny_pure (wpAny_pure h)))
set_option maxRecDepth 100000 in
set_option maxHeartbeats 3200000 in
theorem call_I {l:Addr} {items:Array Value} {ns:List Int} {Q:Value→Shared→Prop} (hh:A.handled=none) (hl:s.heap.IsList l items) (hi:IntsAre items.toList ns) (hb:ns.length + 1 < scanBound)
  (h:∀ (h':Heap) (tk:Nat) (ks:List Int),SetI prog w h' s.heap.objs.size (ledOf w) ks→Those ks ns→(∀ b o,b < s.heap.objs.size→s.heap.get? b=some o→h'.get? b=some o)→Q (.ref s.heap.objs.size) { s with heap:=h',toks:=tk }) :
  wpAny (model prog w) A (call (.type "set") [.ref l]) Q E s:=by
 obtain ⟨c,tl,hmro⟩:=PySem.F.called_set.mro
 have hmade:=PySem.F.called_set.made
 have hsub:=PySem.F.called_set.sub
 have hlen:items.size=ns.length:=by have:=hi.length; simpa using this
 refine wpAny_call (codeAny_of_tree (show wpAny _ _ (callAny (.type "set") _) _ _ _ from wpAny_pure ⟨Code.quiet_builtin _ (by decide +kernel),codeAny_builtin PySem.F.entry_type_call ?_⟩))
 rw [Around.under_plain (weight_type_call_type "set" [.ref l] []) rfl]
 have h1:=PySem.F.called_set.notType
 have h2:=PySem.F.called_set.canCreate
 have hct:=PySem.F.typeCall_set_1 (.ref l)
 repeat (any_goals (first | assumption | wp_step))
 refine codeAny_mono (new_I (.ref l) (E:=E) (Q₁:=fun obj s₁=>obj=.ref s.heap.objs.size∧s₁={ s with heap:=s.heap.push (freshSet (ledOf w)) }) ⟨rfl,rfl⟩) fun r s₁ hr=>?_
 cases r with
 | error e=>exact hr
 | ok fl =>
  cases fl with
  | ret obj =>
   obtain ⟨rfl,rfl⟩:=hr
   have hS:(s.heap.push (freshSet (ledOf w))).get? s.heap.objs.size=some (freshSet (ledOf w)):=Heap.get?_push_size _ rfl
   have hT:Shared.TypeIs { s with heap:=s.heap.push (freshSet (ledOf w)) } (.ref s.heap.objs.size) "set" := ⟨_,hS,rfl⟩
   have hli:=PySem.F.called_set.init.lookup
   have hbi:=PySem.F.called_set.init.bind (.ref s.heap.objs.size)
   repeat (any_goals (first | assumption | wp_step))
   refine codeAny_mono (codeAny_call_builtin (R:=wants (fun r s₂=>r=.none∧∃ h' tk ks,s₂={ s with heap:=h',toks:=tk }∧SetI prog w h' s.heap.objs.size (ledOf w) ks∧Those ks ns∧∀ b o,b < s.heap.objs.size→s.heap.get? b=some o→h'.get? b=some o) E)
    PySem.F.called_set.init.plain PySem.F.entry_set_init (check_set_init_1 hT ?_)) fun r₂ s₂ hr₂=>?_
   ·obtain ⟨⟨oc,od,odt,osl⟩,hol,hcl,nl,hdl⟩:=hl
    simp only at hcl hdl
    subst hcl hdl
    have hol':=Heap.get?_push_of_some (freshSet (ledOf w)) hol
    have hsls:=PySem.F.sub_list_set
    have hslf:=PySem.F.sub_list_frozenset
    have hne:(Value.type "list" == Value.type "dict")=false:=by decide
    have hl1:(s.heap.push (freshSet (ledOf w))).IsList l items:=⟨_,hol',rfl,nl,rfl⟩
    unfold Builtin.«set.__init__» noKeywords Builtin.Frozenset.updateFrom
    generalize hPI:pyIter=PI
    wp_walk
    subst hPI
    refine wpAny_pyIter_list hl1 (wpAny_bind (wpAny_runValue ?_))
    have hlS:l < s.heap.objs.size:=Heap.lt_size hol
    have h3:A.in1.in1.in1.handled=none:=by simp [hh]
    have ne1:l≠(s.heap.push (freshSet (ledOf w))).objs.size:=by rw [Heap.size_push]; exact Nat.ne_of_lt (Nat.lt_succ_of_lt hlS)
    have nf:s.heap.objs.size ∉ [(s.heap.push (freshSet (ledOf w))).objs.size,l]:=by
     rw [Heap.size_push]
     intro z
     rcases List.mem_cons.mp z with z | z
     ·exact absurd z (Nat.ne_of_lt (Nat.lt_succ_self _))
     ·exact absurd (List.mem_singleton.mp z) (Nat.ne_of_gt hlS)
    have hv:∀ (i:Nat) (v:Value),items[i]?=some v→∃ k t,ns[i]?=some k∧v=.int k t:=fun i v hv=>by
     obtain ⟨t,e⟩:=IntsAre.int_at hi i v (by rw [Array.getElem?_toList]; exact hv)
     have lt:=(Array.getElem?_eq_some_iff.mp hv).1
     exact ⟨_,t,by rw [List.getD_eq_getElem?_getD,List.getElem?_eq_getElem (by omega)]; rfl,e⟩
    have WW:=(Walks.list (prog:=prog) (w:=w) h3 _ l ne1 items).toS
    rw [hlen] at WW
    refine loop_I (b:=ledOf w) (ns:=ns) WW s.heap.objs.size nf hv hb _ 0 _ [] rfl (Nat.zero_le _) ⟨⟨_,Heap.get?_push_size _ rfl,rfl,rfl⟩,hl1.push _⟩ ?_ ⟨.nil,fun x=>by simp⟩ fun s' ks mv SI T=>?_
    ·exact ⟨_,#[],0,_,Heap.get?_push_of_some _ hS,⟨rfl,rfl,rfl⟩,rfl,fun e he=>by simp at he,.nil,by decide,by rfl,Tb.fresh _⟩
    ·obtain ⟨h',g',d',tk',os'⟩:=s'
     have eg:g'=s.gens:=mv.gens
     have ed:d'=s.drawn:=mv.drawn
     have eo:os'=s.os:=mv.os
     subst eg ed eo
     refine wpAny_pure (show wpAny _ _ (ret Value.none) _ _ _ from wpAny_pure ⟨rfl,h',tk',ks,rfl,SI,T,fun b o hb e=>?_⟩)
     refine mv.heap b o (fun z=>?_) (Heap.get?_push_of_some _ (Heap.get?_push_of_some _ e))
     rcases List.mem_cons.mp z with z | z
     ·exact absurd z (Nat.ne_of_lt hb)
     ·have:=List.mem_singleton.mp z
      rw [Heap.size_push] at this
      exact absurd this (Nat.ne_of_lt (Nat.lt_succ_of_lt hb))
   ·cases r₂ with
    | error e=>exact hr₂
    | ok fl₂ =>
     cases fl₂ with
     | ret r =>
      obtain ⟨rfl,h',tk,ks,rfl,SI,T,kp⟩:=hr₂
      repeat (any_goals (first | assumption | wp_step))
      exact h _ _ ks SI T kp
     | next=>exact hr₂.elim
     | brk=>exact hr₂.elim
     | cont=>exact hr₂.elim
  | next=>exact hr.elim
  | brk=>exact hr.elim
  | cont=>exact hr.elim
end
end L2
namespace L2
open PySem PySem.Spec PyProof.Rows
theorem it_next:Slot "set_iterator" "__next__" "set_iterator.__next__" := .of (owner := "set_iterator") (n := "__next__") (by rw [typeLookup_type,builtinLookup_eq_fast]; kernel_rfl) (by decide +kernel) (by decide +kernel) (by decide +kernel) (by first | exact .inl (by decide +kernel) | exact .inr (by decide +kernel)) (by rw [isSubtype_type]; kernel_rfl)
theorem it_entry:entryFor table "set_iterator.__next__" = some Builtin.«set_iterator.__next__»:=entryFor_of_tree (by kernel_rfl)
theorem it_args (a:Value):argsOk "set_iterator.__next__" ⟨[a],[]⟩:=by unfold argsOk; kernel_rfl
theorem it_iter:Slot "set_iterator" "__iter__" "set_iterator.__iter__" := .of (owner := "set_iterator") (n := "__iter__") (by rw [typeLookup_type,builtinLookup_eq_fast]; kernel_rfl) (by decide +kernel) (by decide +kernel) (by decide +kernel) (by first | exact .inl (by decide +kernel) | exact .inr (by decide +kernel)) (by rw [isSubtype_type]; kernel_rfl)
theorem st_entry:entryFor table "set.__iter__" = some Builtin.«frozenset.__iter__»:=entryFor_alias (id' := "frozenset.__iter__") (by kernel_rfl) rfl (by decide +kernel) (by kernel_rfl)
theorem eraseIdx_perm {α:Type}:∀ {l:List α} {j:Nat} (h:j < l.length),(l[j]::l.eraseIdx j).Perm l
 | a::l,0,_=>.refl _
 | a::l,j + 1,h=>by
  have h':j < l.length:=by simpa using h
  show (l[j]::a::l.eraseIdx j).Perm (a::l)
  exact (List.Perm.swap ..).trans ((eraseIdx_perm h').cons a)
theorem pickGo_perm {α:Type} (next:Nat→Nat):∀ (fuel k:Nat) (left:List α) (out:Array α),left.length=fuel→(pickOrder.go next fuel k left out).toList.Perm (out.toList++left):=by
 intro fuel
 induction fuel with
 | zero =>
  intro k left out h
  have:left=[]:=List.length_eq_zero_iff.mp h
  subst this
  rw [List.append_nil]
  exact .refl _
 | succ fuel ih =>
  intro k left out h
  have lt:next k % left.length < left.length:=Nat.mod_lt _ (by omega)
  unfold pickOrder.go
  rw [List.getElem?_eq_getElem lt]
  dsimp only
  refine (ih (k + 1) _ _ (by rw [List.length_eraseIdx,if_pos lt]; omega)).trans ?_
  rw [Array.toList_push,List.append_assoc]
  exact List.Perm.append_left _ (eraseIdx_perm lt)
theorem pick_perm {α:Type} (next:Nat→Nat) (xs:Array α):(pickOrder next xs).toList.Perm xs.toList:=by
 have:=pickGo_perm next xs.size 0 xs.toList #[] (by simp)
 simpa [pickOrder] using this
section
variable {prog:Program} {w:World} {A:Around} {E:Value→Shared→Prop} {s:Shared}
def outOf (w:World) (a:Addr) (ep:Nat) (es:Array (Int×Value)):Array (Int×Value):=if w.params.followText "set-order" = true then pickOrder (w.params.setOrder a ep) es else es
theorem out_perm (w:World) (a:Addr) (ep:Nat) (es:Array (Int×Value)):(outOf w a ep es).toList.Perm es.toList:=by
 unfold outOf
 split
 ·exact pick_perm _ _
 ·exact .refl _
theorem out_size (w:World) (a:Addr) (ep:Nat) (es:Array (Int×Value)):(outOf w a ep es).size=es.size:=by have:=(out_perm w a ep es).length_eq; simpa using this
def slotAt (w:World) (t:SetTable) (i:Nat):Nat:=if w.params.followText "set-order" = true then 0 else match i with
 | 0=>0
 | i + 1=>t.place.getD i 0 + 1
theorem setNext_I {a:Addr} {o:Obj} {es:Array (Int×Value)} {ep:Nat} {t:SetTable} {i:Nat} {Q:Option (Value×Nat)→Shared→Prop} (ho:s.heap.get? a=some o) (hd:o.data=.set es ep t) (hf:t.fits es.size=true) (ht:Tb (ledOf w) t)
  (nd:w.params.followText "set-order" = true∨(!t.plain&&decide (es.size > 1))=false) (hi:i≤es.size) (h:Q ((outOf w a ep es)[i]?.map fun e=>(e.2,slotAt w t (i + 1))) s):wpAny (model prog w) A (setNext a (slotAt w t i) i ep) Q E s:=by
 unfold setNext
 refine wpAny_bind (wpAny_setState_of ho hd hf (wpAny_bind (wpAny_bind (wpAny_askSetting (wpAny_pure ?_)))))
 show wpAny _ _ (if w.params.followText "set-order" = true then _ else _) _ _ _
 by_cases tx:w.params.followText "set-order" = true
 ·rw [if_pos tx,if_neg (by simp)]
  unfold setWalk
  refine wpAny_bind (wpAny_bind (wpAny_setState_of ho hd hf (wpAny_bind (wpAny_bind (wpAny_askSetting (wpAny_pure ?_))))))
  show wpAny _ _ (if w.params.followText "set-order" = true then _ else _) _ _ _
  rw [if_pos tx]
  refine wpAny_bind (wpAny_askSetting (wpAny_pure (wpAny_pure ?_)))
  unfold outOf slotAt at h
  simp only [if_pos tx] at h
  unfold slotAt
  rw [if_pos tx]
  exact h
 ·rw [if_neg tx]
  have dr:(!t.plain&&decide (es.size > 1))=false:=nd.resolve_left tx
  show wpAny _ _ (if (!t.plain&&decide (es.size > 1))=true then _ else _) _ _ _
  rw [if_neg (by rw [dr]; decide)]
  refine wpAny_bind ?_
  have led:t.led=true:=by rw [ht.led]; unfold ledOf; simp [tx]
  show wpAny _ _ (if (!t.led&&!es.isEmpty)=true then _ else _) _ _ _
  rw [if_neg (by rw [led]; simp)]
  refine wpAny_pure (wpAny_pure ?_)
  have sz:t.place.size=es.size:=by
   unfold SetTable.fits at hf
   simp only [Bool.and_eq_true,beq_iff_eq] at hf
   exact hf.1
  have bl:SetTable.below t.place (slotAt w t i)=i:=by
   unfold slotAt
   rw [if_neg tx]
   cases i with
   | zero=>exact below_first ht.rise
   | succ i =>
    have q:i < t.place.size:=by omega
    have e:t.place.getD i 0=t.place[i]:=by simp [Array.getD,q]
    simp only [e]
    exact below_next ht.rise q
  rw [bl]
  unfold outOf at h
  rw [if_neg tx] at h
  by_cases lt:i < es.size
  ·have q:i < t.place.size:=by omega
   rw [Array.getElem?_eq_getElem lt,Array.getElem?_eq_getElem q]
   rw [Array.getElem?_eq_getElem lt] at h
   have e:slotAt w t (i + 1)=t.place[i] + 1:=by
    unfold slotAt
    rw [if_neg tx]
    simp [Array.getD,q]
   rw [e] at h
   exact h
  ·have e1:es[i]?=none:=by simp; omega
   rw [e1] at h ⊢
   exact h
end
end L2
namespace L2
open PySem PySem.Spec PyProof.Rows
abbrev setIter (first:Value) (i:Nat) (a:Addr) (n ep:Nat):Obj:={ cls:=.type "set_iterator",data:=.fields #[first,rawInt i,.ref a,rawInt n,rawInt ep] }
section
variable {prog:Program} {w:World} {A:Around} {E:Value→Shared→Prop} {s:Shared}
theorem fld_set {h:Heap} {it:Addr} {o:Obj} {vs:Array Value} (ho:h.get? it=some o) (hd:o.data=.fields vs) (i:Nat) (x:Value):(h.update it (Obj.mapFields (·.setIfInBounds i x))).get? it=some { o with data:=.fields (vs.setIfInBounds i x) }:=by
 have:=Heap.get?_update_self (Obj.mapFields (·.setIfInBounds i x)) ho (Obj.isFreed_of_fields (Obj.data_mapFields hd _))
 rw [this]
 obtain ⟨c,d,dt,sl⟩:=o
 simp only at hd
 subst hd
 rfl
theorem stop_I {α:Type} {Q:Option Value→Shared→Prop} (hh:A.handled=none) (hQ:∀ h',(∀ b o,s.heap.get? b=some o→h'.get? b=some o)→Q none { s with heap:=h' }) :
  wpAny (model prog w) A.in1 (do raiseNew (α:=α) (← newExc (.type "StopIteration") [])) (fun _ _=>False) (fun e s'=>wpAny (model prog w) A (do if ← isInstance e (.type "StopIteration") then pure none else throw e:Sem (Option Value)) Q E s') s:=by
 refine wpAny_bind ?_
 simp only [newExc,newTuple]
 refine wpAny_bind (wpAny_newObj_type ?_ (by size_fits))
 refine wpAny_bind (m:=firstArgMember _ _) (wpAny_of_eq (a:=Value.none) (by first | rfl | (simp only [firstArgMember]; rfl)) (wpAny_newObj_type ?_ (by size_fits)))
 simp only [raiseNew]
 refine wpAny_bind (wpAny_handled ?_)
 rw [show A.in1.handled=none from hh]
 refine wpAny_bind (wpAny_pure (wpAny_throw (show wpAny _ _ (isInstance _ _ >>= _) _ _ _ from ?_)))
 refine wpAny_bind (wpAny_isInstance (T := "StopIteration") (b:=true) ⟨_,Heap.get?_push_size _ rfl,rfl⟩ isSubtype_stop (wpAny_pure (hQ _ fun b o e=>?_)))
 exact Heap.get?_push_of_some _ (Heap.get?_push_of_some _ e)
end
end L2
namespace L2
open PySem PySem.Spec PyProof.Rows
section
variable {prog:Program} {w:World} {A:Around} {E:Value→Shared→Prop} {s:Shared}
theorem next_of {it:Addr} {Q:Option Value→Shared→Prop} {o:Obj} (ho:s.heap.get? it=some o) (hc:o.cls=.type "set_iterator")
  (h:wpAny (model prog w) A.in1 (Builtin.«set_iterator.__next__» ⟨[.ref it],[]⟩) (fun fin s'=>∃ r,fin=.done (.ret r)∧Q (some r) s') (fun e s'=>wpAny (model prog w) A (do if ← isInstance e (.type "StopIteration") then pure none else throw e:Sem (Option Value)) Q E s') s) :
  wpAny (model prog w) A (pyNext (.ref it)) Q E s:=by
 have hT:s.TypeIs (.ref it) "set_iterator" := ⟨o,ho,hc⟩
 unfold pyNext
 refine wpAny_bind (wpAny_attempt (wpAny_callSpecial?_slot (name:=Str.ofString "__next__") hT it_next (wpAny_call_entry it_next hT it_entry ?_ (it_args _))))
 refine wpAny_mono h (fun fin s' hz_=>?_) fun e s' q=>q
 obtain ⟨r,e,q⟩:=hz_
 exact ⟨r,e,wpAny_pure q⟩
theorem ii_entry:entryFor table "set_iterator.__iter__" = some Builtin.«dict_keyiterator.__iter__»:=entryFor_alias (id' := "dict_keyiterator.__iter__") (by kernel_rfl) rfl (by decide +kernel) (by kernel_rfl)
theorem ii_args (a:Value):argsOk "set_iterator.__iter__" ⟨[a],[]⟩:=by unfold argsOk; kernel_rfl
theorem self_I {it:Addr} {Q:Value→Shared→Prop} {o:Obj} (ho:s.heap.get? it=some o) (hc:o.cls=.type "set_iterator") (h:Q (.ref it) s):wpAny (model prog w) A (pyIter (.ref it)) Q E s:=by
 have hT:s.TypeIs (.ref it) "set_iterator" := ⟨o,ho,hc⟩
 refine wpAny_pyIter_slot hT it_iter (wpAny_call_entry it_iter hT ii_entry (show wpAny _ _ (ret (.ref it)) _ _ s from ?_) (ii_args _))
 exact wpAny_pure ⟨_,rfl, "set_iterator",_,hT,it_next.lookup,h⟩
theorem next_head {it a:Addr} {first:Value} {i ep:Nat} {o:Obj} {es:Array (Int×Value)} {t:SetTable} {Q:PySem.Fin→Shared→Prop} (hi:s.heap.get? it=some (setIter first i a es.size ep)) (ho:s.heap.get? a=some o) (hd:o.data=.set es ep t) (hf:t.fits es.size=true)
  (h:wpAny (model prog w) A (match first with
   | .int slot _=>do
    match ← setNext a slot.toNat i ep with
    | some (x,next)=>do setField (.ref it) 0 (rawInt next); setField (.ref it) 1 (rawInt ((i:Int) + 1)); ret x
    | none=>do setField (.ref it) 2 .none; raiseNew (← newExc (.type "StopIteration") [])
   | _=>do
    let some places ← seqItems? first | unsupported "internal:set_iterator"
    match places[i]? with
    | some (.int place _)=>do
     let x ← setNextDrawn a place.toNat ep
     setField (.ref it) 1 (rawInt ((i:Int) + 1))
     ret x
    | some _=>unsupported "internal:set_iterator"
    | none=>do setField (.ref it) 0 (rawInt 0); setField (.ref it) 2 .none; raiseNew (← newExc (.type "StopIteration") [])) Q E s) :
  wpAny (model prog w) A (Builtin.«set_iterator.__next__» ⟨[.ref it],[]⟩) Q E s:=by
 unfold Builtin.«set_iterator.__next__»
 refine wpAny_bind (wpAny_of_eq (show slotArgs "__next__" 0 ⟨[.ref it],[]⟩=pure (.ref it,[]) from rfl) ?_)
 refine wpAny_bind (wpAny_fieldsOf hi rfl ?_)
 show wpAny _ _ (setEntries a >>= _) _ _ s
 refine wpAny_bind (wpAny_setEntries_of ho hd hf ?_)
 have e0:(((es.size:Int) != (es.size:Int))=true)=False:=by simp
 show wpAny _ _ (if ((es.size:Int) != (es.size:Int))=true then _ else _) _ _ s
 rw [if_neg (by rw [e0]; exact id)]
 cases first <;> exact h
theorem walks_led {a:Addr} {o:Obj} {es:Array (Int×Value)} {ep:Nat} {t:SetTable} (it:Addr) (hne:it≠a) (hh:A.handled=none) (hd:o.data=.set es ep t) (hf:t.fits es.size=true) (ht:Tb (ledOf w) t)
  (nd:w.params.followText "set-order" = true∨(!t.plain&&decide (es.size > 1))=false) :
  Walks prog w A it [it,a] [it] es.size (fun i v=>∃ e,(outOf w a ep es)[i]?=some e∧v=e.2) (fun i h=>h.get? it=some (setIter (rawInt (slotAt w t i)) i a es.size ep)∧h.get? a=some o∧i≤es.size) where
 sub:=fun b hb=>by rw [List.mem_singleton.mp hb]; simp
 frame:=fun i h h' ⟨h1,h2,h3⟩ k=>⟨k it (by simp) _ h1,k a (by simp) _ h2,h3⟩
 item:=fun i s Q E hi ⟨h1,h2,_⟩ hQ=>by
  have lt:i < (outOf w a ep es).size:=by rw [out_size]; exact hi
  refine next_of h1 rfl (next_head h1 h2 hd hf ?_)
  show wpAny _ _ (setNext a (slotAt w t i) i ep >>= _) _ _ s
  refine wpAny_bind (setNext_I h2 hd hf ht nd (Nat.le_of_lt hi) ?_)
  rw [Array.getElem?_eq_getElem lt]
  dsimp only [Option.map]
  have g1:=fld_set h1 rfl 0 (rawInt (slotAt w t (i + 1)))
  refine wpAny_bind (wpAny_setField h1 rfl (by simp) (wpAny_bind (wpAny_setField g1 rfl (by simp) (wpAny_pure ⟨_,rfl,?_⟩))))
  have g2:=fld_set g1 rfl 1 (rawInt ((i:Int) + 1))
  refine hQ _ _ s.toks ⟨_,Array.getElem?_eq_getElem lt,rfl⟩ ⟨g2,?_,hi⟩ fun b ob hb e=>?_
  ·rw [Heap.get?_update_other _ _ hne,Heap.get?_update_other _ _ hne]; exact h2
  ·have:it≠b:=fun z=>hb (by rw [z]; simp)
   rw [Heap.get?_update_other _ _ this,Heap.get?_update_other _ _ this]; exact e
 done:=fun s Q E ⟨h1,h2,_⟩ hQ=>by
  have ge:(outOf w a ep es)[es.size]?=none:=by simp [out_size]
  refine next_of h1 rfl (next_head h1 h2 hd hf ?_)
  show wpAny _ _ (setNext a (slotAt w t es.size) es.size ep >>= _) _ _ s
  refine wpAny_bind (setNext_I h2 hd hf ht nd (Nat.le_refl _) ?_)
  rw [ge]
  dsimp only [Option.map]
  refine wpAny_bind (wpAny_setField h1 rfl (by simp) ?_)
  refine wpAny_mono (stop_I (E:=E) (Q:=Q) hh fun h' k=>hQ h' s.toks fun b ob hb e=>k b ob ?_) (fun _ _ z=>z.elim) fun _ _ z=>z
  have:it≠b:=fun z=>hb (by rw [z]; simp)
  show (s.heap.update it _).get? b=some ob
  rw [Heap.get?_update_other _ _ this]; exact e
 self:=fun i s Q E ⟨h1,_⟩ hQ=>self_I h1 rfl hQ
theorem choose_I {src:Source} {n:Nat} {Q:Nat→Shared→Prop} (hn:n≠0) (h:∀ i d',i < n→Q i { s with drawn:=d' }):wpAny (model prog w) A (choose src n) Q E s:=fun Γ p hΓ=>⟨hn,h _ _ (Nat.mod_lt _ (Nat.pos_of_ne_zero hn))⟩
theorem draw_I {α:Type}:∀ (xs:List α) (n:Nat) (s:Shared) (Q:List α→Shared→Prop),n=xs.length→(∀ ys d',ys.Perm xs→Q ys { s with drawn:=d' })→wpAny (model prog w) A (drawOrder n xs) Q E s:=by
 intro xs n
 induction n generalizing xs with
 | zero =>
  intro s Q e h
  have:xs=[]:=List.length_eq_zero_iff.mp e.symm
  subst this
  exact wpAny_pure (h [] s.drawn (.refl _))
 | succ n ih =>
  intro s Q e h
  cases xs with
  | nil=>simp at e
  | cons x xs =>
   unfold drawOrder
   refine wpAny_bind (choose_I (by simp) fun i d' hi=>?_)
   rw [List.getElem?_eq_getElem hi]
   dsimp only
   refine wpAny_bind (ih _ _ _ (by rw [List.length_eraseIdx,if_pos hi]; simp at e ⊢; exact e) fun ys d'' p=>wpAny_pure (h _ d'' ((p.cons _).trans (eraseIdx_perm hi))))
abbrev placesObj (ord:List Nat):Obj:={ cls:=.type "tuple",data:=.seq (ord.map fun (i:Nat)=>rawInt i).toArray }
theorem walks_drawn {a T:Addr} {o:Obj} {es:Array (Int×Value)} {ep:Nat} {t:SetTable} {ord:List Nat} (it:Addr) (hne:it≠a) (hnT:it≠T) (hh:A.handled=none) (hd:o.data=.set es ep t) (hf:t.fits es.size=true) (hp:ord.Perm (List.range es.size)) :
  Walks prog w A it [it,T,a] [it] es.size (fun i v=>∃ j e,ord[i]?=some j∧es[j]?=some e∧v=e.2) (fun i h=>h.get? it=some (setIter (.ref T) i a es.size ep)∧h.get? T=some (placesObj ord)∧h.get? a=some o) where
 sub:=fun b hb=>by rw [List.mem_singleton.mp hb]; simp
 frame:=fun i h h' ⟨h1,h2,h3⟩ k=>⟨k it (by simp) _ h1,k T (by simp) _ h2,k a (by simp) _ h3⟩
 item:=fun i s Q E hi ⟨h1,hT,h2⟩ hQ=>by
  have ol:ord.length=es.size:=by have:=hp.length_eq; simpa using this
  have hj:ord[i]'(by omega) < es.size:=List.mem_range.mp (hp.mem_iff.mp (List.getElem_mem _))
  refine next_of h1 rfl (next_head h1 h2 hd hf ?_)
  show wpAny _ _ (seqItems? (.ref T) >>= _) _ _ s
  refine wpAny_bind (wpAny_seqItems hT rfl ?_)
  have e1:(ord.map fun (i:Nat)=>rawInt i).toArray[i]?=some (rawInt (ord[i]'(by omega))):=by simp [List.getElem?_eq_getElem (show i < ord.length by omega)]
  dsimp only
  rw [e1]
  show wpAny _ _ (setNextDrawn a (ord[i]'(by omega)) ep >>= _) _ _ s
  unfold setNextDrawn
  refine wpAny_bind (wpAny_bind (wpAny_setState_of h2 hd hf ?_))
  dsimp only
  rw [if_neg (by simp),Array.getElem?_eq_getElem hj]
  refine wpAny_bind (wpAny_pure (wpAny_pure ?_))
  refine wpAny_bind (wpAny_setField h1 rfl (by simp) (wpAny_pure ⟨_,rfl,?_⟩))
  have g2:=fld_set h1 rfl 1 (rawInt ((i:Int) + 1))
  refine hQ _ _ s.toks ⟨_,_,List.getElem?_eq_getElem (by omega),Array.getElem?_eq_getElem hj,rfl⟩ ⟨g2,?_,?_⟩ fun b ob hb e=>?_
  ·rw [Heap.get?_update_other _ _ hnT]; exact hT
  ·rw [Heap.get?_update_other _ _ hne]; exact h2
  ·have:it≠b:=fun z=>hb (by rw [z]; simp)
   rw [Heap.get?_update_other _ _ this]; exact e
 done:=fun s Q E ⟨h1,hT,h2⟩ hQ=>by
  have ol:ord.length=es.size:=by have:=hp.length_eq; simpa using this
  refine next_of h1 rfl (next_head h1 h2 hd hf ?_)
  show wpAny _ _ (seqItems? (.ref T) >>= _) _ _ s
  refine wpAny_bind (wpAny_seqItems hT rfl ?_)
  have e1:(ord.map fun (i:Nat)=>rawInt i).toArray[es.size]?=none:=by simp; omega
  dsimp only
  rw [e1]
  have g1:=fld_set h1 rfl 0 (rawInt 0)
  refine wpAny_bind (wpAny_setField h1 rfl (by simp) (wpAny_bind (wpAny_setField g1 rfl (by simp) ?_)))
  refine wpAny_mono (stop_I (E:=E) (Q:=Q) hh fun h' k=>hQ h' s.toks fun b ob hb e=>k b ob ?_) (fun _ _ z=>z.elim) fun _ _ z=>z
  have:it≠b:=fun z=>hb (by rw [z]; simp)
  show ((s.heap.update it _).update it _).get? b=some ob
  rw [Heap.get?_update_other _ _ this,Heap.get?_update_other _ _ this]; exact e
 self:=fun i s Q E ⟨h1,_⟩ hQ=>self_I h1 rfl hQ
end
end L2
namespace L2
open PySem PySem.Spec PyProof.Rows
section
variable {prog:Program} {w:World} {A:Around} {E:Value→Shared→Prop} {s:Shared}
def GivesI (P:Nat→Value→Prop) (ks:List Int):Prop:=∀ acc:Array Value,ItemsOf P acc ks.length→∃ ns,IntsAre acc.toList ns∧ns.Perm ks
theorem gives_of {es out:Array (Int×Value)} {ks:List Int} (hel:ElemsOf (intKind prog w) es.toList) (hp:ks.Perm (keysI es)) (ho:out.toList.Perm es.toList):GivesI (fun i v=>∃ e,out[i]?=some e∧v=e.2) ks:=by
 have intsL:∀ l:List (Int×Value),(∀ e∈l,e∈es.toList)→IntsAre (l.map (·.2)) (l.map fun e=>valI e.2):=by
  intro l
  induction l with
  | nil=>intro _; exact .nil
  | cons e l ih =>
   intro h
   obtain ⟨t,q⟩:=elem_is hel (h e (List.mem_cons_self ..))
   rw [List.map_cons,List.map_cons,q]
   exact .cons _ _ (ih fun x hx=>h x (List.mem_cons_of_mem _ hx))
 intro acc ha
 have len:ks.length=out.size:=by have h1:=hp.length_eq; have h2:=ho.length_eq; unfold keysI at h1; simp at h1 h2; omega
 have e:acc.toList=out.toList.map (·.2):=by
  refine List.ext_getElem? fun i=>?_
  by_cases lt:i < ks.length
  ·have hs:=ha.1
   have q:=ha.2 i (acc[i]'(by omega)) (Array.getElem?_eq_getElem (by omega))
   obtain ⟨e,h1,h2⟩:=q
   rw [Array.getElem?_toList,Array.getElem?_eq_getElem (by omega),h2,List.getElem?_map,Array.getElem?_toList,h1]
   rfl
  ·have hs:=ha.1
   rw [List.getElem?_eq_none (by simp; omega),List.getElem?_eq_none (by simp; omega)]
 refine ⟨out.toList.map fun e=>valI e.2,?_,(ho.map fun e:Int×Value=>valI e.2).trans hp.symm⟩
 rw [e]
 exact intsL _ fun e he=>ho.mem_iff.mp he
theorem drawn_out {es:Array (Int×Value)} {ord:List Nat} (hp:ord.Perm (List.range es.size)):∃ out:Array (Int×Value),out.toList.Perm es.toList∧∀ (i j:Nat) (e:Int×Value),ord[i]?=some j→es[j]?=some e→out[i]?=some e:=by
 refine ⟨(ord.filterMap fun j=>es[j]?).toArray,?_,?_⟩
 ·show (ord.filterMap fun j=>es[j]?).Perm es.toList
  exact (hp.filterMap _).trans (by rw [filterMap_getElem?_range])
 ·have all:∀ j∈ord,j < es.size:=fun j hj=>List.mem_range.mp (hp.mem_iff.mp hj)
  have e:(ord.filterMap fun j=>es[j]?)=ord.map fun j=>es.getD j (0,.none):=by
   clear hp
   induction ord with
   | nil=>rfl
   | cons j l ih =>
    have lt:=all j (List.mem_cons_self ..)
    rw [List.filterMap_cons,Array.getElem?_eq_getElem lt,List.map_cons,ih fun x hx=>all x (List.mem_cons_of_mem _ hx)]
    simp [Array.getD,lt]
  intro i j e' h1 h2
  rw [List.getElem?_toArray,e,List.getElem?_map,h1]
  have lt:=all j (List.mem_of_getElem? h1)
  rw [Array.getElem?_eq_getElem lt] at h2
  simp only [Option.map_some,Array.getD,lt,dite_true]
  exact h2
theorem iter_I {a:Addr} {ks:List Int} {Q:Value→Shared→Prop} (S:SetI prog w s.heap a (ledOf w) ks) (hh:A.handled=none)
  (h:∀ (I:Addr) (fp:List Addr) (P:Nat→Value→Prop) (St:Nat→Heap→Prop) (h':Heap) (d':Drawn),Walks prog w A I fp [I] ks.length P St→St 0 h'→GivesI P ks→(∀ b o,s.heap.get? b=some o→h'.get? b=some o)→s.heap.objs.size≤I→(∀ b∈fp,b=a∨s.heap.objs.size≤b)→Q (.ref I) { s with heap:=h',drawn:=d' }) :
  wpAny (model prog w) A (pyIter (.ref a)) Q E s:=by
 obtain ⟨o,es,ep,t,ho,hx,hd,hel,hp,hb,hf,ht⟩:=S
 have hT:s.TypeIs (.ref a) "set" := ⟨o,ho,hx.1⟩
 have lt:=Heap.lt_size ho
 have len:ks.length=es.size:=by have h1:=hp.length_eq; unfold keysI at h1; simpa using h1
 refine wpAny_pyIter_slot hT PySem.F.slot_set_iter (wpAny_call_entry PySem.F.slot_set_iter hT st_entry ?_ (PySem.F.args_set_iter_1 _))
 unfold Builtin.«frozenset.__iter__»
 refine wpAny_bind (wpAny_of_eq (show Builtin.Frozenset.slot0 "__iter__" ⟨[.ref a],[]⟩=pure a from rfl) ?_)
 unfold Builtin.Frozenset.sizeOf
 refine wpAny_bind (wpAny_bind (wpAny_setEntries_of ho hd hf (wpAny_pure ?_)))
 unfold setDrawn
 refine wpAny_bind (wpAny_bind (wpAny_setState_of ho hd hf (wpAny_bind (wpAny_bind (wpAny_askSetting (wpAny_pure (wpAny_pure ?_)))))))
 show wpAny _ _ (if (!(w.params.followText "set-order")&&(!t.plain&&decide (es.size > 1)))=true then _ else _) _ _ _
 by_cases c:(!(w.params.followText "set-order")&&(!t.plain&&decide (es.size > 1)))=true
 ·rw [if_pos c]
  refine wpAny_bind (draw_I (List.range es.size) es.size s _ (by simp) fun ord d' po=>?_)
  refine wpAny_bind (wpAny_newObj_type ?_ (show (List.map (fun (i:Nat)=>rawInt i) ord).toArray.size≤sizeLine by rw [List.size_toArray,List.length_map,po.length_eq,List.length_range]; exact fits_of_scanBound hb))
  have g1:∀ b ob,s.heap.get? b=some ob→(s.heap.push (placesObj ord)).get? b=some ob:=fun b ob e=>Heap.get?_push_of_some _ e
  refine wpAny_bind (wpAny_setEpoch_of (g1 _ _ ho) hd hf (wpAny_bind (wpAny_newObj_type ?_ (by size_fits))))
  have nI:(s.heap.push (placesObj ord)).objs.size=s.heap.objs.size + 1:=size_push' ..
  have W:=walks_drawn (prog:=prog) (w:=w) (A:=A) (T:=s.heap.objs.size) (ep:=ep) (s.heap.push (placesObj ord)).objs.size (by rw [nI]; exact Nat.ne_of_gt (Nat.lt_succ_of_lt lt)) (by rw [nI]; exact Nat.succ_ne_self _) hh hd hf po
  obtain ⟨out,op,oi⟩:=drawn_out po
  refine wpAny_pure ⟨_,rfl, "set_iterator",_,⟨_,Heap.get?_push_size _ rfl,rfl⟩,it_next.lookup,?_⟩
  rw [← len] at W
  refine h _ _ _ _ _ d' W ⟨?_,Heap.get?_push_of_some _ (Heap.get?_push_size _ rfl),Heap.get?_push_of_some _ (g1 _ _ ho)⟩ (fun acc ha=>gives_of hel hp op acc ⟨ha.1,fun i v e=>?_⟩) (fun b ob e=>Heap.get?_push_of_some _ (g1 _ _ e)) (by rw [nI]; exact Nat.le_succ _) fun b hb=>?_
  ·rw [len]
   exact Heap.get?_push_size _ rfl
  ·obtain ⟨j,e',h1,h2,h3⟩:=ha.2 i v e
   exact ⟨e',oi i j e' h1 h2,h3⟩
  ·rcases List.mem_cons.mp hb with rfl | hb
   ·rw [nI]; exact .inr (Nat.le_succ _)
   ·rcases List.mem_cons.mp hb with rfl | hb
    ·exact .inr (Nat.le_refl _)
    ·exact .inl (List.mem_singleton.mp hb)
 ·rw [if_neg c]
  refine wpAny_bind (wpAny_pure (wpAny_bind (wpAny_setEpoch_of ho hd hf (wpAny_bind (wpAny_newObj_type ?_ (by size_fits))))))
  have nd:w.params.followText "set-order" = true∨(!t.plain&&decide (es.size > 1))=false:=by
   cases q:w.params.followText "set-order" with
   | true=>exact .inl rfl
   | false=>rw [q] at c; exact .inr (by simpa using c)
  have W:=walks_led (prog:=prog) (w:=w) (A:=A) (ep:=ep) s.heap.objs.size (Nat.ne_of_gt lt) hh hd hf ht nd
  refine wpAny_pure ⟨_,rfl, "set_iterator",_,⟨_,Heap.get?_push_size _ rfl,rfl⟩,it_next.lookup,?_⟩
  rw [← len] at W
  refine h _ _ _ _ _ s.drawn W ⟨?_,Heap.get?_push_of_some _ ho,Nat.zero_le _⟩ (gives_of hel hp (out_perm w a ep es)) (fun b ob e=>Heap.get?_push_of_some _ e) (Nat.le_refl _) fun b hb=>?_
  ·have e0:slotAt w t 0=0:=by unfold slotAt; split <;> rfl
   rw [e0,len]
   exact Heap.get?_push_size _ rfl
  ·rcases List.mem_cons.mp hb with rfl | hb
   ·exact .inr (Nat.le_refl _)
   ·exact .inl (List.mem_singleton.mp hb)
end
end L2
namespace L2
open PySem PySem.Spec PyProof.Rows
section
variable {prog:Program} {w:World} {A:Around} {E:Value→Shared→Prop} {s:Shared}
theorem hint_I {r:Addr} {Q:Bool→Shared→Prop} (hT:s.TypeIs (.ref r) "set") (h:Q false s):wpAny (model prog w) A (Builtin.List.listLengthHint (.ref r)) Q E s:=by
 unfold Builtin.List.listLengthHint
 refine wpAny_bind (wpAny_specialOf hT PySem.F.slot_set_len.lookup ?_)
 generalize hid:("set.__len__" : String)=id0
 wp_delta
 rw [show splitId id0=some ("set", "__len__") from by subst hid; decide +kernel]
 subst hid
 refine wpAny_bind (wpAny_isInstance (T := "set") (b:=true) hT (by rw [isSubtype_type]; kernel_rfl) (wpAny_ite_split (fun z=>absurd z (by decide)) fun _=>wpAny_ite_split (fun _=>?_) fun z=>absurd (by decide +kernel) z))
 exact wpAny_bind (wpAny_typeOf hT (wpAny_pure h))
theorem extend_I {a S:Addr} {ks:List Int} {R:Result→Shared→Prop} {res:Value} {c₀:Nat} (SI:SetI prog w s.heap a (ledOf w) ks) (hh:A.handled=none) (hz:ks.length≤sizeLine) (hSa:S≠a) (hS:s.heap.get? S=some { cls:=.type "list",data:=.seq #[] c₀ })
  (hR:∀ h' tk d' acc c ns,(∀ b o,b≠S→s.heap.get? b=some o→h'.get? b=some o)→h'.get? S=some { cls:=.type "list",dict:=none,data:=.seq acc c,slots:=#[] }→IntsAre acc.toList ns→ns.Perm ks→R (.ok (.ret res)) { s with heap:=h',toks:=tk,drawn:=d' }) :
  wpAny (model prog w) A.in1 (Builtin.List.listExtendWith (.ref S) (.ref a) res) (fun fin s'=>match fin with | .done f=>R (.ok f) s' | .again c'=>c'.quiet=true∧codeAny (model prog w) A c' R s') (fun e s'=>R (.error e) s') s:=by
 have hT:s.TypeIs (.ref a) "set" := let ⟨o,_,_,_,ho,hx,_⟩:=SI; ⟨o,ho,hx.1⟩
 have hlt:=Heap.lt_size hS
 unfold Builtin.List.listExtendWith
 refine wpAny_bind (wpAny_typeOf (T := "set") hT ?_)
 have h1:Builtin.List.listSameRef (.ref S) (.ref a)=false:=by simp [Builtin.List.listSameRef,hSa]
 have h2:(Value.type "set" == Value.type "list")=false:=by decide
 have h3:(Value.type "set" == Value.type "tuple")=false:=by decide
 simp only [h1,h2,h3,Bool.or_false,Bool.false_eq_true,if_false]
 refine wpAny_bind (iter_I SI hh fun I fp P St h1 d1 W st gv k1 hI hfp=>?_)
 have nf:S ∉ fp:=fun z=>by
  rcases hfp S z with e | e
  ·exact hSa e
  ·exact absurd hlt (Nat.not_lt.mpr e)
 have key:∀ (h2:Heap) (c₁ tk:Nat),St 0 h2→(∀ b o,b≠S→s.heap.get? b=some o→h2.get? b=some o)→h2.get? S=some { cls:=.type "list",data:=.seq #[] c₁ }→codeAny (model prog w) A (.builtin "list.extend.loop" ⟨[.ref S,.ref I,res],[]⟩) R { s with heap:=h2,toks:=tk,drawn:=d1 }:=by
  intro h2 c₁ tk st2 k2 g2
  refine codeAny_extend_loopS W.toS hz S nf res _ 0 _ #[] c₁ rfl (Nat.zero_le _) st2 g2 (ItemsOf.nil _) fun s' acc c mv g3 it=>?_
  obtain ⟨ns,i1,i2⟩:=gv acc it
  rw [Moved.eq_with mv]
  refine hR s'.heap s'.toks d1 acc c ns (fun b o hb e=>mv.heap b o (fun z=>?_) (k2 b o hb e)) g3 i1 i2
  rcases List.mem_cons.mp z with z | z
  ·exact hb z
  ·exact absurd (Heap.lt_size e) (by rw [List.mem_singleton.mp z]; exact Nat.not_lt.mpr hI)
 have hT1:Shared.TypeIs { s with heap:=h1,drawn:=d1 } (.ref a) "set" := let ⟨o,_,_,_,ho,hx,_⟩:=SI; ⟨o,k1 _ _ ho,hx.1⟩
 refine wpAny_bind (wpAny_holding (hint_I hT1 ?_))
 refine wpAny_ite_split (fun _=>?_) fun _=>wpAny_pure ⟨plainId_quiet PySem.F.plain_extend_loop _,key h1 c₀ _ st (fun b o _ e=>k1 b o e) (k1 _ _ hS)⟩
 refine wpAny_bind (wpAny_rule (wpAny_bind ?_))
 show wpAny _ _ (updateSeq S (·.push .none) >>= fun _=>updateSeq S (·.pop)) _ _ _
 refine wpAny_bind (wpAny_updateSeq (k1 _ _ hS) rfl ?_)
 have g2:=Heap.get?_update_self (Obj.mapSeq (·.push Value.none)) (k1 _ _ hS) rfl
 refine wpAny_updateSeq (hz:=by seq_fits) g2 rfl ?_
 have g3:=Heap.get?_update_self (Obj.mapSeq (·.pop)) g2 rfl
 have oth:∀ b o,b≠S→h1.get? b=some o→((h1.update S (Obj.mapSeq (·.push Value.none))).update S (Obj.mapSeq (·.pop))).get? b=some o:=fun b o hb e=>by
  rw [Heap.get?_update_other _ _ (Ne.symm hb),Heap.get?_update_other _ _ (Ne.symm hb)]; exact e
 exact wpAny_pure ⟨plainId_quiet PySem.F.plain_extend_loop _,key _ _ _ (W.frame 0 _ _ st fun b hb o e=>oth b o (fun z=>nf (z ▸ hb)) e) (fun b o hb e=>oth b o hb (k1 b o e)) g3⟩
theorem collect_I {a:Addr} {ks:List Int} {R:List Value→Shared→Prop} (SI:SetI prog w s.heap a (ledOf w) ks) (hh:A.handled=none) (hz:ks.length≤sizeLine)
  (h:∀ (h':Heap) (tk:Nat) (d':Drawn) (vs:List Value) (ns:List Int),(∀ b o,s.heap.get? b=some o→h'.get? b=some o)→IntsAre vs ns→ns.Perm ks→R vs { s with heap:=h',toks:=tk,drawn:=d' }):wpAny (model prog w) A (collect (.ref a)) R E s:=by
 have hlt:a < s.heap.objs.size:=let ⟨_,_,_,_,ho,_⟩:=SI; Heap.lt_size ho
 unfold collect
 refine wpAny_bind (wpAny_runValue (codeAny_builtin entry_proto_collect' ?_))
 rw [Around.under_plainId PySem.F.plain_proto_collect _]
 refine wpAny_bind (show wpAny _ A.in1 (newList []) _ _ s from wpAny_newObj_type (wpAny_pure ⟨plainId_quiet PySem.F.plain_list_iadd _,codeAny_builtin entry_list_iadd' ?_⟩))
 rw [Around.under_plainId PySem.F.plain_list_iadd _]
 have g0:(s.heap.push { cls:=.type "list",data:=.seq ([]:List Value).toArray }).get? s.heap.objs.size=some { cls:=.type "list",data:=.seq #[] }:=Heap.get?_push_size _ rfl
 show wpAny _ A.in1 (Builtin.List.listExtendWith (.ref s.heap.objs.size) (.ref a) (.ref s.heap.objs.size)) _ _ _
 have key:=extend_I (A:=A) (s:={ s with heap:=s.heap.push { cls:=.type "list",data:=.seq ([]:List Value).toArray } }) (res:=.ref s.heap.objs.size) (SI.keep fun o e=>Heap.get?_push_of_some _ e) hh hz (Nat.ne_of_gt hlt) g0
  (R:=fun (q:Result) (s':Shared)=>∃ (h':Heap) (tk:Nat) (d':Drawn) (acc:Array Value) (c:Nat) (ns:List Int),q=.ok (.ret (.ref s.heap.objs.size))∧s'={ s with heap:=h',toks:=tk,drawn:=d' }∧(∀ b o,s.heap.get? b=some o→h'.get? b=some o) ∧
   h'.get? s.heap.objs.size=some { cls:=.type "list",dict:=none,data:=.seq acc c,slots:=#[] }∧IntsAre acc.toList ns∧ns.Perm ks)
  (fun h' tk d' acc c ns k g i1 i2=>⟨h',tk,d',acc,c,ns,rfl,rfl,fun b o e=>k b o (Nat.ne_of_lt (Heap.lt_size e)) (Heap.get?_push_of_some _ e),g,i1,i2⟩)
 refine wpAny_mono key (fun fin s' x=>?_) fun e s' x=>?_
 ·cases fin with
  | done f =>
   obtain ⟨h',tk,d',acc,c,ns,e,rfl,k,g,i1,i2⟩:=x
   cases e
   exact (show wpAny _ A (load s.heap.objs.size >>= _) _ _ _ from wpAny_bind (wpAny_load g (wpAny_pure (h h' tk d' _ ns k i1 i2))))
  | again c₁ =>
   refine ⟨x.1,codeAny_mono x.2 fun q s₂ y=>?_⟩
   obtain ⟨h',tk,d',acc,c,ns,rfl,rfl,k,g,i1,i2⟩:=y
   exact (show wpAny _ A (load s.heap.objs.size >>= _) _ _ _ from wpAny_bind (wpAny_load g (wpAny_pure (h h' tk d' _ ns k i1 i2))))
 ·obtain ⟨_,_,_,_,_,_,e',_⟩:=x
  cases e'
theorem sorted_I {a:Addr} {ks:List Int} {Q:Value→Shared→Prop} (SI:SetI prog w s.heap a (ledOf w) ks) (hh:A.handled=none) (hn:ks.length < 64)
  (h:∀ (l:Addr) (h':Heap) (tk:Nat) (d':Drawn) (out:Array Value) (ms:List Int),(∀ b o,s.heap.get? b=some o→h'.get? b=some o)→s.heap.get? l=none→(∃ e,h'.get? l=some (seqObj "list" out e))→IntsAre out.toList ms→ms.Perm ks→ms.Pairwise (·≤·)→Q (.ref l) { s with heap:=h',toks:=tk,drawn:=d' }) :
  wpAny (model prog w) A (call (.builtin "sorted") [.ref a]) Q E s:=by
 refine Calls.call_function_entry kind_sorted plain_sorted entry_sorted (args_sorted1 _) ?_
 unfold Builtin.«sorted»
 refine wpAny_bind (m:=checkCount "sorted" 1 1 _) (wpAny_pure (wpAny_bind (collect_I (A:=A.in1) SI hh (by rw [sizeLine_eq]; omega) fun h1 tk d1 vs ns k1 hI hp=>?_)))
 have hl:vs.length=ks.length:=by rw [hI.length,hp.length_eq]
 refine wpAny_bind (wpAny_newList ?_ (by rw [hl,sizeLine_eq]; omega))
 have hoL:(h1.push (seqObj "list" vs.toArray 0)).get? h1.objs.size=some (seqObj "list" vs.toArray 0):=Heap.get?_push_size _ rfl
 show wpAny _ _ _ _ _ { s with heap:=h1.push (seqObj "list" vs.toArray 0),toks:=tk,drawn:=d1 }
 refine wpAny_bind (wpAny_holding (wpAny_call_entry slot_list_sort ⟨_,hoL,rfl⟩ entry_list_sort (list_sort_tree hoL hI (by rw [hl]; exact hn) fun out ms a1 a2 a3=>⟨_,rfl,wpAny_pure ⟨_,rfl,?_⟩⟩) (args_list_sort _)))
 have le:s.heap.get? h1.objs.size=none:=by
  cases q:s.heap.get? h1.objs.size with
  | none=>rfl
  | some u=>exact absurd (Heap.lt_size (k1 _ _ q)) (Nat.lt_irrefl _)
 refine h h1.objs.size _ tk d1 out ms (fun b o e=>?_) le (sortedHeap_at hoL) a1 (a2.trans hp) a3
 have e1:=k1 b o e
 have lt:=Heap.lt_size e1
 rw [sortedHeap_old (Nat.ne_of_lt lt) (by rw [size_push']; exact Nat.lt_succ_of_lt lt),Heap.get?_push_ne _ _ _ (Nat.ne_of_lt lt)]
 exact e1
end
def setO (P:Program) (w:World) (a:Addr) (ks:List Int):HO:=.ext fun h=>SetI P w h a (ledOf w) ks
section
variable {X:Cx} {pins:List (Addr×Obj)} {σ:St} {H:Hp} {s:Shared}
theorem Inv.drawn (I:Inv X pins σ H s) (d:Drawn):Inv X pins σ H { s with drawn:=d }:=⟨I.ok,I.os,I.bare,I.base,I.loc,I.cell,I.free,I.freeC,I.pin,I.hok,I.len⟩
theorem set_ok {P:Program} {w:World} {H:Hp} {h:Heap} {a:Addr} {ks:List Int} (S:SetI P w h a (ledOf w) ks):ObjOk P w H h a (setO P w a ks):=⟨S,let ⟨o,_,_,_,ho,_⟩:=S; ⟨o,ho⟩,fun _ _ S1 k=>S1.keep k⟩
theorem call_setI (hc:X.calm=true):CallR X (.type "set") (fun xs H Q=>∃ (p:Addr) (ns:List Int),xs=[.ref p]∧SqL X.K H p (ns.map V.int)∧ns.length < 1000∧∀ (l:Addr) (ks:List Int),H l=none→Those ks ns→Q (.ref l) (upd H l (setO X.prog X.w l ks))):=by
 intro pins s σ H xs us Q I r h
 obtain ⟨p,ns,rfl,hp,hz,q⟩:=h
 obtain ⟨u,rfl,ru⟩:=vals1 r
 cases ru
 obtain ⟨its,rv,⟨o,n,ho,hcl,_,hd⟩,_⟩:=I.list hp
 have hL:s.heap.IsList p its.toArray:=⟨o,ho,hcl,n,hd⟩
 refine call_I (items:=its.toArray) (ns:=ns) (I.ok.hd hc) hL (by simpa using intsAre_of rv) (by unfold scanBound; omega) fun h' tk ks SI T k=>?_
 exact ⟨.ref s.heap.objs.size,_,I.laid (t':=tk) (fun b ob e=>k b ob (Heap.lt_size e) e) (Nat.le_refl _) (set_ok SI),rfl,q _ ks (I.hok.fresh (Nat.le_refl _)) T⟩
theorem call_sortedS (hc:X.calm=true):CallR X (.builtin "sorted") (fun xs H Q=>∃ (p:Addr) (ks:List Int),xs=[.ref p]∧H p=some (setO X.prog X.w p ks)∧ks.length < 64∧∀ (l:Addr) (ms:List Int),H l=none→ms.Perm ks→ms.Pairwise (·≤·)→Q (.ref l) (upd H l (.lst (ms.map V.int)))):=by
 intro pins s σ H xs us Q I r h
 obtain ⟨p,ks,rfl,hp,h64,q⟩:=h
 obtain ⟨u,rfl,ru⟩:=vals1 r
 cases ru
 obtain ⟨SI,_,_⟩:ObjOk X.prog X.w H s.heap p (setO X.prog X.w p ks):=I.hok p _ hp
 refine sorted_I SI (I.ok.hd hc) h64 ?_
 rintro l h' tk d' out ms k hl ⟨e,he⟩ a1 a2 a3
 have hf:=I.hok.none hl
 refine ⟨.ref l,_,((I.drawn d').laidAt (t':=tk) k hl (show ObjOk X.prog X.w _ _ _ (.lst (ms.map V.int)) from ⟨?_,out.toList,e,vals_of_ints a1,?_⟩)),rfl,q l ms hf a2 a3⟩
 ·rw [List.length_map,a2.length_eq,sizeLine_eq]; omega
 ·simpa [seqObj] using he
end
end L2
namespace L2
open PySem PySem.Spec PyProof.Rows
theorem keys_miss:typeLookup (.type "list") "keys" = pure none:=am_miss_of_fast (by decide +kernel)
section
variable {prog:Program} {w:World} {A:Around} {E:Value→Shared→Prop} {s:Shared}
theorem nokeys {l:Addr} {o:Obj} {xs:Array Value} {k:Nat} {Q:Option Value→Shared→Prop} (hx:s.heap.get? l=some o) (hc:o.cls=.type "list") (hdat:o.data=.seq xs k) (hdn:o.dict=none) (hA:A.handled=none)
  (h:∀ h' tk,(∀ b ob,s.heap.get? b=some ob→h'.get? b=some ob)→Q none { s with heap:=h',toks:=tk }):wpAny (model prog w) A (getAttr? (.ref l) "keys") Q E s:=by
 obtain ⟨c,dct,dat,sl⟩:=o
 simp only at hc hdat hdn
 subst hc hdat hdn
 obtain ⟨hp,g,d,tk,os⟩:=s
 have hT:∀ tk',(⟨hp,g,d,tk',os⟩:Shared).TypeIs (.ref l) "list" := fun _=>⟨_,hx,rfl⟩
 have f1:=sub_AttributeError
 have f3:=PySem.F.slot_list_getattribute.lookup
 have f4:=PySem.F.slot_list_getattribute.bind (.ref l)
 have f5:=am_list_getattr_none
 unfold getAttr? getAttrBy? getAttrBy
 repeat (any_goals (first | assumption | exact hT _ | ((with_reducible show wpAny _ _ (call (Value.builtin "list.__getattribute__") _ _) _ _ _); refine call_meets PySem.F.slot_list_getattribute (hT _) am_entry_list_getattribute (PySem.F.args_list_getattribute_2 _ _) (meets_getattribute_miss_list l xs k sl "keys" _ keys_miss (by decide +kernel) (by decide +kernel)) ⟨hx,hA,fun h' tk' e hx'=>?_⟩) | wp_step))
 obtain ⟨t',u',he⟩:=hx'.there
 show wpAny _ _ (getattributeRaised _ _ _ _ _ _ _) _ _ _
 unfold getattributeRaised
 repeat (any_goals (first | assumption | wp_step))
 exact h _ _ hx'.keeps
end
end L2
namespace L2
open PySem PySem.Spec PyProof.Rows
theorem du_entry:entryFor table "dict.update.loop" = some Builtin.«dict.update.loop»:=entryFor_of_tree (by kernel_rfl)
theorem du_plain:plainId "dict.update.loop" = true:=by decide +kernel
section
variable {prog:Program} {w:World} {A:Around} {E:Value→Shared→Prop} {s:Shared} {R:Result→Shared→Prop} {K:Type} [DecidableEq K] {knd:KeyKind prog w K}
def PairsIn (knd:KeyKind prog w K) (h:Heap) (items:Array Value) (ps:List (K×Value)) (bad:List Addr):Prop:=items.size=ps.length∧∀ (i:Nat) (v:Value) (p:K×Value),items[i]?=some v→ps[i]?=some p→∃ a kv,v=.ref a∧a ∉ bad∧knd.is p.1 kv=true∧h.IsTuple a #[kv,p.2]
theorem loop_D {I l d:Addr} {items:Array Value} {ps:List (K×Value)} {h0:Heap} (hne:l≠I) (hdI:d≠I) (hdl:d≠l) (hh:A.in1.handled=none) (hP:PairsIn knd h0 items ps [d,I]) (hz:ps.length≤sizeLine) :
  ∀ (m i:Nat) (s:Shared),ps.length - i=m→i≤ps.length→s.heap.IsListIter I l i→s.heap.IsList l items→s.heap.DictOf knd d (merged [] (ps.take i))→(∀ b o,b ∉ [d,I]→h0.get? b=some o→s.heap.get? b=some o) →
   (∀ h' tk,h'.DictOf knd d (merged [] ps)→(∀ b o,b ∉ [d,I]→h0.get? b=some o→h'.get? b=some o)→R (.ok (.ret .none)) { s with heap:=h',toks:=tk })→codeAny (model prog w) A (.builtin "dict.update.loop" ⟨[.ref d,.ref I,rawInt i,.none],[]⟩) R s:=by
 intro m
 induction m with
 | zero =>
  intro i s e1 e2 it hl hD kp r
  have:i=ps.length:=by omega
  subst this
  rw [List.take_length] at hD
  refine codeAny_builtin du_entry ?_
  rw [Around.under_plainId du_plain _]
  show wpAny _ A.in1 (pyNext (.ref I) >>= _) _ _ s
  refine wpAny_bind (wpAny_pyNext_list_end hh it hl (by simp [hP.1]) fun h' eb=>?_)
  refine wpAny_bind (wpAny_pure (wpAny_pure (r h' s.toks (hD.at fun o e=>eb _ _ hdI e) fun b o hb e=>eb b o (fun z=>hb (by rw [z]; simp)) (kp b o hb e))))
 | succ m ih =>
  intro i s e1 e2 it hl hD kp r
  have lt:i < ps.length:=by omega
  have lti:i < items.size:=by rw [hP.1]; exact lt
  refine codeAny_builtin du_entry ?_
  rw [Around.under_plainId du_plain _]
  show wpAny _ A.in1 (pyNext (.ref I) >>= _) _ _ s
  refine wpAny_bind (wpAny_pyNext_list_item it hl (Array.getElem?_eq_getElem lti) fun h1 it1 sb=>?_)
  obtain ⟨a,kv,ev,na,hk,⟨o,ho,hc,n,hd⟩⟩:=hP.2 i _ _ (Array.getElem?_eq_getElem lti) (List.getElem?_eq_getElem lt)
  rw [ev]
  have naI:a≠I:=fun z=>na (by rw [z]; simp)
  have ho1:h1.get? a=some o:=(sb.2 a naI).trans (kp a o na ho)
  have hD1:h1.DictOf knd d (merged [] (ps.take i)):=hD.at fun o e=>(sb.2 d hdI).trans e
  have hl1:h1.IsList l items:=let ⟨ol,a1,a2⟩:=hl; ⟨ol,(sb.2 l hne).trans a1,a2⟩
  refine wpAny_bind (wpAny_holding (wpAny_bind (wpAny_tryCatch ?_)))
  unfold Builtin.Dict.pairItems
  refine wpAny_bind (wpAny_typeOf (T := "tuple") ⟨o,ho1,hc⟩ ?_)
  rw [if_pos (by decide)]
  refine wpAny_bind (wpAny_seqItems ho1 hd (wpAny_pure ?_))
  have lm:(merged [] (ps.take i)).length≤sizeLine:=by
   have:=merged_length_le ([]:List (K×Value)) (ps.take i)
   rw [List.length_take,List.length_nil] at this
   omega
  show wpAny _ _ (holding [kv,ps[i].2] (dictSet d kv ps[i].2)) _ _ _
  refine wpAny_holding (wpAny_dictSet_pairs (knd:=knd) (k:=ps[i].1) hk hD1 (fun h2 hD2 sb2=>?_) lm)
  refine wpAny_pure ⟨plainId_quiet du_plain _,?_⟩
  have ei:rawInt ((i:Int) + 1)=rawInt ((i + 1:Nat):Int):=by congr 1
  show codeAny (model prog w) A (.builtin "dict.update.loop" ⟨[.ref d,.ref I,rawInt ((i:Int) + 1),.none],[]⟩) R _
  rw [ei]
  refine ih (i + 1) _ (by omega) lt ?_ ?_ ?_ (fun b o hb e=>?_) fun h' tk hD' kp'=>r h' tk hD' kp'
  ·obtain ⟨oi,a1,a2⟩:=it1
   exact ⟨oi,(sb2.2 I (Ne.symm hdI)).trans a1,a2⟩
  ·obtain ⟨ol,a1,a2⟩:=hl1
   exact ⟨ol,(sb2.2 l (Ne.symm hdl)).trans a1,a2⟩
  ·rw [merged_take_succ [] ps i ps[i] (List.getElem?_eq_getElem lt)]
   exact hD2
  ·have n1:b≠d:=fun z=>hb (by rw [z]; simp)
   have n2:b≠I:=fun z=>hb (by rw [z]; simp)
   exact (sb2.2 b n1).trans ((sb.2 b n2).trans (kp b o hb e))
theorem call_D {l:Addr} {items:Array Value} {ps:List (K×Value)} {Q:Value→Shared→Prop} (hh:A.handled=none) (hl:s.heap.IsList l items) (hdn:∃ o,s.heap.get? l=some o∧o.dict=none) (hP:PairsIn knd s.heap items ps []) (hz:ps.length≤sizeLine)
  (h:∀ h' tk,h'.DictOf knd s.heap.objs.size (merged [] ps)→(∀ b o,s.heap.get? b=some o→h'.get? b=some o)→Q (.ref s.heap.objs.size) { s with heap:=h',toks:=tk }):wpAny (model prog w) A (call (.type "dict") [.ref l]) Q E s:=by
 refine callType_codes (Q₁:=fun obj s₁=>obj=.ref s.heap.objs.size∧s₁={ s with heap:=s.heap.push { cls:=.type "dict",data:=.dict #[] } }) PySem.F.kt_called_dict (PySem.F.kt_typeCall_dict_1 _) PySem.F.entry_dict_init (kt_code_dict_new _ ⟨rfl,rfl⟩) ?_
 rintro obj s₁ ⟨rfl,rfl⟩
 have hnew:(s.heap.push { cls:=.type "dict",data:=.dict #[] }).DictOf knd s.heap.objs.size []:=Heap.DictOf.new s.heap
 obtain ⟨ol,hol,hcl,nl,hdl⟩:=id hl
 obtain ⟨ol',hol',hdn⟩:=hdn
 rw [hol] at hol'
 cases hol'
 have lt:=Heap.lt_size hol
 have hol1:=Heap.get?_push_of_some { cls:=.type "dict",data:=.dict #[] } hol
 refine ⟨hnew.typeIs,PySem.F.args_dict_init_2 _ _,?_⟩
 unfold Builtin.«dict.__init__»
 refine wpAny_bind ?_
 unfold Builtin.Dict.selfAndRest
 refine wpAny_bind (wpAny_notOrdered_dict hnew.typeIs ?_)
 refine (show wpAny _ _ (pure (s.heap.objs.size,[Value.ref l])) _ _ _ from wpAny_pure ?_)
 show wpAny _ _ (Builtin.Dict.updateFrom "dict.__init__" s.heap.objs.size (.ref l) [] .none) _ _ _
 unfold Builtin.Dict.updateFrom
 refine wpAny_bind (wpAny_typeOf (T := "list") ⟨ol,hol1,hcl⟩ ?_)
 rw [if_pos (by decide)]
 refine wpAny_bind (nokeys hol1 hcl hdl hdn (by simp [hh]) fun h1 tk k1=>?_)
 rw [if_pos (show (none:Option Value).isNone=true from rfl)]
 have hl1:h1.IsList l items:=⟨ol,k1 _ _ hol1,hcl,nl,hdl⟩
 have hD1:h1.DictOf knd s.heap.objs.size []:=hnew.at fun o e=>k1 _ _ e
 have sz1:s.heap.objs.size < h1.objs.size:=let ⟨_,_,_,e,_⟩:=hD1; Heap.lt_size e
 refine wpAny_bind (wpAny_rule (wpAny_bind (wpAny_pyIter_list hl1 ?_)))
 refine wpAny_pure ⟨plainId_quiet du_plain _,?_⟩
 have k0:∀ b o,s.heap.get? b=some o→h1.get? b=some o:=fun b o e=>k1 _ _ (Heap.get?_push_of_some _ e)
 refine loop_D (knd:=knd) (h0:=h1) (ps:=ps) (items:=items) (I:=h1.objs.size) (l:=l) (Nat.ne_of_lt (Nat.lt_trans lt sz1)) (Nat.ne_of_lt sz1) (Nat.ne_of_gt lt) (by simp [hh]) ⟨hP.1,fun i v p a1 a2=>?_⟩ hz _ 0 _ rfl (Nat.zero_le _) ⟨_,Heap.get?_push_size _ rfl,rfl,rfl⟩ (hl1.push _) (hD1.push _) (fun b o _ e=>Heap.get?_push_of_some _ e) fun h' tk' hD' kp=>⟨rfl,h h' tk' hD' fun b o e=>kp b o (fun z=>?_) (k0 _ _ e)⟩
 ·obtain ⟨a,kv,e1,_,e2,o,e3,e4⟩:=hP.2 i v p a1 a2
  have la:=Heap.lt_size e3
  refine ⟨a,kv,e1,fun z=>?_,e2,o,k0 _ _ e3,e4⟩
  rcases List.mem_cons.mp z with z | z
  ·exact absurd z (Nat.ne_of_lt la)
  ·exact absurd (List.mem_singleton.mp z) (Nat.ne_of_lt (Nat.lt_trans la sz1))
 ·have lb:=Heap.lt_size e
  rcases List.mem_cons.mp z with z | z
  ·exact absurd z (Nat.ne_of_lt lb)
  ·exact absurd (List.mem_singleton.mp z) (Nat.ne_of_lt (Nat.lt_trans lb sz1))
end
end L2
namespace L2
open PySem PySem.Spec PyProof.Rows
section
variable {X:Cx}
theorem call_dictP (hc:X.calm=true):CallR X (.type "dict") (fun xs H Q=>∃ (p:Addr) (ys:List V) (ps:List (Int×V)),xs=[.ref p]∧SqL X.K H p ys∧H p=some (.lst ys)∧Paired (fun y (kv:Int×V)=>∃ a,y=.ref a∧H a=some (.tup [.int kv.1,kv.2])) ys ps∧(ps.map (·.1)).Nodup∧ps.length≤1000 ∧
  ∀ l,H l=none→Q (.ref l) (upd H l (.dK (ps.map fun kv=>(Sum.inl kv.1,kv.2))))):=by
 intro pins s σ H xs us Q I r h
 obtain ⟨p,ys,ps,rfl,hq,hp,hps,nd,hz,q⟩:=h
 obtain ⟨u,rfl,ru⟩:=vals1 r
 cases ru
 obtain ⟨_,its,n,rv,ho⟩:ObjOk X.prog X.w H s.heap p (.lst ys):=I.hok p _ hp
 have hl:=rv.length
 have hlp:=Paired.length hps
 obtain ⟨vs,hv,hin⟩:∃ vs:List (Key×Value),KV (ps.map fun kv=>((Sum.inl kv.1:Key),kv.2)) vs∧PairsIn (mixKind X.prog X.w) s.heap its.toArray vs []:=by
  have key:∀ (ys:List V) (ps:List (Int×V)) (its:List Value),Paired (fun y (kv:Int×V)=>∃ a,y=.ref a∧H a=some (.tup [.int kv.1,kv.2])) ys ps→Vals ys its→∃ vs:List (Key×Value),KV (ps.map fun kv=>((Sum.inl kv.1:Key),kv.2)) vs∧its.length=vs.length ∧
    ∀ (i:Nat) (v:Value) (p:Key×Value),its[i]?=some v→vs[i]?=some p→∃ a kv,v=.ref a∧a ∉ ([]:List Addr)∧(mixKind X.prog X.w).is p.1 kv=true∧s.heap.IsTuple a #[kv,p.2]:=by
   intro ys ps its hps rv
   induction hps generalizing its with
   | nil=>cases rv; exact ⟨[],.nil,rfl,fun i v p e=>by simp at e⟩
   | cons r t ih =>
    rename_i y kv ys' ps'
    cases rv with
    | cons r1 rv' =>
     rename_i u us'
     obtain ⟨vs,h1,h2,h3⟩:=ih us' rv'
     obtain ⟨a,e,ha⟩:=r
     subst e
     cases r1
     obtain ⟨js,rj,pj,_⟩:=I.tuple (SqT.of ha)
     obtain ⟨u1,u2,ej,ru1,ru2⟩:=rj.two
     subst ej
     obtain ⟨tk,rfl⟩:=ru1
     refine ⟨(Sum.inl kv.1,u2)::vs,.cons ⟨rfl,ru2⟩ h1,by simp [h2],fun i v p e1 e2=>?_⟩
     cases i with
     | zero =>
      simp only [List.getElem?_cons_zero,Option.some.injEq] at e1 e2
      subst e1 e2
      exact ⟨a,.int kv.1 tk,rfl,by simp,keyIs_int kv.1 tk,pj⟩
     | succ i=>exact h3 i v p (by simpa using e1) (by simpa using e2)
  obtain ⟨vs,h1,h2,h3⟩:=key ys ps its hps rv
  exact ⟨vs,h1,by simpa using h2,fun i v p e1 e2=>h3 i v p (by simpa using e1) e2⟩
 have lv:vs.length=ps.length:=by have:=Paired.length hv; simpa using this.symm
 have keysv:vs.map (·.1)=ps.map fun kv=>(Sum.inl kv.1:Key):=by
  have:∀ {a:List (Key×V)} {b:List (Key×Value)},KV a b→b.map (·.1)=a.map (·.1):=by
   intro a b z
   unfold KV at z
   induction z with
   | nil=>rfl
   | cons r _ ih=>rw [List.map_cons,List.map_cons,ih,r.1]
  rw [this hv,List.map_map]
  rfl
 have ndv:(vs.map (·.1)).Nodup:=by
  rw [keysv]
  have:(ps.map fun kv=>(Sum.inl kv.1:Key))=(ps.map (·.1)).map Sum.inl:=by rw [List.map_map]; rfl
  rw [this]
  exact List.Pairwise.map _ (fun a b ne z=>ne (Sum.inl.inj z)) nd
 refine call_D (knd:=mixKind X.prog X.w) (items:=its.toArray) (ps:=vs) (I.ok.hd hc) ⟨_,ho,rfl,n,rfl⟩ ⟨_,ho,rfl⟩ hin (by rw [lv,sizeLine_eq]; omega) fun h' tk hD k=>?_
 rw [merged_nil_of_nodup vs ndv] at hD
 refine ⟨.ref s.heap.objs.size,_,I.laid (t':=tk) (fun b ob e=>k b ob e) (Nat.le_refl _) (show ObjOk X.prog X.w _ h' s.heap.objs.size (.dK (ps.map fun kv=>(Sum.inl kv.1,kv.2))) from ⟨?_,beq_eq_false_iff_ne.mpr (Ne.symm (Nat.ne_of_lt I.big)),vs,hv,hD⟩),rfl,q _ (I.hok.fresh (Nat.le_refl _))⟩
 rw [List.length_map,sizeLine_eq]
 omega
end
end L2
namespace L2
open PySem PySem.Spec PyProof.Rows
section
variable {X:Cx}
theorem call_range1:CallR X (.type "range") (fun xs H Q=>∃ n:Int,xs=[.int n]∧∀ l,H l=none→Q (.ref l) (upd H l (.rng 0 n))):=by
 intro pins s σ H xs us Q I r h
 obtain ⟨n,rfl,q⟩:=h
 obtain ⟨u,rfl,t,rfl⟩:=vals1 r
 exact call_range_1 ⟨.ref s.heap.objs.size,_,I.laid (t':=s.toks + 1 + 1) (fun b ob e=>Heap.get?_push_of_some _ e) (Nat.le_refl _) (show ObjOk X.prog X.w _ _ s.heap.objs.size (.rng 0 n) from ⟨_,_,_,Heap.get?_push_size _ rfl⟩),rfl,q _ (I.hok.fresh (Nat.le_refl _))⟩
theorem ints_of_items {n:Nat} {acc:Array Value} (h:ItemsOf (fun i v=>∃ t,v=Value.int (0 + (i:Int) * 1) t) acc n):IntsAre acc.toList ((List.range n).map fun (k:Nat)=>(k:Int)):=by
 have key:∀ (l:List Value) (lo:Nat),(∀ (i:Nat) (v:Value),l[i]?=some v→∃ t,v=.int ((lo + i:Nat):Int) t)→IntsAre l ((List.range' lo l.length).map fun (k:Nat)=>(k:Int)):=by
  intro l
  induction l with
  | nil=>intro lo _; exact .nil
  | cons v l ih =>
   intro lo hv
   obtain ⟨t,e⟩:=hv 0 v rfl
   rw [List.length_cons,List.range'_succ,List.map_cons,e]
   refine .cons _ _ (ih (lo + 1) fun i v' q=>?_)
   obtain ⟨t',e'⟩:=hv (i + 1) v' (by simpa using q)
   exact ⟨t',by rw [e']; congr 1; omega⟩
 have:=key acc.toList 0 fun i v q=>by
  obtain ⟨t,e⟩:=h.2 i v (by rw [← Array.getElem?_toList]; exact q)
  exact ⟨t,by rw [e]; congr 1; omega⟩
 rw [show acc.toList.length=n by rw [Array.length_toList]; exact h.1,← List.range_eq_range'] at this
 exact this
theorem call_listR (hc:X.calm=true):CallR X (.type "list") (fun xs H Q=>∃ (p:Addr) (n:Nat),xs=[.ref p]∧H p=some (.rng 0 n)∧n≤1000∧∀ l,H l=none→Q (.ref l) (upd H l (.lst (((List.range n).map fun (k:Nat)=>(k:Int)).map V.int)))):=by
 intro pins s σ H xs us Q I r h
 obtain ⟨p,n,rfl,hp,hn,q⟩:=h
 obtain ⟨u,rfl,ru⟩:=vals1 r
 cases ru
 obtain ⟨t,u,v,ho⟩:ObjOk X.prog X.w H s.heap p (.rng 0 n):=I.hok p _ hp
 have hz:Builtin.Range.rangeSize 0 n 1=(n:Int):=by
  unfold Builtin.Range.rangeSize
  rw [if_pos (by decide)]
  split <;> omega
 have fl:∀ k:Int,0≤k→k≤2000→Builtin.Range.rangeFitsLong k=true:=fun k h1 h2=>by
  have:(2:Int) ^ 63=9223372036854775808:=by decide
  unfold Builtin.Range.rangeFitsLong
  simp only [Bool.and_eq_true,decide_eq_true_eq]
  omega
 have hs:Builtin.Range.small 0 n 1=true:=by
  unfold Builtin.Range.small
  rw [hz,fl 0 (by decide) (by decide),fl n (by omega) (by omega),fl 1 (by decide) (by decide),if_pos (by decide),show (n:Int) + (1 - 1)=n by omega,fl n (by omega) (by omega)]
  simp
 refine call_list_range (I.ok.hd hc) ho hs hz (by omega) fun h' tk acc c k hS it=>?_
 have hi:=ints_of_items it
 exact ⟨.ref s.heap.objs.size,_,I.laid (t':=tk) (fun b ob e=>k b ob e) (Nat.le_refl _) (show ObjOk X.prog X.w _ h' s.heap.objs.size (.lst (((List.range n).map fun (k:Nat)=>(k:Int)).map V.int)) from ⟨by simp [sizeLine_eq]; omega,acc.toList,c,vals_of_ints hi,by simpa using hS⟩),rfl,q _ (I.hok.fresh (Nat.le_refl _))⟩
end
end L2
namespace L2
open PySem PySem.Spec PyProof.Rows
theorem for_zip {K:PySem.W.Frag} {a b:Addr} {xs zs:List V} {g:TG} {tb:TS} {D:Ends} {σ:St} {H:Hp} (len:zs.length≤xs.length) (Pv:Nat→St→Hp→Prop) (h0:Pv 0 σ H) (hl:∀ i σ H,i≤zs.length→Pv i σ H→SqL K H a xs∧SqL K H b zs)
  (hs:∀ i x z p σ H,xs[i]?=some x→zs[i]?=some z→H p=none→Pv i σ H→g (.ref p) σ (upd H p (.tup [x,z])) fun σ2 H2=>tb { D with nx:=Pv (i + 1),ct:=Pv (i + 1),bk:=D.nx } σ2 H2) (hd:∀ σ H,Pv zs.length σ H→D.nx σ H) :
  ∃ W:Nat→Nat→St→Hp→Prop,(∃ m,W 0 m σ H)∧∀ i m σ H,W i m σ H →
   ((Itz K a b).stop i H∧D.nx σ H)∨((Itz K a b).go i H∧∃ N:St→Hp→Prop,(∀ σ' H',N σ' H'→∃ m',m' < m∧W (i + 1) m' σ' H')∧∀ x H',(Itz K a b).yld i H x H'→g x σ H' fun σ2 H2=>tb { D with nx:=N,ct:=N,bk:=D.nx } σ2 H2):=by
 refine ⟨fun i m σ H=>m=zs.length - i∧i≤zs.length∧Pv i σ H,⟨zs.length,by simp,Nat.zero_le _,h0⟩,?_⟩
 rintro i m σ H ⟨rfl,hi,p⟩
 obtain ⟨q1,q2⟩:=hl i σ H hi p
 by_cases hlt:i < zs.length
 ·refine .inr ⟨⟨xs,zs,xs[i]'(by omega),zs[i],q1,q2,by simp [show i < xs.length by omega],by simp [hlt]⟩,Pv (i + 1),fun σ' H' p'=>⟨zs.length - (i + 1),by omega,rfl,hlt,p'⟩,fun x H' y=>?_⟩
  obtain ⟨pa,z1,z2,hp,rfl,y1,y2,rfl⟩:=y
  exact hs i z1 z2 pa σ _ (y1 xs q1) (y2 zs q2) hp p
 ·have e:i=zs.length:=by omega
  subst e
  exact .inl ⟨⟨xs,zs,q1,q2,.inr (Nat.le_refl _)⟩,hd σ H p⟩
end L2
namespace L2
open PySem PySem.Spec PyProof.Rows PySem.W
def codeO (c:Addr) (qual:Str):HO:=.ext fun h=>∃ oc vs t,h.get? c=some oc∧oc.data=.fields vs∧vs[1]?=some (.str qual t)
def lamO (f:Addr) (qual:Str) (params:Arguments) (body:Expr) (scope:Scope) (clos:List (Str×Addr)) (c:Addr):HO:=.ext fun h=>∃ pm ctv,h.get? f=some (kla_obj "<lambda>" qual params body scope clos pm c ctv)
theorem codeO_ok {P:Program} {w:World} {H:Hp} {h:Heap} {c:Addr} {qual:Str} {oc:Obj} {vs:Array Value} {t:Tok} (h1:h.get? c=some oc) (h2:oc.data=.fields vs) (h3:vs[1]?=some (.str qual t)):ObjOk P w H h c (codeO c qual) :=
 ⟨⟨oc,vs,t,h1,h2,h3⟩,⟨oc,h1⟩,fun _ _ ⟨o,vs,t,q,r⟩ st=>⟨o,vs,t,st _ q,r⟩⟩
theorem lamO_ok {P:Program} {w:World} {H:Hp} {h:Heap} {f c:Addr} {qual:Str} {params:Arguments} {body:Expr} {scope:Scope} {clos:List (Str×Addr)} {pm ctv:Value} (h1:h.get? f=some (kla_obj "<lambda>" qual params body scope clos pm c ctv)) :
  ObjOk P w H h f (lamO f qual params body scope clos c):=⟨⟨pm,ctv,h1⟩,⟨_,h1⟩,fun _ _ ⟨pm,ctv,q⟩ st=>⟨pm,ctv,st _ q⟩⟩
def LamT (H:Hp) (P:Addr) (pos:Pos) (qual:Str):Prop:=∃ ps:Array Value,H P=some (.tbl ps)∧TriplesOk ps.toList∧(codeAmong pos ps.toList=none∨∃ c,codeAmong pos ps.toList=some (.ref c)∧H c=some (codeO c qual))
def KeepT (P:Addr) (H H':Hp):Prop:=∀ b o,H b=some o→b≠P→H' b=some o
def Bm (base:Heap) (mg:Str→Option Value):Prop:=∃ bm ob,mg "__builtins__" = some (.ref bm)∧bm≠builtinsNs∧base.get? bm=some ob∧ob.cls=.type "module" ∧ ob.dict=some builtinsNs∧ob.data=.plain
theorem Inv.turnedT {X:Cx} {pins:List (Addr×Obj)} {σ:St} {H:Hp} {s:Shared} {h':Heap} {t':Nat} {m:Str→Option Value} (I:Inv X pins σ H s) (k:∀ b o,b≠X.env.locals→s.heap.get? b=some o→h'.get? b=some o) (hn:h'.Ns X.env.locals m)
  (hv:∀ (i:Nat) (x:Str) (v:V),X.N[i]?=some x→σ[i]?=some (some v)→Vis X.env.scope x→∃ u,RelV v u∧Look X.env s.heap m x u):Inv X pins σ H { s with heap:=h',toks:=t' }:=by
 have neL:∀ b o,X.s₀.heap.get? b=some o→b≠X.env.locals:=fun b o e=>Nat.ne_of_lt (Nat.lt_of_lt_of_le (Heap.lt_size e) I.ok.above)
 have B:=I.base
 refine ⟨I.ok,I.os,I.bare,⟨fun b o e n hb hx=>k _ _ (neL b o e) (B.keep b o e n hb hx),fun b o e n hb hx=>?_,fun b o e n hx=>B.free b o e n hx,fun b o e hx=>?_,B.tups,B.frzs,B.tbls⟩,⟨m,hn,fun i x v e1 e2 e3=>?_⟩,fun x c e=>?_,I.free,I.freeC,fun p hp=>?_,fun a o e=>?_,I.len⟩
 ·obtain ⟨sl,q⟩:=B.slot b o e n hb hx
  exact ⟨sl,k _ _ (neL b o e) q⟩
 ·obtain ⟨o',q⟩:=B.there b o e hx
  exact ⟨o',k _ _ (neL b o e) q⟩
 ·obtain ⟨u,r,l⟩:=hv i x v e1 e2 e3
  refine ⟨u,r,?_⟩
  rcases l with l | ⟨l1,c,l2,o,ho,hd⟩
  ·exact .inl l
  ·exact .inr ⟨l1,c,l2,o,k _ _ (I.cne x c l2) ho,hd⟩
 ·obtain ⟨v,o,ho,hd⟩:=I.cell x c e
  exact ⟨v,o,k _ _ (I.cne x c e) ho,hd⟩
 ·obtain ⟨e,n,ne,nf,d⟩:=I.pin p hp
  exact ⟨k _ _ ne e,n,ne,nf,d⟩
 ·refine (I.hok a o e).stay (fun b u hb q=>k b u (fun z=>?_) q) (fun _ q=>q) fun _ _ q=>q
  rcases hb with hb | hb
  ·rw [← hb,z,I.free] at e; cases e
  ·rw [z,I.free] at hb; cases hb
def allN (h base:Heap) (L:Addr):List (Addr×Obj):=(List.range h.objs.size).filterMap fun b=>match h.get? b with
 | some o=>if b=L then none else if (base.get? b).isSome then none else some (b,o)
 | none=>none
theorem mem_allN {h base:Heap} {L b:Addr} {o:Obj}:(b,o)∈allN h base L↔h.get? b=some o∧b≠L∧base.get? b=none:=by
 unfold allN
 rw [List.mem_filterMap]
 constructor
 ·rintro ⟨b',_,e⟩
  cases q:h.get? b' with
  | none=>rw [q] at e; cases e
  | some o' =>
   rw [q] at e
   dsimp only at e
   split at e
   ·cases e
   ·split at e
    ·cases e
    ·rename_i n1 n2
     cases e
     exact ⟨q,n1,by cases z:base.get? b with | none=>rfl | some _=>rw [z] at n2; exact absurd rfl n2⟩
 ·rintro ⟨e,n,z⟩
  refine ⟨b,List.mem_range.mpr (Heap.lt_size e),?_⟩
  rw [e]
  dsimp only
  rw [if_neg n,z]
  rfl
theorem allN_news (h base:Heap) (L:Addr):News base L h (allN h base L):=fun p hp=>by
 obtain ⟨b,o⟩:=p
 exact mem_allN.mp hp
theorem allN_keep {h h' base:Heap} {L:Addr} {m:Str→Option Value} (F:Fr base L h' m) (N:News base L h' (allN h base L)) (kb:∀ b o,base.get? b=some o→h.get? b=some o):∀ b o,b≠L→h.get? b=some o→h'.get? b=some o:=fun b o n e=>by
 cases q:base.get? b with
 | none=>exact (N (b,o) (mem_allN.mpr ⟨e,n,q⟩)).1
 | some u =>
  have z:=kb b u q
  rw [e] at z; cases z
  exact F.keep b o q
section
variable {prog:Program} {w:World} {A:Around} {R:Result→Shared→Prop} {s:Shared}
theorem lam_call {f c:Addr} {qual:Str} {params:Arguments} {body:Expr} {scope:Scope} {cl:List (Str×Addr)} {pm ctv v:Value} {x:Str} (ho:s.heap.get? f=some (kla_obj "<lambda>" qual params body scope cl pm c ctv)) (hcd:s.heap.CodeRec (.ref c) qual) (hnl:s.heap.NoLimit) (hroom:A.depth < recursionLimit)
  (hb:bindArgs (kla_fn "<lambda>" qual params body scope cl pm (.ref c) ctv) ⟨[v],[]⟩=pure [(x,v)]) (hloc:scope.names.lookup x=some .local) (hco:scope.isCoroutine=false) (hgen:scope.isGenerator=false) (hk:scope.kind=.function) (hcell:∀ x∈scope.names,x.2≠.cell)
  (h:∀ h₁,h₁.Ns s.heap.objs.size (fun y=>List.lookup y [(x,v)])→(∀ b o,s.heap.get? b=some o→h₁.get? b=some o) →
   wpAny (model prog w) (A.deeper (envX qual scope s.heap.objs.size f (.ref c) cl)) (eval body (envX qual scope s.heap.objs.size f (.ref c) cl)) (fun u s'=>R (.ok (.ret u)) s') (fun _ _=>False) { s with heap:=h₁,toks:=s.toks + 1 }) :
  codeAny (model prog w) A (.call (.ref f) ⟨[v],[]⟩) R s:=by
 refine kla_callFunE hroom ho rfl hco hgen rfl hcd ?_
 rw [hb]
 refine wpAny_pure (wpAny_newFunctionEnv hcell (fun y hy=>by rw [List.mem_singleton.mp hy]; exact hloc) (fun h₁ hns hsb=>⟨hnl.fresh _ hsb,?_⟩) hk)
 show codeAny _ _ (.expr body (envX qual scope s.heap.objs.size f (.ref c) cl)) _ _
 have hk₁:∀ b o,s.heap.get? b=some o→h₁.get? b=some o:=fun b o e=>hsb.extBut b o (Nat.ne_of_lt (Heap.lt_size e)) (Heap.get?_push_of_some _ e)
 exact kla_codeExpr (wpAny_mono (h h₁ hns hk₁) (fun v s' q=>q) fun _ _ q=>q.elim)
variable {E:Value→Shared→Prop} {env:Env} {m:Str→Option Value}
theorem lam_item {Q:Value→Shared→Prop} {vn:Str} {pn':Expr} {p1 pos:Pos} {c l:Addr} {its:Array Value} {i:Int} {t:Tok} {u:Value} (hk:env.scope.kind=.function) (hf:env.kindOf vn=some .free) (hc:env.cells.lookup vn=some c) (hcell:s.heap.IsCell c (some (.ref l))) (hl:s.heap.IsList l its)
  (hb:∀ Q':Value→Shared→Prop,Q' (.int i t) s→wpAny (model prog w) A (eval pn' env) Q' E s) (h0:0≤i) (h63:i < 2 ^ 63) (hi:its[i.toNat]?=some u) (hs:∀ o j,subscripted pn' false o j=operate [o,j] (getItem o j)) (hq:Q u s)
  (hd:(vn == ("__debug__" : Str))=false:=by decide) (hcd:(vn == ("__classdict__" : Str))=false:=by decide) :
  wpAny (model prog w) A (eval (.Subscript (.Name vn p1) pn' pos) env) Q E s:=by
 refine Subscript_ (wpAny_Name (wpAny_loadName_free hk hf hc hcell (hb _ ?_) hcd) hd)
 exact item_listR hl h0 h63 hi hq (hs _ _)
end
end L2
namespace L2
open PySem PySem.Spec PyProof.Rows PySem.W
theorem triples_snoc {a b:Int} {t u:Tok} {c:Value}:∀ (l:List Value),TriplesOk l→TriplesOk (l++[.int a t,.int b u,c])
 | [],_=>True.intro
 | .int _ _::.int _ _::_::rest,h=>triples_snoc rest h
def tLam (P:Addr) (pos:Pos) (qual:Str) (params:Arguments) (body:Expr) (scope:Scope) (clos:List (Str×Addr)):TE:=fun _ H Q=>LamT H P pos qual ∧
 ∀ H' f c,KeepT P H H'→LamT H' P pos qual→H f=none→H' f=some (lamO f qual params body scope clos c)→H' c=some (codeO c qual)→Q (.ref f) H'
theorem pe_lam {X:Cx} {c P:Addr} {qual:Str} {params:Arguments} {body:Expr} {scope:Scope} {clos:List (Str×Addr)} {pos:Pos} (hcode:X.env.code=.ref c) (hC:CodeHd X.base c P) (hBm:Bm X.base X.mg) (hq:X.env.qual++("<lambda>" : Str)=qual)
  (hdef:defaultsOf params X.env=([],[]):=by rfl) (hcl:closureFor scope X.env=pure clos:=by rfl):PE X (.Lambda params body scope pos) (tLam P pos qual params body scope clos):=by
 intro pins s σ H Q I h
 obtain ⟨⟨ps,hP,ht,hor⟩,k⟩:=h
 have oP:s.heap.get? P=some (tabObj ps):=I.hok P _ hP
 have hg:s.heap.Ns mainGlobals X.mg:=I.mod.glob.keeps I.bk
 obtain ⟨bm,ob,b1,b2,b3,b4,b5,b6⟩:=hBm
 have b3:=I.bk _ _ b3
 have hgP:mainGlobals≠P:=fun q=>by
  obtain ⟨o,es,ep,e,hd,_⟩:=hg
  rw [q,oP] at e; cases e; cases hd
 have hbP:bm≠P:=fun q=>by
  rw [q,oP] at b3; cases b3; cases b4
 have hbG:bm≠mainGlobals:=fun q=>by
  obtain ⟨o,es,ep,e,hd,_⟩:=hg
  rw [q,e] at b3; cases b3; rw [hd] at b6; cases b6
 have hC':=hC.keeps I.bk
 refine kla_eval hdef ?_
 rw [hq]
 rcases hor with hnf | ⟨c',hf,hc'⟩
 ·refine kla_makeFunction (mg:=X.mg) hcl I.ok.glob hg hcode hC' oP ht hnf hgP ⟨bm,ob,b1,b2,hbG,hbP,b3,b4,b5,b6⟩ fun c' ctv h' tk hx hge hlt hrec htb=>?_
  have hsz:s.heap.objs.size≤h'.objs.size:=Nat.le_trans hge (Nat.le_of_lt hlt)
  have hcn:H c'=none:=I.hok.fresh hge
  have hfn:H h'.objs.size=none:=I.hok.fresh hsz
  have hcP:c'≠P:=fun z=>by rw [z,hP] at hcn; cases hcn
  have hfP:h'.objs.size≠P:=fun z=>by rw [z,hP] at hfn; cases hfn
  have hfc:h'.objs.size≠c':=Nat.ne_of_gt hlt
  obtain ⟨c2,oc,vs,t,e2,hoc,hd,hv⟩:=hrec
  cases e2
  have kp:∀ b o,b≠P→s.heap.get? b=some o→(h'.push (kla_obj "<lambda>" qual params body scope clos ((X.mg "__name__").getD .none) c' ctv)).get? b=some o:=fun b o n e=>Heap.get?_push_of_some _ (hx b o n e)
  generalize hps':ps++#[rawInt pos.line,rawInt pos.col,.ref c']=ps' at htb
  have hH:∀ b,b≠P→b≠c'→b≠h'.objs.size→upd (upd (upd H P (.tbl ps')) c' (codeO c' qual)) h'.objs.size (lamO h'.objs.size qual params body scope clos c') b=H b:=fun b n1 n2 n3=>by rw [upd_ne n3,upd_ne n2,upd_ne n1]
  have kH:∀ b o,H b=some o→b≠P→upd (upd (upd H P (.tbl ps')) c' (codeO c' qual)) h'.objs.size (lamO h'.objs.size qual params body scope clos c') b=some o:=fun b o e n=>by
   rw [hH b n (ne_of_none e hcn) (ne_of_none e hfn)]; exact e
  have eP:upd (upd (upd H P (.tbl ps')) c' (codeO c' qual)) h'.objs.size (lamO h'.objs.size qual params body scope clos c') P=some (.tbl ps'):=by rw [upd_ne hfP.symm,upd_ne hcP.symm,upd_same]
  have ec:upd (upd (upd H P (.tbl ps')) c' (codeO c' qual)) h'.objs.size (lamO h'.objs.size qual params body scope clos c') c'=some (codeO c' qual):=by rw [upd_ne hfc.symm,upd_same]
  have gP:(h'.push (kla_obj "<lambda>" qual params body scope clos ((X.mg "__name__").getD .none) c' ctv)).get? P=some (tabObj ps'):=Heap.get?_push_of_some _ htb
  refine ⟨.ref h'.objs.size,_,I.un (t':=tk) (H':=upd (upd (upd H P (.tbl ps')) c' (codeO c' qual)) h'.objs.size (lamO h'.objs.size qual params body scope clos c')) ⟨fun b o e n _ _=>?_,fun b o e n _ _=>?_,fun b o e n _=>?_,fun b o e _=>?_,fun b xs e=>?_,fun b o u e=>?_,fun b qs e=>?_⟩ (fun b u e=>?_),rfl,k _ _ c' kH ?_ hfn upd_same ec⟩
  ·exact kp b o (fun z=>by rw [z,hP] at n; cases n) e
  ·exact ⟨o.slots,kp b o (fun z=>by rw [z,hP] at n; cases n) e⟩
  ·have hlt:=Heap.lt_size e
   rw [hH b (fun z=>by rw [z,hP] at n; cases n) (Nat.ne_of_lt (Nat.lt_of_lt_of_le hlt hge)) (Nat.ne_of_lt (Nat.lt_of_lt_of_le hlt hsz))]
   exact n
  ·by_cases hb:b=P
   ·subst hb; exact ⟨_,gP⟩
   ·exact ⟨o,kp b o hb e⟩
  ·exact kH b _ e (fun z=>by rw [z,hP] at e; cases e)
  ·exact kH b _ e (fun z=>by rw [z,hP] at e; cases e)
  ·by_cases hb:b=P
   ·subst hb
    rw [hP] at e; cases e
    exact ⟨#[rawInt pos.line,rawInt pos.col,.ref c'],by rw [eP,hps']⟩
   ·exact ⟨#[],by rw [kH b _ e hb]; simp⟩
  ·by_cases hb:b=P
   ·subst hb
    rw [eP] at e; cases e
    exact gP
   ·by_cases hb2:b=c'
    ·subst hb2
     rw [ec] at e; cases e
     exact codeO_ok (Heap.get?_push_of_some _ hoc) hd hv
    ·by_cases hb3:b=h'.objs.size
     ·subst hb3
      rw [upd_same] at e; cases e
      exact lamO_ok (Heap.get?_push_size _ rfl)
     ·rw [hH b hb hb2 hb3] at e
      refine (I.hok b u e).stay (fun d v hd' z=>kp d v (fun y=>?_) z) (fun d z=>kH d _ z fun y=>?_) fun d xs z=>kH d _ z fun y=>?_
      ·rcases hd' with hd' | hd'
       ·exact hb (hd'.symm.trans y)
       ·rw [y,hP] at hd'; cases hd'
      ·rw [y,hP] at z; cases z
      ·rw [y,hP] at z; cases z
  ·refine ⟨ps',eP,?_,.inr ⟨c',?_,ec⟩⟩
   ·rw [← hps']
    simp only [Array.toList_append]
    exact triples_snoc _ ht
   ·rw [← hps']
    simp only [Array.toList_append]
    exact codeAmong_snoc _ ht hnf
 ·obtain ⟨⟨oc,vs,t,e1,e2,e3⟩,_,_⟩:ObjOk X.prog X.w H s.heap c' (codeO c' qual):=I.hok c' _ hc'
  refine kla_makeFunctionHit (mg:=X.mg) hcl I.ok.glob hg hcode hC' oP ht hf ⟨bm,ob,b1,b2,hbG,hbP,b3,b4,b5,b6⟩ fun ctv h' tk hk hsz=>?_
  have hfn:H h'.objs.size=none:=I.hok.fresh hsz
  refine ⟨.ref h'.objs.size,upd H h'.objs.size (lamO h'.objs.size qual params body scope clos c'),I.laid (t':=tk) (fun b u e=>Heap.get?_push_of_some _ (hk b u e)) hsz (lamO_ok (Heap.get?_push_size _ rfl)),rfl,k _ _ c' (fun b o e n=>?_) ⟨ps,?_,ht,.inr ⟨c',hf,?_⟩⟩ hfn upd_same ?_⟩
  ·rw [upd_ne (ne_of_none e hfn)]; exact e
  ·rw [upd_ne (ne_of_none hP hfn)]; exact hP
  ·rw [upd_ne (ne_of_none hc' hfn)]; exact hc'
  ·rw [upd_ne (ne_of_none hc' hfn)]; exact hc'
end L2
namespace L2
open PySem PySem.Spec PyProof.Rows PySem.W
section
variable {prog:Program} {w:World} {A:Around} {E:Value→Shared→Prop} {s:Shared}
theorem ints_upto {acc:Array Value} {n:Nat} (it:ItemsOf (fun i v=>∃ t,v=Value.int (0 + i * 1) t) acc n):IntsAre acc.toList ((List.range n).map fun (k:Nat)=>(k:Int)):=ints_of_items it
theorem collect_R {r:Addr} {t u v:Tok} {n:Nat} {R:List Value→Shared→Prop} (hh:A.handled=none) (hr:IsRange s.heap r 0 n 1 t u v) (hsmall:Builtin.Range.small 0 n 1=true) (hn:Builtin.Range.rangeSize 0 n 1=n) (hlen:n≤2 ^ 24)
  (h:∀ (h':Heap) (tk:Nat) (vs:List Value),(∀ b o,s.heap.get? b=some o→h'.get? b=some o)→IntsAre vs ((List.range n).map fun (k:Nat)=>(k:Int))→R vs { s with heap:=h',toks:=tk }):wpAny (model prog w) A (collect (.ref r)) R E s:=by
 unfold collect
 refine wpAny_bind (wpAny_runValue (codeAny_builtin entry_proto_collect' ?_))
 rw [Around.under_plainId PySem.F.plain_proto_collect _]
 refine wpAny_bind (show wpAny _ A.in1 (newList []) _ _ s from wpAny_newObj_type (wpAny_pure ⟨plainId_quiet PySem.F.plain_list_iadd _,codeAny_builtin entry_list_iadd' ?_⟩))
 rw [Around.under_plainId PySem.F.plain_list_iadd _]
 have g0:(s.heap.push { cls:=.type "list",data:=.seq ([]:List Value).toArray }).get? s.heap.objs.size=some { cls:=.type "list",data:=.seq #[] }:=Heap.get?_push_size _ rfl
 show wpAny _ A.in1 (Builtin.List.listExtendWith (.ref s.heap.objs.size) (.ref r) (.ref s.heap.objs.size)) _ _ _
 have key:=wpAny_extend_range (prog:=prog) (w:=w) (A:=A) (s:={ s with heap:=s.heap.push { cls:=.type "list",data:=.seq ([]:List Value).toArray } }) hh (Heap.get?_push_of_some _ hr) hsmall hn hlen s.heap.objs.size (.ref s.heap.objs.size) _ g0
  (R:=fun (q:Result) (s':Shared)=>∃ (h':Heap) (tk:Nat) (acc:Array Value) (c:Nat),q=.ok (.ret (.ref s.heap.objs.size))∧s'={ s with heap:=h',toks:=tk }∧(∀ b o,s.heap.get? b=some o→h'.get? b=some o) ∧
   h'.get? s.heap.objs.size=some { cls:=.type "list",dict:=none,data:=.seq acc c,slots:=#[] }∧IntsAre acc.toList ((List.range n).map fun (k:Nat)=>(k:Int)))
  (fun h' tk acc c k g it=>⟨h',tk,acc,c,rfl,rfl,fun b o e=>k b o (Nat.ne_of_lt (Heap.lt_size e)) (Heap.get?_push_of_some _ e),g,ints_upto it⟩)
 refine wpAny_mono key (fun fin s' x=>?_) fun e s' x=>?_
 ·cases fin with
  | done f =>
   obtain ⟨h',tk,acc,c,e,rfl,k,g,i1⟩:=x
   cases e
   exact (show wpAny _ A (load s.heap.objs.size >>= _) _ _ _ from wpAny_bind (wpAny_load g (wpAny_pure (h h' tk _ k i1))))
  | again c₁ =>
   refine ⟨x.1,codeAny_mono x.2 fun q s₂ y=>?_⟩
   obtain ⟨h',tk,acc,c,rfl,rfl,k,g,i1⟩:=y
   exact (show wpAny _ A (load s.heap.objs.size >>= _) _ _ _ from wpAny_bind (wpAny_load g (wpAny_pure (h h' tk _ k i1))))
 ·obtain ⟨_,_,_,_,e',_⟩:=x
  cases e'
variable {h₀:Heap} {L:Addr} {m:Str→Option Value} {news:List (Addr×Obj)} {Q:Value→Shared→Prop}
theorem sorted_R {r f:Addr} {t u v:Tok} {n:Nat} (g:Int→Int) (hh:A.handled=none) (F:Fr h₀ L s.heap m) (N:News h₀ L s.heap news) (hr:IsRange s.heap r 0 n 1 t u v) (hsmall:Builtin.Range.small 0 n 1=true) (hn:Builtin.Range.rangeSize 0 n 1=n) (h64:n < 64)
  (turn:∀ (i:Nat) (t:Tok) (h:Heap) (tk:Nat) (own:List (Addr×Obj)),i < n→Fr h₀ L h m→News h₀ L h (news++own) →
   wpAny (model prog w) A.in1.in1 (call (.ref f) [.int i t]) (KskEnd h₀ L m (news++own) (g i) { s with heap:=h,toks:=tk }) (fun _ _=>False) { s with heap:=h,toks:=tk })
  (done:∀ D out ms c h' tk,Fr h₀ L h' m→News h₀ L h' ((D,seqObj "list" out c)::news)→s.heap.get? D=none→IntsAre out.toList ms→ms.Perm ((List.range n).map fun (k:Nat)=>(k:Int))→ms.Pairwise (fun x y=>g x≤g y)→Q (.ref D) { s with heap:=h',toks:=tk }) :
  wpAny (model prog w) A (call (.builtin "sorted") [.ref r] [(Str.ofString "key",.ref f)]) Q E s:=by
 refine call_function_entry_kw kind_sorted plain_sorted entry_sorted (ksk_s1 _ _) ?_
 unfold Builtin.«sorted»
 refine wpAny_bind (m:=checkCount "sorted" 1 1 _) (wpAny_pure (wpAny_bind (collect_R (A:=A.in1) hh hr hsmall hn (by omega) fun h1 tk1 vs k1 hi=>?_)))
 have hlen:vs.length=n:=by rw [hi.length]; simp
 refine wpAny_bind (wpAny_newList ?_ (by rw [hlen,sizeLine_eq]; omega))
 have hoL:(h1.push (seqObj "list" vs.toArray 0)).get? h1.objs.size=some (seqObj "list" vs.toArray 0):=Heap.get?_push_size _ rfl
 have keep:∀ b o,s.heap.get? b=some o→(h1.push (seqObj "list" vs.toArray 0)).get? b=some o:=fun b o q=>Heap.get?_push_of_some _ (k1 b o q)
 have F1:Fr h₀ L h1 m:=F.kept k1
 have hL:L < h1.objs.size:=F1.ns.lt
 have hs1:s.heap.get? h1.objs.size=none:=by
  cases q:s.heap.get? h1.objs.size with
  | some o=>exact absurd (Heap.lt_size (k1 _ _ q)) (Nat.lt_irrefl _)
  | none=>rfl
 show wpAny _ _ _ _ _ { s with heap:=h1.push (seqObj "list" vs.toArray 0),toks:=tk1 }
 refine wpAny_bind (wpAny_holding (wpAny_call_entry_kw slot_list_sort ⟨_,hoL,rfl⟩ entry_list_sort ?body (ksk_l1 _ _)))
 case body =>
  show wpAny (model prog w) A.in1.in1 (Builtin.«list.sort» ⟨[.ref h1.objs.size],[(Str.ofString "key",.ref f)]⟩) _ _ _
  rw [ksk_t1]
  refine ksk_sort (kz:=((List.range n).map fun (k:Nat)=>(k:Int)).map g) (b:=false) (s:={ s with heap:=h1.push (seqObj "list" vs.toArray 0),toks:=tk1 })
   (F.kept keep) (N.grown keep) hoL (Nat.ne_of_gt hL) (Heap.get?_none_of_le (Nat.le_trans F.above (Nat.le_of_lt hL)))
   (fun p hp=>Nat.ne_of_lt (Heap.lt_size (k1 _ _ (N p hp).1))) (by rw [hlen]; simp) (by rw [hlen]; exact h64) (fun i v k hv hk h tk own F' N'=>?_) fun h' tk out c F' N' ko=>⟨_,rfl,?_⟩
  ·have hin:i < n:=by
    have:=(List.getElem?_eq_some_iff.mp hv).1
    omega
   rw [List.getElem?_map,List.getElem?_map,List.getElem?_eq_getElem (by simpa using hin)] at hk
   simp only [Option.map_some,List.getElem_range] at hk
   cases hk
   obtain ⟨t',ht'⟩:=hi.get i (i:Int) (by rw [List.getElem?_map,List.getElem?_eq_getElem (by simpa using hin)]; simp)
   rw [ht'] at hv
   cases hv
   exact turn i t' h tk own hin F' N'
  ·obtain ⟨ps,hp,ho,hs⟩:=ko
   have hrel:∀ p,p∈(((List.range n).map fun (k:Nat)=>(k:Int)).map g).zip vs→p.1=g (numOf p.2)∧p.2∈vs:=by
    rw [← hi.nums,List.map_map,List.zip_map_left]
    intro p hp
    obtain ⟨⟨u,v⟩,hq,rfl⟩:=List.mem_map.mp hp
    have h1:u=v∧u∈vs:=mem_zip_self hq
    refine ⟨?_,?_⟩
    ·show g (numOf u)=g (numOf v)
     rw [h1.1]
    ·show v∈vs
     rw [← h1.1]
     exact h1.2
   have hI:IntsAre (ps.map Prod.snd) ((ps.map Prod.snd).map numOf):=intsAre_map _ fun v hv=>by
    obtain ⟨p,hp',rfl⟩:=List.mem_map.mp hv
    exact hi.all _ (hrel p (hp.mem_iff.mp hp')).2
   have hP:((ps.map Prod.snd).map numOf).Perm ((List.range n).map fun (k:Nat)=>(k:Int)):=by
    have h1:=(hp.map Prod.snd).map numOf
    rw [List.map_snd_zip (by rw [List.length_map,← hi.length]; exact Nat.le_refl _),hi.nums] at h1
    exact h1
   have hO:((ps.map Prod.snd).map numOf).Pairwise (fun x y=>g x≤g y):=by
    rw [List.pairwise_map,List.pairwise_map]
    refine hs.imp_of_mem fun {p q} hp' hq' hr=>?_
    have hr':p.1≤q.1:=hr
    rw [(hrel p (hp.mem_iff.mp hp')).1,(hrel q (hp.mem_iff.mp hq')).1] at hr'
    exact hr'
   rw [← ho] at hI hP hO
   exact wpAny_pure ⟨_,rfl,done _ out _ c h' tk F' N' hs1 hI hP hO⟩
end
end L2
namespace L2
open PySem PySem.Spec PyProof.Rows PySem.W
section
variable {X:Cx} {pins:List (Addr×Obj)} {σ:St} {H:Hp} {s:Shared}
theorem Inv.notL (I:Inv X pins σ H s) {b:Addr} {o:Obj} (e:X.base.get? b=some o):b≠X.env.locals :=
 Nat.ne_of_lt (Nat.lt_of_lt_of_le (Heap.lt_size e) (Nat.le_trans I.ok.bsz I.ok.above))
theorem Inv.laidT {h':Heap} {t':Nat} {m:Str→Option Value} {D:Addr} {o:HO} (I:Inv X pins σ H s) (k:∀ b o,b≠X.env.locals→s.heap.get? b=some o→h'.get? b=some o) (hn:h'.Ns X.env.locals m)
  (hv:∀ (i:Nat) (x:Str) (v:V),X.N[i]?=some x→σ[i]?=some (some v)→Vis X.env.scope x→∃ u,RelV v u∧Look X.env s.heap m x u) (hD:s.heap.get? D=none) (ok:ObjOk X.prog X.w (upd H D o) h' D o):Inv X pins σ (upd H D o) { s with heap:=h',toks:=t' }:=by
 refine (I.turnedT (t':=t') k hn hv).track (I.hok.none hD) (fun u e=>Classical.byContradiction fun z=>?_) (fun z=>?_) (fun x c e z=>?_) (fun p hp z=>?_) ok
 ·obtain ⟨u',q⟩:=I.base.there D u e z
  rw [hD] at q; cases q
 ·obtain ⟨m,⟨u,es,ep,hu,_⟩,_⟩:=I.loc
  rw [← z,hD] at hu; cases hu
 ·obtain ⟨v,u,hu,_⟩:=I.cell x c e
  rw [z,hD] at hu; cases hu
 ·have hu:=(I.pin p hp).1
  rw [z,hD] at hu; cases hu
def KeyR (X:Cx) (s:Shared) (A:Around) (f:Addr) (D:Int→Prop) (g:Int→Int):Prop:=∀ (n:Int) (t:Tok) (h:Heap) (tk:Nat),D n→(∀ b o,b≠X.env.locals→s.heap.get? b=some o→h.get? b=some o) →
 wpAny (model X.prog X.w) A (call (.ref f) [.int n t]) (fun v s'=>∃ h' tk' t',s'={ s with heap:=h',toks:=tk' }∧v=.int (g n) t'∧∀ b o,h.get? b=some o→h'.get? b=some o) (fun _ _=>False) { s with heap:=h,toks:=tk }
theorem KeyR.turn {A:Around} {f:Addr} {D:Int→Prop} {g:Int→Int} (kr:KeyR X s A f D g) (I:Inv X pins σ H s) {m:Str→Option Value} {n:Int} {t:Tok} {h:Heap} {tk:Nat} {own:List (Addr×Obj)} (hd:D n) (F:Fr X.base X.env.locals h m) (N:News X.base X.env.locals h (allN s.heap X.base X.env.locals++own)) :
  wpAny (model X.prog X.w) A (call (.ref f) [.int n t]) (KskEnd X.base X.env.locals m (allN s.heap X.base X.env.locals++own) (g n) { s with heap:=h,toks:=tk }) (fun _ _=>False) { s with heap:=h,toks:=tk }:=by
 refine wpAny_mono (kr n t h tk hd (allN_keep F (fun p hp=>N p (List.mem_append_left _ hp)) I.bk)) (fun v s' q=>?_) fun _ _ q=>q
 obtain ⟨h',tk',t',rfl,rfl,k⟩:=q
 exact ⟨h',tk',t',rfl,rfl,F.kept k,fun p hp=>⟨k _ _ (N p hp).1,(N p hp).2⟩⟩
theorem list_notL {l:Addr} {its:Array Value} {m:Str→Option Value} {h:Heap} {L:Addr} (hl:h.IsList l its) (hn:h.Ns L m):l≠L:=fun z=>by
 obtain ⟨o,es,ep,e,d,_⟩:=hn
 obtain ⟨o',e',_,n,d'⟩:=hl
 rw [z,e] at e'; cases e'
 rw [d] at d'; cases d'
theorem min_key {E:Value→Shared→Prop} {Q:Value→Shared→Prop} {l f:Addr} {ns:List Int} {g:Int→Int} (I:Inv X pins σ H s) (hc:X.calm=true) (hl:SqL X.K H l (ns.map V.int)) (hne:0 < ns.length) (kr:KeyR X s X.A.in1 f (·∈ns) g)
  (h:∀ (i:Nat) (M:Int) (t:Tok) s',Inv X pins σ H s'→ns[i]?=some M→(∀ (j:Nat) a,ns[j]?=some a→g M≤g a∧(j < i→g M < g a))→Q (.int M t) s') :
  wpAny (model X.prog X.w) X.A (call (.builtin "min") [.ref l] [(Str.ofString "key",.ref f)]) Q E s:=by
 obtain ⟨m,hn,hv⟩:=I.loc
 have F:Fr X.base X.env.locals s.heap m:=⟨hn,I.bk,Nat.le_trans I.ok.bsz I.ok.above⟩
 have N:=allN_news s.heap X.base X.env.locals
 obtain ⟨its,rv,pl,hz⟩:=I.list hl
 have hi:IntsAre its ns:=intsAre_of rv
 have hlen:=hi.length
 have hil:s.heap.IsList l its.toArray:=pl.isList
 have at_:∀ (i:Nat) v,its[i]?=some v→∃ n t,ns[i]?=some n∧v=Value.int n t:=fun i v e=>by
  have hlt:i < ns.length:=by have:=(List.getElem?_eq_some_iff.mp e).1; omega
  obtain ⟨t,ht⟩:=hi.get i ns[i] (List.getElem?_eq_getElem hlt)
  rw [ht] at e
  exact ⟨ns[i],t,List.getElem?_eq_getElem hlt,(Option.some.inj e).symm⟩
 refine kmk_min (vs:=its) (fun i=>g (ns.getD i 0)) (I.ok.hd hc) F N (fun h' F' N'=>?_) (by omega) (fun i v hv' h' tk own F' N'=>?_) fun i v h' tk' hv' hb F' N'=>?_
 ·obtain ⟨o,ho,r⟩:=hil
  exact ⟨o,allN_keep F' N' I.bk l o (list_notL pl.isList hn) ho,r⟩
 ·obtain ⟨n,t,e,rfl⟩:=at_ i v hv'
  rw [List.getD_eq_getElem?_getD,e]
  exact kr.turn I (List.mem_of_getElem? e) F' N'
 ·obtain ⟨n,t,e,rfl⟩:=at_ i v hv'
  refine h i n t _ (I.turnedT (t':=tk') (allN_keep F' N' I.bk) F'.ns hv) e fun j a ej=>?_
  have:=hb j (by rw [hlen]; exact (List.getElem?_eq_some_iff.mp ej).1)
  simp only [List.getD_eq_getElem?_getD,e,ej,Option.getD_some] at this
  exact this
theorem sorted_key {E:Value→Shared→Prop} {Q:Value→Shared→Prop} {r f:Addr} {n:Nat} {g:Int→Int} (I:Inv X pins σ H s) (hc:X.calm=true) (hr:H r=some (.rng 0 n)) (h64:n < 64) (kr:KeyR X s X.A.in1.in1 f (fun i=>0≤i∧i < n) g)
  (h:∀ (D:Addr) (ms:List Int) s',H D=none→Inv X pins σ (upd H D (.lst (ms.map V.int))) s'→ms.Perm ((List.range n).map fun (k:Nat)=>(k:Int))→ms.Pairwise (fun x y=>g x≤g y)→Q (.ref D) s') :
  wpAny (model X.prog X.w) X.A (call (.builtin "sorted") [.ref r] [(Str.ofString "key",.ref f)]) Q E s:=by
 obtain ⟨m,hn,hv⟩:=I.loc
 have F:Fr X.base X.env.locals s.heap m:=⟨hn,I.bk,Nat.le_trans I.ok.bsz I.ok.above⟩
 have N:=allN_news s.heap X.base X.env.locals
 obtain ⟨t,u,v,ho⟩:ObjOk X.prog X.w H s.heap r (.rng 0 n):=I.hok r _ hr
 have hz:Builtin.Range.rangeSize 0 n 1=(n:Int):=by
  unfold Builtin.Range.rangeSize
  rw [if_pos (by decide)]
  split <;> omega
 have fl:∀ k:Int,0≤k→k≤2000→Builtin.Range.rangeFitsLong k=true:=fun k h1 h2=>by
  have:(2:Int) ^ 63=9223372036854775808:=by decide
  unfold Builtin.Range.rangeFitsLong
  simp only [Bool.and_eq_true,decide_eq_true_eq]
  omega
 have hs:Builtin.Range.small 0 n 1=true:=by
  unfold Builtin.Range.small
  rw [hz,fl 0 (by decide) (by decide),fl n (by omega) (by omega),fl 1 (by decide) (by decide),if_pos (by decide),show (n:Int) + (1 - 1)=n by omega,fl n (by omega) (by omega)]
  simp
 refine sorted_R g (I.ok.hd hc) F N ho hs hz h64 (fun i t h' tk own hi F' N'=>kr.turn I ⟨by omega,by omega⟩ F' N') fun D out ms c h' tk F' N' hD hi hp ho'=>?_
 have gD:=(N' (D,seqObj "list" out c) (List.mem_cons_self ..)).1
 refine h D ms _ (I.hok.none hD) (I.laidT (t':=tk) (allN_keep F' (fun p hp=>N' p (List.mem_cons_of_mem _ hp)) I.bk) F'.ns hv hD ?_) hp ho'
 have hml:ms.length=n:=by rw [hp.length_eq]; simp
 exact ⟨by rw [List.length_map,hml,sizeLine_eq]; omega,out.toList,c,vals_of_ints hi,by simpa using gD⟩
structure LamS (params:Arguments) (body:Expr) (scope:Scope) (pn:Str):Prop where
 bind:∀ (qual:Str) (cl:List (Str×Addr)) (pm cv ctv v:Value),bindArgs (kla_fn "<lambda>" qual params body scope cl pm cv ctv) ⟨[v],[]⟩=pure [(pn,v)]
 loc:scope.names.lookup pn=some .local
 co:scope.isCoroutine=false
 gen:scope.isGenerator=false
 kd:scope.kind=.function
 nc:∀ x∈scope.names,x.2≠.cell
theorem lam_cell {vn:Str} {i:Nat} {l:Addr} {clos:List (Str×Addr)} (I:Inv X pins σ H s) (hN:X.N[i]?=some vn) (hσ:σ[i]?=some (some (.ref l))) (hk:X.env.kindOf vn=some .cell) (hcl:∀ c0,X.env.cells.lookup vn=some c0→clos.lookup vn=some c0) :
  ∃ c0,clos.lookup vn=some c0∧c0≠X.env.locals∧s.heap.IsCell c0 (some (.ref l)):=by
 obtain ⟨m,hn,hv⟩:=I.loc
 obtain ⟨u,r,lk⟩:=hv i vn (.ref l) hN hσ (.inr (.inl hk))
 obtain rfl:u=Value.ref l:=r
 rcases lk with ⟨z,_⟩ | ⟨_,c0,e,q⟩
 ·rw [hk] at z; cases z
 ·exact ⟨c0,hcl c0 e,I.cne vn c0 e,q⟩
theorem key_call {A:Around} {f c:Addr} {qual:Str} {params:Arguments} {body:Expr} {scope:Scope} {clos:List (Str×Addr)} {pn:Str} {D:Int→Prop} {g:Int→Int} (I:Inv X pins σ H s) (hf:H f=some (lamO f qual params body scope clos c)) (hc:H c=some (codeO c qual)) (hroom:A.depth < recursionLimit) (S:LamS params body scope pn)
  (hb:∀ (n:Int) (t:Tok) (h:Heap) (L':Addr) (tk:Nat),D n→(∀ b o,b≠X.env.locals→s.heap.get? b=some o→h.get? b=some o)→h.Ns L' (fun y=>List.lookup y [(pn,Value.int n t)]) →
   wpAny (model X.prog X.w) (A.deeper (envX qual scope L' f (.ref c) clos)) (eval body (envX qual scope L' f (.ref c) clos)) (fun v s'=>∃ tk' t',s'={ s with heap:=h,toks:=tk' }∧v=.int (g n) t') (fun _ _=>False) { s with heap:=h,toks:=tk }):KeyR X s A f D g:=by
 intro n t h tk hd k
 have nL:∀ b o,H b=some o→b≠X.env.locals:=fun b o e z=>by rw [z,I.free] at e; cases e
 obtain ⟨⟨pm,ctv,e1⟩,_,_⟩:ObjOk X.prog X.w H s.heap f (lamO f qual params body scope clos c):=I.hok f _ hf
 obtain ⟨⟨oc,vs,tc,e2,e3,e4⟩,_,_⟩:ObjOk X.prog X.w H s.heap c (codeO c qual):=I.hok c _ hc
 have nl:h.NoLimit:=I.ok.mod.nolimit.keeps fun b o e=>k b o (I.notL e) (I.bk b o e)
 refine wpAny_call (lam_call (s:={ s with heap:=h,toks:=tk }) (x:=pn) (k f _ (nL f _ hf) e1) ⟨c,oc,vs,tc,rfl,k c _ (nL c _ hc) e2,e3,e4⟩ nl hroom (S.bind _ _ _ _ _ _) S.loc S.co S.gen S.kd S.nc fun h₁ hns hk₁=>?_)
 refine wpAny_mono (hb n t h₁ h.objs.size (tk + 1) hd (fun b o nb e=>hk₁ b o (k b o nb e)) hns) (fun v s' q=>?_) fun _ _ q=>q
 obtain ⟨tk',t',rfl,rfl⟩:=q
 exact ⟨h₁,tk',t',rfl,rfl,hk₁⟩
theorem key_item {A:Around} {f c:Addr} {qual:Str} {params:Arguments} {scope:Scope} {clos:List (Str×Addr)} {pn vn:Str} {p1 p2 pos:Pos} {i:Nat} {l:Addr} {ks:List Int} (I:Inv X pins σ H s) (hf:H f=some (lamO f qual params (.Subscript (.Name vn p1) (.Name pn p2) pos) scope clos c)) (hc:H c=some (codeO c qual)) (hroom:A.depth < recursionLimit)
  (S:LamS params (.Subscript (.Name vn p1) (.Name pn p2) pos) scope pn) (hfree:scope.names.lookup vn=some .free) (hN:X.N[i]?=some vn) (hσ:σ[i]?=some (some (.ref l))) (hk:X.env.kindOf vn=some .cell) (hcl:∀ c0,X.env.cells.lookup vn=some c0→clos.lookup vn=some c0) (hl:SqL X.K H l (ks.map V.int))
  (hdv:(vn == ("__debug__" : Str))=false:=by decide) (hcv:(vn == ("__classdict__" : Str))=false:=by decide) (hdp:(pn == ("__debug__" : Str))=false:=by decide):KeyR X s A f (fun n=>0≤n∧n < ks.length) (fun n=>ks.getD n.toNat 0):=by
 obtain ⟨c0,k1,k2,o0,k3,k4⟩:=lam_cell I hN hσ hk hcl
 obtain ⟨its,rv,pl,hz⟩:=I.list hl
 obtain ⟨m,hn,_⟩:=I.loc
 have hlL:=list_notL pl.isList hn
 obtain ⟨ol,hol,rl⟩:=pl.isList
 have hi:IntsAre its ks:=intsAre_of rv
 refine key_call I hf hc hroom S fun n t h L' tk hd k hns=>?_
 obtain ⟨t',ht⟩:=hi.get n.toNat (ks.getD n.toNat 0) (by rw [List.getD_eq_getElem?_getD,List.getElem?_eq_getElem (by omega)]; rfl)
 refine lam_item (c:=c0) (l:=l) (its:=its.toArray) (i:=n) (t:=t) (u:=.int (ks.getD n.toNat 0) t') S.kd hfree k1 ⟨o0,k c0 o0 k2 k3,k4⟩ ⟨ol,k l ol hlL hol,rl⟩ (fun Q' q=>?_) hd.1 (by have:=hd.2; rw [List.length_map,sizeLine_eq] at hz; omega) (by simpa using ht) (fun _ _=>rfl) ⟨tk,t',rfl,rfl⟩ hdv hcv
 exact wpAny_Name (wpAny_loadName_local S.kd S.loc hns (by simp [List.lookup]) q) hdp
theorem key_neg {A:Around} {f c:Addr} {qual:Str} {params:Arguments} {scope:Scope} {clos:List (Str×Addr)} {pn vn un:Str} {p1 p2 p3 q1 q2 q3:Pos} {i j:Nat} {l y:Addr} {ks js:List Int} (I:Inv X pins σ H s)
  (hf:H f=some (lamO f qual params (.UnaryOp .USub (.Subscript (.Name vn p1) (.Subscript (.Name un p3) (.Name pn p2) q1) q2) q3) scope clos c)) (hc:H c=some (codeO c qual)) (hroom:A.depth < recursionLimit)
  (S:LamS params (.UnaryOp .USub (.Subscript (.Name vn p1) (.Subscript (.Name un p3) (.Name pn p2) q1) q2) q3) scope pn) (hfree:scope.names.lookup vn=some .free) (hfree2:scope.names.lookup un=some .free) (hN:X.N[i]?=some vn) (hσ:σ[i]?=some (some (.ref l))) (hk:X.env.kindOf vn=some .cell) (hcl:∀ c0,X.env.cells.lookup vn=some c0→clos.lookup vn=some c0)
  (hN2:X.N[j]?=some un) (hσ2:σ[j]?=some (some (.ref y))) (hk2:X.env.kindOf un=some .cell) (hcl2:∀ c0,X.env.cells.lookup un=some c0→clos.lookup un=some c0) (hl:SqL X.K H l (ks.map V.int)) (hy:SqL X.K H y (js.map V.int)) (hj:∀ x∈js,0≤x∧x < ks.length)
  (hdv:(vn == ("__debug__" : Str))=false:=by decide) (hcv:(vn == ("__classdict__" : Str))=false:=by decide) (hdu:(un == ("__debug__" : Str))=false:=by decide) (hcu:(un == ("__classdict__" : Str))=false:=by decide) (hdp:(pn == ("__debug__" : Str))=false:=by decide) :
  KeyR X s A f (fun n=>0≤n∧n < js.length) (fun n=>- ks.getD (js.getD n.toNat 0).toNat 0):=by
 obtain ⟨c0,k1,k2,o0,k3,k4⟩:=lam_cell I hN hσ hk hcl
 obtain ⟨d0,g1,g2,u0,g3,g4⟩:=lam_cell I hN2 hσ2 hk2 hcl2
 obtain ⟨its,rv,pl,hz⟩:=I.list hl
 obtain ⟨jts,rw',pm,hw⟩:=I.list hy
 obtain ⟨m,hn,_⟩:=I.loc
 have hlL:=list_notL pl.isList hn
 have hyL:=list_notL pm.isList hn
 obtain ⟨ol,hol,rl⟩:=pl.isList
 obtain ⟨oy,hoy,ry⟩:=pm.isList
 have hi:IntsAre its ks:=intsAre_of rv
 have hi2:IntsAre jts js:=intsAre_of rw'
 refine key_call I hf hc hroom S fun n t h L' tk hd k hns=>?_
 have hjn:js[n.toNat]?=some (js.getD n.toNat 0):=by rw [List.getD_eq_getElem?_getD,List.getElem?_eq_getElem (by omega)]; rfl
 have hjr:=hj _ (List.mem_of_getElem? hjn)
 obtain ⟨t2,ht2⟩:=hi2.get n.toNat _ hjn
 obtain ⟨t',ht⟩:=hi.get (js.getD n.toNat 0).toNat (ks.getD (js.getD n.toNat 0).toNat 0) (by rw [List.getD_eq_getElem?_getD (l:=ks),List.getElem?_eq_getElem (by omega)]; rfl)
 have l1:=hi.length
 have l2:=hi2.length
 rw [List.length_map,sizeLine_eq] at hz hw
 refine UnaryOp_ (lam_item (c:=c0) (l:=l) (its:=its.toArray) (i:=js.getD n.toNat 0) (t:=t2) (u:=.int (ks.getD (js.getD n.toNat 0).toNat 0) t') S.kd hfree k1 ⟨o0,k c0 o0 k2 k3,k4⟩ ⟨ol,k l ol hlL hol,rl⟩ (fun Q' q=>?_) hjr.1 (by omega) (by simpa using ht) (fun _ _=>rfl) ?_ hdv hcv)
 ·refine lam_item (c:=d0) (l:=y) (its:=jts.toArray) (i:=n) (t:=t) (u:=.int (js.getD n.toNat 0) t2) S.kd hfree2 g1 ⟨u0,k d0 u0 g2 g3,g4⟩ ⟨oy,k y oy hyL hoy,ry⟩ (fun Q'' q'=>?_) hd.1 (by omega) (by simpa using ht2) (fun _ _=>rfl) q hdu hcu
  exact wpAny_Name (wpAny_loadName_local S.kd S.loc hns (by simp [List.lookup]) q') hdp
 ·exact neg_int ⟨_,_,rfl,rfl⟩
end
end L2
namespace L2
open PySem PySem.Spec PyProof.Rows PySem.W
def tMinItem (K:PySem.W.Frag) (i:Nat) (te tl:TE) (qual:Str) (params:Arguments) (body:Expr) (scope:Scope) (clos:List (Str×Addr)):TE:=fun σ H Q=>(tCons te tNil) σ H fun vs H1=>(tCons tl tNil) σ H1 fun zs H2=>∃ x y,vs=[x]∧zs=[y]∧∃ (l f c l':Addr) (ns ks:List Int),x=.ref l∧y=.ref f ∧
 H2 f=some (lamO f qual params body scope clos c)∧H2 c=some (codeO c qual)∧σ[i]?=some (some (.ref l'))∧SqL K H2 l (ns.map V.int)∧0 < ns.length∧SqL K H2 l' (ks.map V.int)∧(∀ n∈ns,0≤n∧n < ks.length) ∧
 ∀ (j:Nat) (M:Int),ns[j]?=some M→(∀ (k:Nat) a,ns[k]?=some a→ks.getD M.toNat 0≤ks.getD a.toNat 0∧(k < j→ks.getD M.toNat 0 < ks.getD a.toNat 0))→Q (.int M) H2
def tSortNeg (K:PySem.W.Frag) (i j:Nat) (te tl:TE) (qual:Str) (params:Arguments) (body:Expr) (scope:Scope) (clos:List (Str×Addr)):TE:=fun σ H Q=>(tCons te tNil) σ H fun vs H1=>(tCons tl tNil) σ H1 fun zs H2=>∃ x y,vs=[x]∧zs=[y]∧∃ (r f c l' y':Addr) (n:Nat) (ks js:List Int),x=.ref r∧y=.ref f ∧
 H2 f=some (lamO f qual params body scope clos c)∧H2 c=some (codeO c qual)∧σ[i]?=some (some (.ref l'))∧σ[j]?=some (some (.ref y'))∧H2 r=some (.rng 0 n)∧n < 64∧SqL K H2 l' (ks.map V.int)∧SqL K H2 y' (js.map V.int)∧js.length=n∧(∀ x∈js,0≤x∧x < ks.length) ∧
 ∀ (D:Addr) (ms:List Int),H2 D=none→ms.Perm ((List.range n).map fun (k:Nat)=>(k:Int))→ms.Pairwise (fun a b=>- ks.getD (js.getD a.toNat 0).toNat 0≤- ks.getD (js.getD b.toNat 0).toNat 0)→Q (.ref D) (upd H2 D (.lst (ms.map V.int)))
section
variable {X:Cx} {e:Expr} {te tl:TE} {p pos kpos lpos:Pos} {qual:Str} {params:Arguments} {scope:Scope} {clos:List (Str×Addr)} {pn vn un:Str} {p1 p2 p3 q1 q2 q3:Pos} {i j:Nat}
theorem pe_minItem (hc:X.calm=true) (hroom:X.A.in1.depth < recursionLimit) (hg:Gl X "min") (hm:X.mg "min" = none) (hv:bootBuiltins "min" = some (.builtin "min")) (he:PE X e te) (hl:PE X (.Lambda params (.Subscript (.Name vn p1) (.Name pn p2) q1) scope lpos) tl)
  (S:LamS params (.Subscript (.Name vn p1) (.Name pn p2) q1) scope pn) (hfree:scope.names.lookup vn=some .free) (hN:X.N[i]?=some vn) (hk:X.env.kindOf vn=some .cell) (hcl:∀ c0,X.env.cells.lookup vn=some c0→clos.lookup vn=some c0)
  (hst:starEach [e] X.env=(false,eval e X.env)::starEach [] X.env:=by rfl) (hdv:(vn == ("__debug__" : Str))=false:=by decide) (hcv:(vn == ("__classdict__" : Str))=false:=by decide) (hdp:(pn == ("__debug__" : Str))=false:=by decide) :
  PE X (.Call (.Name "min" p) [e] [⟨some "key",.Lambda params (.Subscript (.Name vn p1) (.Name pn p2) q1) scope lpos,kpos⟩] pos) (tMinItem X.K i te tl qual params (.Subscript (.Name vn p1) (.Name pn p2) q1) scope clos):=by
 intro pins s σ H Q I h
 refine wpAny_Call_Name_kw (ld_blt I hg hm hv ?_)
 unfold tMinItem at h
 refine callWith_kw (id := "min") (thn ((pa_cons he pa_nil hst) pos pins s σ H _ I h) fun us s1 ⟨vs,H1,I1,r,q⟩=>?_) (by rw [hst]; rfl) (by rw [hst]; rfl)
 refine thn ((pk_cons hl pk_nil) pos pins s1 σ H1 _ I1 q) fun ws s2 hz_=>?_
 obtain ⟨zs,H2,I2,rz,x,y,ex,ey,l,f,c,l',ns,ks,e1,e2,hf,hc',hσ,hsl,hne,hsk,hin,k⟩:=hz_
 subst ex ey e1 e2
 obtain ⟨u,rfl,ru⟩:=vals1 r
 obtain ⟨v,rfl,rv⟩:=vals1 rz
 cases ru; cases rv
 show wpAny _ _ (call (.builtin "min") [.ref l] [(Str.ofString "key",.ref f)]) _ _ s2
 have kr:KeyR X s2 X.A.in1 f (·∈ns) (fun n=>ks.getD n.toNat 0):=fun n t h tk hd=>key_item I2 hf hc' hroom S hfree hN hσ hk hcl hsk hdv hcv hdp n t h tk (hin n hd)
 exact min_key I2 hc hsl hne kr fun j M t s' I' e b=>⟨.int M,H2,I',⟨t,rfl⟩,k j M e b⟩
theorem pe_sortNeg (hc:X.calm=true) (hroom:X.A.in1.in1.depth < recursionLimit) (hg:Gl X "sorted") (hm:X.mg "sorted" = none) (hv:bootBuiltins "sorted" = some (.builtin "sorted")) (he:PE X e te) (hl:PE X (.Lambda params (.UnaryOp .USub (.Subscript (.Name vn p1) (.Subscript (.Name un p3) (.Name pn p2) q1) q2) q3) scope lpos) tl)
  (S:LamS params (.UnaryOp .USub (.Subscript (.Name vn p1) (.Subscript (.Name un p3) (.Name pn p2) q1) q2) q3) scope pn) (hfree:scope.names.lookup vn=some .free) (hfree2:scope.names.lookup un=some .free) (hN:X.N[i]?=some vn) (hk:X.env.kindOf vn=some .cell) (hcl:∀ c0,X.env.cells.lookup vn=some c0→clos.lookup vn=some c0)
  (hN2:X.N[j]?=some un) (hk2:X.env.kindOf un=some .cell) (hcl2:∀ c0,X.env.cells.lookup un=some c0→clos.lookup un=some c0)
  (hst:starEach [e] X.env=(false,eval e X.env)::starEach [] X.env:=by rfl) (hdv:(vn == ("__debug__" : Str))=false:=by decide) (hcv:(vn == ("__classdict__" : Str))=false:=by decide) (hdu:(un == ("__debug__" : Str))=false:=by decide) (hcu:(un == ("__classdict__" : Str))=false:=by decide) (hdp:(pn == ("__debug__" : Str))=false:=by decide) :
  PE X (.Call (.Name "sorted" p) [e] [⟨some "key",.Lambda params (.UnaryOp .USub (.Subscript (.Name vn p1) (.Subscript (.Name un p3) (.Name pn p2) q1) q2) q3) scope lpos,kpos⟩] pos) (tSortNeg X.K i j te tl qual params (.UnaryOp .USub (.Subscript (.Name vn p1) (.Subscript (.Name un p3) (.Name pn p2) q1) q2) q3) scope clos):=by
 intro pins s σ H Q I h
 refine wpAny_Call_Name_kw (ld_blt I hg hm hv ?_)
 unfold tSortNeg at h
 refine callWith_kw (id := "sorted") (thn ((pa_cons he pa_nil hst) pos pins s σ H _ I h) fun us s1 ⟨vs,H1,I1,r,q⟩=>?_) (by rw [hst]; rfl) (by rw [hst]; rfl)
 refine thn ((pk_cons hl pk_nil) pos pins s1 σ H1 _ I1 q) fun ws s2 hz_=>?_
 obtain ⟨zs,H2,I2,rz,x,y,ex,ey,r',f,c,l',y',n,ks,js,e1,e2,hf,hc',hσ,hσ2,hr,h64,hsk,hsj,hlen,hin,k⟩:=hz_
 subst ex ey e1 e2 hlen
 obtain ⟨u,rfl,ru⟩:=vals1 r
 obtain ⟨v,rfl,rv⟩:=vals1 rz
 cases ru; cases rv
 show wpAny _ _ (call (.builtin "sorted") [.ref r'] [(Str.ofString "key",.ref f)]) _ _ s2
 have kr:=key_neg I2 hf hc' hroom S hfree hfree2 hN hσ hk hcl hN2 hσ2 hk2 hcl2 hsk hsj hin hdv hcv hdu hcu hdp
 exact sorted_key I2 hc hr h64 kr fun D ms s' hD I' hp ho=>⟨.ref D,_,I',rfl,k D ms hD hp ho⟩
end
def codeOf (K:PySem.W.Frag) (f:Addr):Option Value:=match K.lookup f with
 | some ⟨_,_,.func fd,_⟩=>some fd.code
 | _=>none
theorem Fun.okC {P:Program} {w:World} {K:PySem.W.Frag} {mg:Str→Option Value} {base:Heap} {x qual:Str} {st:Stmt} {f c:Addr} {fd:FuncData} {N ps:List Str} {k:Nat} {sp:Sp} (F:Fun K x qual st f fd) (hc:codeOf K f=some (.ref c)) (S:FnScope N ps (defScope st)) (len:∀ vs H Q E,sp vs H Q E→vs.length=ps.length)
  (hbody:∀ (A:Around) (outer:List Env) (s:Shared) (H:Hp) (vs:List V) (Q:VK) (E:XK),Room k (A.deeper (envOfC qual (defScope st) s.heap.objs.size f (.ref c)))→sp vs H Q E →
   ∃ t,PSs (cxOf CX0 P w K mg base N qual (defScope st) f (.ref c) A outer s H E).nox (defBody st) t∧t { nx:=fun _ H'=>Q .non H',rt:=Q } (start N vs) H):FnOk P w K mg base CX0 (k + 1) f fd ps sp:=by
 obtain ⟨oc,od,kV,doc,pm,an,cdv,ct,osl,rfl,lk,hcd⟩:=F.ex
 have e:cdv=.ref c:=by
  unfold codeOf at hc
  rw [lk] at hc
  exact Option.some.inj hc
 subst e
 refine fn_of lk hcd S len fun A outer s H vs Q E hr hsp=>?_
 obtain ⟨t,h,q⟩:=hbody A outer s H vs Q E hr hsp
 exact ⟨t,h.nox,q⟩
end L2
namespace L2
open PySem PySem.Spec PyProof.Rows PySem.W
theorem ty_ne {a b:String} {p:Prop} (h:Value.type a=Value.type b) (n:a≠b):p:=absurd (Value.type.inj h) n
theorem law_callT {P:Program} {w:World} {K:PySem.W.Frag} {mg mb:Str→Option Value} {CX:CXT} {k:Nat} {fa a:Addr} {fd:FuncData} {x:Str} {sp:Sp} {s₁:Shared} {vs:List Value} {ns:List Int} {tabs:List Addr}
  (KX:K.In s₁.heap) (hns:s₁.heap.Ns mainGlobals mg) (hb:s₁.heap.Ns builtinsNs mb) (hbb:∀ x:Str,x ≠ "__name__" → mb x=bootBuiltins x) (hlim:s₁.heap.NoLimit) (hg:s₁.gens=#[])
  (ha:s₁.heap.get? a=some { cls:=.type "list",data:=.seq vs.toArray }) (hi:IntsAre vs ns) (hl:ns.length≤sizeLine) (hr:Room k callerA) (hT:∀ b∈tabs,s₁.heap.get? b=some (tabObj #[])∧K.lookup b=none∧isCodeTable s₁.heap b)
  (F:∀ base:Heap,K.In base→base.Ns mainGlobals mg→(∀ b o,s₁.heap.get? b=some o→b ∉ tabs→b≠a→base.get? b=some o)→FnOk P w K mg base CX k fa fd [x] sp) (hbind:∀ (s:Shared) (u:Value),BindsTo s fd ⟨[u],[]⟩ [(x,u)])
  (hsp:∀ H:Hp,(∀ b∈tabs,H b=some (.tbl #[]))→SqL K H a (ns.map V.int)→sp [.ref a] H (fun v _=>v=.bl true) fun _ _ _=>False)
  (hCX:∀ H e s',CX [] H s₁ (fun _ _ _=>False) e s'→False) :
  codeAny (model P w) callerA (.call (.ref fa) ⟨[.ref a],[]⟩) (fun r s'=>r=.ok (.ret (.bool true))∧OldK s₁.heap s'.heap∧s'.os=s₁.os∧AllBare s'.gens) s₁:=by
 have rv:=vals_ints hi
 have lenV:=hi.length
 have hTa:∀ b∈tabs,b≠a:=fun b hb z=>by
  have:=(hT b hb).1
  rw [z,ha] at this
  cases this
 have core:∀ H:Hp,SqL K H a (ns.map V.int)→HOk P w H s₁.heap→(∀ b∈tabs,H b=some (.tbl #[]))→(∀ b,H b≠none→(b=a∧∃ o xs,H b=some (.frz o (.lst xs)))∨b∈tabs)→(H a≠none→K.lookup a=none) →
   codeAny (model P w) callerA (.call (.ref fa) ⟨[.ref a],[]⟩) (fun r s'=>r=.ok (.ret (.bool true))∧OldK s₁.heap s'.heap∧s'.os=s₁.os∧AllBare s'.gens) s₁:=by
  intro H hS hok hH hA hK
  have base_of:∀ {b:Addr} {o:Obj},s₁.heap.get? b=some o→H b=none→(hidT s₁.heap H).get? b=some o:=fun e n=>hidT_get e n
  have noA:∀ {b:Addr} {o:Obj} {es:Array DictEntry} {ep:Nat},s₁.heap.get? b=some o→o.data=.dict es ep→H b=none:=fun {b o es ep} e d=>by
   cases q:H b with
   | none=>rfl
   | some u =>
    rcases hA b (by rw [q]; simp) with ⟨e',_⟩ | e'
    ·subst e'
     rw [ha] at e; cases e
     have d':Data.seq vs.toArray _=Data.dict es ep:=d
     cases d'
    ·rw [(hT b e').1] at e; cases e
     have d':Data.fields _=Data.dict es ep:=d
     cases d'
  have nsK:∀ {b:Addr} {m:Str→Option Value},s₁.heap.Ns b m→(hidT s₁.heap H).Ns b m:=fun {b m} ⟨o,es,ep,e,d,r⟩=>⟨o,es,ep,base_of e (noA e d),d,r⟩
  have hKb:K.In (hidT s₁.heap H):=fun b o e=>base_of (KX b o e) (by
   cases q:H b with
   | none=>rfl
   | some u =>
    rcases hA b (by rw [q]; simp) with ⟨e',_⟩ | e'
    ·subst e'
     rw [hK (by rw [q]; simp)] at e; cases e
    ·rw [(hT b e').2.1] at e; cases e)
  have hM:Mod K mg (hidT s₁.heap H):=⟨hKb,nsK hns,⟨mb,nsK hb,hbb⟩,let ⟨mc,h1,h2⟩:=hlim; ⟨mc,nsK h1,h2⟩⟩
  have e0:Env0 P w K mg (hidT s₁.heap H) callerA [] s₁ H:=⟨rfl,hM,fun b o e=>of_hidT e,Nat.le_of_eq (hidT_size _ _),trivial,fun b hb=>absurd (show b∈([]:List Addr) from hb) (by simp),hok,.of_eq hg⟩
  have hbase:∀ b o,s₁.heap.get? b=some o→b ∉ tabs→b≠a→(hidT s₁.heap H).get? b=some o:=fun b o e n1 n2=>base_of e (by
   cases q:H b with
   | none=>rfl
   | some u =>
    rcases hA b (by rw [q]; simp) with ⟨e',_⟩ | e'
    ·exact absurd e' n2
    ·exact absurd e' n1)
  refine codeAny_mono ((F _ hKb (nsK hns) hbase).run callerA [] s₁ H ⟨[.ref a],[]⟩ [.ref a] [.ref a] _ _ hr e0 (hbind s₁ (.ref a)) (.cons rfl .nil) (hsp H hH hS)) fun r s' h=>?_
  cases r with
  | error e=>exact (hCX H e s' h).elim
  | ok fl =>
   cases fl with
   | next=>exact False.elim h
   | brk=>exact False.elim h
   | cont=>exact False.elim h
   | ret u =>
    obtain ⟨v,H',os,bare,un,hok',r',q⟩:=h
    have q':v=.bl true:=q
    subst q'
    obtain rfl:u=Value.bool true:=r'
    have key:∀ b o,s₁.heap.get? b=some o→s'.heap.get? b=some o∨(b∈tabs∧∃ more,s'.heap.get? b=some (tabObj more)):=fun b o e=>by
     cases q:H b with
     | none=>exact .inl (un.keep b o e q (by intro z; exact absurd (show b∈([]:List Addr) from z) (by simp)) (by simp))
     | some u =>
      rcases hA b (by rw [q]; simp) with ⟨_,ob,xs,z⟩ | z
      ·have z2:=un.frzs b ob _ z
       obtain ⟨e1,_⟩:=hok b _ z
       obtain ⟨e2,_⟩:=hok' b _ z2
       rw [e] at e1; cases e1
       exact .inl e2
      ·obtain ⟨more,z2⟩:=un.tbls b _ (hH b z)
       exact .inr ⟨z,_,hok' b _ z2⟩
    refine ⟨rfl,⟨fun b o e=>?_,fun b o e=>?_⟩,os,bare⟩
    ·rcases key b o e with z | ⟨z,more,z2⟩
     ·exact .inl z
     ·have e1:=(hT b z).1
      rw [e] at e1; cases e1
      refine .inr (.inl ⟨(hT b z).2.2,rfl,#[],more,rfl,?_⟩)
      rw [z2]
      simp
    ·rcases key b o e with z | ⟨_,_,z⟩
     ·exact ⟨_,z⟩
     ·exact ⟨_,z⟩
 have tabOk:∀ {H:Hp} {b:Addr},b∈tabs→ObjOk P w H s₁.heap b (.tbl #[]):=fun {H b} hb=>(hT b hb).1
 cases hk:K.lookup a with
 | some o =>
  have e:=KX a o hk
  rw [ha] at e
  cases e
  refine core (fun b=>if b∈tabs then some (.tbl #[]) else none) (.inr ⟨_,vs.toArray,_,hk,rfl,rfl,rfl,by rw [List.size_toArray,lenV]; exact hl,by simpa using rv⟩) (fun b u z=>?_) (fun b hb=>if_pos hb) (fun b z=>?_) fun z=>?_
  ·by_cases hb:b∈tabs
   ·have z':=(if_pos hb).symm.trans z
    cases z'
    exact tabOk hb
   ·have z':=(if_neg hb).symm.trans z
    cases z'
  ·by_cases hb:b∈tabs
   ·exact .inr hb
   ·exact absurd (if_neg hb) z
  ·exact absurd (if_neg (fun y=>hTa a y rfl)) z
 | none =>
  refine core (fun b=>if b=a then some (.frz { cls:=.type "list",data:=.seq vs.toArray } (.lst (ns.map V.int))) else if b∈tabs then some (.tbl #[]) else none) (.inl (.inr ⟨{ cls:=.type "list",data:=.seq vs.toArray },if_pos rfl⟩)) (fun b u z=>?_) (fun b hb=>by rw [if_neg (hTa b hb),if_pos hb]) (fun b z=>?_) fun _=>hk
  ·by_cases hb:b=a
   ·have z':=(if_pos hb).symm.trans z
    cases z'
    subst hb
    exact ⟨ha,by rw [List.length_map]; exact hl,vs,_,rv,ha⟩
   ·have z':=(if_neg hb).symm.trans z
    by_cases hb2:b∈tabs
    ·have z2:=(if_pos hb2).symm.trans z'
     cases z2
     exact tabOk hb2
    ·have z2:=(if_neg hb2).symm.trans z'
     cases z2
  ·by_cases hb:b=a
   ·exact .inl ⟨hb,_,_,if_pos hb⟩
   ·by_cases hb2:b∈tabs
    ·exact .inr hb2
    ·exact absurd ((if_neg hb).trans (if_neg hb2)) z
theorem tab_facts {q:Program} {loose:List Str} {mean:ExcName→Option Value} {mg mb:Str→Option Value} {h:Heap} {K:PySem.W.Frag} {x:Str} {c P:Addr} (T:Top q loose mean mg mb h) (X:K.In h) (hr:((recsOf q).find? (fun e=>e.name == x)).isSome=true) (ht:tabIn K x=some (c,P)) :
  CodeHd h c P∧h.get? P=some (tabObj #[])∧isCodeTable h P:=by
 obtain ⟨d,hd⟩:=Option.isSome_iff_exists.mp hr
 obtain ⟨h1,h2⟩:=tab_of T X hd ht
 obtain ⟨o,vs,_,_,_,_,_,_,_,e1,e2,e3,e4,_⟩:=id h1
 exact ⟨h1,h2,c,o,vs,e1,e2,e3,e4⟩
theorem CodeHd.to {h h':Heap} {c P:Addr} (x:CodeHd h c P) (k:∀ o,h.get? c=some o→h'.get? c=some o):CodeHd h' c P:=by
 obtain ⟨o,vs,file,tf,flags,tg,inF,text,tt,e,r⟩:=x
 exact ⟨o,vs,file,tf,flags,tg,inF,text,tt,k _ e,r⟩
theorem walk_ofT {l:PySem.W.OpenLaw} {n k:Nat} {q:Program} {loose:List Str} {XP:(Str→Option Value)→Heap→Prop} {YP:World→Heap→Prop} {d:DefRec} {K:Params→PySem.W.Frag} {sp:World→Sp} {x x1 x2:Str} {c1 P1 c2 P2:Addr}
  (hn:l.most=some n) (hn2:n≤sizeLine) (hdf:d.params.defaults=[]) (hr:Room k callerA)
  (hY:∀ (w:World) (h:Heap),YP w h→(K w.params).In h)
  (r1:((recsOf q).find? (fun e=>e.name == x1)).isSome=true) (r2:((recsOf q).find? (fun e=>e.name == x2)).isSome=true) (t1:∀ w:World,tabIn (K w.params) x1=some (c1,P1)) (t2:∀ w:World,tabIn (K w.params) x2=some (c2,P2))
  (n1:∀ w:World,(K w.params).lookup P1=none) (n2:∀ w:World,(K w.params).lookup P2=none)
  (F:∀ (w:World) (mg:Str→Option Value) (fa:Addr) (h:Heap),(K w.params).In h→h.Ns mainGlobals mg→mg d.name=some (.ref fa) →
   ∃ fd:FuncData,(∀ (s:Shared) (u:Value),BindsTo s fd ⟨[u],[]⟩ [(x,u)]) ∧
    ∀ base:Heap,(K w.params).In base→base.Ns mainGlobals mg→Bm base mg→CodeHd base c1 P1→CodeHd base c2 P2→FnOk l.prog w (K w.params) mg base CX0 k fa fd [x] (sp w))
  (hsp:∀ (w:World) (H:Hp) (a:Addr) (ns:List Int),ns.length≤n→H P1=some (.tbl #[])→H P2=some (.tbl #[])→SqL (K w.params) H a (ns.map V.int)→sp w [.ref a] H (fun v _=>v=.bl true) fun _ _ _=>False) :
  PySem.W.WalkO q loose XP YP l.row.toRowW d [] (fun f vs=>PySem.call f vs):=by
 refine Att.attach_call hn hdf fun w s₀ s₁ mg mb fa o pm cd doc a vs ns G Y ho hd hcd hmg hobj hints hlen hg=>?_
 have KX:=hY w _ Y
 obtain ⟨fd,hb,hF⟩:=F w mg fa _ KX G.T.g hmg
 obtain ⟨a1,a2,a3⟩:=tab_facts G.T KX r1 (t1 w)
 obtain ⟨b1,b2,b3⟩:=tab_facts G.T KX r2 (t2 w)
 have tb:∀ b∈[P1,P2],s₁.heap.get? b=some (tabObj #[])∧(K w.params).lookup b=none∧isCodeTable s₁.heap b:=fun b hb=>by
  rcases List.mem_cons.mp hb with rfl | hb
  ·exact ⟨a2,n1 w,a3⟩
  ·rw [List.mem_singleton.mp hb]; exact ⟨b2,n2 w,b3⟩
 refine law_callT (tabs:=[P1,P2]) KX G.T.g G.T.b G.T.builtins G.T.nolimit hg hobj hints (Nat.le_trans hlen hn2) hr tb (fun base kb nb kp=>hF base kb nb ?_ ?_ ?_) hb (fun H hH hS=>hsp w H a ns hlen (hH P1 (by simp)) (hH P2 (by simp)) hS) fun H e s' z=>z
 ·obtain ⟨bm,ob,h1,h2,h3,h4,h5⟩:=G.T.bmain
  refine ⟨bm,ob,h1,h2,kp bm ob h3 (fun z=>?_) (fun z=>?_),h4,h5⟩
  ·rw [(tb bm z).1] at h3; cases h3; cases h4
  ·rw [z,hobj] at h3; cases h3; exact ty_ne h4 (by decide)
 ·refine CodeHd.to a1 fun oc e=>kp c1 oc e (fun z=>?_) fun z=>?_
  ·obtain ⟨o',vs',_,_,_,_,_,_,_,e1,e2,_⟩:=id a1
   rw [(tb c1 z).1] at e1; cases e1; cases e2
  ·obtain ⟨o',vs',_,_,_,_,_,_,_,e1,e2,_⟩:=id a1
   rw [z,hobj] at e1; cases e1; exact ty_ne e2 (by decide)
 ·refine CodeHd.to b1 fun oc e=>kp c2 oc e (fun z=>?_) fun z=>?_
  ·obtain ⟨o',vs',_,_,_,_,_,_,_,e1,e2,_⟩:=id b1
   rw [(tb c2 z).1] at e1; cases e1; cases e2
  ·obtain ⟨o',vs',_,_,_,_,_,_,_,e1,e2,_⟩:=id b1
   rw [z,hobj] at e1; cases e1; exact ty_ne e2 (by decide)
end L2
namespace L2
open PySem PySem.Spec PyProof.Rows PySem.W
section
variable {prog:Program} {w:World} {A:Around} {s:Shared} {E:Value→Shared→Prop}
end
end L2
namespace L2
open PySem PySem.Spec PyProof.Rows PySem.W
section
variable {X:Cx} {pins:List (Addr×Obj)} {σ:St} {H:Hp} {s:Shared}
end
end L2
namespace L2
open PySem PySem.Spec PyProof.Rows PySem.W
section
variable {X:Cx} {e:Expr} {te tl:TE} {p pos kpos lpos:Pos} {params params':Arguments} {scope scope':Scope} {body':List Stmt} {clos:List (Str×Addr)} {fn nm' qual' rn ln pn vn un:Str} {p0 p1 p2 p3 q1 q2 q3:Pos} {c P fo:Addr} {kV doc pm cdv ct oc:Value} {an od:Option Addr} {osl:Array (Option Value)}
end
end L2
namespace L2
open PySem PySem.Spec PyProof.Rows
end L2
namespace L2
open PySem PySem.Spec PyProof.Rows PySem.W
section
variable {X:Cx}
end
end L2
namespace L2
open PySem PySem.Spec PyProof.Rows PySem.W
section
variable {X:Cx}
end
end L2
namespace L2
open PySem PySem.Spec PyProof.Rows PySem.W
end L2
namespace L2
open PySem PySem.Spec PyProof.Rows PySem.W
section
variable {X:Cx}
end
end L2
namespace L2
open PySem PySem.Spec PyProof.Rows
structure RoomH (k:Nat) (A:Around):Prop where
 dp:A.depth + 3 * k + 5 < recursionLimit
 un:A.units + 16 * k + 200 < cLine
theorem Room.toH {k:Nat} {A:Around} (r:Room k A) (ev:Option Value):RoomH k (A.mark ev):=⟨r.dp,r.un⟩
theorem RoomH.plain {k:Nat} {A:Around} (r:RoomH k A):Room k { A with handled:=none }:=⟨rfl,r.dp,r.un⟩
theorem RoomH.deeper {k:Nat} {A:Around} (r:RoomH (k + 1) A) (env:Env):RoomH k (A.deeper env) :=
 ⟨by have:=r.dp; show A.depth + 1 + 3 * k + 5 < _; omega,by have:=r.un; show A.units + 3 + 16 * k + 200 < _; omega⟩
structure FnOkH (P:Program) (w:World) (K:PySem.W.Frag) (mg:Str→Option Value) (base:Heap) (k:Nat) (f:Addr) (fd:FuncData) (ps:List Str) (sp:Sp):Prop where
 len:∀ vs H Q E,sp vs H Q E→vs.length=ps.length
 run:∀ (A:Around) (outer:List Env) (s:Shared) (H:Hp) (args:Args) (us:List Value) (vs:List V) (Q:VK) (E:XK),RoomH k A→Env0 P w K mg base A outer s H→BindsTo s fd args (ps.zip us)→Vals vs us→sp vs H Q E →
  codeAny (model P w) A (.call (.ref f) args) (CR CX0 outer P w H s Q E) s
abbrev cxH (P:Program) (w:World) (K:PySem.W.Frag) (mg:Str→Option Value) (base:Heap) (N:List Str) (qual:Str) (scope:Scope) (f:Addr) (cd:Value) (A:Around) (outer:List Env) (s:Shared) (H:Hp):Cx :=
 { cxOf CX0 P w K mg base N qual scope f cd A outer s H E0 with calm:=false,xe:=fun _ _=>False }
theorem Env0.marked {P:Program} {w:World} {K:PySem.W.Frag} {mg:Str→Option Value} {base:Heap} {A:Around} {outer:List Env} {s:Shared} {H:Hp} (e:Env0 P w K mg base A outer s H) (ev:Option Value):Env0 P w K mg base { A with handled:=ev } outer s H :=
 { e with frames:=e.frames }
section
variable {P:Program} {w:World} {K:PySem.W.Frag} {mg:Str→Option Value} {base:Heap}
theorem Fun.okH {x qual:Str} {st:Stmt} {f:Addr} {fd:FuncData} {N ps:List Str} {k:Nat} {sp:Sp} (F:Fun K x qual st f fd) (S:FnScope N ps (defScope st)) (len:∀ vs H Q E,sp vs H Q E→vs.length=ps.length)
  (hbody:∀ (cdv:Value) (A:Around) (outer:List Env) (s:Shared) (H:Hp) (vs:List V) (Q:VK) (E:XK),RoomH k (A.deeper (envOfC qual (defScope st) s.heap.objs.size f cdv))→sp vs H Q E →
   ∃ t,PSs (cxH P w K mg base N qual (defScope st) f cdv A outer s H) (defBody st) t∧t { nx:=fun _ H'=>Q .non H',rt:=Q } (start N vs) H):FnOkH P w K mg base (k + 1) f fd ps sp:=by
 obtain ⟨oc,od,kV,doc,pm,an,cdv,ct,osl,rfl,lk,hcd⟩:=F.ex
 refine ⟨len,fun A outer s H args us vs Q E hr e0 hb r hsp=>?_⟩
 have hl:=len _ _ _ _ hsp
 have KX:K.In s.heap:=e0.mod.kin.keeps fun b o e=>(e0.bs b o e).1
 have lim:s.heap.NoLimit:=e0.mod.nolimit.keeps fun b o e=>(e0.bs b o e).1
 have hkind:∀ y∈ps.zip us,(defScope st).names.lookup y.1=some .local∨((defScope st).names.lookup y.1=some .cell∧((cellsFrom (s.heap.objs.size + 1) (defScope st).names []).lookup y.1).isSome=true):=fun ⟨n,v⟩ hy=>by
  rcases S.par n (List.of_mem_zip hy).1 with q | q
  ·exact .inl q
  ·exact .inr ⟨q,PySem.W.cellsFrom_some _ _ _ (.inl q)⟩
 refine codeAny_call_function hr.plain.depth (KX _ _ lk) rfl S.co S.gen rfl (PySem.W.codeRec_of KX hcd) (hb _ _ _ _ ?_)
 refine wpAny_newFunctionEnv_cells S.kind hkind fun env he s1 x=>?_
 subst he
 refine ⟨lim.keeps x.toInCall.keep,codeAny_func ?_⟩
 obtain ⟨t,ht,hq⟩:=hbody cdv A outer s H vs Q E (hr.deeper _) hsp
 have I0:Inv (cxOf CX0 P w K mg base N qual (defScope st) f cdv { A with handled:=none } outer s H E0) [] (start N vs) H s1:=inv_start S rfl (e0.marked none) hl r x
 have I:Inv (cxH P w K mg base N qual (defScope st) f cdv A outer s H) [] (start N vs) H s1 :=
  ⟨⟨I0.ok.mod,I0.ok.kind,I0.ok.glob,I0.ok.blt,I0.ok.above,I0.ok.inj,I0.ok.has,I0.ok.cab,fun z=>(nomatch z),I0.ok.frames,I0.ok.stk,I0.ok.exf,I0.ok.bs,I0.ok.bsz,I0.ok.noex,I0.ok.exfs,I0.ok.funs,I0.ok.frf⟩,
   I0.os,I0.bare,I0.base,I0.loc,I0.cell,I0.free,I0.freeC,I0.pin,I0.hok,I0.len⟩
 refine wpAny_mono (ht [] s1 (start N vs) H _ I hq) (fun fl s' hs=>?_) fun e s' hs=>hs.elim
 have fin:∀ {σ':St} {H':Hp} {v:V} {u:Value},Inv (cxH P w K mg base N qual (defScope st) f cdv A outer s H) [] σ' H' s'→RelV v u→Q v H'→CE outer P w H s Q u s' :=
  fun {σ' H' v u} J rv q=>⟨v,H',J.os,J.bare,J.base,J.hok,rv,q⟩
 cases fl with
 | ret u =>
  obtain ⟨v,σ',H',J,rv,q⟩:=hs
  exact fin J rv q
 | next =>
  obtain ⟨σ',H',J,q⟩:=hs
  exact fin (v:=V.non) (u:=Value.none) J rfl q
 | brk =>
  obtain ⟨_,_,_,q⟩:=hs
  exact q.elim
 | cont =>
  obtain ⟨_,_,_,q⟩:=hs
  exact q.elim
end
section
variable {X:Cx} {k:Nat} {f:Addr} {fd:FuncData} {ps:List Str} {sp:Sp} {x:Str} {p pos:Pos} {e:Expr} {es:List Expr} {t:TA}
theorem pe_callH (F:FnOkH X.prog X.w X.K X.mg X.base k f fd ps sp) (hr:RoomH k X.A) (hg:Gl X x) (hm:X.mg x=some (.ref f)) (hk:PySem.W.keepIn X.K (.ref f)=true) (hb:Binds X.K fd ps [])
  (ha:PA X (e::es) t) (hdb:(x == ("__debug__" : Str))=false:=by decide) (he:starEach (e::es) X.env=(false,eval e X.env)::starEach es X.env:=by rfl) (hpl:(backTo pos (starEach es X.env)).any (·.1)=false:=by rfl) :
  PE X (.Call (.Name x p) (e::es) [] pos) (tCall sp [] E0 t):=by
 intro pins s σ H Q I h
 refine wpAny_Call_Name_kw (ld_glob I hg hm ?_ hdb)
 refine PySem.W.callWith_K (h₀:=X.base) I.ok.mod.kin hk (thn (ha pos pins s σ H _ I h) fun us s1 hz=>?_) he hpl
 obtain ⟨vs,H1,I1,r,q⟩:=hz
 refine ⟨I1.kIn,?_⟩
 have r2:Vals (vs++[]) (us++[]):=r.append .nil
 have hl:(us++[]).length=ps.length:=by rw [← r2.length]; exact F.len _ _ _ _ q
 refine wpAny_call (codeAny_mono (F.run X.A X.stack s1 H1 ⟨us,[]⟩ (us++[]) (vs++[]) Q E0 hr I1.env0 (hb s1 us I1.kIn hl) r2 q) fun r s' hq=>?_)
 cases r with
 | error e=>exact False.elim hq
 | ok fl =>
  cases fl with
  | ret u=>exact I1.after hq
  | next=>exact False.elim hq
  | brk=>exact False.elim hq
  | cont=>exact False.elim hq
end
end L2
namespace L2
open PySem PySem.Spec PyProof.Rows
section
variable {X:Cx}
def isTV:Value→Bool
 | .bool b=>b
 | _=>false
theorem eq_TV {A:Around} {s:Shared} (b:Bool):SeqAt.EqAt A s (.bool b) (.bool true) (isTV (.bool b)):=by
 have:=SeqAt.EqAt.bool_bool (A:=A) (s:=s) b true
 cases b <;> exact this
theorem vals_bl:∀ {bs:List Bool} {us:List Value},Vals (bs.map V.bl) us→us=bs.map Value.bool
 | [],_,h=>by cases h; rfl
 | b::bs,_,h=>by
  cases h with
  | cons r t=>rw [List.map_cons,← vals_bl t]; cases r; rfl
def rCountT (K:PySem.W.Frag):V→List V→Hp→VK→Prop:=fun x vs H Q=>∃ (p:Addr) (bs:List Bool),x=.ref p∧vs=[.bl true]∧SqL K H p (bs.map V.bl)∧Q (.int (bs.countP id:Nat)) H
theorem mt_countT:MtM X "list.count" (rCountT X.K):=by
 intro pins s σ H x vs v us Q I rx rv h
 obtain ⟨p,bs,rfl,rfl,hq,q⟩:=h
 cases rx
 obtain ⟨u,rfl,ru⟩:=rv.one
 cases ru
 obtain ⟨its,r,pl,hz⟩:=I.list hq
 have hl:=pl.isList
 obtain ⟨⟨cls,dd,data,sl⟩,ho,hc,n,hd⟩:=id hl
 simp only at hc hd
 subst hc hd
 have e:=vals_bl r
 subst e
 refine call_meets PySem.F.slot_list_count ⟨_,ho,rfl⟩ PySem.F.entry_list_count (PySem.F.args_list_count_2 _ _)
  (PySem.SeqAt.list_countAt p _ n dd sl (.bool true) isTV) ⟨ho,fun y hy=>?_,⟨.int _,H,I.tok _,⟨_,rfl⟩,?_⟩⟩
 ·have hy:y∈bs.map Value.bool:=by simpa using hy
  obtain ⟨b,_,rfl⟩:=List.mem_map.mp hy
  exact eq_TV b
 ·have:(bs.map Value.bool).toArray.toList.countP isTV=bs.countP id:=by
   rw [List.countP_map]
   rfl
  rw [this]
  exact q
def rIndexT (K:PySem.W.Frag):V→List V→Hp→VK→Prop:=fun x vs H Q=>∃ (p:Addr) (bs:List Bool) (j:Nat),x=.ref p∧vs=[.bl true]∧SqL K H p (bs.map V.bl)∧bs[j]?=some true∧(∀ m,m < j→bs[m]?=some false)∧Q (.int (j:Nat)) H
theorem mt_indexT:MtM X "list.index" (rIndexT X.K):=by
 intro pins s σ H x vs v us Q I rx rv h
 obtain ⟨p,bs,j,rfl,rfl,hq,hj,hm,q⟩:=h
 cases rx
 obtain ⟨u,rfl,ru⟩:=rv.one
 cases ru
 obtain ⟨its,r,pl,hz⟩:=I.list hq
 have hl:=pl.isList
 obtain ⟨⟨cls,dd,data,sl⟩,ho,hc,n,hd⟩:=id hl
 simp only at hc hd
 subst hc hd
 have e:=vals_bl r
 subst e
 rw [List.length_map] at hz
 have hjl:j < bs.length:=(List.getElem?_eq_some_iff.mp hj).1
 refine call_meets PySem.F.slot_list_index ⟨_,ho,rfl⟩ PySem.F.entry_list_index (PySem.F.args_list_index_2 _ _)
  (PySem.SeqAt.list_indexAt p _ n dd sl (.bool true) isTV j (by simpa using hjl) (by rw [sizeLine_eq] at hz; omega) ?_ ?_) ⟨ho,fun y hy=>?_,⟨.int j,H,I.tok _,⟨_,rfl⟩,q⟩⟩
 ·simp only [List.getElem_toArray,List.getElem_map]
  exact (List.getElem?_eq_some_iff.mp hj).2
 ·intro m h1 h2
  simp only [List.getElem_toArray,List.getElem_map]
  exact (List.getElem?_eq_some_iff.mp (hm m h2)).2
 ·have hy:y∈bs.map Value.bool:=by simpa using hy
  obtain ⟨b,_,rfl⟩:=List.mem_map.mp hy
  exact eq_TV b
end
end L2
namespace L2
open PySem PySem.Spec PyProof.Rows
theorem star_tup (xs:List Expr) {x1} (p:Pos) (es:List Expr) (env:Env):starEach (.Tuple xs x1 p::es) env=(false,eval (.Tuple xs x1 p) env)::starEach es env:=by rfl
theorem star_lst (xs:List Expr) (p:Pos) (es:List Expr) (env:Env):starEach (.List xs p::es) env=(false,eval (.List xs p) env)::starEach es env:=by rfl
theorem star_name (x:Str) (p:Pos) (es:List Expr) (env:Env):starEach (.Name x p::es) env=(false,eval (.Name x p) env)::starEach es env:=by rfl
theorem swaps_lst (es:List Expr) (p:Pos) (t:Option Expr) (l:Nat) (env:Env):swapsWith (.List es p) t l env=pure false:=by rfl
theorem swaps_bin (a b:Expr) (o:Operator) (p:Pos) (t:Option Expr) (l:Nat) (env:Env):swapsWith (.BinOp a o b p) t l env=pure false:=by rfl
section
variable {X:Cx} {a:Expr} {es xs:List Expr} {te ta:TE} {tl:TA} {pos p:Pos}
theorem xe_out {e:Expr} (h:XE X e te):PE X e te:=h.out
theorem xe_tup {x1} (h:XA X es tl):XE X (.Tuple es x1 pos) (tTup tl):=⟨pe_tup h.out⟩
theorem xe_bl {b:Bool} {j:Nat}:XE X (.Constant (.bool b) j pos) (tC (.bl b)):=⟨pe_bl⟩
theorem xe_non {j:Nat}:XE X (.Constant .none j pos) (tC .non):=⟨pe_non⟩
theorem xe_un {op:UnaryOp} {r:V→Hp→VK→Prop} (ho:UnR X (unaryOp op) r) (ha:XE X a ta):XE X (.UnaryOp op a pos) (tUn r ta):=⟨pe_un ho ha.out⟩
theorem xa_consT {x1} (ha:XE X (.Tuple xs x1 p) te) (hr:XA X es tl):XA X (.Tuple xs x1 p::es) (tCons te tl):=⟨pa_cons ha.out hr.out (star_tup xs p es X.env)⟩
theorem xa_consL (ha:XE X (.List xs p) te) (hr:XA X es tl):XA X (.List xs p::es) (tCons te tl):=⟨pa_cons ha.out hr.out (star_lst xs p es X.env)⟩
theorem xa_consV {x:Str} (ha:XE X (.Name x p) te) (hr:XA X es tl):XA X (.Name x p::es) (tCons te tl):=⟨pa_cons ha.out hr.out (star_name x p es X.env)⟩
end
end L2
namespace WB
open PySem
theorem bt_ValueError:bootBuiltins "ValueError" = some (.type "ValueError"):=by decide +kernel
theorem bt_isinstance:bootBuiltins "isinstance" = some (.builtin "isinstance"):=by decide +kernel
theorem bt_int:bootBuiltins "int" = some (.type "int"):=by decide +kernel
theorem bt_bool:bootBuiltins "bool" = some (.type "bool"):=by decide +kernel
theorem bt_list:bootBuiltins "list" = some (.type "list"):=by decide +kernel
theorem bt_tuple:bootBuiltins "tuple" = some (.type "tuple"):=by decide +kernel
theorem bt_len:bootBuiltins "len" = some (.builtin "len"):=by decide +kernel
theorem bt_all:bootBuiltins "all" = some (.builtin "all"):=by decide +kernel
theorem bt_range:bootBuiltins "range" = some (.type "range"):=by decide +kernel
theorem bt_min:bootBuiltins "min" = some (.builtin "min"):=by decide +kernel
theorem bt_sum:bootBuiltins "sum" = some (.builtin "sum"):=by decide +kernel
theorem bt_sorted:bootBuiltins "sorted" = some (.builtin "sorted"):=by decide +kernel
theorem bt_set:bootBuiltins "set" = some (.type "set"):=by decide +kernel
theorem bt_dict:bootBuiltins "dict" = some (.type "dict"):=by decide +kernel
end WB
namespace WR
open PySem L2
def top (i:Nat):Stmt:=PySem.Challenge.pw_wellroads_k10_refused.main.body.getD i (.Pass ⟨0,0,0,0⟩)
abbrev s_is_number:Stmt:=top 11
abbrev s_is_whole:Stmt:=top 12
abbrev s_is_road:Stmt:=top 13
abbrev s_is_tree:Stmt:=top 14
abbrev s_steps:Stmt:=top 15
abbrev s_reached:Stmt:=top 16
abbrev s_Tree_init:Stmt:=inClass (top 17) 0
abbrev s_Tree_roads:Stmt:=inClass (top 17) 1
abbrev s_need_village:Stmt:=top 18
abbrev s_need_road:Stmt:=top 19
abbrev s_far:Stmt:=top 20
abbrev s_way:Stmt:=top 21
abbrev s_distances_from:Stmt:=top 22
abbrev s_distances:Stmt:=top 23
abbrev s_sides:Stmt:=top 24
abbrev s_joined:Stmt:=top 25
abbrev s_moved:Stmt:=top 26
abbrev s_errand:Stmt:=top 28
abbrev s_long:Stmt:=top 30
abbrev s_least_places:Stmt:=top 33
abbrev s_need_people:Stmt:=top 34
abbrev s_walked:Stmt:=top 35
abbrev s_walks:Stmt:=top 36
abbrev s_medians:Stmt:=top 37
abbrev s_Wells_init:Stmt:=inClass (top 42) 0
abbrev s_how_many_near:Stmt:=top 43
abbrev s_innermost_near:Stmt:=top 44
abbrev s_fewest:Stmt:=top 45
abbrev s_dug:Stmt:=top 46
abbrev s_least_walk:Stmt:=top 47
abbrev s__law_cell_at:Stmt:=top 49
abbrev s__law_sort:Stmt:=top 50
abbrev s__law_tree:Stmt:=top 51
abbrev s__law_ask:Stmt:=top 52
abbrev s__law_asked:Stmt:=top 53
abbrev s__law_all:Stmt:=top 54
abbrev s__law_trees:Stmt:=top 55
abbrev s_law:Stmt:=top 56
set_option genInjectivity false in
set_option genSizeOf false in
structure Adr where
 f_is_number:Addr
 d_is_number:FuncData
 f_is_whole:Addr
 d_is_whole:FuncData
 f_is_road:Addr
 d_is_road:FuncData
 f_is_tree:Addr
 d_is_tree:FuncData
 f_steps:Addr
 d_steps:FuncData
 f_reached:Addr
 d_reached:FuncData
 f_Tree_init:Addr
 d_Tree_init:FuncData
 f_Tree_roads:Addr
 d_Tree_roads:FuncData
 f_need_village:Addr
 d_need_village:FuncData
 f_need_road:Addr
 d_need_road:FuncData
 f_far:Addr
 d_far:FuncData
 f_way:Addr
 d_way:FuncData
 f_distances_from:Addr
 d_distances_from:FuncData
 f_distances:Addr
 d_distances:FuncData
 f_sides:Addr
 d_sides:FuncData
 f_joined:Addr
 d_joined:FuncData
 f_moved:Addr
 d_moved:FuncData
 f_errand:Addr
 d_errand:FuncData
 f_long:Addr
 d_long:FuncData
 f_least_places:Addr
 d_least_places:FuncData
 f_need_people:Addr
 d_need_people:FuncData
 f_walked:Addr
 d_walked:FuncData
 f_walks:Addr
 d_walks:FuncData
 f_medians:Addr
 d_medians:FuncData
 f_Wells_init:Addr
 d_Wells_init:FuncData
 f_how_many_near:Addr
 d_how_many_near:FuncData
 f_innermost_near:Addr
 d_innermost_near:FuncData
 f_fewest:Addr
 d_fewest:FuncData
 f_dug:Addr
 d_dug:FuncData
 f_least_walk:Addr
 d_least_walk:FuncData
 f__law_cell_at:Addr
 d__law_cell_at:FuncData
 f__law_sort:Addr
 d__law_sort:FuncData
 f__law_tree:Addr
 d__law_tree:FuncData
 f__law_ask:Addr
 d__law_ask:FuncData
 f__law_asked:Addr
 d__law_asked:FuncData
 f__law_all:Addr
 d__law_all:FuncData
 f__law_trees:Addr
 d__law_trees:FuncData
 f_law:Addr
 d_law:FuncData
 C_RoadError:Addr
 C_BadTree:Addr
 C_NoVillage:Addr
 C_NoRoad:Addr
 C_BadNumber:Addr
 C_BadRow:Addr
 C_Tree:Addr
 C_Answer:Addr
 C_Wells:Addr
 k_MOST_VILLAGES:Tok
 k_MOST_LENGTH:Tok
 k_MOST_PEOPLE:Tok
 k_MOST_WALK:Tok
 k_MOST_WELLS:Tok
 c_fewest:Addr
 P_fewest:Addr
 c_innermost_near:Addr
 P_innermost_near:Addr
structure Txt (K:PySem.W.Frag) (mg:Str→Option Value) (t:Adr):Prop where
 z_ValueError:mg "ValueError" = none
 z_all:mg "all" = none
 z_bool:mg "bool" = none
 z_dict:mg "dict" = none
 z_enumerate:mg "enumerate" = none
 z_int:mg "int" = none
 z_isinstance:mg "isinstance" = none
 z_len:mg "len" = none
 z_list:mg "list" = none
 z_min:mg "min" = none
 z_range:mg "range" = none
 z_set:mg "set" = none
 z_sorted:mg "sorted" = none
 z_sum:mg "sum" = none
 z_tuple:mg "tuple" = none
 z_zip:mg "zip" = none
 g_MOST_VILLAGES:mg "MOST_VILLAGES" = some (.int 12 t.k_MOST_VILLAGES)
 g_MOST_LENGTH:mg "MOST_LENGTH" = some (.int 1000000 t.k_MOST_LENGTH)
 g_MOST_PEOPLE:mg "MOST_PEOPLE" = some (.int 1000000 t.k_MOST_PEOPLE)
 g_MOST_WALK:mg "MOST_WALK" = some (.int 12000000 t.k_MOST_WALK)
 g_MOST_WELLS:mg "MOST_WELLS" = some (.int 12 t.k_MOST_WELLS)
 F_is_number:Fun K "is_number" "is_number" s_is_number t.f_is_number t.d_is_number
 b_is_number:Binds K t.d_is_number ["value"] []
 m_is_number:mg "is_number" = some (.ref t.f_is_number)
 F_is_whole:Fun K "is_whole" "is_whole" s_is_whole t.f_is_whole t.d_is_whole
 b_is_whole:Binds K t.d_is_whole ["value", "least", "most"] []
 m_is_whole:mg "is_whole" = some (.ref t.f_is_whole)
 F_is_road:Fun K "is_road" "is_road" s_is_road t.f_is_road t.d_is_road
 b_is_road:Binds K t.d_is_road ["road", "villages"] []
 m_is_road:mg "is_road" = some (.ref t.f_is_road)
 F_is_tree:Fun K "is_tree" "is_tree" s_is_tree t.f_is_tree t.d_is_tree
 b_is_tree:Binds K t.d_is_tree ["villages", "roads"] []
 m_is_tree:mg "is_tree" = some (.ref t.f_is_tree)
 F_steps:Fun K "steps" "steps" s_steps t.f_steps t.d_steps
 b_steps:Binds K t.d_steps ["roads", "village"] []
 m_steps:mg "steps" = some (.ref t.f_steps)
 F_reached:Fun K "reached" "reached" s_reached t.f_reached t.d_reached
 b_reached:Binds K t.d_reached ["roads", "start"] []
 m_reached:mg "reached" = some (.ref t.f_reached)
 F_Tree_init:Fun K "__init__" "Tree.__init__" s_Tree_init t.f_Tree_init t.d_Tree_init
 b_Tree_init:Binds K t.d_Tree_init ["self", "villages", "roads"] []
 M_Tree:Mk K t.C_Tree t.f_Tree_init
 F_Tree_roads:Fun K "roads" "Tree.roads" s_Tree_roads t.f_Tree_roads t.d_Tree_roads
 b_Tree_roads:Binds K t.d_Tree_roads ["self"] []
 M_Tree_roads:Meth K t.C_Tree "roads" t.f_Tree_roads
 F_need_village:Fun K "need_village" "need_village" s_need_village t.f_need_village t.d_need_village
 b_need_village:Binds K t.d_need_village ["tree", "village"] []
 m_need_village:mg "need_village" = some (.ref t.f_need_village)
 F_need_road:Fun K "need_road" "need_road" s_need_road t.f_need_road t.d_need_road
 b_need_road:Binds K t.d_need_road ["tree", "at"] []
 m_need_road:mg "need_road" = some (.ref t.f_need_road)
 F_far:Fun K "far" "far" s_far t.f_far t.d_far
 b_far:Binds K t.d_far ["tree", "one", "other"] []
 m_far:mg "far" = some (.ref t.f_far)
 F_way:Fun K "way" "way" s_way t.f_way t.d_way
 b_way:Binds K t.d_way ["tree", "one", "other"] []
 m_way:mg "way" = some (.ref t.f_way)
 F_distances_from:Fun K "distances_from" "distances_from" s_distances_from t.f_distances_from t.d_distances_from
 b_distances_from:Binds K t.d_distances_from ["tree", "village"] []
 m_distances_from:mg "distances_from" = some (.ref t.f_distances_from)
 F_distances:Fun K "distances" "distances" s_distances t.f_distances t.d_distances
 b_distances:Binds K t.d_distances ["tree"] []
 m_distances:mg "distances" = some (.ref t.f_distances)
 F_sides:Fun K "sides" "sides" s_sides t.f_sides t.d_sides
 b_sides:Binds K t.d_sides ["tree", "at"] []
 m_sides:mg "sides" = some (.ref t.f_sides)
 F_joined:Fun K "joined" "joined" s_joined t.f_joined t.d_joined
 b_joined:Binds K t.d_joined ["tree", "at", "other", "length"] []
 m_joined:mg "joined" = some (.ref t.f_joined)
 F_moved:Fun K "moved" "moved" s_moved t.f_moved t.d_moved
 b_moved:Binds K t.d_moved ["tree", "at", "one", "other"] []
 m_moved:mg "moved" = some (.ref t.f_moved)
 F_errand:Fun K "errand" "errand" s_errand t.f_errand t.d_errand
 b_errand:Binds K t.d_errand ["tree", "one", "other"] []
 m_errand:mg "errand" = some (.ref t.f_errand)
 F_long:Fun K "long" "long" s_long t.f_long t.d_long
 b_long:Binds K t.d_long ["tree", "walk"] []
 m_long:mg "long" = some (.ref t.f_long)
 F_least_places:Fun K "least_places" "least_places" s_least_places t.f_least_places t.d_least_places
 b_least_places:Binds K t.d_least_places ["numbers"] []
 m_least_places:mg "least_places" = some (.ref t.f_least_places)
 F_need_people:Fun K "need_people" "need_people" s_need_people t.f_need_people t.d_need_people
 b_need_people:Binds K t.d_need_people ["tree", "people"] []
 m_need_people:mg "need_people" = some (.ref t.f_need_people)
 F_walked:Fun K "walked" "walked" s_walked t.f_walked t.d_walked
 b_walked:Binds K t.d_walked ["people", "row"] []
 m_walked:mg "walked" = some (.ref t.f_walked)
 F_walks:Fun K "walks" "walks" s_walks t.f_walks t.d_walks
 b_walks:Binds K t.d_walks ["tree", "people"] []
 m_walks:mg "walks" = some (.ref t.f_walks)
 F_medians:Fun K "medians" "medians" s_medians t.f_medians t.d_medians
 b_medians:Binds K t.d_medians ["tree", "people"] []
 m_medians:mg "medians" = some (.ref t.f_medians)
 F_Wells_init:Fun K "__init__" "Wells.__init__" s_Wells_init t.f_Wells_init t.d_Wells_init
 b_Wells_init:Binds K t.d_Wells_init ["self", "wells", "callers"] []
 M_Wells:Mk K t.C_Wells t.f_Wells_init
 F_how_many_near:Fun K "how_many_near" "how_many_near" s_how_many_near t.f_how_many_near t.d_how_many_near
 b_how_many_near:Binds K t.d_how_many_near ["row", "villages", "walk"] []
 m_how_many_near:mg "how_many_near" = some (.ref t.f_how_many_near)
 F_innermost_near:Fun K "innermost_near" "innermost_near" s_innermost_near t.f_innermost_near t.d_innermost_near
 b_innermost_near:Binds K t.d_innermost_near ["row", "inwards", "walk"] []
 m_innermost_near:mg "innermost_near" = some (.ref t.f_innermost_near)
 F_fewest:Fun K "fewest" "fewest" s_fewest t.f_fewest t.d_fewest
 b_fewest:Binds K t.d_fewest ["table", "walk"] []
 m_fewest:mg "fewest" = some (.ref t.f_fewest)
 F_dug:Fun K "dug" "dug" s_dug t.f_dug t.d_dug
 b_dug:Binds K t.d_dug ["tree", "walk"] []
 m_dug:mg "dug" = some (.ref t.f_dug)
 F_least_walk:Fun K "least_walk" "least_walk" s_least_walk t.f_least_walk t.d_least_walk
 b_least_walk:Binds K t.d_least_walk ["tree", "many"] []
 m_least_walk:mg "least_walk" = some (.ref t.f_least_walk)
 F__law_cell_at:Fun K "_law_cell_at" "_law_cell_at" s__law_cell_at t.f__law_cell_at t.d__law_cell_at
 b__law_cell_at:Binds K t.d__law_cell_at ["_law_script", "_law_k"] []
 m__law_cell_at:mg "_law_cell_at" = some (.ref t.f__law_cell_at)
 F__law_sort:Fun K "_law_sort" "_law_sort" s__law_sort t.f__law_sort t.d__law_sort
 b__law_sort:Binds K t.d__law_sort ["_law_error"] []
 m__law_sort:mg "_law_sort" = some (.ref t.f__law_sort)
 F__law_tree:Fun K "_law_tree" "_law_tree" s__law_tree t.f__law_tree t.d__law_tree
 b__law_tree:Binds K t.d__law_tree ["_law_villages", "_law_roads"] []
 m__law_tree:mg "_law_tree" = some (.ref t.f__law_tree)
 F__law_ask:Fun K "_law_ask" "_law_ask" s__law_ask t.f__law_ask t.d__law_ask
 b__law_ask:Binds K t.d__law_ask ["_law_tree_here", "_law_door", "_law_thing"] []
 m__law_ask:mg "_law_ask" = some (.ref t.f__law_ask)
 F__law_asked:Fun K "_law_asked" "_law_asked" s__law_asked t.f__law_asked t.d__law_asked
 b__law_asked:Binds K t.d__law_asked ["_law_tree_here", "_law_door", "_law_thing"] []
 m__law_asked:mg "_law_asked" = some (.ref t.f__law_asked)
 F__law_all:Fun K "_law_all" "_law_all" s__law_all t.f__law_all t.d__law_all
 b__law_all:Binds K t.d__law_all ["_law_tree_here", "_law_doors", "_law_things", "_law_due"] []
 m__law_all:mg "_law_all" = some (.ref t.f__law_all)
 F__law_trees:Fun K "_law_trees" "_law_trees" s__law_trees t.f__law_trees t.d__law_trees
 b__law_trees:Binds K t.d__law_trees ["_law_more"] []
 m__law_trees:mg "_law_trees" = some (.ref t.f__law_trees)
 F_law:Fun K "law" "law" s_law t.f_law t.d_law
 b_law:Binds K t.d_law ["_law_script"] []
 m_law:mg "law" = some (.ref t.f_law)
 cl_Tree:Cls K t.C_Tree
 m_Tree:mg "Tree" = some (.ref t.C_Tree)
 n_Tree_road_list:NoAttr K t.C_Tree "road_list"
 n_Tree_size:NoAttr K t.C_Tree "size"
 cl_Wells:Cls K t.C_Wells
 m_Wells:mg "Wells" = some (.ref t.C_Wells)
 n_Wells_callers:NoAttr K t.C_Wells "callers"
 n_Wells_wells:NoAttr K t.C_Wells "wells"
 m_RoadError:mg "RoadError" = some (.ref t.C_RoadError)
 X_RoadError:XCls K t.C_RoadError
 R_RoadError:PySem.W.excIn K t.C_RoadError [.type "ValueError",.type "Exception",.type "BaseException",.type "object"] "ValueError.__new__" = true
 k_RoadError_RoadError:PySem.W.kitOne K (.ref t.C_RoadError) (.ref t.C_RoadError)=some true
 k_RoadError_BadTree:PySem.W.kitCls K (.ref t.C_RoadError) (.ref t.C_BadTree)=some false
 o_RoadError_BadTree:PySem.W.kitOne K (.ref t.C_RoadError) (.ref t.C_BadTree)=some false
 k_RoadError_NoVillage:PySem.W.kitCls K (.ref t.C_RoadError) (.ref t.C_NoVillage)=some false
 o_RoadError_NoVillage:PySem.W.kitOne K (.ref t.C_RoadError) (.ref t.C_NoVillage)=some false
 k_RoadError_NoRoad:PySem.W.kitCls K (.ref t.C_RoadError) (.ref t.C_NoRoad)=some false
 o_RoadError_NoRoad:PySem.W.kitOne K (.ref t.C_RoadError) (.ref t.C_NoRoad)=some false
 k_RoadError_BadNumber:PySem.W.kitCls K (.ref t.C_RoadError) (.ref t.C_BadNumber)=some false
 o_RoadError_BadNumber:PySem.W.kitOne K (.ref t.C_RoadError) (.ref t.C_BadNumber)=some false
 v_RoadError:PySem.W.kitOne K (.ref t.C_RoadError) (.type "ValueError")=some true
 m_BadTree:mg "BadTree" = some (.ref t.C_BadTree)
 X_BadTree:XCls K t.C_BadTree
 R_BadTree:PySem.W.excIn K t.C_BadTree [.type "ValueError",.type "Exception",.type "BaseException",.type "object"] "ValueError.__new__" = true
 k_BadTree_RoadError:PySem.W.kitCls K (.ref t.C_BadTree) (.ref t.C_RoadError)=some true
 o_BadTree_RoadError:PySem.W.kitOne K (.ref t.C_BadTree) (.ref t.C_RoadError)=some true
 k_BadTree_BadTree:PySem.W.kitOne K (.ref t.C_BadTree) (.ref t.C_BadTree)=some true
 k_BadTree_NoVillage:PySem.W.kitCls K (.ref t.C_BadTree) (.ref t.C_NoVillage)=some false
 o_BadTree_NoVillage:PySem.W.kitOne K (.ref t.C_BadTree) (.ref t.C_NoVillage)=some false
 k_BadTree_NoRoad:PySem.W.kitCls K (.ref t.C_BadTree) (.ref t.C_NoRoad)=some false
 o_BadTree_NoRoad:PySem.W.kitOne K (.ref t.C_BadTree) (.ref t.C_NoRoad)=some false
 k_BadTree_BadNumber:PySem.W.kitCls K (.ref t.C_BadTree) (.ref t.C_BadNumber)=some false
 o_BadTree_BadNumber:PySem.W.kitOne K (.ref t.C_BadTree) (.ref t.C_BadNumber)=some false
 v_BadTree:PySem.W.kitOne K (.ref t.C_BadTree) (.type "ValueError")=some true
 m_NoVillage:mg "NoVillage" = some (.ref t.C_NoVillage)
 X_NoVillage:XCls K t.C_NoVillage
 R_NoVillage:PySem.W.excIn K t.C_NoVillage [.type "ValueError",.type "Exception",.type "BaseException",.type "object"] "ValueError.__new__" = true
 k_NoVillage_RoadError:PySem.W.kitCls K (.ref t.C_NoVillage) (.ref t.C_RoadError)=some true
 o_NoVillage_RoadError:PySem.W.kitOne K (.ref t.C_NoVillage) (.ref t.C_RoadError)=some true
 k_NoVillage_BadTree:PySem.W.kitCls K (.ref t.C_NoVillage) (.ref t.C_BadTree)=some false
 o_NoVillage_BadTree:PySem.W.kitOne K (.ref t.C_NoVillage) (.ref t.C_BadTree)=some false
 k_NoVillage_NoVillage:PySem.W.kitOne K (.ref t.C_NoVillage) (.ref t.C_NoVillage)=some true
 k_NoVillage_NoRoad:PySem.W.kitCls K (.ref t.C_NoVillage) (.ref t.C_NoRoad)=some false
 o_NoVillage_NoRoad:PySem.W.kitOne K (.ref t.C_NoVillage) (.ref t.C_NoRoad)=some false
 k_NoVillage_BadNumber:PySem.W.kitCls K (.ref t.C_NoVillage) (.ref t.C_BadNumber)=some false
 o_NoVillage_BadNumber:PySem.W.kitOne K (.ref t.C_NoVillage) (.ref t.C_BadNumber)=some false
 v_NoVillage:PySem.W.kitOne K (.ref t.C_NoVillage) (.type "ValueError")=some true
 m_NoRoad:mg "NoRoad" = some (.ref t.C_NoRoad)
 X_NoRoad:XCls K t.C_NoRoad
 R_NoRoad:PySem.W.excIn K t.C_NoRoad [.type "ValueError",.type "Exception",.type "BaseException",.type "object"] "ValueError.__new__" = true
 k_NoRoad_RoadError:PySem.W.kitCls K (.ref t.C_NoRoad) (.ref t.C_RoadError)=some true
 o_NoRoad_RoadError:PySem.W.kitOne K (.ref t.C_NoRoad) (.ref t.C_RoadError)=some true
 k_NoRoad_BadTree:PySem.W.kitCls K (.ref t.C_NoRoad) (.ref t.C_BadTree)=some false
 o_NoRoad_BadTree:PySem.W.kitOne K (.ref t.C_NoRoad) (.ref t.C_BadTree)=some false
 k_NoRoad_NoVillage:PySem.W.kitCls K (.ref t.C_NoRoad) (.ref t.C_NoVillage)=some false
 o_NoRoad_NoVillage:PySem.W.kitOne K (.ref t.C_NoRoad) (.ref t.C_NoVillage)=some false
 k_NoRoad_NoRoad:PySem.W.kitOne K (.ref t.C_NoRoad) (.ref t.C_NoRoad)=some true
 k_NoRoad_BadNumber:PySem.W.kitCls K (.ref t.C_NoRoad) (.ref t.C_BadNumber)=some false
 o_NoRoad_BadNumber:PySem.W.kitOne K (.ref t.C_NoRoad) (.ref t.C_BadNumber)=some false
 v_NoRoad:PySem.W.kitOne K (.ref t.C_NoRoad) (.type "ValueError")=some true
 m_BadNumber:mg "BadNumber" = some (.ref t.C_BadNumber)
 X_BadNumber:XCls K t.C_BadNumber
 R_BadNumber:PySem.W.excIn K t.C_BadNumber [.type "ValueError",.type "Exception",.type "BaseException",.type "object"] "ValueError.__new__" = true
 k_BadNumber_RoadError:PySem.W.kitCls K (.ref t.C_BadNumber) (.ref t.C_RoadError)=some true
 o_BadNumber_RoadError:PySem.W.kitOne K (.ref t.C_BadNumber) (.ref t.C_RoadError)=some true
 k_BadNumber_BadTree:PySem.W.kitCls K (.ref t.C_BadNumber) (.ref t.C_BadTree)=some false
 o_BadNumber_BadTree:PySem.W.kitOne K (.ref t.C_BadNumber) (.ref t.C_BadTree)=some false
 k_BadNumber_NoVillage:PySem.W.kitCls K (.ref t.C_BadNumber) (.ref t.C_NoVillage)=some false
 o_BadNumber_NoVillage:PySem.W.kitOne K (.ref t.C_BadNumber) (.ref t.C_NoVillage)=some false
 k_BadNumber_NoRoad:PySem.W.kitCls K (.ref t.C_BadNumber) (.ref t.C_NoRoad)=some false
 o_BadNumber_NoRoad:PySem.W.kitOne K (.ref t.C_BadNumber) (.ref t.C_NoRoad)=some false
 k_BadNumber_BadNumber:PySem.W.kitOne K (.ref t.C_BadNumber) (.ref t.C_BadNumber)=some true
 v_BadNumber:PySem.W.kitOne K (.ref t.C_BadNumber) (.type "ValueError")=some true
 m_BadRow:mg "BadRow" = some (.ref t.C_BadRow)
 o_BadTree_BadRow:PySem.W.kitOne K (.ref t.C_BadTree) (.ref t.C_BadRow)=some false
 o_NoVillage_BadRow:PySem.W.kitOne K (.ref t.C_NoVillage) (.ref t.C_BadRow)=some false
 o_NoRoad_BadRow:PySem.W.kitOne K (.ref t.C_NoRoad) (.ref t.C_BadRow)=some false
 o_BadNumber_BadRow:PySem.W.kitOne K (.ref t.C_BadNumber) (.ref t.C_BadRow)=some false
 cd_fewest:codeOf K t.f_fewest=some (.ref t.c_fewest)
 cd_innermost_near:codeOf K t.f_innermost_near=some (.ref t.c_innermost_near)
 cP:t.P_fewest≠t.P_innermost_near
structure LamB (base:Heap) (mg:Str→Option Value) (t:Adr):Prop where
 bm:Bm base mg
 c_fewest:PySem.W.CodeHd base t.c_fewest t.P_fewest
 c_innermost_near:PySem.W.CodeHd base t.c_innermost_near t.P_innermost_near
theorem sc_is_number:FnScope ["value"] ["value"] (defScope s_is_number):=⟨rfl,rfl,rfl,by decide +kernel,rfl,by decide +kernel,by decide +kernel⟩
theorem sc_is_whole:FnScope ["value", "least", "most"] ["value", "least", "most"] (defScope s_is_whole):=⟨rfl,rfl,rfl,by decide +kernel,rfl,by decide +kernel,by decide +kernel⟩
theorem sc_is_road:FnScope ["road", "villages", "end"] ["road", "villages"] (defScope s_is_road):=⟨rfl,rfl,rfl,by decide +kernel,rfl,by decide +kernel,by decide +kernel⟩
theorem sc_is_tree:FnScope ["villages", "roads"] ["villages", "roads"] (defScope s_is_tree):=⟨rfl,rfl,rfl,by decide +kernel,rfl,by decide +kernel,by decide +kernel⟩
theorem sc_steps:FnScope ["roads", "village", "ends", "first", "second", "length"] ["roads", "village"] (defScope s_steps):=⟨rfl,rfl,rfl,by decide +kernel,rfl,by decide +kernel,by decide +kernel⟩
theorem sc_reached:FnScope ["roads", "start", "found", "waiting", "here", "there", "length"] ["roads", "start"] (defScope s_reached):=⟨rfl,rfl,rfl,by decide +kernel,rfl,by decide +kernel,by decide +kernel⟩
theorem sc_Tree_init:FnScope ["self", "villages", "roads"] ["self", "villages", "roads"] (defScope s_Tree_init):=⟨rfl,rfl,rfl,by decide +kernel,rfl,by decide +kernel,by decide +kernel⟩
theorem sc_Tree_roads:FnScope ["self"] ["self"] (defScope s_Tree_roads):=⟨rfl,rfl,rfl,by decide +kernel,rfl,by decide +kernel,by decide +kernel⟩
theorem sc_need_village:FnScope ["tree", "village"] ["tree", "village"] (defScope s_need_village):=⟨rfl,rfl,rfl,by decide +kernel,rfl,by decide +kernel,by decide +kernel⟩
theorem sc_need_road:FnScope ["tree", "at"] ["tree", "at"] (defScope s_need_road):=⟨rfl,rfl,rfl,by decide +kernel,rfl,by decide +kernel,by decide +kernel⟩
theorem sc_far:FnScope ["tree", "one", "other"] ["tree", "one", "other"] (defScope s_far):=⟨rfl,rfl,rfl,by decide +kernel,rfl,by decide +kernel,by decide +kernel⟩
theorem sc_way:FnScope ["tree", "one", "other", "found", "villages"] ["tree", "one", "other"] (defScope s_way):=⟨rfl,rfl,rfl,by decide +kernel,rfl,by decide +kernel,by decide +kernel⟩
theorem sc_distances_from:FnScope ["tree", "village", "found"] ["tree", "village"] (defScope s_distances_from):=⟨rfl,rfl,rfl,by decide +kernel,rfl,by decide +kernel,by decide +kernel⟩
theorem sc_distances:FnScope ["tree"] ["tree"] (defScope s_distances):=⟨rfl,rfl,rfl,by decide +kernel,rfl,by decide +kernel,by decide +kernel⟩
theorem sc_sides:FnScope ["tree", "at", "roads", "road", "found", "others"] ["tree", "at"] (defScope s_sides):=⟨rfl,rfl,rfl,by decide +kernel,rfl,by decide +kernel,by decide +kernel⟩
theorem sc_joined:FnScope ["tree", "at", "other", "length", "ahead", "behind"] ["tree", "at", "other", "length"] (defScope s_joined):=⟨rfl,rfl,rfl,by decide +kernel,rfl,by decide +kernel,by decide +kernel⟩
theorem sc_moved:FnScope ["tree", "at", "one", "other", "roads"] ["tree", "at", "one", "other"] (defScope s_moved):=⟨rfl,rfl,rfl,by decide +kernel,rfl,by decide +kernel,by decide +kernel⟩
theorem sc_errand:FnScope ["tree", "one", "other", "line", "villages", "here"] ["tree", "one", "other"] (defScope s_errand):=⟨rfl,rfl,rfl,by decide +kernel,rfl,by decide +kernel,by decide +kernel⟩
theorem sc_long:FnScope ["tree", "walk", "village", "roads", "total", "here", "there", "length"] ["tree", "walk"] (defScope s_long):=⟨rfl,rfl,rfl,by decide +kernel,rfl,by decide +kernel,by decide +kernel⟩
theorem sc_need_people:FnScope ["tree", "people"] ["tree", "people"] (defScope s_need_people):=⟨rfl,rfl,rfl,by decide +kernel,rfl,by decide +kernel,by decide +kernel⟩
theorem sc_walked:FnScope ["people", "row"] ["people", "row"] (defScope s_walked):=⟨rfl,rfl,rfl,by decide +kernel,rfl,by decide +kernel,by decide +kernel⟩
theorem sc_walks:FnScope ["tree", "people"] ["tree", "people"] (defScope s_walks):=⟨rfl,rfl,rfl,by decide +kernel,rfl,by decide +kernel,by decide +kernel⟩
theorem sc_medians:FnScope ["tree", "people"] ["tree", "people"] (defScope s_medians):=⟨rfl,rfl,rfl,by decide +kernel,rfl,by decide +kernel,by decide +kernel⟩
theorem sc_Wells_init:FnScope ["self", "wells", "callers"] ["self", "wells", "callers"] (defScope s_Wells_init):=⟨rfl,rfl,rfl,by decide +kernel,rfl,by decide +kernel,by decide +kernel⟩
theorem sc_how_many_near:FnScope ["row", "villages", "walk"] ["row", "villages", "walk"] (defScope s_how_many_near):=⟨rfl,rfl,rfl,by decide +kernel,rfl,by decide +kernel,by decide +kernel⟩
theorem sc_innermost_near:FnScope ["row", "inwards", "walk", "near"] ["row", "inwards", "walk"] (defScope s_innermost_near):=⟨rfl,rfl,rfl,by decide +kernel,rfl,by decide +kernel,by decide +kernel⟩
theorem sc_fewest:FnScope ["table", "walk", "inwards", "innermost", "wells", "callers", "village"] ["table", "walk"] (defScope s_fewest):=⟨rfl,rfl,rfl,by decide +kernel,rfl,by decide +kernel,by decide +kernel⟩
theorem sc_dug:FnScope ["tree", "walk"] ["tree", "walk"] (defScope s_dug):=⟨rfl,rfl,rfl,by decide +kernel,rfl,by decide +kernel,by decide +kernel⟩
theorem sc_least_walk:FnScope ["tree", "many", "table", "lengths", "row"] ["tree", "many"] (defScope s_least_walk):=⟨rfl,rfl,rfl,by decide +kernel,rfl,by decide +kernel,by decide +kernel⟩
theorem sc__law_cell_at:FnScope ["_law_script", "_law_k"] ["_law_script", "_law_k"] (defScope s__law_cell_at):=⟨rfl,rfl,rfl,by decide +kernel,rfl,by decide +kernel,by decide +kernel⟩
theorem sc__law_sort:FnScope ["_law_error", "_law_kinds"] ["_law_error"] (defScope s__law_sort):=⟨rfl,rfl,rfl,by decide +kernel,rfl,by decide +kernel,by decide +kernel⟩
theorem sc__law_tree:FnScope ["_law_villages", "_law_roads", "_law_error"] ["_law_villages", "_law_roads"] (defScope s__law_tree):=⟨rfl,rfl,rfl,by decide +kernel,rfl,by decide +kernel,by decide +kernel⟩
theorem sc__law_ask:FnScope ["_law_tree_here", "_law_door", "_law_thing"] ["_law_tree_here", "_law_door", "_law_thing"] (defScope s__law_ask):=⟨rfl,rfl,rfl,by decide +kernel,rfl,by decide +kernel,by decide +kernel⟩
theorem sc__law_asked:FnScope ["_law_tree_here", "_law_door", "_law_thing", "_law_error"] ["_law_tree_here", "_law_door", "_law_thing"] (defScope s__law_asked):=⟨rfl,rfl,rfl,by decide +kernel,rfl,by decide +kernel,by decide +kernel⟩
theorem sc__law_all:FnScope ["_law_tree_here", "_law_doors", "_law_things", "_law_due", "_law_door"] ["_law_tree_here", "_law_doors", "_law_things", "_law_due"] (defScope s__law_all):=⟨rfl,rfl,rfl,by decide +kernel,rfl,by decide +kernel,by decide +kernel⟩
theorem sc__law_trees:FnScope ["_law_more", "_law_chain", "_law_villages", "_law_bad"] ["_law_more"] (defScope s__law_trees):=⟨rfl,rfl,rfl,by decide +kernel,rfl,by decide +kernel,by decide +kernel⟩
theorem sc_law:FnScope ["_law_script", "_law_more", "_law_tree_here", "_law_people"] ["_law_script"] (defScope s_law):=⟨rfl,rfl,rfl,by decide +kernel,rfl,by decide +kernel,by decide +kernel⟩
end WR
namespace WR
open PySem L2
theorem ite_f {c:Bool} {A B:Prop} (e:c=false) (h:B):if c=true then A else B:=by rw [e]; exact iteF h
theorem ite_t {c:Bool} {A B:Prop} (e:c=true) (h:A):if c=true then A else B:=by rw [e]; exact iteT h
section
variable {K:PySem.W.Frag}
theorem kit_ii:PySem.W.kitOne K (.type "int") (.type "int")=some true:=by rfl
theorem kit_ib:PySem.W.kitOne K (.type "int") (.type "bool")=some false:=by rfl
theorem kit_bi:PySem.W.kitOne K (.type "bool") (.type "int")=some true:=by rfl
theorem kit_bb:PySem.W.kitOne K (.type "bool") (.type "bool")=some true:=by rfl
theorem kit_si:PySem.W.kitOne K (.type "str") (.type "int")=some false:=by rfl
theorem kit_ni:PySem.W.kitOne K (.type "NoneType") (.type "int")=some false:=by rfl
theorem kit_li:PySem.W.kitOne K (.type "list") (.type "int")=some false:=by rfl
theorem kit_ti:PySem.W.kitOne K (.type "tuple") (.type "int")=some false:=by rfl
theorem kit_ll:PySem.W.kitOne K (.type "list") (.type "list")=some true:=by rfl
theorem kit_tt:PySem.W.kitOne K (.type "tuple") (.type "tuple")=some true:=by rfl
end
def wholeV (x:V) (a b:Int):Bool:=match x with
 | .int i=>decide (a≤i)&&decide (i≤b)
 | _=>false
inductive KindV (H:Hp):V→Prop where
 | int (i:Int):KindV H (.int i)
 | bl (b:Bool):KindV H (.bl b)
 | str (x:Str):KindV H (.str x)
 | non:KindV H .non
 | lst {a:Addr} {xs:List V} (h:H a=some (.lst xs)):KindV H (.ref a)
 | tup {a:Addr} {xs:List V} (h:H a=some (.tup xs)):KindV H (.ref a)
def numV (x:V):Bool:=match x with
 | .int _=>true
 | _=>false
def sp_is_number:Sp:=fun vs H Q _=>∃ (x:V),vs=[x]∧KindV H x∧Q (.bl (numV x)) H
def sp_is_whole:Sp:=fun vs H Q _=>∃ (x:V) (a b:Int),vs=[x,.int a,.int b]∧KindV H x∧Q (.bl (wholeV x a b)) H
section
variable {P:Program} {w:World} {K:PySem.W.Frag} {mg:Str→Option Value} {base:Heap} {t:Adr}
theorem hu8_of {A:Around} {k:Nat} (hr:Room k A):A.units + 8 < cLine:=by have:=hr.units; omega
theorem hu9_of {A:Around} {k:Nat} (hr:Room k A):A.units + 8 + 1 < cLine:=by have:=hr.units; omega
theorem ok_is_number (TT:Txt K mg t):FnOk P w K mg base CX0 1 t.f_is_number t.d_is_number ["value"] sp_is_number:=by
 refine TT.F_is_number.ok sc_is_number (fun vs H Q E h=>?_) (fun cdv A outer s H vs Q E hr h=>?_)
 ·obtain ⟨x,rfl,_⟩:=h
  rfl
 ·obtain ⟨x,rfl,hk,q⟩:=h
  refine ⟨_,(pss_one (ps_ret (pe_and (pe_callB call_isinst rfl TT.z_isinstance WB.bt_isinstance (pa_cons (pv 0) (pa_cons (pe_bltn (v:=.ty "int") rfl TT.z_int WB.bt_int rfl) pa_nil))) (pe_one (pe_not (pe_callB call_isinst rfl TT.z_isinstance WB.bt_isinstance (pa_cons (pv 0) (pa_cons (pe_bltn (v:=.ty "bool") rfl TT.z_bool WB.bt_bool rfl) pa_nil)))))))),?_⟩
  cases hk with
  | int i=>exact ⟨_,rfl,_, "int",.type "int",true,rfl,.int _,kit_ii,true,rfl,iteT ⟨_,rfl,_, "bool",.type "int",false,rfl,.int _,kit_ib,false,rfl,q⟩⟩
  | bl b'=>exact ⟨_,rfl,_, "int",.type "bool",true,rfl,.bl _,kit_bi,true,rfl,iteT ⟨_,rfl,_, "bool",.type "bool",true,rfl,.bl _,kit_bb,true,rfl,q⟩⟩
  | str y=>exact ⟨_,rfl,_, "int",.type "str",false,rfl,.str _,kit_si,false,rfl,iteF q⟩
  | non=>exact ⟨_,rfl,_, "int",.type "NoneType",false,rfl,.non,kit_ni,false,rfl,iteF q⟩
  | lst h=>exact ⟨_,rfl,_, "int",.type "list",false,rfl,.lst h,kit_li,false,rfl,iteF q⟩
  | tup h=>exact ⟨_,rfl,_, "int",.type "tuple",false,rfl,.tup h,kit_ti,false,rfl,iteF q⟩
theorem ok_is_whole (TT:Txt K mg t):FnOk P w K mg base CX0 2 t.f_is_whole t.d_is_whole ["value", "least", "most"] sp_is_whole:=by
 refine TT.F_is_whole.ok sc_is_whole (fun vs H Q E h=>?_) (fun cdv A outer s H vs Q E hr h=>?_)
 ·obtain ⟨x,a,b,rfl,_⟩:=h
  rfl
 ·obtain ⟨x,a,b,rfl,hk,q⟩:=h
  refine ⟨_,(pss_one (ps_ret (pe_and (pe_call (ok_is_number TT) (hr.mono (by decide)) rfl TT.m_is_number TT.F_is_number.kp TT.b_is_number .nil pass0 (pa_cons (pv 0) pa_nil)) (pe_one (pe_chain op_le op_le (pv 1) (pv 0) (pv 2)))))),?_⟩
  refine ⟨_,rfl,x,rfl,hk,_,rfl,?_⟩
  cases hk with
  | int i =>
   refine iteT ⟨_,rfl,_,rfl,_,_,rfl,rfl,_,rfl,ite2 (fun h1=>?_) (fun h1=>?_)⟩
   ·refine ⟨_,rfl,_,_,rfl,rfl,?_⟩
    have e:wholeV (.int i) a b=decide (i≤b):=by show (decide (a≤i)&&decide (i≤b))=_; rw [h1]; rfl
    rw [e] at q; exact q
   ·have e:wholeV (.int i) a b=false:=by
     show (decide (a≤i)&&decide (i≤b))=_
     have:decide (a≤i)=false:=by simpa using h1
     rw [this]; rfl
    rw [e] at q; exact q
  | bl b'=>exact iteF q
  | str y=>exact iteF q
  | non=>exact iteF q
  | lst h=>exact iteF q
  | tup h=>exact iteF q
end
end WR
namespace WR
open PySem L2
section
variable {K:PySem.W.Frag}
theorem kit_it:PySem.W.kitOne K (.type "int") (.type "tuple")=some false:=by rfl
theorem kit_bt:PySem.W.kitOne K (.type "bool") (.type "tuple")=some false:=by rfl
theorem kit_st:PySem.W.kitOne K (.type "str") (.type "tuple")=some false:=by rfl
theorem kit_nt:PySem.W.kitOne K (.type "NoneType") (.type "tuple")=some false:=by rfl
theorem kit_lt:PySem.W.kitOne K (.type "list") (.type "tuple")=some false:=by rfl
end
theorem KindV.keep {H H':Hp} {x:V} (k:KindV H x) (s:Same H H'):KindV H' x:=by
 cases k with
 | int i=>exact .int i
 | bl b=>exact .bl b
 | str y=>exact .str y
 | non=>exact .non
 | lst h=>exact .lst (s _ _ h)
 | tup h=>exact .tup (s _ _ h)
theorem nocut2 (x y z:V):¬ (HT.sIx [x,y,z].length 0 none=0∧HT.sIx [x,y,z].length [x,y,z].length (some 2)=[x,y,z].length):=fun h=>absurd h.2 (by show ¬ (2=3); decide)
theorem wholeV_int {x:V} {a b:Int} (h:wholeV x a b=true):∃ i,x=.int i:=by
 cases x with
 | int i=>exact ⟨i,rfl⟩
 | _=>cases h
def triB (n:Int) (x y z:V):Bool:=wholeV x 0 (n - 1)&&wholeV y 0 (n - 1)&&!decide (x=y)&&wholeV z 1 1000000
inductive RoadV (H:Hp) (n:Int):V→Bool→Prop where
 | no {v:V} (k:KindV H v) (nt:∀ a xs,v=.ref a→H a≠some (.tup xs)):RoadV H n v false
 | len {a:Addr} {xs:List V} (h:H a=some (.tup xs)) (l:xs.length≠3):RoadV H n (.ref a) false
 | tri {a:Addr} {x y z:V} (h:H a=some (.tup [x,y,z])) (kx:KindV H x) (ky:KindV H y) (kz:KindV H z):RoadV H n (.ref a) (triB n x y z)
theorem KindV.noTup {K:PySem.W.Frag} {H:Hp} {v:V} (k:KindV H v) (nt:∀ a xs,v=.ref a→H a≠some (.tup xs)):∃ ty,TyOf K H v ty∧PySem.W.kitOne K ty (.type "tuple")=some false:=by
 cases k with
 | int i=>exact ⟨_,.int _,kit_it⟩
 | bl b=>exact ⟨_,.bl _,kit_bt⟩
 | str y=>exact ⟨_,.str _,kit_st⟩
 | non=>exact ⟨_,.non,kit_nt⟩
 | lst h=>exact ⟨_,.lst h,kit_lt⟩
 | tup h=>exact absurd h (nt _ _ rfl)
def sp_is_road:Sp:=fun vs H Q _=>∃ (v:V) (n:Int) (r:Bool),vs=[v,.int n]∧RoadV H n v r∧∀ H',Same H H'→Q (.bl r) H'
section
variable {P:Program} {w:World} {K:PySem.W.Frag} {mg:Str→Option Value} {base:Heap} {t:Adr}
theorem ok_is_road (TT:Txt K mg t):FnOk P w K mg base CX0 3 t.f_is_road t.d_is_road ["road", "villages"] sp_is_road:=by
 refine TT.F_is_road.ok sc_is_road (fun vs H Q E h=>?_) (fun cdv A outer s H vs Q E hr h=>?_)
 ·obtain ⟨v,n,r,rfl,_⟩:=h
  rfl
 ·obtain ⟨v,n,r,rfl,hv,k⟩:=h
  refine ⟨_,(pss_cons (ps_if (PW.pt (pw_or (pt_not (pt_val (pe_callB call_isinst rfl TT.z_isinstance WB.bt_isinstance (pa_cons (pv 0) (pa_cons (pe_bltn (v:=.ty "tuple") rfl TT.z_tuple WB.bt_tuple rfl) pa_nil))))) (pw_or1 (pt_cmpR op_ne (pe_callB call_len_seq rfl TT.z_len WB.bt_len (pa_cons (pv 0) pa_nil)) pe_int (nomark _))))) (pss_one (ps_ret pe_bl)) pss_nil) (pss_cons (ps_for PassesOwn.never rfl (pi_tup (pe_slice sl_tup (pv 0) po_none (po_some pe_int))) (pg_name (i:=2) sc_is_road.nd rfl (Or.inl rfl)) (pss_one (ps_if (pt_not (pt_val (pe_call (ok_is_whole TT) (hr.mono (by decide)) rfl TT.m_is_whole TT.F_is_whole.kp TT.b_is_whole .nil pass0 (pa_cons (pv 2) (pa_consC pe_int (pa_consB (pe_op op_sub (pv 1) pe_int) pa_nil)))))) (pss_one (ps_ret pe_bl)) pss_nil))) (pss_one (ps_ret (pe_and (pe_cmpR op_ne (pe_ix ix_tup (pv 0) pe_int (fun _ _=>rfl)) (pe_ix ix_tup (pv 0) pe_int (fun _ _=>rfl)) (nomark _)) (pe_one (pe_call (ok_is_whole TT) (hr.mono (by decide)) rfl TT.m_is_whole TT.F_is_whole.kp TT.b_is_whole .nil pass0 (pa_cons (pe_ix ix_tup (pv 0) pe_int (fun _ _=>rfl)) (pa_consC pe_int (pa_cons (pe_glob (v:=.int 1000000) rfl TT.g_MOST_LENGTH ⟨_,rfl⟩) pa_nil)))))))))),?_⟩
  cases hv with
  | no kv nt =>
   obtain ⟨ty,h1,h2⟩:=kv.noTup (K:=K) nt
   exact ⟨_,rfl,_, "tuple",ty,false,rfl,h1,h2,false,rfl,iteT (iteT (k _ (Same.refl H)))⟩
  | @len p xs hp l =>
   refine ⟨_,rfl,_, "tuple",.type "tuple",true,rfl,.tup hp,kit_tt,true,rfl,iteF ?_⟩
   refine ⟨_,rfl,p,_,rfl,.inr (SqT.of hp),rfl,_,rfl,ite_t ?_ (k _ (Same.refl H))⟩
   have:¬ (xs.length:Int)=3:=by omega
   simp [this]
  | @tri p a b l hp ka kb kl =>
   refine ⟨_,rfl,_, "tuple",.type "tuple",true,rfl,.tup hp,kit_tt,true,rfl,iteF ?_⟩
   refine ⟨_,rfl,p,_,rfl,.inr (SqT.of hp),rfl,_,rfl,iteF ?_⟩
   refine ⟨_,rfl,2,rfl,p,_,rfl,SqT.of hp,nocut2 _ _ _,fun q hq=>?_⟩
   have s1:Same H (upd H q (.tup [a,b])):=same_new hq
   refine ⟨q,rfl,⟨_,SqT.of upd_same⟩,for_tup (K:=K) (a:=q) (xs:=[a,b]) (fun i σ H2=>(∃ v,σ=[some (.ref p),some (.int n),v])∧H2=upd H q (.tup [a,b])∧(0 < i→wholeV a 0 (n - 1)=true)∧(1 < i→wholeV b 0 (n - 1)=true))
    ⟨⟨none,rfl⟩,rfl,fun h=>absurd h (by decide),fun h=>absurd h (by decide)⟩ (fun i σ H2 _ ⟨_,e,_⟩=>by rw [e]; exact SqT.of upd_same) ?_ ?_⟩
   ·rintro i x σ H2 hi ⟨⟨v,rfl⟩,rfl,w1,w2⟩
    have cases2:(i=0∧x=a)∨(i=1∧x=b):=by
     match i,hi with
     | 0,hi=>exact .inl ⟨rfl,(Option.some.inj hi).symm⟩
     | 1,hi=>exact .inr ⟨rfl,(Option.some.inj hi).symm⟩
    rcases cases2 with ⟨rfl,rfl⟩ | ⟨rfl,rfl⟩
    ·refine ⟨_,rfl,_,rfl,_,_,rfl,rfl,_,_,_,rfl,ka.keep s1,_,rfl,?_⟩
     cases e:wholeV x 0 (n - 1) with
     | true=>exact iteF ⟨⟨_,rfl⟩,rfl,fun _=>rfl,fun h=>absurd h (by decide)⟩
     | false =>
      refine iteT ?_
      have:triB n x b l=false:=by show (wholeV x 0 (n - 1)&&_&&_&&_)=false; rw [e]; rfl
      rw [this] at k
      exact k _ s1
    ·refine ⟨_,rfl,_,rfl,_,_,rfl,rfl,_,_,_,rfl,kb.keep s1,_,rfl,?_⟩
     cases e:wholeV x 0 (n - 1) with
     | true=>exact iteF ⟨⟨_,rfl⟩,rfl,fun _=>w1 (by decide),fun _=>rfl⟩
     | false =>
      refine iteT ?_
      have:triB n a x l=false:=by show (wholeV a 0 (n - 1)&&wholeV x 0 (n - 1)&&_&&_)=false; rw [e,Bool.and_false]; rfl
      rw [this] at k
      exact k _ s1
   ·rintro σ H2 ⟨⟨v,rfl⟩,rfl,w1,w2⟩
    have hp2:=s1 _ _ hp
    have e1:=w1 (by show 0 < 2; decide)
    have e2:=w2 (by show 1 < 2; decide)
    obtain ⟨ai,rfl⟩:=wholeV_int e1
    obtain ⟨bi,rfl⟩:=wholeV_int e2
    refine ⟨_,rfl,p,_,0,_,rfl,rfl,SqT.of hp2,atI_nat (j:=0) rfl,_,rfl,p,_,1,_,rfl,rfl,SqT.of hp2,atI_nat (j:=1) rfl,rfl,_,rfl,?_⟩
    have tb:triB n (.int ai) (.int bi) l=(!decide (V.int ai=V.int bi)&&wholeV l 1 1000000):=by
     unfold triB
     rw [e1,e2,Bool.true_and,Bool.true_and]
    rw [tb] at k
    cases ab:(!decide (V.int ai=V.int bi)) with
    | false =>
     rw [ab] at k
     exact iteF (k _ s1)
    | true =>
     rw [ab,Bool.true_and] at k
     exact iteT ⟨_,rfl,p,_,2,_,rfl,rfl,SqT.of hp2,atI_nat (j:=2) rfl,_,_,_,rfl,kl.keep s1,k _ s1⟩
end
end WR
namespace WR
open PySem L2
def sp_steps:Sp:=fun vs H Q _=>∃ (p:Addr) (rs:List Road) (v:Int),vs=[.ref p,.int v]∧RoadsAt H p rs∧rs.length≤1000∧∀ q H',H q=none→Same H H'→PairsAt H' q (stepsM rs v)→Q (.ref q) H'
theorem PairsAt.snoc {H:Hp} {q a:Addr} {ps:List (Int×Int)} {xs:List V} {y l:Int} (hq:H q=some (.lst xs)) (hr:Reps H xs (ps.map pairD)) (ha:H a=none) (hH:H'=upd (upd H a (.tup [.int y,.int l])) q (.lst (xs++[.ref a]))):PairsAt H' q (ps++[(y,l)]):=by
 subst hH
 have hne:q≠a:=ne_of_none hq ha
 have k1:Same H (upd H a (.tup [.int y,.int l])):=same_new ha
 have k2:∀ b ys,(upd H a (.tup [.int y,.int l])) b=some (.tup ys)→(upd (upd H a (.tup [.int y,.int l])) q (.lst (xs++[.ref a]))) b=some (.tup ys):=fun b ys e=>by
  rw [upd_ne]
  ·exact e
  ·intro z; subst z; rw [k1 _ _ hq] at e; cases e
 refine ⟨_,upd_same,?_⟩
 rw [List.map_append]
 refine Reps.append (Reps.froz (H:=upd H a (.tup [.int y,.int l])) k2 ?_ (hr.keep k1)) (.cons (pairD_mk (k2 _ _ upd_same)) .nil)
 clear hr
 induction ps with
 | nil=>unfold List.map Frozs; trivial
 | cons p t ih=>rw [List.map_cons]; unfold Frozs; exact ⟨by unfold pairD Froz Frozs Frozs Frozs Froz; simp,ih⟩
section
variable {P:Program} {w:World} {K:PySem.W.Frag} {mg:Str→Option Value} {base:Heap} {t:Adr}
theorem ok_steps (TT:Txt K mg t):FnOk P w K mg base CX0 1 t.f_steps t.d_steps ["roads", "village"] sp_steps:=by
 refine TT.F_steps.ok sc_steps (fun vs H Q E h=>?_) (fun cdv A outer s H vs Q E hr h=>?_)
 ·obtain ⟨p,rs,v,rfl,_⟩:=h
  rfl
 ·obtain ⟨p,rs,v,rfl,⟨xs,hp,hxs⟩,hlen,k⟩:=h
  refine ⟨_,(pss_cons (ps_set (i:=2) sc_steps.nd rfl (Or.inl rfl) (pe_lst pa_nil)) (pss_cons (ps_for PassesOwn.never rfl (pi_list (pv 0)) (pg_tup rfl (pgs_cons (pg_name (i:=3) sc_steps.nd rfl (Or.inl rfl)) (pgs_cons (pg_name (i:=4) sc_steps.nd rfl (Or.inl rfl)) (pgs_cons (pg_name (i:=5) sc_steps.nd rfl (Or.inl rfl)) pgs_nil)))) (pss_cons (ps_if (pt_cmpR op_eq (pv 3) (pv 1) (nomark _)) (pss_one (ps_expr (pe_bm PySem.F.plainAttrs_list PySem.F.slot_list_append PySem.F.type_list_append mt_append (pv 2) (pa_cons (pe_tup (pa_cons (pv 4) (pa_cons (pv 5) pa_nil))) pa_nil)))) pss_nil) (pss_one (ps_if (pt_cmpR op_eq (pv 4) (pv 1) (nomark _)) (pss_one (ps_expr (pe_bm PySem.F.plainAttrs_list PySem.F.slot_list_append PySem.F.type_list_append mt_append (pv 2) (pa_cons (pe_tup (pa_cons (pv 3) (pa_cons (pv 5) pa_nil))) pa_nil)))) pss_nil)))) (pss_one (ps_ret (pv 2))))),?_⟩
  show let B4:TS:=tRet (tVar 2); let B3:TS:=tIfS (tTest (tOp rEq (tVar 4) (tVar 1))) (tDrop (tBM K "list" rAppend (tVar 2) (tCons (tTup (tCons (tVar 3) (tCons (tVar 5) tNil))) tNil))) tNext; let B2:TS:=tSeq (tIfS (tTest (tOp rEq (tVar 3) (tVar 1))) (tDrop (tBM K "list" rAppend (tVar 2) (tCons (tTup (tCons (tVar 4) (tCons (tVar 5) tNil))) tNil))) tNext) B3; let B1:TS:=tSeq (tFor (iList K (tVar 0)) (gTup K (List.length (assignEach [Expr.Name (Str.ofString "first") { line:=43,col:=8,endLine:=43,endCol:=13 },Expr.Name (Str.ofString "second") { line:=43,col:=15,endLine:=43,endCol:=21 },Expr.Name (Str.ofString "length") { line:=43,col:=23,endLine:=43,endCol:=29 }] (Cx.env (Cx.nox (cxOf CX0 P w K mg base [Str.ofString "roads",Str.ofString "village",Str.ofString "ends",Str.ofString "first",Str.ofString "second",Str.ofString "length"] (Str.ofString "steps") (defScope s_steps) (Adr.f_steps t) cdv A outer s H E))))) (gCons (gName 3) (gCons (gName 4) (gCons (gName 5) gNil)))) B2) B4; tSeq (tAsg (tLst tNil) (gName 2)) B1 _ _ _
  intro B4 B3 B2 B1
  refine ⟨Nat.zero_le _,fun q hq=>?_⟩
  have hlx:=hxs.length
  rw [List.length_map] at hlx
  refine ⟨_,rfl,p,rfl,⟨_,SqL.of (same_new hq _ _ hp)⟩,for_list (K:=K) (a:=p) (xs:=xs) (fun i σ H2=>(∃ v1 v2 v3,σ=[some (.ref p),some (.int v),some (.ref q),v1,v2,v3])∧Same H H2∧PairsAt H2 q (stepsM (rs.take i) v)∧i≤rs.length)
   ⟨⟨none,none,none,rfl⟩,same_new hq,⟨[],upd_same,.nil⟩,Nat.zero_le _⟩ (fun i σ H2 _ ⟨_,e,_⟩=>SqL.of (e _ _ hp)) ?_ ?_⟩
  ·rintro i x σ H2 hi ⟨⟨v1,v2,v3,rfl⟩,s2,hE,hil⟩
   obtain ⟨⟨ra,rb,rl⟩,a,hri,rfl,ha⟩:=RoadsAt.get hp hxs hi
   have ha2:=s2 _ _ ha
   have hlt:i < rs.length:=(List.getElem?_eq_some_iff.mp hri).1
   refine ⟨a,_,rfl,SqT.of ha2,rfl,_,_,rfl,_,_,rfl,_,_,rfl,rfl,?_⟩
   have step:∀ {H3:Hp} {ps:List (Int×Int)} {y l:Int},Same H H3→PairsAt H3 q ps→ps.length≤2000→∀ (N:Hp→Prop),(∀ H4,Same H H4→PairsAt H4 q (ps++[(y,l)])→N H4) →
     (∀ c:Addr,H3 c=none→∃ l' xs y',V.ref q=.ref l'∧[V.ref c]=[y']∧(upd H3 c (.tup [.int y,.int l])) l'=some (.lst xs)∧xs.length < sizeLine∧N (upd (upd H3 c (.tup [.int y,.int l])) l' (.lst (xs++[y'])))):=by
    intro H3 ps y l s3 ⟨ys,hq3,hys⟩ hl3 N hN c hc
    have e1:=hys.length
    rw [List.length_map] at e1
    refine ⟨q,ys,.ref c,rfl,rfl,same_new hc _ _ hq3,by rw [e1,sizeLine_eq]; omega,hN _ (fun b o e=>?_) (PairsAt.snoc hq3 hys hc rfl)⟩
    have hbq:b≠q:=ne_of_none e hq
    rw [upd_ne hbq]
    exact same_new hc _ _ (s3 _ _ e)
   have hb1:=stepsM_length (rs.take i) v
   rw [List.length_take] at hb1
   have e2:=stepsM_take (v:=v) hri
   refine ⟨_,rfl,_,rfl,rfl,_,rfl,ite2 (fun c1=>?_) (fun c1=>?_)⟩
   ·have c1:ra=v:=by simpa using c1
    obtain ⟨ys,hq2,hys⟩:=hE
    refine ⟨_,rfl,.inl ⟨rfl,_,SqL.of hq2⟩,_,rfl,_,rfl,by show 2≤sizeLine; decide,step s2 ⟨ys,hq2,hys⟩ (by omega) _ fun H4 s4 hE4=>?_⟩
    refine ⟨_,rfl,_,rfl,rfl,_,rfl,ite2 (fun c2=>?_) (fun c2=>?_)⟩
    ·have c2:rb=v:=by simpa using c2
     obtain ⟨zs,hq4,hzs⟩:=hE4
     refine ⟨_,rfl,.inl ⟨rfl,_,SqL.of hq4⟩,_,rfl,_,rfl,by show 2≤sizeLine; decide,step s4 ⟨zs,hq4,hzs⟩ (by rw [List.length_append]; simp only [List.length_cons,List.length_nil]; omega) _ fun H5 s5 hE5=>?_⟩
     refine ⟨⟨_,_,_,rfl⟩,s5,?_,hlt⟩
     rw [e2]
     simp only [stepsOf,c1,c2,if_true]
     rw [← List.append_assoc]
     simpa [c1,c2] using hE5
    ·have c2:¬ rb=v:=by simpa using c2
     refine ⟨⟨_,_,_,rfl⟩,s4,?_,hlt⟩
     rw [e2]
     simp only [stepsOf,c1,c2,if_true,if_false,List.append_nil]
     exact hE4
   ·have c1:¬ ra=v:=by simpa using c1
    refine ⟨_,rfl,_,rfl,rfl,_,rfl,ite2 (fun c2=>?_) (fun c2=>?_)⟩
    ·have c2:rb=v:=by simpa using c2
     obtain ⟨zs,hq4,hzs⟩:=hE
     refine ⟨_,rfl,.inl ⟨rfl,_,SqL.of hq4⟩,_,rfl,_,rfl,by show 2≤sizeLine; decide,step s2 ⟨zs,hq4,hzs⟩ (by omega) _ fun H5 s5 hE5=>?_⟩
     refine ⟨⟨_,_,_,rfl⟩,s5,?_,hlt⟩
     rw [e2]
     simp only [stepsOf,c1,c2,if_true,if_false,List.nil_append]
     exact hE5
    ·have c2:¬ rb=v:=by simpa using c2
     refine ⟨⟨_,_,_,rfl⟩,s2,?_,hlt⟩
     rw [e2]
     simp only [stepsOf,c1,c2,if_false,List.append_nil]
     exact hE
  ·rintro σ H2 ⟨⟨v1,v2,v3,rfl⟩,s2,hE,_⟩
   rw [hlx,List.take_length] at hE
   exact ⟨_,rfl,k q H2 hq s2 hE⟩
end
end WR
namespace WR
open PySem L2
def Fnd (H:Hp) (kvs:List (Key×V)) (tab:List Ent):Prop:=Paired (fun (kv:Key×V) (e:Ent)=>kv.1=Sum.inl e.1∧Rep H kv.2 (pairD e.2)) kvs tab
theorem froz_pair (p:Int×Int):Froz (pairD p):=by unfold pairD Froz Frozs Frozs Frozs Froz; simp
theorem Fnd.froz {H H':Hp} {kvs:List (Key×V)} {tab:List Ent} (h:Fnd H kvs tab) (k:∀ b xs,H b=some (.tup xs)→H' b=some (.tup xs)):Fnd H' kvs tab:=Paired.mapP h fun _ _ z=>⟨z.1,z.2.froz k (froz_pair _)⟩
theorem Fnd.none {H:Hp} {kvs:List (Key×V)} {tab:List Ent} (h:Fnd H kvs tab) {x:Int} (hx:x ∉ keys tab):valV kvs (Sum.inl x:Key)=none:=by
 unfold Fnd at h
 induction h with
 | nil=>rfl
 | cons r t ih =>
  rename_i kv e kvs' tab'
  unfold keys at hx
  rw [List.map_cons,List.mem_cons] at hx
  rw [valV_neg]
  ·exact ih fun z=>hx (.inr z)
  ·rw [r.1]
   intro z
   exact hx (.inl (Sum.inl.inj z).symm)
theorem Fnd.some {H:Hp} {kvs:List (Key×V)} {tab:List Ent} (h:Fnd H kvs tab) {x p d:Int} (nd:(keys tab).Nodup) (hx:(x,p,d)∈tab):∃ a,valV kvs (Sum.inl x:Key)=Option.some (.ref a)∧H a=Option.some (.tup [.int p,.int d]):=by
 unfold Fnd at h
 induction h with
 | nil=>simp at hx
 | cons r t ih =>
  rename_i kv e kvs' tab'
  unfold keys at nd
  rw [List.map_cons] at nd
  obtain ⟨n1,n2⟩:=List.nodup_cons.mp nd
  rcases List.mem_cons.mp hx with z | z
  ·subst z
   rw [valV_pos r.1]
   obtain ⟨a,e,ha⟩:=pairD_at r.2
   exact ⟨a,by rw [e],ha⟩
  ·rw [valV_neg]
   ·exact ih n2 z
   ·rw [r.1]
    intro q
    exact n1 (List.mem_map.mpr ⟨_,z,(Sum.inl.inj q).symm⟩)
theorem Fnd.length {H:Hp} {kvs:List (Key×V)} {tab:List Ent} (h:Fnd H kvs tab):kvs.length=tab.length:=Paired.length h
theorem Fnd.snoc {H:Hp} {kvs:List (Key×V)} {tab:List Ent} (h:Fnd H kvs tab) {y p d:Int} {a:Addr} (hy:y ∉ keys tab) (ha:H a=Option.some (.tup [.int p,.int d])):Fnd H (putK kvs (Sum.inl y:Key) (.ref a)) (tab++[(y,p,d)]):=by
 rw [putK_new _ (h.none hy)]
 exact Paired.snoc h ⟨rfl,pairD_mk ha⟩
def FoundD (H:Hp) (q:Addr) (tab:List Ent):Prop:=∃ kvs,H q=some (.dK kvs)∧Fnd H kvs tab
theorem FoundD.keep {H H':Hp} {q:Addr} {tab:List Ent} (k:Same H H') (h:FoundD H q tab):FoundD H' q tab:=let ⟨kvs,h1,h2⟩:=h; ⟨kvs,k _ _ h1,h2.froz fun _ _ e=>k _ _ e⟩
def sp_reached:Sp:=fun vs H Q _=>∃ (p:Addr) (rs:List Road) (s:Int),vs=[.ref p,.int s]∧RoadsAt H p rs∧rs.length≤1000 ∧
 ∀ q tab H',H q=none→Same H H'→FoundD H' q tab→Tab rs s tab→(∀ x∈keys tab,Closed rs tab x)→Q (.ref q) H'
theorem PairsAt.get {H:Hp} {ps:List (Int×Int)} {xs:List V} (h:Reps H xs (ps.map pairD)) {i:Nat} {x:V} (hx:xs[i]?=some x):∃ r a,ps[i]?=some r∧x=.ref a∧H a=some (.tup [.int r.1,.int r.2]):=by
 obtain ⟨d,hd,hr⟩:=h.at hx
 rw [List.getElem?_map] at hd
 cases q:ps[i]? with
 | none=>rw [q] at hd; cases hd
 | some r =>
  rw [q] at hd
  cases hd
  obtain ⟨a,e,ha⟩:=pairD_at hr
  exact ⟨r,a,rfl,e,ha⟩
theorem last_map {ws:List Int} {h:Int}:((ws++[h]).map V.int)[((ws++[h]).map V.int).length - 1]?=some (.int h):=by simp
theorem drop_map {ws:List Int} {h:Int}:((ws++[h]).map V.int).dropLast=ws.map V.int:=by simp
theorem nil_or_snoc {α:Type} (l:List α):l=[]∨∃ r a,l=r++[a]:=by
 rcases List.eq_nil_or_concat l with h | ⟨r,a,h⟩
 ·exact .inl h
 ·exact .inr ⟨r,a,by rw [h,List.concat_eq_append]⟩
def reI1 (H:Hp) (p q u:Addr) (rs:List Road) (s:Int) (m:Nat) (σ:St) (H2:Hp):Prop:=∃ tab ws kvs v4 v5 v6,σ=[some (.ref p),some (.int s),some (.ref q),some (.ref u),v4,v5,v6]∧Same H H2∧H2 q=some (.dK kvs)∧Fnd H2 kvs tab∧H2 u=some (.lst (ws.map V.int))∧RI rs s tab ws∧m=ws.length + 2 * (2 * rs.length + 1 - tab.length)∧m≤4 * rs.length + 1
def reI2 (H3:Hp) (p q u:Addr) (rs:List Road) (s h:Int) (ws':List Int) (tab:List Ent) (j:Nat) (σ:St) (H4:Hp):Prop:=∃ tab2 ws2 kvs2 v5 v6,σ=[some (.ref p),some (.int s),some (.ref q),some (.ref u),some (.int h),v5,v6]∧(∀ b o,b≠q→b≠u→H3 b=some o→H4 b=some o)∧H4 q=some (.dK kvs2)∧Fnd H4 kvs2 tab2∧H4 u=some (.lst (ws2.map V.int))∧RJ rs s h j tab2 ws2∧ws2.length + 2 * (2 * rs.length + 1 - tab2.length) < (ws'++[h]).length + 2 * (2 * rs.length + 1 - tab.length)
section
variable {P:Program} {w:World} {K:PySem.W.Frag} {mg:Str→Option Value} {base:Heap} {t:Adr}
theorem ok_reached (TT:Txt K mg t):FnOk P w K mg base CX0 2 t.f_reached t.d_reached ["roads", "start"] sp_reached:=by
 refine TT.F_reached.ok sc_reached (fun vs H Q E h=>?_) (fun cdv A outer sh H vs Q E hr h=>?_)
 ·obtain ⟨p,rs,s,rfl,_⟩:=h
  rfl
 ·obtain ⟨p,rs,s,rfl,hR,hlen,k⟩:=h
  have hu:=hu_of hr
  refine ⟨_,(pss_cons (ps_set (i:=2) sc_reached.nd rfl (Or.inl rfl) (pe_disp (pps_cons (pv 1) (pe_tup (pa_cons (pv 1) (pa_consC pe_int pa_nil))) pps_nil) rfl rfl (fun h=>nomatch h) (by decide))) (pss_cons (ps_set (i:=3) sc_reached.nd rfl (Or.inl rfl) (pe_lst (pa_cons (pv 1) pa_nil))) (pss_cons (ps_while PassesOwn.never (pt_truth (pv 3) (fun _=>rfl)) (pss_cons (ps_set (i:=4) sc_reached.nd rfl (Or.inl rfl) (pe_bm0 PySem.F.plainAttrs_list PySem.F.slot_list_pop PySem.F.type_list_pop mt_pop (pv 3))) (pss_one (ps_for PassesOwn.never rfl (pi_list (pe_call (ok_steps TT) (hr.mono (by decide)) rfl TT.m_steps TT.F_steps.kp TT.b_steps .nil pass0 (pa_cons (pv 0) (pa_cons (pv 4) pa_nil)))) (pg_tup rfl (pgs_cons (pg_name (i:=5) sc_reached.nd rfl (Or.inl rfl)) (pgs_cons (pg_name (i:=6) sc_reached.nd rfl (Or.inl rfl)) pgs_nil))) (pss_one (ps_if (pt_cmp (pc_dnotin hu (pv 5) (pv 2))) (pss_cons (ps_dput hu (pv 2) (pv 5) (pe_tup (pa_cons (pv 4) (pa_consB (pe_op op_add (pe_ix ix_tup (pe_dget hu (pv 2) (pv 4) (fun _ _=>rfl)) pe_int (fun _ _=>rfl)) (pv 6)) pa_nil))) rfl) (pss_one (ps_expr (pe_bm PySem.F.plainAttrs_list PySem.F.slot_list_append PySem.F.type_list_append mt_append (pv 3) (pa_cons (pv 5) pa_nil))))) pss_nil)))))) (pss_one (ps_ret (pv 2)))))),?_⟩
  show let B5:TS:=tRet (tVar 2); let B4:TS:=tFor (iList K (tCall sp_steps [] E0 (tCons (tVar 0) (tCons (tVar 4) tNil)))) (gTup K (List.length (assignEach [Expr.Name (Str.ofString "there") { line:=54,col:=12,endLine:=54,endCol:=17 },Expr.Name (Str.ofString "length") { line:=54,col:=19,endLine:=54,endCol:=25 }] (Cx.env (Cx.nox (cxOf CX0 P w K mg base [Str.ofString "roads",Str.ofString "start",Str.ofString "found",Str.ofString "waiting",Str.ofString "here",Str.ofString "there",Str.ofString "length"] (Str.ofString "reached") (defScope s_reached) (Adr.f_reached t) cdv A outer sh H E))))) (gCons (gName 5) (gCons (gName 6) gNil))) (tIfS (tB (tDNotIn (tVar 5) (tVar 2))) (tSeq (sDPut (tVar 2) (tVar 5) (tTup (tCons (tVar 4) (tCons (tOp (rI0 fun i j=>V.int (i + j)) (tOp (rIxT K) (tDGet (tVar 2) (tVar 4)) (tC (V.int 1))) (tVar 6)) tNil)))) (tDrop (tBM K "list" rAppend (tVar 3) (tCons (tVar 5) tNil)))) tNext); let B3:TS:=tSeq (tAsg (tBM0 K "list" rPop (tVar 3)) (gName 4)) B4; let B2:TS:=tSeq (tWhile (fun σ H_1 Q=>tVar 3 σ H_1 fun x H'=>∃ k,TruV K x H' k∧Q k H') B3) B5; let B1:TS:=tSeq (tAsg (tLst (tCons (tVar 1) tNil)) (gName 3)) B2; tSeq (tAsg (tDisp [(tVar 1,tTup (tCons (tVar 1) (tCons (tC (V.int 0)) tNil)))]) (gName 2)) B1 _ _ _
  intro B5 B4 B3 B2 B1
  intro q hq
  refine ⟨_,rfl,_,rfl,by show 2≤sizeLine; decide,fun a ha=>?_⟩
  have hqa:q≠a:=fun z=>by subst z; rw [upd_same] at ha; cases ha
  have ha0:H a=none:=by rw [upd_ne hqa.symm] at ha; exact ha
  refine ⟨by rw [upd_ne hqa,upd_same],[(Sum.inl s,.ref a)],rfl,by show 1≤15; decide,?_⟩
  refine ⟨_,rfl,by show 1≤sizeLine; decide,fun u hu0=>?_⟩
  have huq:u≠q:=fun z=>by subst z; rw [upd_same] at hu0; cases hu0
  have hua:u≠a:=fun z=>by subst z; rw [upd_ne hqa.symm,upd_same] at hu0; cases hu0
  have hun:H u=none:=by rw [upd_ne huq,upd_ne hua,upd_ne huq] at hu0; exact hu0
  refine ⟨(reI1 H p q u rs s),⟨_,[(s,s,0)],[s],[(Sum.inl s,.ref a)],none,none,none,rfl,?_,?_,?_,upd_same,RI.begin rs s,rfl,by simp only [List.length_cons,List.length_nil]; omega⟩,?_⟩
  ·intro b o e
   rw [upd_ne (ne_of_none e hun),upd_ne (ne_of_none e hq),upd_ne (ne_of_none e ha0),upd_ne (ne_of_none e hq)]
   exact e
  ·rw [upd_ne huq.symm,upd_same]; rfl
  ·refine .cons ⟨rfl,pairD_mk ?_⟩ .nil
   rw [upd_ne hua.symm,upd_ne hqa.symm,upd_same]
  ·rintro m σ H2 ⟨tab,ws,kvs,v4,v5,v6,rfl,s2,hq2,hF,hu2,I,rfl,hm0⟩
   refine ⟨_,rfl,_,.inl ⟨_,SqL.of hu2,rfl⟩,?_⟩
   rcases nil_or_snoc ws with rfl | ⟨ws',h,rfl⟩
   ·refine iteF ?_
    exact ⟨_,rfl,k q tab H2 hq s2 ⟨kvs,hq2,hF⟩ I.T I.fin⟩
   ·have et:(!((ws'++[h]).map V.int).isEmpty)=true:=by simp
    rw [et]
    refine iteT ⟨_,fun σ' H' z=>z,?_⟩
    refine ⟨_,rfl,.inl ⟨rfl,_,SqL.of hu2⟩,u,_,_,rfl,rfl,hu2,last_map,?_⟩
    rw [drop_map]
    have J:=I.pop
    have uq:u≠q:=huq
    have s3:Same H (upd H2 u (.lst (ws'.map V.int))):=fun b o e=>by rw [upd_ne (ne_of_none e hun)]; exact s2 _ _ e
    refine ⟨_,rfl,_,rfl,p,rs,h,rfl,hR.keep s3,hlen,fun c H3 hc s4 hP=>?_⟩
    obtain ⟨xs,hcx,hxs⟩:=hP
    have hq3:H3 q=some (.dK kvs):=s4 _ _ (by rw [upd_ne uq.symm]; exact hq2)
    have hu3:H3 u=some (.lst (ws'.map V.int)):=s4 _ _ upd_same
    have hcq:c≠q:=fun z=>by subst z; rw [upd_ne uq.symm,hq2] at hc; cases hc
    have hcu:c≠u:=fun z=>by subst z; rw [upd_same] at hc; cases hc
    have hF3:Fnd H3 kvs tab:=hF.froz fun b ys e=>s4 _ _ (by rw [upd_ne]; exact e; intro z; subst z; rw [hu2] at e; cases e)
    have hlx:=hxs.length
    rw [List.length_map] at hlx
    refine ⟨c,rfl,⟨_,SqL.of hcx⟩,for_list (K:=K) (a:=c) (xs:=xs) (reI2 H3 p q u rs s h ws' tab)
     ⟨tab,ws',kvs,v5,v6,rfl,fun _ _ _ _ e=>e,hq3,hF3,hu3,J,by rw [List.length_append]; simp only [List.length_cons,List.length_nil]; omega⟩ (fun j σ H4 _ ⟨_,_,_,_,_,_,e,_⟩=>SqL.of (e _ _ hcq hcu hcx)) ?_ ?_⟩
    ·rintro j x σ H4 hj ⟨tab2,ws2,kvs2,v5',v6',rfl,s5,hq4,hF4,hu4,J2,hm⟩
     obtain ⟨⟨y,l⟩,b,hpj,rfl,hb⟩:=PairsAt.get hxs hj
     have hbq:b≠q:=ne_of hb hq3 (by intro z; cases z)
     have hbu:b≠u:=ne_of hb hu3 (by intro z; cases z)
     have hb4:=s5 _ _ hbq hbu hb
     refine ⟨b,_,rfl,SqT.of hb4,rfl,_,_,rfl,_,_,rfl,rfl,?_⟩
     refine ⟨_,rfl,_,rfl,q,_,rfl,DGet.k (k:=Sum.inl y) hq4,_,rfl,?_⟩
     by_cases hy:y∈keys tab2
     ·obtain ⟨py,dy,hmy⟩:=mem_keys.mp hy
      obtain ⟨a',e',_⟩:=hF4.some J2.T.nd hmy
      rw [e']
      exact iteF ⟨tab2,ws2,kvs2,_,_,rfl,s5,hq4,hF4,hu4,J2.skip hpj hy,hm⟩
     ·have e':=hF4.none hy
      rw [e']
      refine iteT ?_
      obtain ⟨ph,dh,hmh⟩:=mem_keys.mp J2.here
      obtain ⟨a',e2,ha'⟩:=hF4.some J2.T.nd hmh
      refine ⟨_,rfl,_,rfl,_,rfl,q,_,rfl,.inl ⟨kvs2,Sum.inl h,.inl hq4,rfl,e2.symm⟩,a',_,1,_,rfl,rfl,SqT.of ha',atI_nat (j:=1) rfl,_,rfl,_,_,rfl,rfl,by show 2≤sizeLine; decide,fun d hd=>?_⟩
      have hdq:d≠q:=fun z=>by subst z; rw [hq4] at hd; cases hd
      have hdu:d≠u:=fun z=>by subst z; rw [hu4] at hd; cases hd
      have hbound:=J2.T.bound
      have hkl:=hF4.length
      refine ⟨_,rfl,_,rfl,q,_,rfl,DPut.k (k:=Sum.inl y) (by rw [upd_ne hdq.symm]; exact hq4) (by rw [hkl,sizeLine_eq]; omega),?_⟩
      have hu5:(upd (upd H4 d (.tup [.int h,.int (dh + l)])) q (.dK (putK kvs2 (Sum.inl y:Key) (.ref d)))) u=some (.lst (ws2.map V.int)):=by rw [upd_ne uq,upd_ne hdu.symm]; exact hu4
      have hwl:ws2.length≤4001:=by omega
      refine ⟨_,rfl,.inl ⟨rfl,_,SqL.of hu5⟩,_,rfl,u,_,_,rfl,rfl,hu5,by rw [List.length_map,sizeLine_eq]; omega,?_⟩
      have J3:=J2.add hpj hy hmh
      have hbound3:=J3.T.bound
      rw [List.length_append] at hbound3
      refine ⟨tab2++[(y,h,dh + l)],ws2++[y],_,_,_,rfl,fun b' o n1 n2 e=>?_,by rw [upd_ne uq.symm,upd_same],?_,by rw [upd_same,List.map_append]; rfl,J3,?_⟩
      ·rw [upd_ne n2,upd_ne n1]
       have e4:=s5 _ _ n1 n2 e
       rw [upd_ne (ne_of_none e4 hd)]
       exact e4
      ·have hd6:(upd (upd (upd H4 d (.tup [.int h,.int (dh + l)])) q (.dK (putK kvs2 (Sum.inl y:Key) (.ref d)))) u (.lst (ws2.map V.int++[V.int y]))) d=some (.tup [.int h,.int (dh + l)]):=by rw [upd_ne hdu,upd_ne hdq,upd_same]
       refine (hF4.froz fun b' ys e=>?_).snoc hy hd6
       have n1:b'≠q:=ne_of e hq4 (by intro z; cases z)
       have n2:b'≠u:=ne_of e hu4 (by intro z; cases z)
       rw [upd_ne n2,upd_ne n1,upd_ne (ne_of_none e hd)]
       exact e
      ·rw [List.length_append,List.length_append]
       simp only [List.length_cons,List.length_nil] at *
       omega
    ·rintro σ H4 ⟨tab2,ws2,kvs2,v5',v6',rfl,s5,hq4,hF4,hu4,J2,hm⟩
     rw [hlx] at J2
     refine ⟨_,hm,tab2,ws2,kvs2,_,_,_,rfl,fun b o e=>?_,hq4,hF4,hu4,J2.fin,rfl,by omega⟩
     exact s5 _ _ (ne_of_none e hq) (ne_of_none e hun) (s4 _ _ (s3 _ _ e))
end
end WR
namespace WR
open PySem L2
section
variable {K:PySem.W.Frag}
theorem kit_il:PySem.W.kitOne K (.type "int") (.type "list")=some false:=by rfl
theorem kit_bl:PySem.W.kitOne K (.type "bool") (.type "list")=some false:=by rfl
theorem kit_sl:PySem.W.kitOne K (.type "str") (.type "list")=some false:=by rfl
theorem kit_nl:PySem.W.kitOne K (.type "NoneType") (.type "list")=some false:=by rfl
theorem kit_tl:PySem.W.kitOne K (.type "tuple") (.type "list")=some false:=by rfl
end
theorem wholeV_iff {i a b:Int}:wholeV (.int i) a b=true↔a≤i∧i≤b:=by
 show (decide (a≤i)&&decide (i≤b))=true↔_
 simp
theorem same_upd {H H':Hp} {p:Addr} {o:HO} (s:Same H H') (h:H p=none):Same H (upd H' p o):=fun b u e=>by rw [upd_ne (ne_of_none e h)]; exact s _ _ e
theorem bool_of_iff {b c:Bool} (h:b=true↔c=true):b=c:=by
 cases b with
 | true=>exact (h.mp rfl).symm
 | false =>
  cases c with
  | true=>exact h.mpr rfl
  | false=>rfl
theorem pair_at {α β:Type} {F:α→β→Prop}:∀ {l:List α} {m:List β} {i:Nat} {a:α},Paired F l m→l[i]?=some a→∃ b,m[i]?=some b∧F a b
 | _,_,_,_,.nil,e=>by simp at e
 | _,_,0,_,.cons r _,e=>by simp at e; subst e; exact ⟨_,rfl,r⟩
 | _,_,i + 1,a,.cons _ t,e=>by
  obtain ⟨b,h1,h2⟩:=pair_at (i:=i) (a:=a) t (by simpa using e)
  exact ⟨b,by simpa using h1,h2⟩
theorem RoadV.keep {H H':Hp} {n:Int} {v:V} {b:Bool} (r:RoadV H n v b) (s:Same H H'):RoadV H' n v b:=by
 cases r with
 | no k nt =>
  refine .no (k.keep s) fun a xs e h=>?_
  cases k with
  | lst q=>cases e; rw [s _ _ q] at h; cases h
  | tup q=>exact nt _ _ rfl q
  | _=>cases e
 | len h l=>exact .len (s _ _ h) l
 | tri h kx ky kz=>exact .tri (s _ _ h) (kx.keep s) (ky.keep s) (kz.keep s)
def roadB (n:Int) (r:Road):Bool:=wholeV (.int r.1) 0 (n - 1)&&wholeV (.int r.2.1) 0 (n - 1)&&!decide (r.1=r.2.1)&&wholeV (.int r.2.2) 1 1000000
theorem tri_road (n:Int) (r:Road):triB n (.int r.1) (.int r.2.1) (.int r.2.2)=roadB n r:=by
 unfold triB roadB
 rw [show decide (V.int r.1=V.int r.2.1)=decide (r.1=r.2.1) from by simp]
theorem roadB_all {n:Nat} {rs:List Road}:(rs.map (roadB n)).all id=true↔Roads n rs:=by
 rw [List.all_eq_true]
 have e:∀ r:Road,roadB n r=true↔(0≤r.1∧r.1≤(n:Int) - 1)∧(0≤r.2.1∧r.2.1≤(n:Int) - 1)∧r.1≠r.2.1∧1≤r.2.2∧r.2.2≤1000000:=fun r=>by
  unfold roadB
  rw [Bool.and_eq_true,Bool.and_eq_true,Bool.and_eq_true,wholeV_iff,wholeV_iff,wholeV_iff]
  simp only [Bool.not_eq_true',decide_eq_false_iff_not,and_assoc]
 constructor
 ·intro h
  have h':∀ r∈rs,roadB n r=true:=fun r hr=>h _ (List.mem_map.mpr ⟨r,hr,rfl⟩)
  exact ⟨fun r hr=>by have:=(e r).mp (h' r hr); omega,fun r hr=>by have:=(e r).mp (h' r hr); omega,fun r hr=>((e r).mp (h' r hr)).2.2.1,fun r hr=>((e r).mp (h' r hr)).2.2.2⟩
 ·intro R x hx
  obtain ⟨r,hr,rfl⟩:=List.mem_map.mp hx
  refine (e r).mpr ?_
  have a1:=R.lo r hr; have a2:=R.hi r hr; have a3:=R.ne r hr; have a4:=R.ps r hr
  exact ⟨⟨a1.1,by omega⟩,⟨a1.2,by omega⟩,a3,a4⟩
def IsTree (n:Int) (rs:List Road):Prop:=1≤n∧n≤12∧Tree n.toNat rs
inductive TreeV (H:Hp):V→V→Bool→Prop where
 | nov {v rv:V} (k:KindV H v) (e:wholeV v 1 12=false):TreeV H v rv false
 | nol {n:Int} {rv:V} (k:KindV H rv) (nl:∀ a xs,rv=.ref a→H a≠some (.lst xs)):TreeV H (.int n) rv false
 | bad {n:Int} {a:Addr} {xs:List V} {bs:List Bool} (h:H a=some (.lst xs)) (hb:Paired (RoadV H n) xs bs) (l:xs.length≤1000) (e:(xs.length:Int)≠n - 1∨bs.all id=false):TreeV H (.int n) (.ref a) false
 | rds {n:Int} {a:Addr} {rs:List Road} {b:Bool} (R:RoadsAt H a rs) (l:rs.length≤1000) (e:b=true↔IsTree n rs):TreeV H (.int n) (.ref a) b
theorem KindV.noLst {K:PySem.W.Frag} {H:Hp} {v:V} (k:KindV H v) (nt:∀ a xs,v=.ref a→H a≠some (.lst xs)):∃ ty,TyOf K H v ty∧PySem.W.kitOne K ty (.type "list")=some false:=by
 cases k with
 | int i=>exact ⟨_,.int _,kit_il⟩
 | bl b=>exact ⟨_,.bl _,kit_bl⟩
 | str y=>exact ⟨_,.str _,kit_sl⟩
 | non=>exact ⟨_,.non,kit_nl⟩
 | tup h=>exact ⟨_,.tup h,kit_tl⟩
 | lst h=>exact absurd h (nt _ _ rfl)
theorem RoadsAt.roadV {H:Hp} {n:Int}:∀ {xs:List V} {rs:List Road},Reps H xs (rs.map roadD)→Paired (RoadV H n) xs (rs.map (roadB n))
 | xs,[],h=>by
  have:=h.length
  rw [List.eq_nil_of_length_eq_zero this]; exact .nil
 | xs,r::rs,h=>by
  rw [List.map_cons] at h
  unfold Reps at h
  obtain ⟨x,xr,rfl,hx,hr⟩:=h
  obtain ⟨a,b,l⟩:=r
  obtain ⟨ad,rfl,ha⟩:=roadD_at hx
  rw [List.map_cons,← tri_road]
  exact .cons (.tri ha (.int _) (.int _) (.int _)) (roadV hr)
def sp_is_tree:Sp:=fun vs H Q _=>∃ (v rv:V) (b:Bool),vs=[v,rv]∧TreeV H v rv b∧∀ H',Same H H'→Q (.bl b) H'
structure LstV (H:Hp) (n:Int) (a:Addr) (xs:List V) (bs:List Bool) (b:Bool):Prop where
 h:H a=some (.lst xs)
 hb:Paired (RoadV H n) xs bs
 l:xs.length≤1000
 f1:wholeV (.int n) 1 12=false→b=false
 f2:(xs.length:Int)≠n - 1→b=false
 f3:bs.all id=false→b=false
 g:bs.all id=true→(xs.length:Int)=n - 1→∃ rs,RoadsAt H a rs∧rs.length=xs.length∧bs=rs.map (roadB n)∧(b=true↔IsTree n rs)
theorem TreeV.lst {H:Hp} {n:Int} {a:Addr} {b:Bool} (T:TreeV H (.int n) (.ref a) b):b=false∧(wholeV (.int n) 1 12=false∨∀ xs,H a≠some (.lst xs))∨∃ xs bs,LstV H n a xs bs b:=by
 cases T with
 | nov k e=>exact .inl ⟨rfl,.inl e⟩
 | nol k nl=>exact .inl ⟨rfl,.inr fun xs=>nl _ xs rfl⟩
 | @bad _ _ xs bs h hb l e=>exact .inr ⟨xs,bs,h,hb,l,fun _=>rfl,fun _=>rfl,fun _=>rfl,fun z1 z2=>by rcases e with e | e; exact absurd z2 e; rw [z1] at e; cases e⟩
 | @rds _ _ rs _ R l e =>
  obtain ⟨xs,hp,hxs⟩:=R
  have hlx:=hxs.length
  rw [List.length_map] at hlx
  have no:¬ IsTree n rs→b=false:=fun z=>by
   cases b with
   | true=>exact absurd (e.mp rfl) z
   | false=>rfl
  refine .inr ⟨xs,rs.map (roadB n),hp,RoadsAt.roadV hxs,by omega,fun z=>no fun T=>?_,fun z=>no fun T=>?_,fun z=>no fun T=>?_,fun _ _=>⟨rs,⟨xs,hp,hxs⟩,hlx.symm,rfl,e⟩⟩
  ·rw [wholeV_iff.mpr ⟨T.1,T.2.1⟩] at z; cases z
  ·have:=T.2.2.count
   have:=T.1
   omega
  ·have hN:((n.toNat:Nat):Int)=n:=Int.toNat_of_nonneg (by have:=T.1; omega)
   have:=roadB_all.mpr T.2.2.roads
   rw [hN,z] at this
   cases this
section
variable {P:Program} {w:World} {K:PySem.W.Frag} {mg:Str→Option Value} {base:Heap} {t:Adr}
theorem ok_is_tree (TT:Txt K mg t):FnOk P w K mg base CX0 4 t.f_is_tree t.d_is_tree ["villages", "roads"] sp_is_tree:=by
 refine TT.F_is_tree.ok sc_is_tree (fun vs H Q E h=>?_) (fun cdv A outer sh H vs Q E hr h=>?_)
 ·obtain ⟨v,rv,b,rfl,_⟩:=h
  rfl
 ·obtain ⟨v,rv,b,rfl,hv,k⟩:=h
  have hu:=hu_of hr
  refine ⟨_,(pss_cons (ps_if (pt_not (pt_val (pe_call (ok_is_whole TT) (hr.mono (by decide)) rfl TT.m_is_whole TT.F_is_whole.kp TT.b_is_whole .nil pass0 (pa_cons (pv 0) (pa_consC pe_int (pa_cons (pe_glob (v:=.int 12) rfl TT.g_MOST_VILLAGES ⟨_,rfl⟩) pa_nil)))))) (pss_one (ps_ret pe_bl)) pss_nil) (pss_cons (ps_if (PW.pt (pw_or (pt_not (pt_val (pe_callB call_isinst rfl TT.z_isinstance WB.bt_isinstance (pa_cons (pv 1) (pa_cons (pe_bltn (v:=.ty "list") rfl TT.z_list WB.bt_list rfl) pa_nil))))) (pw_or1 (pt_cmpR op_ne (pe_callB call_len_seq rfl TT.z_len WB.bt_len (pa_cons (pv 1) pa_nil)) (pe_op op_sub (pv 0) pe_int) (nomark _))))) (pss_one (ps_ret pe_bl)) pss_nil) (pss_cons (ps_if (pt_not (pt_val (pe_callB (call_all rfl) rfl TT.z_all WB.bt_all (pa_cons (pe_comp rfl (N:=["road", "villages"]) (fr:=[(1,0)]) (compOk (N0:=["villages", "roads"]) (N:=["road", "villages"]) (fr:=[(1,0)]) (sc0:=defScope s_is_tree) rfl ⟨rfl,rfl⟩ (by decide +kernel)) (pi_list (pv 1)) (fun _ _ _ _ _=>⟨(pg_name (i:=0) (show (["road", "villages"]:List Str).Nodup by decide +kernel) rfl (Or.inl rfl)),pf_none,(pe_call (ok_is_road TT) (hr.mono (by decide)) rfl TT.m_is_road TT.F_is_road.kp TT.b_is_road .nil pass0 (pa_cons (pv 0) (pa_cons (pv 1) pa_nil)))⟩)) pa_nil)))) (pss_one (ps_ret pe_bl)) pss_nil) (pss_one (ps_ret (pe_cmpR op_eq (pe_callB call_lenD rfl TT.z_len WB.bt_len (pa_cons (pe_call (ok_reached TT) (hr.mono (by decide)) rfl TT.m_reached TT.F_reached.kp TT.b_reached .nil pass0 (pa_cons (pv 1) (pa_consC pe_int pa_nil))) pa_nil)) (pv 0) (nomark _))))))),?_⟩
  by_cases nv:∃ e:wholeV v 1 12=false,b=false∧KindV H v
  ·obtain ⟨e,rfl,kv⟩:=nv
   exact ⟨_,rfl,_,_,_,rfl,kv,_,rfl,ite_t (by rw [e]; rfl) (k _ (Same.refl H))⟩
  by_cases nl:∃ n,v=.int n∧b=false∧KindV H rv∧∀ a xs,rv=.ref a→H a≠some (.lst xs)
  ·obtain ⟨n,rfl,rfl,kv,nl⟩:=nl
   have e1:wholeV (.int n) 1 12=true:=by
    cases e:wholeV (.int n) 1 12 with
    | true=>rfl
    | false=>exact absurd ⟨e,rfl,.int n⟩ nv
   obtain ⟨ty,h1,h2⟩:=kv.noLst (K:=K) nl
   exact ⟨_,rfl,_,_,_,rfl,.int _,_,rfl,ite_f (by rw [e1]; rfl) ⟨_,rfl,_, "list",ty,false,rfl,h1,h2,false,rfl,iteT (iteT (k _ (Same.refl H)))⟩⟩
  obtain ⟨n,p,xs,bs,rfl,rfl,L⟩:∃ n p xs bs,v=.int n∧rv=.ref p∧LstV H n p xs bs b:=by
   cases hv with
   | nov kv e=>exact absurd ⟨e,rfl,kv⟩ nv
   | nol kv z=>exact absurd ⟨_,rfl,rfl,kv,z⟩ nl
   | bad h hb l e =>
    rcases TreeV.lst (.bad h hb l e) with ⟨_,z | z⟩ | ⟨xs,bs,L⟩
    ·exact absurd ⟨z,rfl,.int _⟩ nv
    ·exact absurd h (z _)
    ·exact ⟨_,_,xs,bs,rfl,rfl,L⟩
   | rds R l e =>
    rcases TreeV.lst (.rds R l e) with ⟨z0,z | z⟩ | ⟨xs,bs,L⟩
    ·exact absurd ⟨z,z0,.int _⟩ nv
    ·exact absurd R.choose_spec.1 (z _)
    ·exact ⟨_,_,xs,bs,rfl,rfl,L⟩
  have hp:=L.h
  refine ⟨_,rfl,_,_,_,rfl,.int _,_,rfl,?_⟩
  cases e1:wholeV (.int n) 1 12 with
  | false=>have:=L.f1 e1; subst this; exact iteT (k _ (Same.refl H))
  | true =>
   obtain ⟨n1,n2⟩:=wholeV_iff.mp e1
   obtain ⟨m,rfl⟩:=Int.eq_ofNat_of_zero_le (show 0≤n by omega)
   refine iteF ⟨_,rfl,_, "list",.type "list",true,rfl,.lst hp,kit_ll,true,rfl,iteF ?_⟩
   refine ⟨_,rfl,p,_,rfl,.inl (SqL.of hp),_,rfl,_,_,rfl,rfl,rfl,_,rfl,?_⟩
   by_cases e2:(xs.length:Int)=(m:Int) - 1
   ·have hd:(!decide (V.int (xs.length:Int)=V.int ((m:Int) - 1)))=false:=by rw [e2]; simp
    refine ite_f hd ?_
    refine ⟨_,rfl,p,rfl,⟨_,SqL.of hp⟩,fun acc hacc=>comp_list (K:=K) (xs:=xs) (fun i τ ys H2=>(∃ v,τ=[v,some (.int m)])∧ys=(bs.take i).map V.bl∧H2 acc=some (.lst ys)∧Same H H2) ⟨⟨_,rfl⟩,rfl,upd_same,same_new hacc⟩
     (fun i τ ys H2 _ ⟨_,_,h3,h4⟩=>⟨SqL.of (h4 _ _ hp),h3⟩) ?_ ?_⟩
    ·rintro i x τ ys H2 R hi ⟨⟨v,rfl⟩,rfl,h3,h4⟩ hR
     obtain ⟨b1,hb1,hv1⟩:=pair_at L.hb hi
     have hl:=L.l
     have hlt:i < xs.length:=(List.getElem?_eq_some_iff.mp hi).1
     refine noifN ?_
     refine ⟨_,rfl,_,rfl,x,m,b1,rfl,hv1.keep h4,fun H' s'=>⟨s' _ _ h3,by rw [List.length_map,List.length_take,sizeLine_eq]; omega,hR _ _ _ ⟨⟨_,rfl⟩,?_,upd_same,same_upd (h4.trans s') hacc⟩⟩⟩
     rw [List.take_add_one,hb1]; simp
    ·rintro τ ys H2 ⟨⟨v,rfl⟩,rfl,h3,h4⟩
     rw [Paired.length L.hb,List.take_length] at h3
     refine ⟨acc,bs,rfl,SqL.of h3,_,rfl,?_⟩
     cases e3:bs.all id with
     | false=>have:=L.f3 e3; subst this; exact iteT (k H2 h4)
     | true =>
      refine iteF ?_
      obtain ⟨rs,hR,hrl,hbs,hb⟩:=L.g e3 e2
      have R:Roads m rs:=roadB_all.mp (by rw [← hbs]; exact e3)
      have hl:=L.l
      refine ⟨_,rfl,p,rs,0,rfl,hR.keep h4,by omega,fun q tab H3 hq s3 ⟨kvs,hqd,hF⟩ T hc=>⟨q,kvs,rfl,hqd,_,rfl,rfl,?_⟩⟩
      have ti:=tree_iff R (by omega) T hc
      have:decide (V.int (kvs.length:Nat)=V.int (m:Int))=b:=by
       rw [hF.length]
       refine bool_of_iff ?_
       rw [hb]
       simp only [decide_eq_true_eq,V.int.injEq]
       constructor
       ·intro z
        exact ⟨n1,n2,by simp only [Int.toNat_natCast]; exact ti.mp (by omega)⟩
       ·intro z
        have z3:=z.2.2
        simp only [Int.toNat_natCast] at z3
        have:=ti.mpr z3
        omega
      rw [this]
      exact k H3 (h4.trans s3)
   ·have hd:(!decide (V.int (xs.length:Int)=V.int ((m:Int) - 1)))=true:=by simp [e2]
    have:=L.f2 e2
    subst this
    exact ite_t hd (k _ (Same.refl H))
end
end WR
namespace WR
open PySem L2
theorem f_ne:¬ (("size" : Str) = "road_list"):=by decide +kernel
def flds (n:Int) (q:Addr):List (Str×V):=putF "road_list" (.ref q) (putF "size" (.int n) [])
theorem flds_size (n:Int) (q:Addr):(flds n q).lookup ("size" : Str)=some (.int n):=by
 unfold flds
 rw [lookup_putF,if_neg f_ne,lookup_putF,if_pos rfl]
theorem flds_roads (n:Int) (q:Addr):(flds n q).lookup ("road_list" : Str)=some (.ref q):=by
 unfold flds
 rw [lookup_putF,if_pos rfl]
theorem flds_no (n:Int) (q:Addr) {m:Str} (h1:¬ m = "road_list") (h2:¬ m = "size"):(flds n q).lookup m=none:=by
 unfold flds
 rw [lookup_putF,if_neg h1,lookup_putF,if_neg h2]
 all_goals rfl
structure TreeAt (C:Addr) (H:Hp) (x q:Addr) (n:Int) (rs:List Road):Prop where
 ob:∃ dx,H x=some (.ins C dx (flds n q))
 rd:RoadsAt H q rs
 ok:IsTree n rs
theorem TreeAt.keep {C:Addr} {H H':Hp} {x q:Addr} {n:Int} {rs:List Road} (T:TreeAt C H x q n rs) (k:Same H H'):TreeAt C H' x q n rs:=⟨let ⟨dx,h⟩:=T.ob; ⟨dx,k _ _ h⟩,T.rd.keep k,T.ok⟩
theorem IsTree.len {n:Int} {rs:List Road} (h:IsTree n rs):rs.length≤1000:=by
 have:=h.2.2.count
 have:=h.2.1
 omega
def spx_Tree_init (C B:Addr):Sp:=fun vs H Q E =>
 (∃ (x dx p:Addr) (n:Int) (rs:List Road),vs=[.ref x,.int n,.ref p]∧H x=some (.ins C dx [])∧RoadsAt H p rs∧IsTree n rs ∧
  ∀ q H',H q=none→TreeAt C H' x q n rs→(∀ b o,H b=some o→b≠x→H' b=some o)→Q .non H') ∨
 ∃ (x dx:Addr) (v rv:V),vs=[.ref x,v,rv]∧H x=some (.ins C dx [])∧TreeV H v rv false∧∀ H',Same H H'→E (.ref B) none H'
def sp_Tree_roads (C:Addr):Sp:=fun vs H Q _=>∃ (x q:Addr) (n:Int) (rs:List Road),vs=[.ref x]∧TreeAt C H x q n rs∧∀ p H',H p=none→Same H H'→RoadsAt H' p rs→Q (.ref p) H'
def spx_need (C B:Addr) (d:Int):Sp:=fun vs H Q E=>∃ (x q:Addr) (n:Int) (rs:List Road) (v:V),vs=[.ref x,v]∧TreeAt C H x q n rs∧KindV H v∧(wholeV v 0 (n - d)=true→Q .non H)∧(wholeV v 0 (n - d)=false→E (.ref B) none H)
section
variable {P:Program} {w:World} {K:PySem.W.Frag} {mg:Str→Option Value} {base:Heap} {t:Adr}
theorem okx_Tree_init (TT:Txt K mg t):FnOk P w K mg base (CXE P w base) 5 t.f_Tree_init t.d_Tree_init ["self", "villages", "roads"] (spx_Tree_init t.C_Tree t.C_BadTree):=by
 refine TT.F_Tree_init.okE sc_Tree_init (fun vs H Q E h=>?_) (fun cdv A outer sh H vs Q E hr h=>?_)
 ·rcases h with ⟨x,dx,p,n,rs,rfl,_⟩ | ⟨x,dx,v,rv,rfl,_⟩
  ·rfl
  ·rfl
 ·refine ⟨_,(pss_cons (ps_if (pt_not (pt_val (pe_call (ok_is_tree TT) (hr.mono (by decide)) rfl TT.m_is_tree TT.F_is_tree.kp TT.b_is_tree .nil pass0 (pa_cons (pv 1) (pa_cons (pv 2) pa_nil))))) (pss_one (ps_raise raiseE rfl rfl TT.m_BadTree TT.R_BadTree PySem.F.excBase_ValueError (by decide +kernel) PySem.F.excBase_ValueError (pa_consC pe_str pa_nil))) pss_nil) (pss_cons (ps_fld (pv 0) (pv 1) rfl) (pss_one (ps_fld (pv 0) (pe_callTy call_list_of rfl TT.z_list WB.bt_list (pa_cons (pv 2) pa_nil)) rfl)))),?_⟩
  rcases h with ⟨x,dx,p,n,rs,rfl,hx,hR,hT,k⟩ | ⟨x,dx,v,rv,rfl,hx,hv,k⟩
  ·refine ⟨_,rfl,_,rfl,_,_,true,rfl,.rds hR hT.len ⟨fun _=>hT,fun _=>rfl⟩,fun H1 s1=>⟨_,rfl,iteF ?_⟩⟩
   refine ⟨_,rfl,_,rfl,x,t.C_Tree,dx,_,rfl,s1 _ _ hx,TT.cl_Tree,TT.n_Tree_size,by show 0 < 1000; decide,?_⟩
   obtain ⟨xs,hp,hxs⟩:=hR
   have hpx:p≠x:=ne_of hp hx (by intro z; cases z)
   refine ⟨_,rfl,p,_,rfl,.inl (SqL.of (by rw [upd_ne hpx]; exact s1 _ _ hp)),fun q hq=>?_⟩
   have hqx:q≠x:=fun z=>by subst z; rw [upd_same] at hq; cases hq
   have hq1:H1 q=none:=by rw [upd_ne hqx] at hq; exact hq
   have hq0:H q=none:=s1.free hq1
   refine ⟨_,rfl,x,t.C_Tree,dx,_,rfl,by rw [upd_ne hqx.symm,upd_same],TT.cl_Tree,TT.n_Tree_road_list,by show 1 < 1000; decide,?_⟩
   have kp:∀ b o,H b=some o→b≠x→upd (upd (upd H1 x (.ins t.C_Tree dx (putF "size" (.int n) []))) q (.lst xs)) x (.ins t.C_Tree dx (flds n q)) b=some o:=fun b o e hb=>by
    rw [upd_ne hb,upd_ne (ne_of_none e hq0),upd_ne hb]
    exact s1 _ _ e
   refine k q _ hq0 ⟨⟨dx,upd_same⟩,⟨xs,by rw [upd_ne hqx,upd_same],?_⟩,hT⟩ kp
   refine hxs.froz (fun b ys e=>kp b _ e ?_) (frozs_roads rs)
   intro z; subst z; rw [hx] at e; cases e
  ·exact ⟨_,rfl,_,rfl,_,_,false,rfl,hv,fun H1 s1=>⟨_,rfl,iteT ⟨by show 1≤sizeLine; decide,k H1 s1⟩⟩⟩
theorem ok_Tree_roads (TT:Txt K mg t):FnOk P w K mg base CX0 1 t.f_Tree_roads t.d_Tree_roads ["self"] (sp_Tree_roads t.C_Tree):=by
 refine TT.F_Tree_roads.ok sc_Tree_roads (fun vs H Q E h=>?_) (fun cdv A outer sh H vs Q E hr h=>?_)
 ·obtain ⟨x,q,n,rs,rfl,_⟩:=h
  rfl
 ·obtain ⟨x,q,n,rs,rfl,⟨⟨dx,hx⟩,⟨xs,hq,hxs⟩,hT⟩,k⟩:=h
  refine ⟨_,(pss_one (ps_ret (pe_callTy call_list_of rfl TT.z_list WB.bt_list (pa_cons (pe_fld (pv 0) rfl) pa_nil)))),?_⟩
  refine ⟨_,rfl,x,t.C_Tree,dx,_,_,rfl,hx,TT.cl_Tree,TT.n_Tree_road_list,flds_roads _ _,q,_,rfl,.inl (SqL.of hq),fun p hp=>?_⟩
  exact k p _ hp (same_new hp) ⟨xs,upd_same,hxs.keep (same_new hp)⟩
theorem okx_need_village (TT:Txt K mg t):FnOk P w K mg base (CXE P w base) 3 t.f_need_village t.d_need_village ["tree", "village"] (spx_need t.C_Tree t.C_NoVillage 1):=by
 refine TT.F_need_village.okE sc_need_village (fun vs H Q E h=>?_) (fun cdv A outer sh H vs Q E hr h=>?_)
 ·obtain ⟨x,q,n,rs,v,rfl,_⟩:=h
  rfl
 ·obtain ⟨x,q,n,rs,v,rfl,⟨⟨dx,hx⟩,hR,hT⟩,hv,k,kx⟩:=h
  refine ⟨_,(pss_one (ps_if (pt_not (pt_val (pe_call (ok_is_whole TT) (hr.mono (by decide)) rfl TT.m_is_whole TT.F_is_whole.kp TT.b_is_whole .nil pass0 (pa_cons (pv 1) (pa_consC pe_int (pa_consB (pe_op op_sub (pe_fld (pv 0) rfl) pe_int) pa_nil)))))) (pss_one (ps_raise raiseE rfl rfl TT.m_NoVillage TT.R_NoVillage PySem.F.excBase_ValueError (by decide +kernel) PySem.F.excBase_ValueError (pa_consC pe_str pa_nil))) pss_nil)),?_⟩
  refine ⟨_,rfl,_,rfl,x,t.C_Tree,dx,_,_,rfl,hx,TT.cl_Tree,TT.n_Tree_size,flds_size _ _,_,_,rfl,rfl,_,_,_,rfl,hv,_,rfl,?_⟩
  cases e:wholeV v 0 (n - 1) with
  | true=>exact iteF (k e)
  | false=>exact iteT ⟨by show 1≤sizeLine; decide,kx e⟩
theorem okx_need_road (TT:Txt K mg t):FnOk P w K mg base (CXE P w base) 3 t.f_need_road t.d_need_road ["tree", "at"] (spx_need t.C_Tree t.C_NoRoad 2):=by
 refine TT.F_need_road.okE sc_need_road (fun vs H Q E h=>?_) (fun cdv A outer sh H vs Q E hr h=>?_)
 ·obtain ⟨x,q,n,rs,v,rfl,_⟩:=h
  rfl
 ·obtain ⟨x,q,n,rs,v,rfl,⟨⟨dx,hx⟩,hR,hT⟩,hv,k,kx⟩:=h
  refine ⟨_,(pss_one (ps_if (pt_not (pt_val (pe_call (ok_is_whole TT) (hr.mono (by decide)) rfl TT.m_is_whole TT.F_is_whole.kp TT.b_is_whole .nil pass0 (pa_cons (pv 1) (pa_consC pe_int (pa_consB (pe_op op_sub (pe_fld (pv 0) rfl) pe_int) pa_nil)))))) (pss_one (ps_raise raiseE rfl rfl TT.m_NoRoad TT.R_NoRoad PySem.F.excBase_ValueError (by decide +kernel) PySem.F.excBase_ValueError (pa_consC pe_str pa_nil))) pss_nil)),?_⟩
  refine ⟨_,rfl,_,rfl,x,t.C_Tree,dx,_,_,rfl,hx,TT.cl_Tree,TT.n_Tree_size,flds_size _ _,_,_,rfl,rfl,_,_,_,rfl,hv,_,rfl,?_⟩
  cases e:wholeV v 0 (n - 2) with
  | true=>exact iteF (k e)
  | false=>exact iteT ⟨by show 1≤sizeLine; decide,kx e⟩
end
end WR
namespace WR
open PySem L2
def rowM (n:Nat) (rs:List Road) (s:Int):List Int:=(List.range n).map fun (x:Nat)=>far n rs s x
def sp_distances_from (C:Addr):Sp:=fun vs H Q _=>∃ (x q:Addr) (n:Int) (rs:List Road) (v:Int),vs=[.ref x,.int v]∧TreeAt C H x q n rs∧InV n.toNat v ∧
 ∀ p H',H p=none→Same H H'→H' p=some (.lst ((rowM n.toNat rs v).map V.int))→Q (.ref p) H'
def RowsNew (H H':Hp) (p:Addr) (rows:List (List Int)):Prop:=∃ ps:List Addr,H' p=some (.lst (ps.map V.ref))∧Paired (fun r row=>H r=none∧r≠p∧H' r=some (.lst (row.map V.int))) ps rows
def rowsM (n:Nat) (rs:List Road):List (List Int):=(List.range n).map fun (s:Nat)=>rowM n rs s
def sp_distances (C:Addr):Sp:=fun vs H Q _=>∃ (x q:Addr) (n:Int) (rs:List Road),vs=[.ref x]∧TreeAt C H x q n rs∧∀ p H',H p=none→Same H H'→RowsNew H H' p (rowsM n.toNat rs)→Q (.ref p) H'
theorem flds_noroads (n:Int) (q:Addr):(flds n q).lookup ("roads" : Str)=none:=flds_no n q (by decide +kernel) (by decide +kernel)
end WR
namespace WR
open PySem L2
def spx_two (C B:Addr):Sp:=fun vs H _ E=>∃ (x q:Addr) (n:Int) (rs:List Road) (u v:V),vs=[.ref x,u,v]∧TreeAt C H x q n rs∧KindV H u∧KindV H v∧(wholeV u 0 (n - 1)=true→wholeV v 0 (n - 1)=false)∧E (.ref B) none H
def spx_sides (C B:Addr):Sp:=fun vs H _ E=>∃ (x q:Addr) (n:Int) (rs:List Road) (v:V),vs=[.ref x,v]∧TreeAt C H x q n rs∧KindV H v∧wholeV v 0 (n - 2)=false∧E (.ref B) none H
def spx_moved (t:Adr):Sp:=fun vs H _ E=>∃ (x q:Addr) (n:Int) (rs:List Road) (a u v:V),vs=[.ref x,a,u,v]∧TreeAt t.C_Tree H x q n rs∧KindV H a∧KindV H u∧KindV H v∧(wholeV a 0 (n - 2)=false∧E (.ref t.C_NoRoad) none H∨wholeV a 0 (n - 2)=true∧(wholeV u 0 (n - 1)=true→wholeV v 0 (n - 1)=false)∧E (.ref t.C_NoVillage) none H)
theorem tf {b:Bool} {p:Prop} (h:b=true) (g:b=false):p:=by rw [h] at g; cases g
section
variable {P:Program} {w:World} {K:PySem.W.Frag} {mg:Str→Option Value} {base:Heap} {t:Adr}
theorem okx_far (TT:Txt K mg t):FnOk P w K mg base (CXE P w base) 4 t.f_far t.d_far ["tree", "one", "other"] (spx_two t.C_Tree t.C_NoVillage):=by
 refine TT.F_far.okE sc_far (fun vs H Q E h=>?_) (fun cdv A outer sh H vs Q E hr h=>?_)
 ·obtain ⟨x,q,n,rs,u,v,rfl,_⟩:=h
  rfl
 ·obtain ⟨x,q,n,rs,u,v,rfl,T,ku,kv,e,k⟩:=h
  refine ⟨_,(pss_cons (ps_expr (pe_call (okx_need_village TT) (hr.mono (by decide)) rfl TT.m_need_village TT.F_need_village.kp TT.b_need_village .nil passE (pa_cons (pv 0) (pa_cons (pv 1) pa_nil)))) (pss_cons (ps_expr (pe_call (okx_need_village TT) (hr.mono (by decide)) rfl TT.m_need_village TT.F_need_village.kp TT.b_need_village .nil passE (pa_cons (pv 0) (pa_cons (pv 2) pa_nil)))) pss_never)),?_⟩
  exact ⟨_,rfl,_,rfl,x,q,n,rs,u,rfl,T,ku,fun e1=>⟨_,rfl,_,rfl,x,q,n,rs,v,rfl,T,kv,fun e2=>tf e2 (e e1),fun _=>k⟩,fun _=>k⟩
theorem okx_way (TT:Txt K mg t):FnOk P w K mg base (CXE P w base) 4 t.f_way t.d_way ["tree", "one", "other"] (spx_two t.C_Tree t.C_NoVillage):=by
 refine TT.F_way.okE sc_way (fun vs H Q E h=>?_) (fun cdv A outer sh H vs Q E hr h=>?_)
 ·obtain ⟨x,q,n,rs,u,v,rfl,_⟩:=h
  rfl
 ·obtain ⟨x,q,n,rs,u,v,rfl,T,ku,kv,e,k⟩:=h
  refine ⟨_,(pss_cons (ps_expr (pe_call (okx_need_village TT) (hr.mono (by decide)) rfl TT.m_need_village TT.F_need_village.kp TT.b_need_village .nil passE (pa_cons (pv 0) (pa_cons (pv 1) pa_nil)))) (pss_cons (ps_expr (pe_call (okx_need_village TT) (hr.mono (by decide)) rfl TT.m_need_village TT.F_need_village.kp TT.b_need_village .nil passE (pa_cons (pv 0) (pa_cons (pv 2) pa_nil)))) pss_never)),?_⟩
  exact ⟨_,rfl,_,rfl,x,q,n,rs,u,rfl,T,ku,fun e1=>⟨_,rfl,_,rfl,x,q,n,rs,v,rfl,T,kv,fun e2=>tf e2 (e e1),fun _=>k⟩,fun _=>k⟩
theorem okx_errand (TT:Txt K mg t):FnOk P w K mg base (CXE P w base) 5 t.f_errand t.d_errand ["tree", "one", "other"] (spx_two t.C_Tree t.C_NoVillage):=by
 refine TT.F_errand.okE sc_errand (fun vs H Q E h=>?_) (fun cdv A outer sh H vs Q E hr h=>?_)
 ·obtain ⟨x,q,n,rs,u,v,rfl,_⟩:=h
  rfl
 ·obtain ⟨x,q,n,rs,u,v,rfl,T,ku,kv,e,k⟩:=h
  refine ⟨_,(pss_cons (ps_set (i:=3) sc_errand.nd rfl (Or.inl rfl) (pe_call (okx_way TT) (hr.mono (by decide)) rfl TT.m_way TT.F_way.kp TT.b_way .nil passE (pa_cons (pv 0) (pa_cons (pv 1) (pa_cons (pv 2) pa_nil))))) pss_never),?_⟩
  exact ⟨_,rfl,_,rfl,_,rfl,x,q,n,rs,u,v,rfl,T,ku,kv,e,k⟩
theorem okx_sides (TT:Txt K mg t):FnOk P w K mg base (CXE P w base) 4 t.f_sides t.d_sides ["tree", "at"] (spx_sides t.C_Tree t.C_NoRoad):=by
 refine TT.F_sides.okE sc_sides (fun vs H Q E h=>?_) (fun cdv A outer sh H vs Q E hr h=>?_)
 ·obtain ⟨x,q,n,rs,v,rfl,_⟩:=h
  rfl
 ·obtain ⟨x,q,n,rs,v,rfl,T,kv,e,k⟩:=h
  refine ⟨_,(pss_cons (ps_expr (pe_call (okx_need_road TT) (hr.mono (by decide)) rfl TT.m_need_road TT.F_need_road.kp TT.b_need_road .nil passE (pa_cons (pv 0) (pa_cons (pv 1) pa_nil)))) pss_never),?_⟩
  exact ⟨_,rfl,_,rfl,x,q,n,rs,v,rfl,T,kv,fun e2=>tf e2 e,fun _=>k⟩
theorem okx_moved (TT:Txt K mg t):FnOk P w K mg base (CXE P w base) 4 t.f_moved t.d_moved ["tree", "at", "one", "other"] (spx_moved t):=by
 refine TT.F_moved.okE sc_moved (fun vs H Q E h=>?_) (fun cdv A outer sh H vs Q E hr h=>?_)
 ·obtain ⟨x,q,n,rs,a,u,v,rfl,_⟩:=h
  rfl
 ·obtain ⟨x,q,n,rs,a,u,v,rfl,T,ka,ku,kv,h⟩:=h
  refine ⟨_,(pss_cons (ps_expr (pe_call (okx_need_road TT) (hr.mono (by decide)) rfl TT.m_need_road TT.F_need_road.kp TT.b_need_road .nil passE (pa_cons (pv 0) (pa_cons (pv 1) pa_nil)))) (pss_cons (ps_expr (pe_call (okx_need_village TT) (hr.mono (by decide)) rfl TT.m_need_village TT.F_need_village.kp TT.b_need_village .nil passE (pa_cons (pv 0) (pa_cons (pv 2) pa_nil)))) (pss_cons (ps_expr (pe_call (okx_need_village TT) (hr.mono (by decide)) rfl TT.m_need_village TT.F_need_village.kp TT.b_need_village .nil passE (pa_cons (pv 0) (pa_cons (pv 3) pa_nil)))) pss_never))),?_⟩
  rcases h with ⟨e,k⟩ | ⟨e0,e,k⟩
  ·exact ⟨_,rfl,_,rfl,x,q,n,rs,a,rfl,T,ka,fun e2=>tf e2 e,fun _=>k⟩
  ·exact ⟨_,rfl,_,rfl,x,q,n,rs,a,rfl,T,ka,fun _=>⟨_,rfl,_,rfl,x,q,n,rs,u,rfl,T,ku,fun e1=>⟨_,rfl,_,rfl,x,q,n,rs,v,rfl,T,kv,fun e2=>tf e2 (e e1),fun _=>k⟩,fun _=>k⟩,fun e2=>tf e0 e2⟩
end
end WR
namespace WR
open PySem L2
theorem paired_app {α β:Type} {F:α→β→Prop}:∀ {l l':List α} {m m':List β},Paired F l m→Paired F l' m'→Paired F (l++l') (m++m')
 | _,_,_,_,.nil,h=>h
 | _,_,_,_,.cons r t,h=>.cons r (paired_app t h)
def spx_joined (t:Adr):Sp:=fun vs H _ E=>∃ (x q x2 q2:Addr) (n m:Int) (rs rs2:List Road) (v l:V),vs=[.ref x,v,.ref x2,l]∧TreeAt t.C_Tree H x q n rs∧TreeAt t.C_Tree H x2 q2 m rs2∧KindV H v∧KindV H l ∧
 (wholeV v 0 (n - 1)=false→E (.ref t.C_NoVillage) none H)∧(wholeV v 0 (n - 1)=true→(12 < n + m∨wholeV l 1 1000000=false)∧∀ H',Same H H'→E (.ref t.C_BadTree) none H')
section
variable {P:Program} {w:World} {K:PySem.W.Frag} {mg:Str→Option Value} {base:Heap} {t:Adr}
theorem okx_joined (TT:Txt K mg t):FnOk P w K mg base (CXE P w base) 7 t.f_joined t.d_joined ["tree", "at", "other", "length"] (spx_joined t):=by
 refine TT.F_joined.okE sc_joined (fun vs H Q E h=>?_) (fun cdv A outer sh H vs Q E hr h=>?_)
 ·obtain ⟨x,q,x2,q2,n,m,rs,rs2,v,l,rfl,_⟩:=h
  rfl
 ·obtain ⟨x,q,x2,q2,n,m,rs,rs2,v,l,rfl,T,T2,kv,kl,kx,k⟩:=h
  refine ⟨_,(pss_cons (ps_expr (pe_call (okx_need_village TT) (hr.mono (by decide)) rfl TT.m_need_village TT.F_need_village.kp TT.b_need_village .nil passE (pa_cons (pv 0) (pa_cons (pv 1) pa_nil)))) (pss_cons (ps_set (i:=4) sc_joined.nd rfl (Or.inr rfl) (pe_fld (pv 0) rfl)) (pss_cons (ps_setC (i:=5) sc_joined.nd rfl rfl rfl (N:=["road", "ahead"]) (fr:=[(1,4)]) (compOk (N0:=["tree", "at", "other", "length", "ahead", "behind"]) (N:=["road", "ahead"]) (fr:=[(1,4)]) (sc0:=defScope s_joined) rfl ⟨rfl,rfl⟩ (by decide +kernel)) (pi_list (pe_meth0 (pv 2) TT.cl_Tree TT.M_Tree_roads (ok_Tree_roads TT) (hr.mono (by decide)) TT.b_Tree_roads .nil pass0)) (fun _ _ _ _ _=>⟨(pg_name (i:=0) (show (["road", "ahead"]:List Str).Nodup by decide +kernel) rfl (Or.inl rfl)),pf_none,(pe_tup (pa_consB (pe_op op_add (pv 1) (pe_ix (ix_tupK (K:=K) rfl) (pv 0) pe_int (fun _ _=>rfl))) (pa_consB (pe_op op_add (pv 1) (pe_ix (ix_tupK (K:=K) rfl) (pv 0) pe_int (fun _ _=>rfl))) (pa_cons (pe_ix (ix_tupK (K:=K) rfl) (pv 0) pe_int (fun _ _=>rfl)) pa_nil))))⟩)) (pss_one (ps_ret (pe_make TT.M_Tree (okx_Tree_init TT) (hr.mono (by decide)) rfl TT.m_Tree TT.b_Tree_init .nil passE (pa_consB (pe_op op_add (pv 4) (pe_fld (pv 2) rfl)) (pa_consB (pe_op op_cat (pe_op op_cat (pe_meth0 (pv 0) TT.cl_Tree TT.M_Tree_roads (ok_Tree_roads TT) (hr.mono (by decide)) TT.b_Tree_roads .nil pass0) (pe_lst (pa_cons (pe_tup (pa_cons (pv 1) (pa_cons (pv 4) (pa_cons (pv 3) pa_nil)))) pa_nil))) (pv 5)) pa_nil)))))))),?_⟩
  refine ⟨_,rfl,_,rfl,x,q,n,rs,v,rfl,T,kv,fun e0=>?_,kx⟩
  obtain ⟨bad,k⟩:=k e0
  clear kx
  have n1:=T.ok.1
  have n2:=T.ok.2.1
  have m1:=T2.ok.1
  have m2:=T2.ok.2.1
  have hc:=T.ok.2.2.count
  have hc2:=T2.ok.2.2.count
  obtain ⟨dx,hx⟩:=T.ob
  refine ⟨_,rfl,x,t.C_Tree,dx,_,_,rfl,hx,TT.cl_Tree,TT.n_Tree_size,flds_size _ _,?_⟩
  obtain ⟨dx2,hx2⟩:=T2.ob
  refine ⟨_,rfl,x2,dx2,_,rfl,hx2,flds_noroads _ _,x2,q2,m,rs2,rfl,T2,fun r H2 hr0 s2 hz_=>?_⟩
  obtain ⟨zs,hrz,hzs⟩:=hz_
  have hlz:=hzs.length
  rw [List.length_map] at hlz
  refine ⟨r,rfl,⟨_,SqL.of hrz⟩,fun acc hacc=>comp_list (K:=K) (xs:=zs) (fun i τ ys H3=>(∃ o,τ=[o,some (.int n)])∧Reps H3 ys (((rs2.take i).map fun r=>(n + r.1,n + r.2.1,r.2.2)).map roadD)∧H3 acc=some (.lst ys)∧Same H2 H3) ⟨⟨_,rfl⟩,.nil,upd_same,same_new hacc⟩
   (fun i τ ys H3 _ ⟨_,_,h3,h4⟩=>⟨SqL.of (h4 _ _ hrz),h3⟩) ?_ ?_⟩
  ·rintro i z τ ys H3 R hi ⟨⟨o,rfl⟩,hys,h3,h4⟩ hR
   obtain ⟨⟨ra,rb,rl⟩,ad,hri,rfl,ha⟩:=RoadsAt.get hrz hzs hi
   have ha3:=h4 _ _ ha
   have hly:=hys.length
   rw [List.length_map,List.length_map,List.length_take] at hly
   refine noifN ?_
   refine ⟨_,rfl,_,rfl,ad,_,0,_,rfl,rfl,SqT.of ha3,atI_nat (j:=0) rfl,_,_,rfl,rfl,_,rfl,_,rfl,ad,_,1,_,rfl,rfl,SqT.of ha3,atI_nat (j:=1) rfl,_,_,rfl,rfl,_,rfl,ad,_,2,_,rfl,rfl,SqT.of ha3,atI_nat (j:=2) rfl,by show 3≤sizeLine; decide,fun tp htp=>?_⟩
   have hat:upd H3 tp (.tup [.int (n + ra),.int (n + rb),.int rl]) acc=some (.lst ys):=same_new htp _ _ h3
   refine ⟨hat,by rw [sizeLine_eq]; omega,hR _ _ _ ⟨⟨_,rfl⟩,?_,upd_same,same_upd (h4.trans (same_new htp)) hacc⟩⟩
   have hfz:∀ c ws,upd H3 tp (.tup [.int (n + ra),.int (n + rb),.int rl]) c=some (.tup ws)→upd (upd H3 tp (.tup [.int (n + ra),.int (n + rb),.int rl])) acc (.lst (ys++[.ref tp])) c=some (.tup ws):=fun c ws e=>by
    rw [upd_ne (ne_of e hat (by intro z; cases z))]; exact e
   rw [List.take_add_one,hri,List.map_append,List.map_append]
   exact Reps.append ((hys.keep (same_new htp)).froz hfz (frozs_roads _)) (.cons (roadD_mk (hfz _ _ upd_same)) .nil)
  ·rintro τ ys H3 ⟨⟨o,rfl⟩,hys,h3,h4⟩
   have hly:=hys.length
   rw [List.length_map,List.length_map,List.length_take] at hly
   have s03:Same H H3:=s2.trans h4
   have T3:=T.keep s03
   have hx3:=s03 _ _ hx
   have hx23:=s03 _ _ hx2
   refine ⟨_,rfl,_,rfl,x2,t.C_Tree,dx2,flds m q2,_,rfl,hx23,TT.cl_Tree,TT.n_Tree_size,flds_size _ _,_,_,rfl,rfl,?_⟩
   refine ⟨_,rfl,x,dx,_,rfl,hx3,flds_noroads _ _,x,q,n,rs,rfl,T3,fun p H4 hp s4 hz_=>?_⟩
   obtain ⟨xs,hpx,hxs⟩:=hz_
   have hlx:=hxs.length
   rw [List.length_map] at hlx
   refine ⟨_,rfl,_,rfl,_,rfl,by show 3≤sizeLine; decide,fun tp htp=>⟨by show 1≤sizeLine; decide,fun lp hlp=>?_⟩⟩
   have s5:Same H4 (upd H4 tp (.tup [v,.int n,l])):=same_new htp
   have ht5:upd H4 tp (.tup [v,.int n,l]) tp=some (.tup [v,.int n,l]):=upd_same
   generalize upd H4 tp (.tup [v,.int n,l])=H5 at s5 ht5 hlp
   have s6:Same H5 (upd H5 lp (.lst [.ref tp])):=same_new hlp
   refine ⟨p,lp,xs,_,rfl,rfl,s6 _ _ (s5 _ _ hpx),upd_same,by rw [sizeLine_eq]; simp only [List.length_cons,List.length_nil]; omega,fun c hc=>?_⟩
   have s7:Same H5 (upd (upd H5 lp (.lst [.ref tp])) c (.lst (xs++[.ref tp]))):=s6.trans (same_new hc)
   refine ⟨_,rfl,c,acc,_,_,rfl,rfl,upd_same,s7 _ _ (s5 _ _ (s4 _ _ h3)),by rw [sizeLine_eq,List.length_append]; simp only [List.length_cons,List.length_nil]; omega,fun c2 hc2=>?_⟩
   have s8:Same H5 (upd (upd (upd H5 lp (.lst [.ref tp])) c (.lst (xs++[.ref tp]))) c2 (.lst (xs++[.ref tp]++ys))):=s7.trans (same_new hc2)
   have hc8:upd (upd (upd H5 lp (.lst [.ref tp])) c (.lst (xs++[.ref tp]))) c2 (.lst (xs++[.ref tp]++ys)) c2=some (.lst (xs++[.ref tp]++ys)):=upd_same
   refine fun y dy hy hdy hne=>?_
   generalize upd (upd (upd H5 lp (.lst [.ref tp])) c (.lst (xs++[.ref tp]))) c2 (.lst (xs++[.ref tp]++ys))=H8 at s8 hc8 hy hdy
   have s9:Same H8 (upd (upd H8 dy (.own y)) y (.ins t.C_Tree dy [])):=(same_new hdy).trans (same_new (by rw [upd_ne hne.symm]; exact hy))
   have s59:=s8.trans s9
   have s09:=s03.trans (s4.trans (s5.trans s59))
   refine .inr ⟨y,dy,.int (n + m),.ref c2,rfl,upd_same,?_,fun H10 s10=>k H10 (s09.trans s10)⟩
   by_cases big:12 < n + m
   ·refine .nov (.int _) ?_
    show (decide (1≤n + m)&&decide (n + m≤12))=false
    simp
    omega
   have lb:wholeV l 1 1000000=false:=bad.resolve_left big
   refine .bad (bs:=rs.map (roadB (n + m))++[triB (n + m) v (.int n) l]++(((rs2.take zs.length).map fun r=>(n + r.1,n + r.2.1,r.2.2)).map (roadB (n + m)))) (s9 _ _ hc8) ?_ (by rw [List.length_append,List.length_append]; simp only [List.length_cons,List.length_nil]; omega) (.inr ?_)
   ·exact paired_app (paired_app (RoadsAt.roadV (hxs.keep (s5.trans s59))) (.cons (.tri (s59 _ _ ht5) (kv.keep s09) (.int _) (kl.keep s09)) .nil)) (RoadsAt.roadV (hys.keep (s4.trans (s5.trans s59))))
   ·have z:triB (n + m) v (.int n) l=false:=by unfold triB; rw [lb,Bool.and_false]
    rw [z]
    simp
end
end WR
namespace WR
open PySem L2
def pairsK (L:List (Int×Int)):List (Key×V):=(L.map fun p=>(p.1,V.int p.2)).map fun kv=>(Sum.inl kv.1,kv.2)
theorem pairsK_none {y:Int}:∀ {L:List (Int×Int)},(∀ l,(y,l) ∉ L)→valV (pairsK L) (Sum.inl y:Key)=none
 | [],_=>rfl
 | p::L,h=>by
  show valV ((Sum.inl p.1,V.int p.2)::pairsK L) (Sum.inl y:Key)=none
  rw [valV_neg]
  ·exact pairsK_none fun l z=>h l (List.mem_cons_of_mem _ z)
  ·intro z
   have z:p.1=y:=Sum.inl.inj z
   exact h p.2 (by rw [← z]; exact List.mem_cons_self ..)
theorem pairs_at {H:Hp}:∀ {L:List (Int×Int)} {xs:List V},Reps H xs (L.map pairD)→Paired (fun y (kv:Int×V)=>∃ a,y=.ref a∧H a=some (.tup [.int kv.1,kv.2])) xs (L.map fun p=>(p.1,V.int p.2))
 | [],xs,h=>by
  have:xs=[]:=List.length_eq_zero_iff.mp (by have:=h.length; simpa using this)
  subst this
  exact .nil
 | p::L,xs,h=>by
  rw [List.map_cons] at h
  unfold Reps at h
  obtain ⟨x,r,rfl,h1,h2⟩:=h
  obtain ⟨a,e,ha⟩:=pairD_at h1
  exact .cons ⟨a,e,ha⟩ (pairs_at h2)
theorem cut_from1 {xs:List V}:cutV xs (some 1) none=xs.drop 1:=by
 unfold cutV
 rw [show (1:Int)=((1:Nat):Int) from rfl,HT.sIx_nat]
 show List.take (xs.length - min 1 xs.length) (List.drop (min 1 xs.length) xs)=xs.drop 1
 cases xs with
 | nil=>rfl
 | cons x xs =>
  have:min 1 (x::xs).length=1:=by simp only [List.length_cons]; omega
  rw [this]
  exact List.take_of_length_le (by simp)
def spx_long (C B:Addr):Sp:=fun vs H Q E=>∃ (x q u:Addr) (n:Int) (rs:List Road) (xs:List V),vs=[.ref x,.ref u]∧TreeAt C H x q n rs∧H u=some (.lst xs)∧(∀ y∈xs,KindV H y) ∧
 ((∃ y∈xs,wholeV y 0 (n - 1)=false)→E (.ref B) none H) ∧
 ((∀ y∈xs,wholeV y 0 (n - 1)=true)→∃ a b,xs=[.int a,.int b]∧(∀ l,(b,l) ∉ stepsM rs a)∧∀ H',Same H H'→Q .non H')
section
variable {P:Program} {w:World} {K:PySem.W.Frag} {mg:Str→Option Value} {base:Heap} {t:Adr}
theorem okx_long (TT:Txt K mg t):FnOk P w K mg base (CXE P w base) 4 t.f_long t.d_long ["tree", "walk"] (spx_long t.C_Tree t.C_NoVillage):=by
 refine TT.F_long.okE sc_long (fun vs H Q E h=>?_) (fun cdv A outer sh H vs Q E hr h=>?_)
 ·obtain ⟨x,q,u,n,rs,xs,rfl,_⟩:=h
  rfl
 ·obtain ⟨x,q,u,n,rs,xs,rfl,T,hu0,hk,kx,k⟩:=h
  have hu:=hu_of hr
  refine ⟨_,(pss_cons (ps_for PassesOwn.leaving rfl (pi_list (pv 1)) (pg_name (i:=2) sc_long.nd rfl (Or.inl rfl)) (pss_one (ps_expr (pe_call (okx_need_village TT) (hr.mono (by decide)) rfl TT.m_need_village TT.F_need_village.kp TT.b_need_village .nil passE (pa_cons (pv 0) (pa_cons (pv 2) pa_nil)))))) (pss_cons (ps_set (i:=3) sc_long.nd rfl (Or.inl rfl) (pe_meth0 (pv 0) TT.cl_Tree TT.M_Tree_roads (ok_Tree_roads TT) (hr.mono (by decide)) TT.b_Tree_roads .nil pass0)) (pss_cons (ps_set (i:=4) sc_long.nd rfl (Or.inl rfl) pe_int) (pss_cons (ps_for PassesOwn.leaving rfl (pi_zip rfl TT.z_zip (pa_cons (pv 1) (pa_cons (pe_slice sl_list (pv 1) (po_some pe_int) po_none) pa_nil))) (pg_tup rfl (pgs_cons (pg_name (i:=5) sc_long.nd rfl (Or.inl rfl)) (pgs_cons (pg_name (i:=6) sc_long.nd rfl (Or.inl rfl)) pgs_nil))) (pss_cons (ps_set (i:=7) sc_long.nd rfl (Or.inl rfl) (pe_dget1 hu (pe_callTy (call_dictP rfl) rfl TT.z_dict WB.bt_dict (pa_cons (pe_call (ok_steps TT) (hr.mono (by decide)) rfl TT.m_steps TT.F_steps.kp TT.b_steps .nil pass0 (pa_cons (pv 3) (pa_cons (pv 5) pa_nil))) pa_nil)) (pv 6) ⟨rfl,rfl,rfl,rfl⟩)) (pss_cons (ps_if (pt_cmp (pc_isN (pv 7))) (pss_one (ps_ret pe_non)) pss_nil) (pss_one (ps_aug (i:=4) sc_long.nd rfl (Or.inl rfl) (pv 7) ip_add))))) (pss_one (ps_ret (pv 4))))))),?_⟩
  have W:=T.ok.2.2
  refine ⟨_,rfl,u,rfl,⟨_,SqL.of hu0⟩,for_list (K:=K) (a:=u) (xs:=xs) (fun j σ H2=>(∃ v2,σ=[some (.ref x),some (.ref u),v2,none,none,none,none,none])∧H2=H∧∀ i y,i < j→xs[i]?=some y→wholeV y 0 (n - 1)=true) ⟨⟨none,rfl⟩,rfl,fun i y h=>absurd h (Nat.not_lt_zero _)⟩ (fun j σ H2 _ ⟨_,e,_⟩=>by rw [e]; exact SqL.of hu0) ?_ ?_⟩
  ·rintro j z σ H2 hj ⟨⟨v2,rfl⟩,rfl,wh⟩
   have hz:=List.mem_of_getElem? hj
   refine ⟨_,rfl,_,rfl,x,q,n,rs,z,rfl,T,hk z hz,fun e=>⟨⟨_,rfl⟩,rfl,fun i y h e2=>?_⟩,fun e=>kx ⟨z,hz,e⟩⟩
   by_cases ij:i=j
   ·subst ij; rw [hj] at e2; cases e2; exact e
   ·exact wh i y (by omega) e2
  rintro σ H2 ⟨⟨v2,rfl⟩,rfl,wh⟩
  have wh:∀ y∈xs,wholeV y 0 (n - 1)=true:=fun y hy=>by
   obtain ⟨i,hi⟩:=List.mem_iff_getElem?.mp hy
   exact wh i y (List.getElem?_eq_some_iff.mp hi).1 hi
  obtain ⟨a,b,rfl,no,k⟩:=k wh
  have ia:InV n.toNat a:=by
   have:=wholeV_iff.mp (wh _ (List.mem_cons_self ..))
   exact ⟨this.1,by omega⟩
  clear wh kx
  obtain ⟨dx,hx⟩:=T.ob
  refine ⟨_,rfl,x,dx,_,rfl,hx,flds_noroads _ _,x,q,n,rs,rfl,T,fun p H3 hp s3 hR=>?_⟩
  have hu3:=s3 _ _ hu0
  refine ⟨_,rfl,_,rfl,1,rfl,u,_,rfl,SqL.of hu3,fun c hc=>?_⟩
  rw [cut_from1]
  have s4:Same H3 (upd H3 c (.lst (List.drop 1 [V.int a,V.int b]))):=same_new hc
  have hc4:upd H3 c (.lst (List.drop 1 [V.int a,V.int b])) c=some (.lst [.int b]):=upd_same
  generalize upd H3 c (.lst (List.drop 1 [V.int a,V.int b]))=H4 at s4 hc4
  have hR4:=hR.keep s4
  refine ⟨u,c,_,_,rfl,SqL.of (s4 _ _ hu3),SqL.of hc4,for_zip (K:=K) (a:=u) (b:=c) (xs:=[V.int a,V.int b]) (zs:=[V.int b]) (by simp) (fun i σ H5=>i=0∧(∃ v5 v6 v7,σ=[some (.ref x),some (.ref u),v2,some (.ref p),some (.int 0),v5,v6,v7])∧H5=H4)
   ⟨rfl,⟨none,none,none,rfl⟩,rfl⟩ (fun i σ H5 _ ⟨_,_,e⟩=>by rw [e]; exact ⟨SqL.of (s4 _ _ hu3),SqL.of hc4⟩) ?_ ?_⟩
  ·rintro i y1 y2 pa σ H5 hi1 hi2 hpa ⟨rfl,⟨v5,v6,v7,rfl⟩,rfl⟩
   cases hi1
   cases hi2
   refine ⟨pa,_,rfl,SqT.of upd_same,rfl,_,_,rfl,_,_,rfl,rfl,?_⟩
   have s6:Same H5 (upd H5 pa (.tup [.int a,.int b])):=same_new hpa
   generalize upd H5 pa (.tup [.int a,.int b])=H6 at s6
   refine ⟨_,rfl,_,rfl,p,rs,a,rfl,hR4.keep s6,T.ok.len,fun d H7 hd s7 hP=>?_⟩
   obtain ⟨zs,hdx,hxs⟩:=hP
   have sl:=stepsM_length rs a
   have tl:=T.ok.len
   refine ⟨d,zs,(stepsM rs a).map fun p=>(p.1,V.int p.2),rfl,SqL.of hdx,hdx,pairs_at hxs,by rw [List.map_map]; exact W.steps_nodup ia,by rw [List.length_map]; have:=W.count; have:=T.ok.2.1; omega,fun dd hdd=>?_⟩
   have s8:Same H5 (upd H7 dd (.dK (pairsK (stepsM rs a)))):=(s6.trans s7).trans (same_new hdd)
   refine ⟨dd,rfl,.inl ⟨_,.inl upd_same⟩,_,rfl,valV (pairsK (stepsM rs a)) (Sum.inl b:Key),.inl ⟨_,Sum.inl b,.inl upd_same,rfl,rfl⟩,?_⟩
   rw [pairsK_none no]
   exact ⟨_,rfl,_,rfl,iteT (k _ (s3.trans (s4.trans s8)))⟩
  ·rintro σ H5 ⟨z,_⟩
   cases z
end
end WR
namespace WR
open PySem L2
theorem rowM_take {n:Nat} {rs:List Road} {s:Int} {i:Nat} (h:i < n):(rowM n rs s).take (i + 1)=(rowM n rs s).take i++[far n rs s i]:=by
 have hl:(rowM n rs s)[i]?=some (far n rs s i):=by
  unfold rowM
  rw [List.getElem?_map,List.getElem?_range h]
  rfl
 rw [List.take_add_one,hl]
 rfl
theorem rowM_length (n:Nat) (rs:List Road) (s:Int):(rowM n rs s).length=n:=by simp [rowM]
theorem rowsM_length (n:Nat) (rs:List Road):(rowsM n rs).length=n:=by simp [rowsM]
theorem rowsM_take {n:Nat} {rs:List Road} {i:Nat} (h:i < n):(rowsM n rs).take (i + 1)=(rowsM n rs).take i++[rowM n rs i]:=by
 have hl:(rowsM n rs)[i]?=some (rowM n rs i):=by
  unfold rowsM
  rw [List.getElem?_map,List.getElem?_range h]
  rfl
 rw [List.take_add_one,hl]
 rfl
section
variable {P:Program} {w:World} {K:PySem.W.Frag} {mg:Str→Option Value} {base:Heap} {t:Adr}
theorem ok_distances_from (TT:Txt K mg t):FnOk P w K mg base CX0 3 t.f_distances_from t.d_distances_from ["tree", "village"] (sp_distances_from t.C_Tree):=by
 refine TT.F_distances_from.ok sc_distances_from (fun vs H Q E h=>?_) (fun cdv A outer sh H vs Q E hr h=>?_)
 ·obtain ⟨x,q,n,rs,v,rfl,_⟩:=h
  rfl
 ·obtain ⟨x,q,n,rs,v,rfl,T,h1,k⟩:=h
  have hu:=hu_of hr
  refine ⟨_,(pss_cons (ps_set (i:=2) sc_distances_from.nd rfl (Or.inr rfl) (pe_call (ok_reached TT) (hr.mono (by decide)) rfl TT.m_reached TT.F_reached.kp TT.b_reached .nil pass0 (pa_cons (pe_meth0 (pv 0) TT.cl_Tree TT.M_Tree_roads (ok_Tree_roads TT) (hr.mono (by decide)) TT.b_Tree_roads .nil pass0) (pa_cons (pv 1) pa_nil)))) (pss_one (ps_ret (pe_comp rfl (N:=["other", "found"]) (fr:=[(1,2)]) (compOk (N0:=["tree", "village", "found"]) (N:=["other", "found"]) (fr:=[(1,2)]) (sc0:=defScope s_distances_from) rfl ⟨rfl,rfl⟩ (by decide +kernel)) (pi_range1 rfl TT.z_range (pa_cons (pe_fld (pv 0) rfl) pa_nil)) (fun _ _ _ _ _=>⟨(pg_name (i:=0) (show (["other", "found"]:List Str).Nodup by decide +kernel) rfl (Or.inl rfl)),pf_none,(pe_ix (ix_tupK (K:=K) rfl) (pe_dget hu (pv 1) (pv 0) (fun _ _=>rfl)) pe_int (fun _ _=>rfl))⟩))))),?_⟩
  obtain ⟨dx,hx⟩:=T.ob
  refine ⟨_,rfl,x,dx,_,rfl,hx,flds_noroads _ _,x,q,n,rs,rfl,T,fun p H3 hp s3 hR=>?_⟩
  refine ⟨_,rfl,p,rs,v,rfl,hR,T.ok.len,fun q' tab H4 hq' s4 hF hT hc=>?_⟩
  obtain ⟨kvs,hk,hF⟩:=hF
  have s14:=s3.trans s4
  obtain ⟨par,idx,rk,S,hv,_,val⟩:=T.ok.2.2.table h1 hT hc
  have n1:=T.ok.1
  have n2:=T.ok.2.1
  have hx4:=s14 _ _ hx
  refine ⟨_,rfl,x,t.C_Tree,dx,_,_,rfl,hx4,TT.cl_Tree,TT.n_Tree_size,flds_size _ _,n,rfl,by omega,by omega,fun acc hacc=>comp_range (k:=n.toNat) (fun i τ ys H2=>(∃ o,τ=[o,some (.ref q')])∧ys=((rowM n.toNat rs v).take i).map V.int∧H2=upd H4 acc (.lst ys)) ⟨⟨_,rfl⟩,rfl,rfl⟩
   (fun i τ ys H2 _ ⟨_,_,h3⟩=>by rw [h3,upd_same]) ?_ ?_⟩
  ·rintro i τ ys H2 R hi ⟨⟨o,rfl⟩,rfl,rfl⟩ hR'
   have hiv:InV n.toNat (0 + (i:Int)):=⟨by omega,by omega⟩
   obtain ⟨po,d,hm⟩:=mem_keys.mp (hv _ hiv)
   obtain ⟨a,e,ha⟩:=hF.some hT.nd hm
   have hqa:q'≠acc:=ne_of_none hk hacc
   have haa:a≠acc:=ne_of_none ha hacc
   refine noifN ?_
   refine ⟨_,rfl,_,rfl,q',_,rfl,.inl ⟨kvs,Sum.inl _,.inl (by rw [upd_ne hqa]; exact hk),rfl,e.symm⟩,a,_,1,_,rfl,rfl,SqT.of (by rw [upd_ne haa]; exact ha),atI_nat (j:=1) rfl,upd_same,by rw [List.length_map,List.length_take,rowM_length,sizeLine_eq]; omega,hR' _ _ _ ⟨⟨_,rfl⟩,?_,upd_upd⟩⟩
   rw [rowM_take hi,List.map_append,(val _ _ _ hm).1]
   simp
  ·rintro τ ys H2 ⟨_,rfl,rfl⟩
   rw [List.take_of_length_le (by rw [rowM_length]; exact Nat.le_refl _)]
   exact k acc _ (s14.free hacc) (s14.trans (same_new hacc)) upd_same
theorem ok_distances (TT:Txt K mg t):FnOk P w K mg base CX0 4 t.f_distances t.d_distances ["tree"] (sp_distances t.C_Tree):=by
 refine TT.F_distances.ok sc_distances (fun vs H Q E h=>?_) (fun cdv A outer sh H vs Q E hr h=>?_)
 ·obtain ⟨x,q,n,rs,rfl,_⟩:=h
  rfl
 ·obtain ⟨x,q,n,rs,rfl,T,k⟩:=h
  have hu:=hu_of hr
  refine ⟨_,(pss_one (ps_ret (pe_comp rfl (N:=["village", "tree"]) (fr:=[(1,0)]) (compOk (N0:=["tree"]) (N:=["village", "tree"]) (fr:=[(1,0)]) (sc0:=defScope s_distances) rfl ⟨rfl,rfl⟩ (by decide +kernel)) (pi_range1 rfl TT.z_range (pa_cons (pe_fld (pv 0) rfl) pa_nil)) (fun _ _ _ _ _=>⟨(pg_name (i:=0) (show (["village", "tree"]:List Str).Nodup by decide +kernel) rfl (Or.inl rfl)),pf_none,(pe_call (ok_distances_from TT) (hr.mono (by decide)) rfl TT.m_distances_from TT.F_distances_from.kp TT.b_distances_from .nil pass0 (pa_cons (pv 1) (pa_cons (pv 0) pa_nil)))⟩)))),?_⟩
  obtain ⟨dx,hx⟩:=T.ob
  have n1:=T.ok.1
  have n2:=T.ok.2.1
  refine ⟨_,rfl,x,t.C_Tree,dx,_,_,rfl,hx,TT.cl_Tree,TT.n_Tree_size,flds_size _ _,n,rfl,by omega,by omega,fun acc hacc=>comp_range (k:=n.toNat) (fun i τ ys H2=>(∃ o,τ=[o,some (.ref x)])∧H2 acc=some (.lst ys)∧Same H H2 ∧
    ∃ ps:List Addr,ys=ps.map V.ref∧Paired (fun r row=>H r=none∧r≠acc∧H2 r=some (.lst (row.map V.int))) ps ((rowsM n.toNat rs).take i)) ⟨⟨_,rfl⟩,upd_same,same_new hacc,[],rfl,.nil⟩
   (fun i τ ys H2 _ ⟨_,h3,_⟩=>h3) ?_ ?_⟩
  ·rintro i τ ys H2 R hi ⟨⟨o,rfl⟩,h3,s2,ps,rfl,hps⟩ hR'
   have hiv:InV n.toNat (0 + (i:Int)):=⟨by omega,by omega⟩
   refine noifN ?_
   have hpl:ps.length≤n.toNat:=by
    have:=Paired.length hps
    rw [List.length_take,rowsM_length] at this
    omega
   refine ⟨_,rfl,_,rfl,x,q,n,rs,_,rfl,T.keep s2,hiv,fun r H' hr0 s' hrow=>⟨s' _ _ h3,by rw [List.length_map,sizeLine_eq]; omega,hR' _ _ _ ⟨⟨_,rfl⟩,upd_same,fun b o e=>?_,ps++[r],by rw [List.map_append]; rfl,?_⟩⟩⟩
   ·rw [upd_ne (ne_of_none e hacc)]; exact s' _ _ (s2 _ _ e)
   ·rw [rowsM_take hi]
    have hra:r≠acc:=fun z=>by subst z; rw [h3] at hr0; cases hr0
    refine Paired.snoc (Paired.mapP hps fun r' row ⟨a1,a2,a3⟩=>⟨a1,a2,by rw [upd_ne a2]; exact s' _ _ a3⟩) ⟨s2.free hr0,hra,?_⟩
    rw [upd_ne hra,hrow]
    simp
  ·rintro τ ys H2 ⟨_,h3,s2,ps,rfl,hps⟩
   rw [List.take_of_length_le (by rw [rowsM_length]; exact Nat.le_refl _)] at hps
   exact k acc H2 hacc s2 ⟨ps,h3,hps⟩
end
end WR
namespace WR
open PySem L2
def spLaw (K:PySem.W.Frag) (P1 P2:Addr):Sp:=fun vs H Q _=>∃ (a:Addr) (ns:List Int),vs=[.ref a]∧SqL K H a (ns.map V.int)∧ns.length≤63∧H P1=some (.tbl #[])∧H P2=some (.tbl #[])∧∀ H',Q (.bl true) H'
theorem paired_get {α β:Type} {F:α→β→Prop}:∀ {l:List α} {m:List β} {i:Nat} {b:β},Paired F l m→m[i]?=some b→∃ a,l[i]?=some a∧F a b
 | _,_,_,_,.nil,e=>by simp at e
 | _,_,0,_,.cons r _,e=>by simp at e; subst e; exact ⟨_,rfl,r⟩
 | _,_,i + 1,b,.cons _ t,e=>by
  obtain ⟨a,h1,h2⟩:=paired_get (i:=i) (b:=b) t (by simpa using e)
  exact ⟨a,by simpa using h1,h2⟩
theorem rowsM_get {n:Nat} {rs:List Road} {i:Nat} (h:i < n):(rowsM n rs)[i]?=some (rowM n rs i):=by
 unfold rowsM
 rw [List.getElem?_map,List.getElem?_range h]
 rfl
theorem rowM_get {n:Nat} {rs:List Road} {s:Int} {i:Nat} (h:i < n):(rowM n rs s)[i]?=some (far n rs s i):=by
 unfold rowM
 rw [List.getElem?_map,List.getElem?_range h]
 rfl
end WR
namespace WR
open PySem L2
def RowsAt (H:Hp) (r:Addr) (rows:List (List Int)):Prop:=∃ ps:List Addr,H r=some (.lst (ps.map V.ref))∧Paired (fun c row=>H c=some (.lst (row.map V.int))) ps rows
theorem RowsAt.keep {H H':Hp} {r:Addr} {rows:List (List Int)} (k:Same H H') (h:RowsAt H r rows):RowsAt H' r rows:=let ⟨ps,h1,h2⟩:=h; ⟨ps,k _ _ h1,Paired.mapP h2 fun _ _ z=>k _ _ z⟩
theorem RowsNew.at {H H':Hp} {r:Addr} {rows:List (List Int)} (h:RowsNew H H' r rows):RowsAt H' r rows:=let ⟨ps,h1,h2⟩:=h; ⟨ps,h1,Paired.mapP h2 fun _ _ z=>z.2.2⟩
theorem rows_get {H:Hp} {ps:List Addr} {rows:List (List Int)} (h:Paired (fun c row=>H c=some (.lst (row.map V.int))) ps rows) {i:Nat} {row:List Int} (hi:rows[i]?=some row):∃ c,(ps.map V.ref)[i]?=some (.ref c)∧H c=some (.lst (row.map V.int)):=by
 obtain ⟨c,h1,h2⟩:=paired_get h hi
 exact ⟨c,by rw [List.getElem?_map,h1]; rfl,h2⟩
theorem rows_at {H:Hp} {ps:List Addr} {rows:List (List Int)} (h:Paired (fun c row=>H c=some (.lst (row.map V.int))) ps rows) {i:Nat} {x:V} (hi:(ps.map V.ref)[i]?=some x):∃ c row,x=.ref c∧rows[i]?=some row∧H c=some (.lst (row.map V.int)):=by
 rw [List.getElem?_map] at hi
 cases q:ps[i]? with
 | none=>rw [q] at hi; cases hi
 | some c =>
  rw [q] at hi
  cases hi
  have hl:=Paired.length h
  have hlt:i < rows.length:=by have:=(List.getElem?_eq_some_iff.mp q).1; omega
  obtain ⟨c',h1,h2⟩:=paired_get h (List.getElem?_eq_getElem hlt)
  rw [q] at h1; cases h1
  exact ⟨c,_,rfl,List.getElem?_eq_getElem hlt,h2⟩
theorem ints_get {ns:List Int} {i:Nat} {x:V} (h:(ns.map V.int)[i]?=some x):∃ v,ns[i]?=some v∧x=.int v:=by
 rw [List.getElem?_map] at h
 cases q:ns[i]? with
 | none=>rw [q] at h; cases h
 | some v=>rw [q] at h; cases h; exact ⟨v,rfl,rfl⟩
theorem ints_at {ns:List Int} {i:Nat} {v:Int} (h:ns[i]?=some v):(ns.map V.int)[i]?=some (.int v):=by rw [List.getElem?_map,h]; rfl
theorem getD_at {ns:List Int} {i:Nat} {v:Int} (h:ns[i]?=some v):ns.getD i 0=v:=by rw [List.getD_eq_getElem?_getD,h]; rfl
theorem at_getD {ns:List Int} {i:Nat} (h:i < ns.length):ns[i]?=some (ns.getD i 0):=by rw [List.getD_eq_getElem?_getD,List.getElem?_eq_getElem h]; rfl
def placesTo (P:Nat→Bool) (i:Nat):List Int:=((List.range i).filter P).map fun (k:Nat)=>(k:Int)
theorem placesTo_succ (P:Nat→Bool) (i:Nat):placesTo P (i + 1)=placesTo P i++(if P i=true then [(i:Int)] else []):=by
 unfold placesTo
 rw [List.range_succ,List.filter_append,List.map_append]
 congr 1
 by_cases h:P i=true
 ·rw [if_pos h]; simp [h]
 ·rw [if_neg h]; simp [h]
theorem placesTo_len (P:Nat→Bool) (i:Nat):(placesTo P i).length≤i:=by
 unfold placesTo
 rw [List.length_map]
 exact Nat.le_trans (List.length_filter_le _ _) (by simp)
def dotTo (a b:Nat→Int) (i:Nat):List Int:=(List.range i).map fun k=>a k * b k
theorem dotTo_succ (a b:Nat→Int) (i:Nat):dotTo a b (i + 1)=dotTo a b i++[a i * b i]:=by
 unfold dotTo; rw [List.range_succ,List.map_append]; rfl
theorem dotTo_len (a b:Nat→Int) (i:Nat):(dotTo a b i).length=i:=by simp [dotTo]
end WR
namespace WR
open PySem L2
def intsD (ns:List Int):Dt:=.lst (ns.map fun i=>.v (.int i))
theorem reps_ints {H:Hp}:∀ ns:List Int,Reps H (ns.map V.int) (ns.map fun i=>.v (.int i))
 | []=>.nil
 | n::r=>.cons (.int n) (reps_ints r)
theorem rep_ints {H:Hp} {a:Addr} {ns:List Int} (h:H a=some (.lst (ns.map V.int))):Rep H (.ref a) (intsD ns):=by
 unfold intsD Rep
 exact ⟨a,_,rfl,h,reps_ints ns⟩
theorem dep_ints (ns:List Int):depD (intsD ns)≤8:=by
 unfold intsD depD
 have:depDs (ns.map fun i=>Dt.v (.int i))=0:=by
  induction ns with
  | nil=>rfl
  | cons n r ih=>rw [List.map_cons]; unfold depDs depD; rw [ih]; rfl
 omega
theorem map_v_inj:∀ {a b:List Int},(a.map fun i=>Dt.v (.int i))=(b.map fun i=>Dt.v (.int i))→a=b
 | [],[],_=>rfl
 | [],_::_,h=>by simp at h
 | _::_,[],h=>by simp at h
 | x::r,y::t,h=>by
  rw [List.map_cons,List.map_cons] at h
  injection h with h1 h2
  injection h1 with h1
  injection h1 with h1
  rw [h1,map_v_inj h2]
theorem eq_ints (a b:List Int):eqD (intsD a) (intsD b)=decide (a=b):=by
 by_cases h:a=b
 ·rw [h,eqD_refl]; simp
 ·rw [decide_eq_false h]
  cases e:eqD (intsD a) (intsD b) with
  | false=>rfl
  | true =>
   have:=eqD_eq e
   unfold intsD at this
   injection this with this
   exact absurd (map_v_inj this) h
end WR
namespace L2
open PySem PySem.Spec PyProof.Rows PySem.W
section
variable {X:Cx} {e:Expr} {te:TE} {p pos kpos lpos:Pos} {params:Arguments} {scope:Scope} {clos:List (Str×Addr)} {pn vn un:Str} {p1 p2 p3 q1 q2 q3:Pos} {j:Nat} {c P:Addr}
theorem pe_minLam (qual:Str) (i:Nat) (hcode:X.env.code=.ref c) (hC:CodeHd X.base c P) (hBm:Bm X.base X.mg) (hq:X.env.qual++("<lambda>" : Str)=qual) (hc:X.calm=true) (hroom:X.A.in1.depth < recursionLimit) (hg:Gl X "min") (hm:X.mg "min" = none) (hv:bootBuiltins "min" = some (.builtin "min")) (he:PE X e te)
  (hclos:closureFor scope X.env=pure clos) (S:LamS params (.Subscript (.Name vn p1) (.Name pn p2) q1) scope pn) (hfree:scope.names.lookup vn=some .free) (hN:X.N[i]?=some vn) (hk:X.env.kindOf vn=some .cell) (hcl:∀ c0,X.env.cells.lookup vn=some c0→clos.lookup vn=some c0) (hdef:defaultsOf params X.env=([],[]))
  (hst:starEach [e] X.env=(false,eval e X.env)::starEach [] X.env:=by rfl) (hdv:(vn == ("__debug__" : Str))=false:=by decide) (hcv:(vn == ("__classdict__" : Str))=false:=by decide) (hdp:(pn == ("__debug__" : Str))=false:=by decide) :
  PE X (.Call (.Name "min" p) [e] [⟨some "key",.Lambda params (.Subscript (.Name vn p1) (.Name pn p2) q1) scope lpos,kpos⟩] pos) (tMinItem X.K i te (tLam P lpos qual params (.Subscript (.Name vn p1) (.Name pn p2) q1) scope clos) qual params (.Subscript (.Name vn p1) (.Name pn p2) q1) scope clos) :=
 pe_minItem hc hroom hg hm hv he (pe_lam hcode hC hBm hq hdef hclos) S hfree hN hk hcl hst hdv hcv hdp
theorem pe_sortLam (qual:Str) (i j:Nat) (hcode:X.env.code=.ref c) (hC:CodeHd X.base c P) (hBm:Bm X.base X.mg) (hq:X.env.qual++("<lambda>" : Str)=qual) (hc:X.calm=true) (hroom:X.A.in1.in1.depth < recursionLimit) (hg:Gl X "sorted") (hm:X.mg "sorted" = none) (hv:bootBuiltins "sorted" = some (.builtin "sorted")) (he:PE X e te)
  (hclos:closureFor scope X.env=pure clos) (S:LamS params (.UnaryOp .USub (.Subscript (.Name vn p1) (.Subscript (.Name un p3) (.Name pn p2) q1) q2) q3) scope pn) (hfree:scope.names.lookup vn=some .free) (hfree2:scope.names.lookup un=some .free) (hN:X.N[i]?=some vn) (hk:X.env.kindOf vn=some .cell) (hcl:∀ c0,X.env.cells.lookup vn=some c0→clos.lookup vn=some c0)
  (hN2:X.N[j]?=some un) (hk2:X.env.kindOf un=some .cell) (hcl2:∀ c0,X.env.cells.lookup un=some c0→clos.lookup un=some c0) (hdef:defaultsOf params X.env=([],[]))
  (hst:starEach [e] X.env=(false,eval e X.env)::starEach [] X.env:=by rfl) (hdv:(vn == ("__debug__" : Str))=false:=by decide) (hcv:(vn == ("__classdict__" : Str))=false:=by decide) (hdu:(un == ("__debug__" : Str))=false:=by decide) (hcu:(un == ("__classdict__" : Str))=false:=by decide) (hdp:(pn == ("__debug__" : Str))=false:=by decide) :
  PE X (.Call (.Name "sorted" p) [e] [⟨some "key",.Lambda params (.UnaryOp .USub (.Subscript (.Name vn p1) (.Subscript (.Name un p3) (.Name pn p2) q1) q2) q3) scope lpos,kpos⟩] pos) (tSortNeg X.K i j te (tLam P lpos qual params (.UnaryOp .USub (.Subscript (.Name vn p1) (.Subscript (.Name un p3) (.Name pn p2) q1) q2) q3) scope clos) qual params (.UnaryOp .USub (.Subscript (.Name vn p1) (.Subscript (.Name un p3) (.Name pn p2) q1) q2) q3) scope clos) :=
 pe_sortNeg hc hroom hg hm hv he (pe_lam hcode hC hBm hq hdef hclos) S hfree hfree2 hN hk hcl hN2 hk2 hcl2 hst hdv hcv hdu hcu hdp
end
end L2
namespace WR
open PySem L2
def posI:Pos:=match ((defBody s_innermost_near)[1]?:Option Stmt) with
 | some (.Return (some (.Call _ _ [⟨_,.Lambda _ _ _ p,_⟩] _)) _)=>p
 | _=>⟨0,0,0,0⟩
def posF:Pos:=match ((defBody s_fewest)[4]?:Option Stmt) with
 | some (.For _ (.Call _ _ [⟨_,.Lambda _ _ _ p,_⟩] _) _ _ _)=>p
 | _=>⟨0,0,0,0⟩
def qualI:Str:=("innermost_near" : Str) ++ ".<locals>." ++ ("<lambda>" : Str)
def qualF:Str:=("fewest" : Str) ++ ".<locals>." ++ ("<lambda>" : Str)
structure Lams (t:Adr) (H:Hp):Prop where
 few:LamT H t.P_fewest posF qualF
 inn:LamT H t.P_innermost_near posI qualI
theorem lamT_keep {H H':Hp} {P:Addr} {pos:Pos} {q:Str} (L:LamT H P pos q) (k:∀ b o,H b=some o→(∀ xs,o≠.lst xs)→(∀ ps,o=.tbl ps→b=P)→H' b=some o):LamT H' P pos q:=by
 obtain ⟨ps,h1,h2,h3⟩:=L
 refine ⟨ps,k _ _ h1 (fun _ z=>by cases z) (fun _ _=>rfl),h2,?_⟩
 rcases h3 with h | ⟨c,h,hc⟩
 ·exact .inl h
 ·exact .inr ⟨c,h,k _ _ hc (fun _ z=>by cases z) fun _ z=>by cases z⟩
theorem Lams.same {t:Adr} {H H':Hp} (L:Lams t H) (s:Same H H'):Lams t H':=⟨lamT_keep L.few fun b o e _ _=>s b o e,lamT_keep L.inn fun b o e _ _=>s b o e⟩
theorem Lams.put {t:Adr} {H:Hp} {p:Addr} {o0 o:HO} (L:Lams t H) (e:H p=some o0) (n1:∀ ps,o0≠.tbl ps) (n2:∀ f,o0≠.ext f):Lams t (upd H p o):=by
 have g:∀ {P:Addr} {pos:Pos} {q:Str},LamT H P pos q→LamT (upd H p o) P pos q:=fun {P pos q} z=>by
  obtain ⟨ps,h1,h2,h3⟩:=z
  refine ⟨ps,by rw [upd_ne (fun q=>by subst q; rw [e] at h1; cases h1; exact n1 _ rfl)]; exact h1,h2,?_⟩
  rcases h3 with h | ⟨c,h,hc⟩
  ·exact .inl h
  ·exact .inr ⟨c,h,by rw [upd_ne (fun q=>by subst q; rw [e] at hc; cases hc; exact n2 _ rfl)]; exact hc⟩
 exact ⟨g L.few,g L.inn⟩
structure KL (t:Adr) (H H':Hp):Prop where
 keep:∀ b o,H b=some o→b≠t.P_fewest→b≠t.P_innermost_near→H' b=some o
 lam:Lams t H
 lam':Lams t H'
section
variable {t:Adr} {H H' H'':Hp}
theorem KL.of (L:Lams t H) (s:Same H H'):KL t H H':=⟨fun b o e _ _=>s b o e,L,L.same s⟩
theorem KL.trans (k:KL t H H') (k':KL t H' H''):KL t H H'':=⟨fun b o e h1 h2=>k'.keep b o (k.keep b o e h1 h2) h1 h2,k.lam,k'.lam'⟩
theorem KL.same (k:KL t H H') (s:Same H' H''):KL t H H'':=k.trans (.of k.lam' s)
theorem Lams.tbl1 (L:Lams t H):∃ ps,H t.P_fewest=some (.tbl ps):=let ⟨ps,h,_⟩:=L.few; ⟨ps,h⟩
theorem Lams.tbl2 (L:Lams t H):∃ ps,H t.P_innermost_near=some (.tbl ps):=let ⟨ps,h,_⟩:=L.inn; ⟨ps,h⟩
theorem KL.get (k:KL t H H') {b:Addr} {o:HO} (e:H b=some o) (h:∀ ps,o≠.tbl ps):H' b=some o:=by
 refine k.keep b o e (fun z=>?_) fun z=>?_
 ·obtain ⟨ps,q⟩:=k.lam.tbl1
  rw [z,q] at e; cases e; exact h _ rfl
 ·obtain ⟨ps,q⟩:=k.lam.tbl2
  rw [z,q] at e; cases e; exact h _ rfl
theorem KL.l (k:KL t H H') {b:Addr} {xs:List V} (e:H b=some (.lst xs)):H' b=some (.lst xs):=k.get e fun _ z=>by cases z
theorem KL.tu (k:KL t H H') {b:Addr} {xs:List V} (e:H b=some (.tup xs)):H' b=some (.tup xs):=k.get e fun _ z=>by cases z
theorem KL.i (k:KL t H H') {b C dx:Addr} {fs:List (Str×V)} (e:H b=some (.ins C dx fs)):H' b=some (.ins C dx fs):=k.get e fun _ z=>by cases z
theorem KL.free (k:KL t H H') {b:Addr} (e:H' b=none):H b=none:=by
 cases q:H b with
 | none=>rfl
 | some o =>
  by_cases h1:b=t.P_fewest
  ·obtain ⟨ps,z⟩:=k.lam'.tbl1
   rw [← h1,e] at z; cases z
  ·by_cases h2:b=t.P_innermost_near
   ·obtain ⟨ps,z⟩:=k.lam'.tbl2
    rw [← h2,e] at z; cases z
   ·rw [k.keep b o q h1 h2] at e; cases e
theorem KL.putO (k:KL t H H') {p:Addr} {o0 o:HO} (h0:H p=none) (e:H' p=some o0) (n1:∀ ps,o0≠.tbl ps) (n2:∀ f,o0≠.ext f):KL t H (upd H' p o) :=
 ⟨fun b u z h1 h2=>by rw [upd_ne (ne_of_none z h0)]; exact k.keep b u z h1 h2,k.lam,k.lam'.put e n1 n2⟩
theorem KL.put (k:KL t H H') {p:Addr} {xs:List V} {o:HO} (h0:H p=none) (e:H' p=some (.lst xs)):KL t H (upd H' p o):=k.putO h0 e (fun _ z=>by cases z) fun _ z=>by cases z
theorem KL.grewF {K:PySem.W.Frag} {mg:Str→Option Value} (TT:Txt K mg t) (L:Lams t H) (kt:KeepT t.P_fewest H H') (l:LamT H' t.P_fewest posF qualF):KL t H H' :=
 ⟨fun b o e h1 _=>kt b o e h1,L,l,lamT_keep L.inn fun b o e _ h=>kt b o e fun z=>by
  obtain ⟨ps,q⟩:=L.tbl1
  have:=h ps (by rw [z,q] at e; exact (Option.some.inj e).symm)
  exact TT.cP (z.symm.trans this)⟩
theorem KL.grewI {K:PySem.W.Frag} {mg:Str→Option Value} (TT:Txt K mg t) (L:Lams t H) (kt:KeepT t.P_innermost_near H H') (l:LamT H' t.P_innermost_near posI qualI):KL t H H' :=
 ⟨fun b o e _ h2=>kt b o e h2,L,lamT_keep L.few fun b o e _ h=>kt b o e fun z=>by
  obtain ⟨ps,q⟩:=L.tbl2
  have:=h ps (by rw [z,q] at e; exact (Option.some.inj e).symm)
  exact TT.cP (this.symm.trans z),l⟩
theorem KL.rows (k:KL t H H') {r:Addr} {rows:List (List Int)} (h:RowsAt H r rows):RowsAt H' r rows:=let ⟨ps,h1,h2⟩:=h; ⟨ps,k.l h1,Paired.mapP h2 fun _ _ z=>k.l z⟩
end
theorem TreeAt.lift {C:Addr} {H H':Hp} {x q:Addr} {n:Int} {rs:List Road} (T:TreeAt C H x q n rs) (h1:∀ b C dx fs,H b=some (.ins C dx fs)→H' b=some (.ins C dx fs)) (h2:∀ b xs,H b=some (.lst xs)→H' b=some (.lst xs)) (h3:∀ b xs,H b=some (.tup xs)→H' b=some (.tup xs)):TreeAt C H' x q n rs :=
 ⟨let ⟨dx,e⟩:=T.ob; ⟨dx,h1 _ _ _ _ e⟩,let ⟨xs,e,r⟩:=T.rd; ⟨xs,h2 _ _ e,r.froz h3 (frozs_roads rs)⟩,T.ok⟩
theorem TreeAt.keepL {t:Adr} {C:Addr} {H H':Hp} {x q:Addr} {n:Int} {rs:List Road} (T:TreeAt C H x q n rs) (k:KL t H H'):TreeAt C H' x q n rs:=T.lift (fun _ _ _ _ e=>k.i e) (fun _ _ e=>k.l e) fun _ _ e=>k.tu e
theorem rowsM_at {N:Nat} {rs:List Road} {i:Nat} {row:List Int} (h:(rowsM N rs)[i]?=some row):i < N∧row=rowM N rs i:=by
 have hi:i < N:=by have:=(List.getElem?_eq_some_iff.mp h).1; rw [rowsM_length] at this; exact this
 rw [rowsM_get hi] at h
 exact ⟨hi,(Option.some.inj h).symm⟩
theorem w_ne:¬ (("wells" : Str) = "callers"):=by decide +kernel
def wflds (p q:Addr):List (Str×V):=putF "callers" (.ref q) (putF "wells" (.ref p) [])
theorem wflds_wells (p q:Addr):(wflds p q).lookup ("wells" : Str)=some (.ref p):=by
 unfold wflds
 rw [lookup_putF,if_neg w_ne,lookup_putF,if_pos rfl]
structure WellsAt (C:Addr) (H:Hp) (x p q:Addr) (ws cs:List Int):Prop where
 ob:∃ dx,H x=some (.ins C dx (wflds p q))
 ws:H p=some (.lst (ws.map V.int))
 cs:H q=some (.lst (cs.map V.int))
def sp_Wells_init (C:Addr):Sp:=fun vs H Q _=>∃ (x dx p q:Addr) (ws cs:List Int),vs=[.ref x,.ref p,.ref q]∧H x=some (.ins C dx [])∧H p=some (.lst (ws.map V.int))∧H q=some (.lst (cs.map V.int)) ∧
 ∀ p' q' H',H p'=none→H q'=none→p'≠q'→WellsAt C H' x p' q' ws cs→(∀ b o,H b=some o→b≠x→H' b=some o)→Q .non H'
def nearM (row ws:List Int) (w:Int):Nat:=(ws.filter fun x=>decide (row.getD x.toNat 0≤w)).length
theorem nearM_zero {row ws:List Int} {w:Int}:nearM row ws w=0↔∀ x∈ws,¬ row.getD x.toNat 0≤w:=by
 unfold nearM
 constructor
 ·intro z x hx c
  have:=List.filter_eq_nil_iff.mp (List.eq_nil_of_length_eq_zero z) x hx
  exact this (by simpa using c)
 ·intro z
  rw [List.filter_eq_nil_iff.mpr fun x hx=>by simpa using z x hx]
  rfl
def sp_how_many:Sp:=fun vs H Q _=>∃ (a b:Addr) (row ws:List Int) (w:Int),vs=[.ref a,.ref b,.int w]∧H a=some (.lst (row.map V.int))∧H b=some (.lst (ws.map V.int))∧(∀ x∈ws,0≤x∧x < row.length)∧ws.length≤1000∧row.length≤1000 ∧
 ∀ H',Same H H'→Q (.int (nearM row ws w:Nat)) H'
def sp_innermost (t:Adr):Sp:=fun vs H Q _=>∃ (a b:Addr) (row ins:List Int) (w:Int),vs=[.ref a,.ref b,.int w]∧H a=some (.lst (row.map V.int))∧H b=some (.lst (ins.map V.int))∧row.length=ins.length∧row.length≤1000∧(∃ (i:Nat) (v:Int),row[i]?=some v∧v≤w)∧Lams t H ∧
 ∀ (j:Nat) (v:Int) H',KL t H H'→row[j]?=some v→v≤w→(∀ (k:Nat) (u:Int),row[k]?=some u→u≤w→ins.getD j 0≤ins.getD k 0)→Q (.int j) H'
theorem mem_placesTo {P:Nat→Bool} {i:Nat} {x:Int}:x∈placesTo P i↔∃ k:Nat,k < i∧P k=true∧x=k:=by
 unfold placesTo
 simp only [List.mem_map,List.mem_filter,List.mem_range]
 refine ⟨fun hz_=>?_,fun ⟨k,a,b,c⟩=>⟨k,⟨a,b⟩,c.symm⟩⟩
 obtain ⟨k,⟨a,b⟩,c⟩:=hz_
 exact ⟨k,a,b,c.symm⟩
theorem filt_take {α:Type} {P:α→Bool} {l:List α} {i:Nat} {a:α} (h:l[i]?=some a):(l.take (i + 1)).filter P=(l.take i).filter P++if P a=true then [a] else []:=by
 rw [List.take_add_one,h,List.filter_append]
 congr 1
 by_cases p:P a=true
 ·rw [if_pos p]; simp [p]
 ·rw [if_neg p]; simp [p]
section
variable {P:Program} {w:World} {K:PySem.W.Frag} {mg:Str→Option Value} {base:Heap} {t:Adr}
theorem ok_Wells_init (TT:Txt K mg t):FnOk P w K mg base CX0 1 t.f_Wells_init t.d_Wells_init ["self", "wells", "callers"] (sp_Wells_init t.C_Wells):=by
 refine TT.F_Wells_init.ok sc_Wells_init (fun vs H Q E h=>?_) (fun cdv A outer sh H vs Q E hr h=>?_)
 ·obtain ⟨x,dx,p,q,ws,cs,rfl,_⟩:=h
  rfl
 ·obtain ⟨x,dx,p,q,ws,cs,rfl,hx,hp,hq,k⟩:=h
  refine ⟨_,(pss_cons (ps_fld (pv 0) (pe_callTy call_list_of rfl TT.z_list WB.bt_list (pa_cons (pv 1) pa_nil)) rfl) (pss_one (ps_fld (pv 0) (pe_callTy call_list_of rfl TT.z_list WB.bt_list (pa_cons (pv 2) pa_nil)) rfl))),?_⟩
  refine ⟨_,rfl,p,_,rfl,.inl (SqL.of hp),fun p' hp'=>?_⟩
  refine ⟨_,rfl,x,t.C_Wells,dx,_,rfl,(by rw [upd_ne (ne_of_none hx hp')]; exact hx),TT.cl_Wells,TT.n_Wells_wells,by show 0 < 1000; decide,?_⟩
  have qx:q≠x:=ne_of hq hx (by intro z; cases z)
  have qp:q≠p':=ne_of_none hq hp'
  have px:p'≠x:=(ne_of_none hx hp').symm
  refine ⟨_,rfl,q,_,rfl,.inl (SqL.of (by rw [upd_ne qx,upd_ne qp]; exact hq)),fun q' hq'=>?_⟩
  have q1:q'≠x:=fun z=>by subst z; rw [upd_same] at hq'; cases hq'
  have q2:q'≠p':=fun z=>by subst z; rw [upd_ne px,upd_same] at hq'; cases hq'
  have q3:H q'=none:=by rw [upd_ne q1,upd_ne q2] at hq'; exact hq'
  refine ⟨_,rfl,x,t.C_Wells,dx,_,rfl,by rw [upd_ne q1.symm,upd_same],TT.cl_Wells,TT.n_Wells_callers,by show 1 < 1000; decide,?_⟩
  refine k p' q' _ hp' q3 q2.symm ⟨⟨dx,upd_same⟩,?_,?_⟩ fun b o e hb=>?_
  ·rw [upd_ne px,upd_ne q2.symm,upd_ne px,upd_same]
  ·rw [upd_ne q1,upd_same]
  ·rw [upd_ne hb,upd_ne (ne_of_none e q3),upd_ne hb,upd_ne (ne_of_none e hp')]; exact e
theorem ok_how_many_near (TT:Txt K mg t):FnOk P w K mg base CX0 1 t.f_how_many_near t.d_how_many_near ["row", "villages", "walk"] sp_how_many:=by
 refine TT.F_how_many_near.ok sc_how_many_near (fun vs H Q E h=>?_) (fun cdv A outer sh H vs Q E hr h=>?_)
 ·obtain ⟨a,b,row,ws,wk,rfl,_⟩:=h
  rfl
 ·obtain ⟨a,b,row,ws,wk,rfl,ha,hb,hin,hl,hl2,k⟩:=h
  refine ⟨_,(pss_one (ps_ret (pe_callB call_len_seq rfl TT.z_len WB.bt_len (pa_cons (pe_comp rfl (N:=["village", "row", "walk"]) (fr:=[(1,0),(2,2)]) (compOk (N0:=["row", "villages", "walk"]) (N:=["village", "row", "walk"]) (fr:=[(1,0),(2,2)]) (sc0:=defScope s_how_many_near) rfl ⟨rfl,rfl⟩ (by decide +kernel)) (pi_list (pv 1)) (fun _ _ _ _ _=>⟨(pg_name (i:=0) (show (["village", "row", "walk"]:List Str).Nodup by decide +kernel) rfl (Or.inl rfl)),(pf_one (pt_cmpR op_le (pe_ix (ix_listK (K:=K) rfl) (pv 1) (pv 0) (fun _ _=>rfl)) (pv 2) (nomark _))),(pv 0)⟩)) pa_nil)))),?_⟩
  refine ⟨_,rfl,b,rfl,⟨_,SqL.of hb⟩,fun acc hacc=>comp_list (K:=K) (xs:=ws.map V.int) (fun i τ ys H2=>(∃ o,τ=[o,some (.ref a),some (.int wk)])∧ys=((ws.take i).filter fun x=>decide (row.getD x.toNat 0≤wk)).map V.int∧H2 acc=some (.lst ys)∧Same H H2) ⟨⟨_,rfl⟩,rfl,upd_same,same_new hacc⟩
   (fun i τ ys H2 _ ⟨_,_,h3,h4⟩=>⟨SqL.of (h4 _ _ hb),h3⟩) ?_ ?_⟩
  ·rintro i v τ ys H2 R hi ⟨⟨o,rfl⟩,rfl,h3,h4⟩ hR
   obtain ⟨m,hm,rfl⟩:=ints_get hi
   obtain ⟨m1,m2⟩:=hin m (List.mem_of_getElem? hm)
   have ml:=List.length_filter_le (fun x=>decide (row.getD x.toNat 0≤wk)) (ws.take i)
   rw [List.length_take] at ml
   refine ⟨_,rfl,_,rfl,a,_,_,.int (row.getD m.toNat 0),rfl,rfl,SqL.of (h4 _ _ ha),atI_int (j:=m.toNat) (by omega) (ints_at (at_getD (by omega))),_,rfl,_,_,rfl,rfl,_,rfl,?_⟩
   by_cases c:row.getD m.toNat 0≤wk
   ·refine ite_t (by simpa using c) ?_
    refine ⟨_,rfl,h3,by rw [List.length_map,sizeLine_eq]; omega,hR _ _ _ ⟨⟨_,rfl⟩,?_,upd_same,same_upd h4 hacc⟩⟩
    rw [filt_take hm,if_pos (by simpa using c),List.map_append]
    rfl
   ·refine ite_f (by simpa using c) ?_
    refine hR _ _ _ ⟨⟨_,rfl⟩,?_,h3,h4⟩
    rw [filt_take hm,if_neg (by simpa using c),List.append_nil]
  ·rintro τ ys H2 ⟨⟨o,rfl⟩,rfl,h3,h4⟩
   rw [List.length_map,List.take_length] at h3
   refine ⟨acc,_,rfl,.inl (SqL.of h3),?_⟩
   rw [List.length_map]
   exact k H2 h4
theorem ok_innermost_near (TT:Txt K mg t) (LB:LamB base mg t):FnOk P w K mg base CX0 2 t.f_innermost_near t.d_innermost_near ["row", "inwards", "walk"] (sp_innermost t):=by
 refine TT.F_innermost_near.okC TT.cd_innermost_near sc_innermost_near (fun vs H Q E h=>?_) (fun A outer sh H vs Q E hr h=>?_)
 ·obtain ⟨a,b,row,ins,wk,rfl,_⟩:=h
  rfl
 ·obtain ⟨a,b,row,ins,wk,rfl,ha,hb,hl,hlen,hex,L,k⟩:=h
  refine ⟨_,(pss_cons (ps_setC (i:=3) sc_innermost_near.nd rfl rfl rfl (N:=["village", "length", "walk"]) (fr:=[(2,2)]) (compOk (N0:=["row", "inwards", "walk", "near"]) (N:=["village", "length", "walk"]) (fr:=[(2,2)]) (sc0:=defScope s_innermost_near) rfl ⟨rfl,rfl⟩ (by decide +kernel)) (pi_enum rfl TT.z_enumerate (pa_cons (pv 0) pa_nil)) (fun _ _ _ _ _=>⟨(pg_tupK (K:=K) (n:=2) rfl rfl (pgs_cons (pg_name (i:=0) (show (["village", "length", "walk"]:List Str).Nodup by decide +kernel) rfl (Or.inl rfl)) (pgs_cons (pg_name (i:=1) (show (["village", "length", "walk"]:List Str).Nodup by decide +kernel) rfl (Or.inl rfl)) pgs_nil)) rfl),(pf_one (pt_cmpR op_le (pv 1) (pv 2) (nomark _))),(pv 0)⟩)) (pss_one (ps_ret (pe_minLam qualI 1 rfl LB.c_innermost_near LB.bm rfl rfl (hr.mono (j:=1) (by decide)).in1.depth rfl TT.z_min WB.bt_min (pv 3) rfl ⟨fun _ _ _ _ _ _=>rfl,rfl,rfl,rfl,rfl,by decide +kernel⟩ rfl rfl rfl (fun _ e=>e) rfl)))),?_⟩
  refine ⟨_,rfl,a,_,rfl,SqL.of ha,fun acc hacc=>comp_enum (K:=K) (xs:=row.map V.int) (fun i τ ys H2=>(∃ o1 o2,τ=[o1,o2,some (.int wk)])∧ys=(placesTo (fun k=>decide (row.getD k 0≤wk)) i).map V.int∧H2 acc=some (.lst ys)∧Same H H2) ⟨⟨_,_,rfl⟩,rfl,upd_same,same_new hacc⟩
   (fun i τ ys H2 _ ⟨_,_,h3,h4⟩=>⟨SqL.of (h4 _ _ ha),h3⟩) ?_ ?_⟩
  ·rintro i x p τ ys H2 R hi hp ⟨⟨o1,o2,rfl⟩,rfl,h3,h4⟩ hR
   obtain ⟨v,hv,rfl⟩:=ints_get hi
   have hil:i < row.length:=(List.getElem?_eq_some_iff.mp hv).1
   have hpl:=placesTo_len (fun k=>decide (row.getD k 0≤wk)) i
   have gv:=getD_at hv
   refine ⟨p,_,rfl,SqT.of upd_same,rfl,_,_,rfl,_,_,rfl,rfl,?_⟩
   refine ⟨_,rfl,_,rfl,_,_,rfl,rfl,_,rfl,?_⟩
   have sc:=placesTo_succ (fun k=>decide (row.getD k 0≤wk)) i
   by_cases c:v≤wk
   ·refine ite_t (by simpa using c) ?_
    refine ⟨_,rfl,(same_new hp _ _ h3),by rw [List.length_map,sizeLine_eq]; omega,hR _ _ _ ⟨⟨_,_,rfl⟩,?_,upd_same,same_upd (h4.trans (same_new hp)) hacc⟩⟩
    rw [sc,if_pos (by rw [gv]; simpa using c),List.map_append]
    rfl
   ·refine ite_f (by simpa using c) ?_
    refine hR _ _ _ ⟨⟨_,_,rfl⟩,?_,same_new hp _ _ h3,h4.trans (same_new hp)⟩
    rw [sc,if_neg (by rw [gv]; simpa using c),List.append_nil]
  ·rintro τ ys H2 ⟨⟨o1,o2,rfl⟩,rfl,h3,h4⟩
   rw [List.length_map] at h3
   have L2:=L.same h4
   obtain ⟨i0,v0,hi0,hv0⟩:=hex
   have hi0l:i0 < row.length:=(List.getElem?_eq_some_iff.mp hi0).1
   have m0:(i0:Int)∈placesTo (fun k=>decide (row.getD k 0≤wk)) row.length:=mem_placesTo.mpr ⟨i0,hi0l,by rw [getD_at hi0]; simpa using hv0,rfl⟩
   refine ⟨_,rfl,L2.inn,fun H3 f c kt l3 f0 hf hc=>?_⟩
   have kl:=KL.grewI TT L2 kt l3
   refine ⟨_,_,rfl,rfl,acc,f,c,b,_,ins,rfl,rfl,hf,hc,rfl,SqL.of (kl.l h3),List.length_pos_of_mem m0,SqL.of (kl.l (h4 _ _ hb)),fun x hx=>?_,fun j M hj hM=>?_⟩
   ·obtain ⟨q,q1,q2,rfl⟩:=mem_placesTo.mp hx
    omega
   ·obtain ⟨q,q1,q2,rfl⟩:=mem_placesTo.mp (List.mem_of_getElem? hj)
    refine k q _ H3 ((KL.of L h4).trans kl) (at_getD q1) (by simpa using q2) fun q' u hu hw=>?_
    have q3:q' < row.length:=(List.getElem?_eq_some_iff.mp hu).1
    obtain ⟨j',hj'⟩:=List.mem_iff_getElem?.mp (show (q':Int)∈placesTo (fun k=>decide (row.getD k 0≤wk)) row.length from mem_placesTo.mpr ⟨q',q3,by rw [getD_at hu]; simpa using hw,rfl⟩)
    exact (hM j' _ hj').1
end
end WR
namespace WR
open PySem L2
def Found (n:Nat) (rs:List Road) (w:Int) (ws cs:List Int):Prop:=∃ pre wells callers,(∀ v,InV n v→v∈pre)∧(∀ v∈pre,InV n v)∧Dug n rs w pre wells callers∧ws.Perm wells∧cs.Perm callers
def sp_fewest (t:Adr):Sp:=fun vs H Q _=>∃ (r:Addr) (n:Nat) (rs:List Road) (w:Int),vs=[.ref r,.int w]∧RowsAt H r (rowsM n rs)∧Tree n rs∧n≤12∧0≤w∧Lams t H ∧
 ∀ x p q ws cs H',H x=none→H p=none→H q=none→p≠q→KL t H H'→WellsAt t.C_Wells H' x p q ws cs→ws.Pairwise (·≤·)→cs.Pairwise (·≤·)→Found n rs w ws cs→Q (.ref x) H'
theorem pair_take {R:Int→Int→Prop} {ms:List Int} {i:Nat} {v:Int} (h:ms.Pairwise R) (e:ms[i]?=some v):∀ c∈ms.take i,R c v:=by
 intro c hc
 have h':(ms.take i++ms.drop i).Pairwise R:=by rw [List.take_append_drop]; exact h
 rw [List.pairwise_append] at h'
 refine h'.2.2 c hc v ?_
 rw [List.mem_iff_getElem?]
 exact ⟨0,by rw [List.getElem?_drop]; simpa using e⟩
theorem Inner.same {n:Nat} {rs:List Road} {w c a b:Int} (I:Inner n rs w c a) (J:Inner n rs w c b):far n rs 0 a=far n rs 0 b:=by
 have:=I.least b J.iv J.near
 have:=J.least a I.iv I.near
 omega
def feI1 (t:Adr) (H:Hp) (acc c0:Addr) (n:Nat) (rs:List Road) (wk:Int) (i:Nat) (τ:St) (ys:List V) (H2:Hp):Prop:=(∃ o,τ=[o,some (.ref c0),some (.int wk)])∧(∃ inn:List Int,ys=inn.map V.int∧inn.length=i∧∀ (j:Nat) (a:Int),inn[j]?=some a→Inner n rs wk j a)∧H2 acc=some (.lst ys)∧KL t H H2
def feI2 (t : Adr) (H0 : Hp) (r c0 acc wl cl D : Addr) (n : Nat) (rs : List Road) (wk : Int) (ms : List Int) (i : Nat) (σ : St) (H5 : Hp) : Prop := (∃ v6, σ = [some (.ref r), some (.int wk), some (.ref c0), some (.ref acc), some (.ref wl), some (.ref cl), v6]) ∧ KL t H0 H5 ∧ H5 D = some (.lst (ms.map V.int)) ∧
          ∃ ws cs : List Int, H5 wl = some (.lst (ws.map V.int)) ∧ H5 cl = some (.lst (cs.map V.int)) ∧ ws.length ≤ i ∧ Dug n rs wk (ms.take i) ws cs
section
variable {P:Program} {w:World} {K:PySem.W.Frag} {mg:Str→Option Value} {base:Heap} {t:Adr}
theorem ok_fewest (TT : Txt K mg t) (LB : LamB base mg t) : FnOk P w K mg base CX0 3 t.f_fewest t.d_fewest ["table", "walk"] (sp_fewest t) := by
  refine TT.F_fewest.okC TT.cd_fewest sc_fewest (fun vs H Q E h => ?_) (fun A outer sh H vs Q E hr h => ?_)
  · obtain ⟨r, n, rs, wk, rfl, _⟩ := h
    rfl
  · obtain ⟨r, n, rs, wk, rfl, hR, W, n12, w0, L, k⟩ := h
    refine ⟨_, (pss_cons (ps_set (i := 2) sc_fewest.nd rfl (Or.inr rfl) (pe_ix ix_list (pv 0) pe_int (fun _ _ => rfl))) (pss_cons (ps_set (i := 3) sc_fewest.nd rfl (Or.inr rfl) (pe_comp rfl (N := ["row", "inwards", "walk"]) (fr := [(1, 2), (2, 1)]) (compOk (N0 := ["table", "walk", "inwards", "innermost", "wells", "callers", "village"]) (N := ["row", "inwards", "walk"]) (fr := [(1, 2), (2, 1)]) (sc0 := defScope s_fewest) rfl ⟨rfl, rfl⟩ (by decide +kernel)) (pi_list (pv 0)) (fun _ _ _ _ _ => ⟨(pg_name (i := 0) (show (["row", "inwards", "walk"] : List Str).Nodup by decide +kernel) rfl (Or.inl rfl)), pf_none, (pe_call (ok_innermost_near TT LB) (hr.mono (by decide)) rfl TT.m_innermost_near TT.F_innermost_near.kp TT.b_innermost_near .nil pass0 (pa_cons (pv 0) (pa_cons (pv 1) (pa_cons (pv 2) pa_nil))))⟩))) (pss_cons (ps_set (i := 4) sc_fewest.nd rfl (Or.inl rfl) (pe_lst pa_nil)) (pss_cons (ps_set (i := 5) sc_fewest.nd rfl (Or.inl rfl) (pe_lst pa_nil)) (pss_cons (ps_for PassesOwn.never rfl (pi_list (pe_sortLam qualF 2 3 rfl LB.c_fewest LB.bm rfl rfl (hr.mono (j := 2) (by decide)).in1.in1.depth rfl TT.z_sorted WB.bt_sorted (pe_callTy call_range1 rfl TT.z_range WB.bt_range (pa_cons (pe_callB call_len_seq rfl TT.z_len WB.bt_len (pa_cons (pv 0) pa_nil)) pa_nil)) rfl ⟨fun _ _ _ _ _ _ => rfl, rfl, rfl, rfl, rfl, by decide +kernel⟩ rfl rfl rfl rfl (fun _ e => e) rfl rfl (fun _ e => e) rfl)) (pg_name (i := 6) sc_fewest.nd rfl (Or.inl rfl)) (pss_one (ps_if (pt_cmpR op_eq (pe_call (ok_how_many_near TT) (hr.mono (by decide)) rfl TT.m_how_many_near TT.F_how_many_near.kp TT.b_how_many_near .nil pass0 (pa_cons (pe_ix ix_list (pv 0) (pv 6) (fun _ _ => rfl)) (pa_cons (pv 4) (pa_cons (pv 1) pa_nil)))) pe_int (nomark _)) (pss_cons (ps_expr (pe_bm PySem.F.plainAttrs_list PySem.F.slot_list_append PySem.F.type_list_append mt_append (pv 5) (pa_cons (pv 6) pa_nil))) (pss_one (ps_expr (pe_bm PySem.F.plainAttrs_list PySem.F.slot_list_append PySem.F.type_list_append mt_append (pv 4) (pa_cons (pe_ix ix_list (pv 3) (pv 6) (fun _ _ => rfl)) pa_nil))))) pss_nil))) (pss_one (ps_ret (pe_make TT.M_Wells (ok_Wells_init TT) (hr.mono (by decide)) rfl TT.m_Wells TT.b_Wells_init .nil pass0 (pa_cons (pe_callB call_sortedL rfl TT.z_sorted WB.bt_sorted (pa_cons (pv 4) pa_nil)) (pa_cons (pe_callB call_sortedL rfl TT.z_sorted WB.bt_sorted (pa_cons (pv 5) pa_nil)) pa_nil)))))))))), ?_⟩
    show let B5 : TS := tRet (tMake (Adr.C_Wells t) (sp_Wells_init (Adr.C_Wells t)) [] E0 (tCons (tCB (fun xs H_1 Q => rSorted xs (fun p ns => SqL K H_1 p (List.map V.int ns)) H_1 Q) (tCons (tVar 4) tNil)) (tCons (tCB (fun xs H_1 Q => rSorted xs (fun p ns => SqL K H_1 p (List.map V.int ns)) H_1 Q) (tCons (tVar 5) tNil)) tNil))); let B4 : TS := tSeq (tFor (iList K (tSortNeg K 2 3 (tCB (fun xs H Q => ∃ n, xs = [V.int n] ∧ ∀ (l : Addr), H l = none → Q (V.ref l) (upd H l (HO.rng 0 n))) (tCons (tCB (fun xs H_1 Q => ∃ p ys, xs = [V.ref p] ∧ (SqL K H_1 p ys ∨ SqT K H_1 p ys) ∧ Q (V.int ↑(List.length ys)) H_1) (tCons (tVar 0) tNil)) tNil)) (tLam (Adr.P_fewest t) { line := 178, col := 49, endLine := 178, endCol := 89 } qualF { posonlyargs := [], args := [{ arg := Str.ofString "place", annotation := none, pos := { line := 178, col := 56, endLine := 178, endCol := 61 } }], vararg := none, kwonlyargs := [], kw_defaults := [], kwarg := none, defaults := [] } (Expr.UnaryOp UnaryOp.USub (Expr.Subscript (Expr.Name (Str.ofString "inwards") { line := 178, col := 64, endLine := 178, endCol := 71 }) (Expr.Subscript (Expr.Name (Str.ofString "innermost") { line := 178, col := 72, endLine := 178, endCol := 81 }) (Expr.Name (Str.ofString "place") { line := 178, col := 82, endLine := 178, endCol := 87 }) { line := 178, col := 72, endLine := 178, endCol := 88 }) { line := 178, col := 64, endLine := 178, endCol := 89 }) { line := 178, col := 63, endLine := 178, endCol := 89 }) { kind := ScopeKind.function, names := [(Str.ofString "place", NameKind.local), (Str.ofString "innermost", NameKind.free), (Str.ofString "inwards", NameKind.free)], isGenerator := false, isCoroutine := false } [(Str.ofString "inwards", Array.size (Heap.objs (Shared.heap sh)) + 1 + 1 + 1), (Str.ofString "innermost", Array.size (Heap.objs (Shared.heap sh)) + 1 + 1)]) qualF { posonlyargs := [], args := [{ arg := Str.ofString "place", annotation := none, pos := { line := 178, col := 56, endLine := 178, endCol := 61 } }], vararg := none, kwonlyargs := [], kw_defaults := [], kwarg := none, defaults := [] } (Expr.UnaryOp UnaryOp.USub (Expr.Subscript (Expr.Name (Str.ofString "inwards") { line := 178, col := 64, endLine := 178, endCol := 71 }) (Expr.Subscript (Expr.Name (Str.ofString "innermost") { line := 178, col := 72, endLine := 178, endCol := 81 }) (Expr.Name (Str.ofString "place") { line := 178, col := 82, endLine := 178, endCol := 87 }) { line := 178, col := 72, endLine := 178, endCol := 88 }) { line := 178, col := 64, endLine := 178, endCol := 89 }) { line := 178, col := 63, endLine := 178, endCol := 89 }) { kind := ScopeKind.function, names := [(Str.ofString "place", NameKind.local), (Str.ofString "innermost", NameKind.free), (Str.ofString "inwards", NameKind.free)], isGenerator := false, isCoroutine := false } [(Str.ofString "inwards", Array.size (Heap.objs (Shared.heap sh)) + 1 + 1 + 1), (Str.ofString "innermost", Array.size (Heap.objs (Shared.heap sh)) + 1 + 1)])) (gName 6) (tIfS (tTest (tOp rEq (tCall sp_how_many [] E0 (tCons (tOp (rIxL K) (tVar 0) (tVar 6)) (tCons (tVar 4) (tCons (tVar 1) tNil)))) (tC (V.int 0)))) (tSeq (tDrop (tBM K "list" rAppend (tVar 5) (tCons (tVar 6) tNil))) (tDrop (tBM K "list" rAppend (tVar 4) (tCons (tOp (rIxL K) (tVar 3) (tVar 6)) tNil)))) tNext)) B5; let B3 : TS := tSeq (tAsg (tLst tNil) (gName 5)) B4; let B2 : TS := tSeq (tAsg (tLst tNil) (gName 4)) B3; let B1 : TS := tSeq (tAsg (tComp (List.length [Str.ofString "row", Str.ofString "inwards", Str.ofString "walk"]) [(1, 2), (2, 1)] (iList K (tVar 0)) (gName 0) tNoIf (tCall (sp_innermost t) [] E0 (tCons (tVar 0) (tCons (tVar 1) (tCons (tVar 2) tNil))))) (gName 3)) B2; tSeq (tAsg (tOp (rIxL K) (tVar 0) (tC (V.int 0))) (gName 2)) B1 _ _ _
    intro B5 B4 B3 B2 B1
    have n1 : 0 < n := by have := W.count; omega
    obtain ⟨ps, hr1, hps⟩ := hR
    have hpl : ps.length = n := by have := Paired.length hps; rw [rowsM_length] at this; exact this
    obtain ⟨c0, hc0, hc1⟩ := rows_get hps (rowsM_get (rs := rs) n1)
    refine ⟨_, rfl, r, _, _, .ref c0, rfl, rfl, SqL.of hr1, atI_nat (j := 0) hc0, ?_⟩
    refine ⟨_, rfl, r, rfl, ⟨_, SqL.of hr1⟩, fun acc hacc => comp_list (K := K) (xs := ps.map V.ref) (feI1 t H acc c0 n rs wk)
      ⟨⟨_, rfl⟩, ⟨[], rfl, rfl, fun j a z => by simp at z⟩, upd_same, .of L (same_new hacc)⟩ (fun i τ ys H2 _ ⟨_, _, h3, h4⟩ => ⟨SqL.of (h4.l hr1), h3⟩) ?_ ?_⟩
    · rintro i v τ ys H2 R hi ⟨⟨o, rfl⟩, ⟨inn, rfl, hil, hin⟩, h3, h4⟩ hR
      obtain ⟨c, row, rfl, hrow, hc⟩ := rows_at hps hi
      obtain ⟨hiN, rfl⟩ := rowsM_at hrow
      have iv : InV n (i : Int) := ⟨by omega, by omega⟩
      refine noifN ?_
      refine ⟨_, rfl, _, rfl, _, rfl, c, c0, _, _, wk, rfl, h4.l hc, h4.l hc1, by rw [rowM_length, rowM_length], by rw [rowM_length]; omega, ⟨i, _, rowM_get hiN, by rw [W.far_self iv]; exact w0⟩, h4.lam', fun j v H3 k3 hj hv hm => ?_⟩
      have hjn : j < n := by have := (List.getElem?_eq_some_iff.mp hj).1; rw [rowM_length] at this; exact this
      rw [rowM_get hjn] at hj
      cases hj
      have I : Inner n rs wk i j := ⟨⟨by omega, by omega⟩, hv, fun u hu hw => by
        obtain ⟨u', rfl⟩ := Int.eq_ofNat_of_zero_le hu.1
        have hu' : u' < n := by have := hu.2; omega
        have := hm u' _ (rowM_get hu') hw
        rw [getD_at (rowM_get (rs := rs) (s := ((0 : Nat) : Int)) hjn), getD_at (rowM_get (rs := rs) (s := ((0 : Nat) : Int)) hu')] at this
        exact this⟩
      refine ⟨k3.l h3, by rw [List.length_map, sizeLine_eq]; omega, hR _ _ _ ⟨⟨_, rfl⟩, ⟨inn ++ [(j : Int)], by rw [List.map_append]; rfl, by simp [hil], fun j' a hj' => ?_⟩, upd_same, (h4.trans k3).put hacc (k3.l h3)⟩⟩
      by_cases hlt : j' < inn.length
      · rw [List.getElem?_append_left hlt] at hj'
        exact hin j' a hj'
      · have e : j' = inn.length := by have := (List.getElem?_eq_some_iff.mp hj').1; simp at this; omega
        subst e
        rw [List.getElem?_append_right (Nat.le_refl _), Nat.sub_self] at hj'
        cases hj'
        rw [hil]; exact I
    · rintro τ ys H0 ⟨⟨o, rfl⟩, ⟨inn, rfl, hil, hin⟩, h3, h4⟩
      rw [List.length_map, hpl] at hil
      refine ⟨by show 0 ≤ sizeLine; decide, fun wl hwl => ?_⟩
      refine ⟨by show 0 ≤ sizeLine; decide, fun cl hcl => ?_⟩
      have cw : cl ≠ wl := fun z => by subst z; rw [upd_same] at hcl; cases hcl
      have hcl0 : H0 cl = none := by rw [upd_ne cw] at hcl; exact hcl
      have s1 : Same H0 (upd (upd H0 wl (.lst [])) cl (.lst [])) := (same_new hwl).trans (same_new hcl)
      have w1 : upd (upd H0 wl (.lst [])) cl (.lst []) wl = some (.lst (([] : List Int).map V.int)) := by rw [upd_ne cw.symm, upd_same]; rfl
      have c1 : upd (upd H0 wl (.lst [])) cl (.lst []) cl = some (.lst (([] : List Int).map V.int)) := upd_same
      have k1 := KL.of h4.lam' s1
      show _
      generalize upd (upd H0 wl (.lst [])) cl (.lst []) = H1 at s1 w1 c1 k1
      refine ⟨_, rfl, r, _, rfl, .inl (SqL.of (k1.l (h4.l hr1))), _, rfl, fun ra hra => ?_⟩
      have s2 : Same H1 (upd H1 ra (.rng 0 ((ps.map V.ref).length : Int))) := same_new hra
      have hr2 : upd H1 ra (.rng 0 ((ps.map V.ref).length : Int)) ra = some (.rng 0 (n : Int)) := by rw [upd_same, List.length_map, hpl]
      generalize upd H1 ra (.rng 0 ((ps.map V.ref).length : Int)) = H2 at s2 hr2
      have k2 := k1.same s2
      refine ⟨k2.lam'.few, fun H3 f c kt l3 f0 hf hc => ?_⟩
      have k3' := KL.grewF TT k2.lam' kt l3
      have k3 := k2.trans k3'
      have hsort : ∀ x ∈ inn, 0 ≤ x ∧ x < (rowM n rs ((0 : Nat) : Int)).length := fun x hx => by
        obtain ⟨j, hj⟩ := List.mem_iff_getElem?.mp hx
        have := (hin j x hj).iv
        rw [rowM_length]
        exact ⟨this.1, this.2⟩
      refine ⟨_, _, rfl, rfl, ra, f, c, c0, acc, n, rowM n rs ((0 : Nat) : Int), inn, rfl, rfl, hf, hc, rfl, rfl, k3'.get hr2 (fun _ z => by cases z), by omega, SqL.of (k3.l (h4.l hc1)), SqL.of (k3.l h3), hil, hsort, fun D ms hD hperm hord => ?_⟩
      have hw3 := k3'.l (s2 _ _ w1)
      have hc3 := k3'.l (s2 _ _ c1)
      have Dw : D ≠ wl := (ne_of_none hw3 hD).symm
      have Dc : D ≠ cl := (ne_of_none hc3 hD).symm
      have k4 := k3.same (same_new (o := .lst (ms.map V.int)) hD)
      have innAt : ∀ v : Nat, v < n → ∃ a, inn[v]? = some a ∧ Inner n rs wk v a := fun v hv => ⟨_, List.getElem?_eq_getElem (by omega), hin v _ (List.getElem?_eq_getElem (by omega))⟩
      have msIn : ∀ v ∈ ms, ∃ u : Nat, u < n ∧ v = u := fun v hv => by
        obtain ⟨u, hu, e⟩ := List.mem_map.mp (hperm.mem_iff.mp hv)
        exact ⟨u, List.mem_range.mp hu, e.symm⟩
      have mlen : ms.length = n := by rw [hperm.length_eq]; simp
      refine ⟨D, rfl, ⟨_, SqL.of upd_same⟩, for_list (K := K) (a := D) (xs := ms.map V.int) (feI2 t H0 r c0 acc wl cl D n rs wk ms)
        ⟨⟨_, rfl⟩, k4, upd_same, [], [], by rw [upd_ne Dw.symm]; exact hw3, by rw [upd_ne Dc.symm]; exact hc3, Nat.le_refl _, Dug.nil wk⟩ (fun i σ H5 _ ⟨_, _, e, _⟩ => SqL.of e) ?_ ?_⟩
      · rintro i x σ H5 hi ⟨⟨v6, rfl⟩, k5, hD5, ws, cs, hw5, hc5, wlen, dug⟩
        obtain ⟨v, hv, rfl⟩ := ints_get hi
        obtain ⟨u, hu, rfl⟩ := msIn v (List.mem_of_getElem? hv)
        have hiN : i < n := by have := (List.getElem?_eq_some_iff.mp hv).1; omega
        obtain ⟨cu, hcu, hcu1⟩ := rows_get hps (rowsM_get (rs := rs) hu)
        obtain ⟨a, ha, I⟩ := innAt u hu
        have uv : InV n (u : Int) := ⟨by omega, by omega⟩
        refine ⟨_, rfl, _, rfl, r, _, _, .ref cu, rfl, rfl, SqL.of (k5.l (h4.l hr1)), atI_nat (j := u) hcu, _, rfl, _, rfl, cu, wl, _, ws, wk, rfl, k5.l (h4.l hcu1), hw5, fun x hx => ?_, by omega, by rw [rowM_length]; omega, fun H6 s6 => ?_⟩
        · have := dug.iv x hx
          rw [rowM_length]
          exact ⟨this.1, this.2⟩
        have dist : ∀ x, InV n x → (rowM n rs (u : Int)).getD x.toNat 0 = far n rs u x := fun x hx => by
          obtain ⟨x', rfl⟩ := Int.eq_ofNat_of_zero_le hx.1
          have hx' : x' < n := by have := hx.2; omega
          rw [Int.toNat_natCast, getD_at (rowM_get hx')]
        have tk : ms.take (i + 1) = ms.take i ++ [(u : Int)] := by rw [List.take_add_one, hv]; rfl
        have hw6 := s6 _ _ hw5
        have hc6 := s6 _ _ hc5
        have hm := nearM_zero (row := rowM n rs (u : Int)) (ws := ws) (w := wk)
        refine ⟨rfl, _, rfl, ?_⟩
        by_cases c2 : nearM (rowM n rs (u : Int)) ws wk = 0
        · refine ite_t (by rw [c2]; rfl) ?_
          refine ⟨_, rfl, .inl ⟨rfl, _, SqL.of hc6⟩, _, rfl, cl, _, _, rfl, rfl, hc6, by rw [List.length_map, sizeLine_eq, ← dug.len]; omega, ?_⟩
          refine ⟨_, rfl, .inl ⟨rfl, _, SqL.of (by rw [upd_ne cw.symm]; exact hw6)⟩, _, rfl, _, rfl, acc, _, _, .int a, rfl, rfl, SqL.of (by rw [upd_ne (ne_of_none h3 hcl0)]; exact s6 _ _ (k5.l h3)), atI_nat (j := u) (ints_at ha), wl, _, _, rfl, rfl, by rw [upd_ne cw.symm]; exact hw6, by rw [List.length_map, sizeLine_eq]; omega, ?_⟩
          refine ⟨⟨_, rfl⟩, ?_, ?_, ws ++ [a], cs ++ [(u : Int)], ?_, ?_, by simp; omega, ?_⟩
          · exact ((k5.same s6).put hcl0 hc6).put hwl (by rw [upd_ne cw.symm]; exact hw6)
          · rw [upd_ne Dw, upd_ne Dc]; exact s6 _ _ hD5
          · rw [upd_same, List.map_append]; rfl
          · rw [upd_ne cw, upd_same, List.map_append]; rfl
          · rw [tk]
            refine dug.add W uv I (fun x hx c => hm.mp c2 x hx (by rw [dist x (dug.iv x hx)]; exact c)) fun c b hcm J => ?_
            obtain ⟨uc, huc, rfl⟩ := msIn c (List.mem_of_mem_take hcm)
            obtain ⟨ac, hac, Ic⟩ := innAt uc huc
            have o := pair_take hord hv _ hcm
            rw [Int.toNat_natCast, Int.toNat_natCast, getD_at ha, getD_at hac] at o
            have e1 : (rowM n rs ((0 : Nat) : Int)).getD a.toNat 0 = far n rs 0 a := by
              obtain ⟨x', rfl⟩ := Int.eq_ofNat_of_zero_le I.iv.1
              have hx' : x' < n := by have := I.iv.2; omega
              rw [Int.toNat_natCast, getD_at (rowM_get hx')]; rfl
            have e2 : (rowM n rs ((0 : Nat) : Int)).getD ac.toNat 0 = far n rs 0 ac := by
              obtain ⟨x', rfl⟩ := Int.eq_ofNat_of_zero_le Ic.iv.1
              have hx' : x' < n := by have := Ic.iv.2; omega
              rw [Int.toNat_natCast, getD_at (rowM_get hx')]; rfl
            rw [e1, e2] at o
            have := Ic.same J
            omega
        · refine ite_f (by have : ¬ ((nearM (rowM n rs (u : Int)) ws wk : Nat) : Int) = 0 := by omega
                           simpa using this) ?_
          refine ⟨⟨_, rfl⟩, k5.same s6, s6 _ _ hD5, ws, cs, hw6, hc6, by omega, ?_⟩
          rw [tk]
          refine dug.skip (Classical.byContradiction fun z => c2 (hm.mpr fun x hx c => z ⟨x, hx, ?_⟩))
          rw [dist x (dug.iv x hx)] at c
          exact c
      · rintro σ H5 ⟨⟨v6, rfl⟩, k5, hD5, ws, cs, hw5, hc5, wlen, dug⟩
        rw [List.length_map, mlen] at dug wlen
        rw [List.take_of_length_le (by omega)] at dug
        refine ⟨_, rfl, wl, ws, rfl, SqL.of hw5, by omega, fun l1 ms1 hl1 p1 o1 => ?_⟩
        have s6 : Same H5 (upd H5 l1 (.lst (ms1.map V.int))) := same_new hl1
        have g1 : upd H5 l1 (.lst (ms1.map V.int)) l1 = some (.lst (ms1.map V.int)) := upd_same
        generalize upd H5 l1 (.lst (ms1.map V.int)) = H6 at s6 g1
        refine ⟨_, rfl, cl, cs, rfl, SqL.of (s6 _ _ hc5), by have := dug.len; omega, fun l2 ms2 hl2 p2 o2 => ?_⟩
        have s7 : Same H6 (upd H6 l2 (.lst (ms2.map V.int))) := same_new hl2
        have g2 : upd H6 l2 (.lst (ms2.map V.int)) l2 = some (.lst (ms2.map V.int)) := upd_same
        have g1' := s7 _ _ g1
        generalize upd H6 l2 (.lst (ms2.map V.int)) = H7 at s7 g2 g1'
        intro x dx hx hdx hne
        have hxl : l1 ≠ x := ne_of_none g1' hx
        have hxl2 : l2 ≠ x := ne_of_none g2 hx
        have s8 : Same H7 (upd (upd H7 dx (.own x)) x (.ins t.C_Wells dx [])) := (same_new hdx).trans (same_new (by rw [upd_ne hne.symm]; exact hx))
        have gx : upd (upd H7 dx (.own x)) x (.ins t.C_Wells dx []) x = some (.ins t.C_Wells dx []) := upd_same
        generalize upd (upd H7 dx (.own x)) x (.ins t.C_Wells dx []) = H8 at s8 gx
        have kk := h4.trans (((k5.same s6).same s7).same s8)
        refine ⟨x, dx, l1, l2, ms1, ms2, rfl, gx, s8 _ _ g1', s8 _ _ g2, fun p' q' H' hp' hq' hpq hW kp => ⟨rfl, ?_⟩⟩
        have hx0 : H x = none := h4.free (k5.free (s6.free (s7.free hx)))
        refine k x p' q' ms1 ms2 H' hx0 (kk.free hp') (kk.free hq') hpq ⟨fun b o e h1 h2 => kp b o (kk.keep b o e h1 h2) (ne_of_none e hx0), L, ?_⟩ hW o1 o2 ⟨ms, ws, cs, fun v hv => ?_, fun v hv => ?_, dug, p1, p2⟩
        · have g : ∀ {P : Addr} {pos : Pos} {q : Str}, LamT H8 P pos q → LamT H' P pos q := fun {P pos q} z => by
            obtain ⟨ts, z1, z2, z3⟩ := z
            refine ⟨ts, kp _ _ z1 (fun y => by subst y; rw [gx] at z1; cases z1), z2, ?_⟩
            rcases z3 with z3 | ⟨c, z3, z4⟩
            · exact .inl z3
            · exact .inr ⟨c, z3, kp _ _ z4 (fun y => by subst y; rw [gx] at z4; cases z4)⟩
          exact ⟨g kk.lam'.few, g kk.lam'.inn⟩
        · obtain ⟨u, rfl⟩ := Int.eq_ofNat_of_zero_le hv.1
          exact hperm.mem_iff.mpr (List.mem_map.mpr ⟨u, List.mem_range.mpr (by have := hv.2; omega), rfl⟩)
        · obtain ⟨u, hu, rfl⟩ := msIn v hv
          exact ⟨by omega, by omega⟩
end
end WR
namespace WR
open PySem L2
def dot (pe row:List Int):List Int:=dotTo (fun k=>pe.getD k 0) (fun k=>row.getD k 0) pe.length
def dueM (N:Nat) (rs:List Road) (pe:List Int):List Int:=(rowsM N rs).map fun row=>(dot pe row).sum
def People (N:Nat) (pe:List Int):Prop:=pe.length=N∧∀ v∈pe,0≤v∧v≤1000000
inductive PeopleV (H:Hp) (n:Int):V→Bool→Prop where
 | no {v:V} (k:KindV H v) (nl:∀ a xs,v=.ref a→H a≠some (.lst xs)):PeopleV H n v false
 | lst {a:Addr} {xs:List V} (h:H a=some (.lst xs)) (ks:∀ y∈xs,KindV H y) (l:xs.length≤1000):PeopleV H n (.ref a) (decide ((xs.length:Int)=n)&&xs.all fun y=>wholeV y 0 1000000)
theorem people_good {H:Hp} {u:Addr} {N:Nat} {pe:List Int} (hu:H u=some (.lst (pe.map V.int))) (hpe:People N pe) (hN:N≤12):PeopleV H (N:Int) (.ref u) true:=by
 have:=PeopleV.lst (n:=(N:Int)) hu (fun y hy=>by obtain ⟨i,_,rfl⟩:=List.mem_map.mp hy; exact .int i) (by rw [List.length_map,hpe.1]; omega)
 have e:(decide (((pe.map V.int).length:Int)=(N:Int))&&(pe.map V.int).all fun y=>wholeV y 0 1000000)=true:=by
  rw [Bool.and_eq_true,List.all_eq_true]
  refine ⟨by rw [List.length_map,hpe.1]; exact decide_eq_true rfl,fun y hy=>?_⟩
  obtain ⟨i,hi,rfl⟩:=List.mem_map.mp hy
  exact wholeV_iff.mpr (hpe.2 i hi)
 rw [e] at this
 exact this
def spx_people (C B:Addr):Sp:=fun vs H Q E=>∃ (x q:Addr) (n:Int) (rs:List Road) (v:V) (r:Bool),vs=[.ref x,v]∧TreeAt C H x q n rs∧PeopleV H n v r∧(r=false→∀ H',Same H H'→E (.ref B) none H')∧(r=true→∀ H',Same H H'→Q .non H')
def sp_walked:Sp:=fun vs H Q _=>∃ (a b:Addr) (pe row:List Int),vs=[.ref a,.ref b]∧H a=some (.lst (pe.map V.int))∧H b=some (.lst (row.map V.int))∧row.length=pe.length∧People pe.length pe∧pe.length≤1000∧∀ H',Same H H'→Q (.int (dot pe row).sum) H'
def spx_walks (C B:Addr):Sp:=fun vs H Q E=>(∃ (x q u:Addr) (n:Int) (rs:List Road) (pe:List Int),vs=[.ref x,.ref u]∧TreeAt C H x q n rs∧H u=some (.lst (pe.map V.int))∧People n.toNat pe ∧
 ∀ p H',H p=none→Same H H'→H' p=some (.lst ((dueM n.toNat rs pe).map V.int))→Q (.ref p) H') ∨
 ∃ (x q:Addr) (n:Int) (rs:List Road) (v:V),vs=[.ref x,v]∧TreeAt C H x q n rs∧PeopleV H n v false∧∀ H',Same H H'→E (.ref B) none H'
def spx_medians (C B:Addr):Sp:=fun vs H _ E=>∃ (x q:Addr) (n:Int) (rs:List Road) (v:V),vs=[.ref x,v]∧TreeAt C H x q n rs∧PeopleV H n v false∧∀ H',Same H H'→E (.ref B) none H'
def spNo:Sp:=fun _ _ _ _=>False
theorem take_map_next {α β:Type} {l:List α} {i:Nat} {a:α} (f:α→β) (h:l[i]?=some a):(l.take (i + 1)).map f=(l.take i).map f++[f a]:=by
 rw [List.take_add_one,h,List.map_append]; rfl
section
variable {P:Program} {w:World} {K:PySem.W.Frag} {mg:Str→Option Value} {base:Heap} {t:Adr}
theorem ok_least_places (TT:Txt K mg t):FnOk P w K mg base CX0 0 t.f_least_places t.d_least_places ["numbers"] spNo:=⟨fun _ _ _ _ h=>h.elim,fun _ _ _ _ _ _ _ _ _ _ _ _ _ h=>h.elim⟩
theorem okx_need_people (TT:Txt K mg t):FnOk P w K mg base (CXE P w base) 3 t.f_need_people t.d_need_people ["tree", "people"] (spx_people t.C_Tree t.C_BadNumber):=by
 refine TT.F_need_people.okE sc_need_people (fun vs H Q E h=>?_) (fun cdv A outer sh H vs Q E hr h=>?_)
 ·obtain ⟨x,q,n,rs,v,r,rfl,_⟩:=h
  rfl
 ·obtain ⟨x,q,n,rs,v,r,rfl,T,hv,kx,k⟩:=h
  refine ⟨_,(pss_cons (ps_if (PW.pt (pw_or (pt_not (pt_val (pe_callB call_isinst rfl TT.z_isinstance WB.bt_isinstance (pa_cons (pv 1) (pa_cons (pe_bltn (v:=.ty "list") rfl TT.z_list WB.bt_list rfl) pa_nil))))) (pw_or1 (pt_cmpR op_ne (pe_callB call_len_seq rfl TT.z_len WB.bt_len (pa_cons (pv 1) pa_nil)) (pe_fld (pv 0) rfl) (nomark _))))) (pss_one (ps_raise raiseE rfl rfl TT.m_BadNumber TT.R_BadNumber PySem.F.excBase_ValueError (by decide +kernel) PySem.F.excBase_ValueError (pa_consC pe_str pa_nil))) pss_nil) (pss_one (ps_if (pt_not (pt_val (pe_callB (call_all rfl) rfl TT.z_all WB.bt_all (pa_cons (pe_comp rfl (N:=["many"]) (fr:=[]) (compOk (N0:=["tree", "people"]) (N:=["many"]) (fr:=[]) (sc0:=defScope s_need_people) (n0:=0) rfl ⟨rfl,rfl⟩ (by decide +kernel)) (pi_list (pv 1)) (fun _ _ _ _ _=>⟨(pg_name (i:=0) (show (["many"]:List Str).Nodup by decide +kernel) rfl (Or.inl rfl)),pf_none,(pe_call (ok_is_whole TT) (hr.mono (by decide)) rfl TT.m_is_whole TT.F_is_whole.kp TT.b_is_whole .nil pass0 (pa_cons (pv 0) (pa_consC pe_int (pa_cons (pe_glob (v:=.int 1000000) rfl TT.g_MOST_PEOPLE ⟨_,rfl⟩) pa_nil))))⟩)) pa_nil)))) (pss_one (ps_raise raiseE rfl rfl TT.m_BadNumber TT.R_BadNumber PySem.F.excBase_ValueError (by decide +kernel) PySem.F.excBase_ValueError (pa_consC pe_str pa_nil))) pss_nil))),?_⟩
  obtain ⟨dx,hx⟩:=T.ob
  cases hv with
  | no kv nl =>
   obtain ⟨ty,h1,h2⟩:=kv.noLst (K:=K) nl
   exact ⟨_,rfl,_, "list",ty,false,rfl,h1,h2,false,rfl,iteT (iteT ⟨by show 1≤sizeLine; decide,kx rfl H (Same.refl H)⟩)⟩
  | @lst u xs hu ks hl =>
   refine ⟨_,rfl,_, "list",.type "list",true,rfl,.lst hu,kit_ll,true,rfl,iteF ?_⟩
   refine ⟨_,rfl,u,_,rfl,.inl (SqL.of hu),_,rfl,x,t.C_Tree,dx,_,_,rfl,hx,TT.cl_Tree,TT.n_Tree_size,flds_size _ _,rfl,_,rfl,?_⟩
   by_cases e:(xs.length:Int)=n
   ·have hd:(!decide (V.int (xs.length:Int)=V.int n))=false:=by rw [e]; simp
    refine ite_f hd ?_
    rw [decide_eq_true e,Bool.true_and] at kx k
    refine ⟨_,rfl,u,rfl,⟨_,SqL.of hu⟩,fun acc hacc=>comp_list (K:=K) (xs:=xs) (fun i τ ys H2=>(∃ v,τ=[v])∧ys=((xs.take i).map fun y=>wholeV y 0 1000000).map V.bl∧H2 acc=some (.lst ys)∧Same H H2) ⟨⟨_,rfl⟩,rfl,upd_same,same_new hacc⟩
     (fun i τ ys H2 _ ⟨_,_,h3,h4⟩=>⟨SqL.of (h4 _ _ hu),h3⟩) ?_ ?_⟩
    ·rintro i v τ ys H2 R hi ⟨⟨o,rfl⟩,rfl,h3,h4⟩ hR
     refine noifN ?_
     refine ⟨_,rfl,_,_,_,rfl,(ks v (List.mem_of_getElem? hi)).keep h4,?_⟩
     refine ⟨h3,by simp only [List.length_map,List.length_take]; rw [sizeLine_eq]; omega,hR _ _ _ ⟨⟨_,rfl⟩,?_,upd_same,same_upd h4 hacc⟩⟩
     rw [take_map_next _ hi,List.map_append]
     rfl
    ·rintro τ ys H2 ⟨⟨o,rfl⟩,rfl,h3,h4⟩
     rw [List.take_length] at h3
     refine ⟨acc,_,rfl,SqL.of h3,_,rfl,?_⟩
     have ea:(xs.map fun y=>wholeV y 0 1000000).all id=xs.all fun y=>wholeV y 0 1000000:=by rw [List.all_map]; rfl
     rw [ea]
     cases e3:xs.all fun y=>wholeV y 0 1000000 with
     | true=>exact iteF (k e3 H2 h4)
     | false=>exact iteT ⟨by show 1≤sizeLine; decide,kx e3 H2 h4⟩
   ·have hd:(!decide (V.int (xs.length:Int)=V.int n))=true:=by simp [e]
    rw [decide_eq_false e,Bool.false_and] at kx
    exact ite_t hd ⟨by show 1≤sizeLine; decide,kx rfl H (Same.refl H)⟩
theorem ok_walked (TT:Txt K mg t):FnOk P w K mg base CX0 1 t.f_walked t.d_walked ["people", "row"] sp_walked:=by
 refine TT.F_walked.ok sc_walked (fun vs H Q E h=>?_) (fun cdv A outer sh H vs Q E hr h=>?_)
 ·obtain ⟨a,b,pe,row,rfl,_⟩:=h
  rfl
 ·obtain ⟨a,b,pe,row,rfl,ha,hb,hl,⟨_,hpe⟩,hlen,k⟩:=h
  refine ⟨_,(pss_one (ps_ret (pe_callB (call_sumL rfl) rfl TT.z_sum WB.bt_sum (pa_cons (pe_comp rfl (N:=["many", "length"]) (fr:=[]) (compOk (N0:=["people", "row"]) (N:=["many", "length"]) (fr:=[]) (sc0:=defScope s_walked) (n0:=0) rfl ⟨rfl,rfl⟩ (by decide +kernel)) (pi_zip rfl TT.z_zip (pa_cons (pv 0) (pa_cons (pv 1) pa_nil))) (fun _ _ _ _ _=>⟨(pg_tupK (K:=K) (n:=2) rfl rfl (pgs_cons (pg_name (i:=0) (show (["many", "length"]:List Str).Nodup by decide +kernel) rfl (Or.inl rfl)) (pgs_cons (pg_name (i:=1) (show (["many", "length"]:List Str).Nodup by decide +kernel) rfl (Or.inl rfl)) pgs_nil)) rfl),pf_none,(pe_op op_mul (pv 0) (pv 1))⟩)) pa_nil)))),?_⟩
  refine ⟨_,rfl,_,rfl,a,b,_,_,rfl,SqL.of ha,SqL.of hb,fun acc hacc=>comp_zip (K:=K) (xs:=pe.map V.int) (zs:=row.map V.int) (by rw [List.length_map,List.length_map]; exact hl) (fun i τ ys H2=>(∃ o1 o2,τ=[o1,o2])∧ys=(dotTo (fun k=>pe.getD k 0) (fun k=>row.getD k 0) i).map V.int∧H2 acc=some (.lst ys)∧Same H H2) ⟨⟨_,_,rfl⟩,rfl,upd_same,same_new hacc⟩
   (fun i τ ys H2 _ ⟨_,_,h3,h4⟩=>⟨SqL.of (h4 _ _ ha),SqL.of (h4 _ _ hb),h3⟩) ?_ ?_⟩
  ·rintro i x z p τ ys H2 R hi hz hp ⟨⟨o1,o2,rfl⟩,rfl,h3,h4⟩ hR
   obtain ⟨v,hv,rfl⟩:=ints_get hi
   obtain ⟨v2,hv2,rfl⟩:=ints_get hz
   have hil:i < pe.length:=(List.getElem?_eq_some_iff.mp hv).1
   have hb:=hpe v (List.mem_of_getElem? hv)
   refine ⟨p,_,rfl,SqT.of upd_same,rfl,_,_,rfl,_,_,rfl,rfl,noif ?_⟩
   refine ⟨_,rfl,_,rfl,_,_,rfl,rfl,.inl ⟨by omega,by omega⟩,(by grind [upd,same_iff]),by rw [List.length_map,dotTo_len,sizeLine_eq]; omega,hR _ _ _ ⟨⟨_,_,rfl⟩,?_,upd_same,(by grind [upd,same_iff])⟩⟩
   rw [dotTo_succ,List.map_append,getD_at hv,getD_at hv2]
   rfl
  ·rintro τ ys H2 ⟨⟨o1,o2,rfl⟩,rfl,h3,h4⟩
   rw [List.length_map] at h3
   exact ⟨acc,_,rfl,SqL.of h3,k H2 h4⟩
theorem okx_walks (TT:Txt K mg t):FnOk P w K mg base (CXE P w base) 5 t.f_walks t.d_walks ["tree", "people"] (spx_walks t.C_Tree t.C_BadNumber):=by
 refine TT.F_walks.okE sc_walks (fun vs H Q E h=>?_) (fun cdv A outer sh H vs Q E hr h=>?_)
 ·rcases h with ⟨x,q,u,n,rs,pe,rfl,_⟩ | ⟨x,q,n,rs,v,rfl,_⟩
  ·rfl
  ·rfl
 ·refine ⟨_,(pss_cons (ps_expr (pe_call (okx_need_people TT) (hr.mono (by decide)) rfl TT.m_need_people TT.F_need_people.kp TT.b_need_people .nil passE (pa_cons (pv 0) (pa_cons (pv 1) pa_nil)))) (pss_one (ps_ret (pe_comp rfl (N:=["row", "people"]) (fr:=[(1,1)]) (compOk (N0:=["tree", "people"]) (N:=["row", "people"]) (fr:=[(1,1)]) (sc0:=defScope s_walks) rfl ⟨rfl,rfl⟩ (by decide +kernel)) (pi_list (pe_call (ok_distances TT) (hr.mono (by decide)) rfl TT.m_distances TT.F_distances.kp TT.b_distances .nil pass0 (pa_cons (pv 0) pa_nil))) (fun _ _ _ _ _=>⟨(pg_name (i:=0) (show (["row", "people"]:List Str).Nodup by decide +kernel) rfl (Or.inl rfl)),pf_none,(pe_call (ok_walked TT) (hr.mono (by decide)) rfl TT.m_walked TT.F_walked.kp TT.b_walked .nil pass0 (pa_cons (pv 1) (pa_cons (pv 0) pa_nil)))⟩))))),?_⟩
  rcases h with h | ⟨x,q,n,rs,v,rfl,T,hv,k⟩
  rotate_left
  ·exact ⟨_,rfl,_,rfl,x,q,n,rs,v,false,rfl,T,hv,fun _=>k,fun z=>(nomatch z)⟩
  obtain ⟨x,q,u,n,rs,pe,rfl,T,hu,hpe,k⟩:=h
  have n1:=T.ok.1
  have n2:=T.ok.2.1
  obtain ⟨N,rfl⟩:=Int.eq_ofNat_of_zero_le (show 0≤n by omega)
  simp only [Int.toNat_natCast] at k hpe
  refine ⟨_,rfl,_,rfl,x,q,N,rs,.ref u,true,rfl,T,people_good hu hpe (by omega),fun z=>(nomatch z),fun _ H0 s0=>?_⟩
  refine ⟨_,rfl,x,q,N,rs,rfl,T.keep s0,fun r H1 hr0 s1 hrows=>?_⟩
  obtain ⟨ps,hr1,hps⟩:=hrows.at
  simp only [Int.toNat_natCast] at hps
  have hpl:ps.length=N:=by have:=Paired.length hps; rw [rowsM_length] at this; exact this
  refine ⟨r,rfl,⟨_,SqL.of hr1⟩,fun acc hacc=>comp_list (K:=K) (xs:=ps.map V.ref) (fun i τ ys H2=>(∃ o,τ=[o,some (.ref u)])∧ys=(((rowsM N rs).take i).map fun row=>(dot pe row).sum).map V.int∧H2 acc=some (.lst ys)∧Same H1 H2) ⟨⟨_,rfl⟩,rfl,upd_same,same_new hacc⟩
   (fun i τ ys H2 _ ⟨_,_,h3,h4⟩=>⟨SqL.of (h4 _ _ hr1),h3⟩) ?_ ?_⟩
  ·rintro i v τ ys H2 R hi ⟨⟨o,rfl⟩,rfl,h3,h4⟩ hR
   obtain ⟨c,row,rfl,hrow,hc⟩:=rows_at hps hi
   obtain ⟨hiN,rfl⟩:=rowsM_at hrow
   have p1:=hpe.1
   refine noifN ?_
   refine ⟨_,rfl,_,rfl,u,c,pe,_,rfl,(by grind [upd,same_iff]),h4 _ _ hc,by rw [rowM_length]; omega,⟨rfl,hpe.2⟩,by omega,fun H3 s3=>⟨(by grind [upd,same_iff]),by rw [List.length_map,List.length_map,List.length_take,rowsM_length,sizeLine_eq]; omega,hR _ _ _ ⟨⟨_,rfl⟩,?_,upd_same,(by grind [upd,same_iff])⟩⟩⟩
   rw [take_map_next _ hrow,List.map_append]
   rfl
  ·rintro τ ys H2 ⟨⟨o,rfl⟩,rfl,h3,h4⟩
   rw [List.length_map,hpl,List.take_of_length_le (by rw [rowsM_length]; exact Nat.le_refl _)] at h3
   exact k acc H2 (by grind [upd,same_iff]) (by grind [upd,same_iff]) h3
theorem okx_medians (TT:Txt K mg t):FnOk P w K mg base (CXE P w base) 6 t.f_medians t.d_medians ["tree", "people"] (spx_medians t.C_Tree t.C_BadNumber):=by
 refine TT.F_medians.okE sc_medians (fun vs H Q E h=>?_) (fun cdv A outer sh H vs Q E hr h=>?_)
 ·obtain ⟨x,q,n,rs,v,rfl,_⟩:=h
  rfl
 ·obtain ⟨x,q,n,rs,v,rfl,T,hv,k⟩:=h
  refine ⟨_,(pss_cons (ps_ret (pe_call (ok_least_places TT) (hr.mono (by decide)) rfl TT.m_least_places TT.F_least_places.kp TT.b_least_places .nil pass0 (pa_cons (pe_call (okx_walks TT) (hr.mono (by decide)) rfl TT.m_walks TT.F_walks.kp TT.b_walks .nil passE (pa_cons (pv 0) (pa_cons (pv 1) pa_nil))) pa_nil))) pss_never),?_⟩
  exact ⟨_,rfl,_,rfl,.inr ⟨x,q,n,rs,v,rfl,T,hv,k⟩⟩
end
end WR
namespace WR
open PySem L2
def sp_dug (t:Adr):Sp:=fun vs H Q _=>∃ (x q:Addr) (n:Int) (rs:List Road) (w:Int),vs=[.ref x,.int w]∧TreeAt t.C_Tree H x q n rs∧0≤w∧w≤12000000∧Lams t H ∧
 ∀ x' p q ws cs H',H x'=none→H p=none→H q=none→KL t H H'→WellsAt t.C_Wells H' x' p q ws cs→ws.Pairwise (·≤·)→cs.Pairwise (·≤·)→Found n.toNat rs w ws cs→Q (.ref x') H'
def sp_least_walk (t:Adr):Sp:=fun vs H Q _=>∃ (x q:Addr) (n:Int) (rs:List Road) (m:Int),vs=[.ref x,.int m]∧TreeAt t.C_Tree H x q n rs∧n≤8∧1≤m∧m≤12∧Lams t H ∧
 ∀ d H',KL t H H'→IsDist n.toNat rs d→Enough n.toNat rs d m→(∀ e,IsDist n.toNat rs e→e < d→¬ Enough n.toNat rs e m)→Q (.int d) H'
def spx_num (t:Adr) (a b:Int) (sp:Sp):Sp:=fun vs H Q E=>sp vs H Q E∨∃ (x q:Addr) (n:Int) (rs:List Road) (v:V),vs=[.ref x,v]∧TreeAt t.C_Tree H x q n rs∧KindV H v∧wholeV v a b=false∧E (.ref t.C_BadNumber) none H
theorem Found.iff {n:Nat} {rs:List Road} {w m:Int} {ws cs:List Int} (W:Tree n rs) (F:Found n rs w ws cs):((ws.length:Int)≤m)↔Enough n rs w m:=by
 obtain ⟨pre,wells,callers,h1,_,D,p,_⟩:=F
 rw [p.length_eq]
 exact D.enough W h1
theorem Found.one {n:Nat} {rs:List Road} {w:Int} {ws cs:List Int} (W:Tree n rs) (F:Found n rs w ws cs) (h0:InV n 0) (h:∀ v,InV n v→far n rs v 0≤w):ws.length≤1:=by
 obtain ⟨pre,wells,callers,h1,_,D,p,_⟩:=F
 rw [p.length_eq]
 exact D.one W h0 h
def lensM (n:Nat) (rs:List Road) (i:Nat):List Int:=((rowsM n rs).take i).flatMap id
theorem lensM_succ {n:Nat} {rs:List Road} {i:Nat} (h:i < n):lensM n rs (i + 1)=lensM n rs i++rowM n rs i:=by
 unfold lensM
 rw [rowsM_take h,List.flatMap_append]
 simp
theorem lensM_len {n:Nat} {rs:List Road}:∀ {i:Nat},i≤n→(lensM n rs i).length=n * i
 | 0,_=>by simp [lensM]
 | i + 1,h=>by
  rw [lensM_succ (by omega),List.length_append,rowM_length,lensM_len (i:=i) (by omega),Nat.mul_succ]
theorem mem_lensM {n:Nat} {rs:List Road} {d:Int}:d∈lensM n rs n↔IsDist n rs d:=by
 unfold lensM
 rw [List.take_of_length_le (by rw [rowsM_length]; exact Nat.le_refl _)]
 unfold rowsM rowM
 simp only [List.mem_flatMap,List.mem_map,List.mem_range,id]
 constructor
 ·rintro ⟨_,⟨i,hi,rfl⟩,hd⟩
  obtain ⟨j,hj,rfl⟩:=List.mem_map.mp hd
  have hj:=List.mem_range.mp hj
  exact ⟨i,j,⟨by omega,by omega⟩,⟨by omega,by omega⟩,rfl⟩
 ·rintro ⟨u,v,hu,hv,rfl⟩
  obtain ⟨i,rfl⟩:=Int.eq_ofNat_of_zero_le hu.1
  obtain ⟨j,rfl⟩:=Int.eq_ofNat_of_zero_le hv.1
  exact ⟨_,⟨i,by have:=hu.2; omega,rfl⟩,List.mem_map.mpr ⟨j,List.mem_range.mpr (by have:=hv.2; omega),rfl⟩⟩
section
variable {P:Program} {w:World} {K:PySem.W.Frag} {mg:Str→Option Value} {base:Heap} {t:Adr}
theorem okx_dug (TT:Txt K mg t) (LB:LamB base mg t):FnOk P w K mg base (CXE P w base) 5 t.f_dug t.d_dug ["tree", "walk"] (spx_num t 0 12000000 (sp_dug t)):=by
 refine TT.F_dug.okE sc_dug (fun vs H Q E h=>?_) (fun cdv A outer sh H vs Q E hr h=>?_)
 ·rcases h with ⟨x,q,n,rs,wk,rfl,_⟩ | ⟨x,q,n,rs,v,rfl,_⟩
  ·rfl
  ·rfl
 ·refine ⟨_,(pss_cons (ps_if (pt_not (pt_val (pe_call (ok_is_whole TT) (hr.mono (by decide)) rfl TT.m_is_whole TT.F_is_whole.kp TT.b_is_whole .nil pass0 (pa_cons (pv 1) (pa_consC pe_int (pa_cons (pe_glob (v:=.int 12000000) rfl TT.g_MOST_WALK ⟨_,rfl⟩) pa_nil)))))) (pss_one (ps_raise raiseE rfl rfl TT.m_BadNumber TT.R_BadNumber PySem.F.excBase_ValueError (by decide +kernel) PySem.F.excBase_ValueError (pa_consC pe_str pa_nil))) pss_nil) (pss_one (ps_ret (pe_call (ok_fewest TT LB) (hr.mono (by decide)) rfl TT.m_fewest TT.F_fewest.kp TT.b_fewest .nil pass0 (pa_cons (pe_call (ok_distances TT) (hr.mono (by decide)) rfl TT.m_distances TT.F_distances.kp TT.b_distances .nil pass0 (pa_cons (pv 0) pa_nil)) (pa_cons (pv 1) pa_nil)))))),?_⟩
  rcases h with h | ⟨x,q,n,rs,v,rfl,T,kv,e,k⟩
  rotate_left
  ·exact ⟨_,rfl,_,_,_,rfl,kv,_,rfl,ite_t (by rw [e]; rfl) ⟨by show 1≤sizeLine; decide,k⟩⟩
  obtain ⟨x,q,n,rs,wk,rfl,T,w0,w1,L,k⟩:=h
  have n1:=T.ok.1
  have n2:=T.ok.2.1
  refine ⟨_,rfl,_,_,_,rfl,.int _,_,rfl,ite_f (by rw [wholeV_iff.mpr ⟨w0,w1⟩]; rfl) ?_⟩
  refine ⟨_,rfl,x,q,n,rs,rfl,T,fun r H1 hr0 s1 hrows=>?_⟩
  refine ⟨_,rfl,r,n.toNat,rs,wk,rfl,hrows.at,T.ok.2.2,by omega,w0,L.same s1,fun x' p' q' ws cs H' hx hp hq _ k' hW o1 o2 F=>?_⟩
  exact k x' p' q' ws cs H' (s1.free hx) (s1.free hp) (s1.free hq) ((KL.of L s1).trans k') hW o1 o2 F
open Classical in
theorem okx_least_walk (TT:Txt K mg t) (LB:LamB base mg t):FnOk P w K mg base (CXE P w base) 5 t.f_least_walk t.d_least_walk ["tree", "many"] (spx_num t 1 12 (sp_least_walk t)):=by
 refine TT.F_least_walk.okE sc_least_walk (fun vs H Q E h=>?_) (fun cdv A outer sh H vs Q E hr h=>?_)
 ·rcases h with ⟨x,q,n,rs,m,rfl,_⟩ | ⟨x,q,n,rs,v,rfl,_⟩
  ·rfl
  ·rfl
 ·refine ⟨_,(pss_cons (ps_if (pt_not (pt_val (pe_call (ok_is_whole TT) (hr.mono (by decide)) rfl TT.m_is_whole TT.F_is_whole.kp TT.b_is_whole .nil pass0 (pa_cons (pv 1) (pa_consC pe_int (pa_cons (pe_glob (v:=.int 12) rfl TT.g_MOST_WELLS ⟨_,rfl⟩) pa_nil)))))) (pss_one (ps_raise raiseE rfl rfl TT.m_BadNumber TT.R_BadNumber PySem.F.excBase_ValueError (by decide +kernel) PySem.F.excBase_ValueError (pa_consC pe_str pa_nil))) pss_nil) (pss_cons (ps_set (i:=2) sc_least_walk.nd rfl (Or.inr rfl) (pe_call (ok_distances TT) (hr.mono (by decide)) rfl TT.m_distances TT.F_distances.kp TT.b_distances .nil pass0 (pa_cons (pv 0) pa_nil))) (pss_cons (ps_set (i:=3) sc_least_walk.nd rfl (Or.inl rfl) (pe_lst pa_nil)) (pss_cons (ps_for PassesOwn.leaving rfl (pi_list (pv 2)) (pg_name (i:=4) sc_least_walk.nd rfl (Or.inl rfl)) (pss_one (ps_expr (pe_bm PySem.F.plainAttrs_list PySem.F.slot_list_extend PySem.F.type_list_extend mt_extend (pv 3) (pa_cons (pv 4) pa_nil))))) (pss_one (ps_ret (pe_callB (call_minL rfl) rfl TT.z_min WB.bt_min (pa_cons (pe_comp rfl (N:=["walk", "table", "many"]) (fr:=[(1,2),(2,1)]) (compOk (N0:=["tree", "many", "table", "lengths", "row"]) (N:=["walk", "table", "many"]) (fr:=[(1,2),(2,1)]) (sc0:=defScope s_least_walk) rfl ⟨rfl,rfl⟩ (by decide +kernel)) (pi_list (pe_callB (call_sortedS rfl) rfl TT.z_sorted WB.bt_sorted (pa_cons (pe_callTy (call_setI rfl) rfl TT.z_set WB.bt_set (pa_cons (pv 3) pa_nil)) pa_nil))) (fun _ _ _ _ _=>⟨(pg_name (i:=0) (show (["walk", "table", "many"]:List Str).Nodup by decide +kernel) rfl (Or.inl rfl)),(pf_one (pt_cmpR op_le (pe_callB (call_len_seqK (K:=K) rfl) rfl TT.z_len WB.bt_len (pa_cons (pe_fldK (K:=K) rfl (pe_call (ok_fewest TT LB) (hr.mono (by decide)) rfl TT.m_fewest TT.F_fewest.kp TT.b_fewest .nil pass0 (pa_cons (pv 1) (pa_cons (pv 0) pa_nil))) rfl) pa_nil)) (pv 2) (nomark _))),(pv 0)⟩)) pa_nil)))))))),?_⟩
  rcases h with h | ⟨x,q,n,rs,v,rfl,T,kv,e,k⟩
  rotate_left
  ·exact ⟨_,rfl,_,_,_,rfl,kv,_,rfl,ite_t (by rw [e]; rfl) ⟨by show 1≤sizeLine; decide,k⟩⟩
  obtain ⟨x,q,n,rs,m,rfl,T,n8,m1,m2,L,k⟩:=h
  have n1:=T.ok.1
  have n2:=T.ok.2.1
  have W:=T.ok.2.2
  obtain ⟨N,rfl⟩:=Int.eq_ofNat_of_zero_le (show 0≤n by omega)
  simp only [Int.toNat_natCast] at W k
  refine ⟨_,rfl,_,_,_,rfl,.int _,_,rfl,ite_f (by rw [wholeV_iff.mpr ⟨m1,m2⟩]; rfl) ?_⟩
  refine ⟨_,rfl,x,q,N,rs,rfl,T,fun r H1 hr0 s1 hrows=>?_⟩
  obtain ⟨ps,hr1,hps⟩:=hrows.at
  simp only [Int.toNat_natCast] at hps
  have hpl:ps.length=N:=by have:=Paired.length hps; rw [rowsM_length] at this; exact this
  have L1:=L.same s1
  refine ⟨by show 0≤sizeLine; decide,fun le hle=>?_⟩
  have h0:InV N 0:=⟨by omega,by omega⟩
  refine ⟨_,rfl,r,rfl,⟨_,SqL.of (same_new hle _ _ hr1)⟩,for_list (K:=K) (a:=r) (xs:=ps.map V.ref) (fun i σ H2=>(∃ v4,σ=[some (.ref x),some (.int m),some (.ref r),some (.ref le),v4])∧Same H1 H2∧H2 le=some (.lst ((lensM N rs i).map V.int)))
   ⟨⟨_,rfl⟩,same_new hle,upd_same⟩ (fun i σ H2 _ ⟨_,e,_⟩=>SqL.of (e _ _ hr1)) ?_ ?_⟩
  ·rintro i v σ H2 hi ⟨⟨v4,rfl⟩,s2,hle2⟩
   obtain ⟨c,row,rfl,hrow,hc⟩:=rows_at hps hi
   obtain ⟨hiN,rfl⟩:=rowsM_at hrow
   have ll:=lensM_len (rs:=rs) (show i≤N by omega)
   have mm:N * i≤8 * 8:=Nat.mul_le_mul (by omega) (by omega)
   refine ⟨_,rfl,.inl ⟨rfl,_,SqL.of hle2⟩,_,rfl,le,c,_,_,rfl,rfl,hle2,s2 _ _ hc,by rw [List.length_map,List.length_map,rowM_length,sizeLine_eq]; omega,⟨_,rfl⟩,fun b o e=>?_,?_⟩
   ·rw [upd_ne (ne_of_none e hle)]; exact s2 _ _ e
   ·rw [upd_same,lensM_succ hiN,List.map_append]
  ·rintro σ H2 ⟨⟨v4,rfl⟩,s2,hle2⟩
   rw [List.length_map,hpl] at hle2
   have ll:=lensM_len (rs:=rs) (Nat.le_refl N)
   have mm:N * N≤8 * 8:=Nat.mul_le_mul (by omega) (by omega)
   refine ⟨_,rfl,le,_,rfl,SqL.of hle2,by omega,fun st ks hst those=>?_⟩
   have few:=W.few_dists (by omega) those.1 fun y hy=>mem_lensM.mp ((those.2 y).mp hy)
   refine ⟨st,ks,rfl,upd_same,few,fun D ms hD pm om=>?_⟩
   generalize setO _ _ st ks=so at hD ⊢
   have inMs:∀ y,y∈ms↔IsDist N rs y:=fun y=>by rw [pm.mem_iff,those.2,mem_lensM]
   have s3:Same H1 (upd (upd H2 st so) D (.lst (ms.map V.int))):=s2.trans ((same_new hst).trans (same_new hD))
   have hD3:upd (upd H2 st so) D (.lst (ms.map V.int)) D=some (.lst (ms.map V.int)):=upd_same
   generalize upd (upd H2 st so) D (.lst (ms.map V.int))=H3 at s3 hD3 ⊢
   have k3:=KL.of L1 s3
   have mlen:ms.length < 64:=by rw [pm.length_eq]; exact few
   refine ⟨D,rfl,⟨_,SqL.of hD3⟩,fun acc hacc=>comp_list (K:=K) (xs:=ms.map V.int) (fun i τ ys H4=>(∃ o,τ=[o,some (.ref r),some (.int m)])∧ys=((ms.take i).filter fun y=>decide (Enough N rs y m)).map V.int∧H4 acc=some (.lst ys)∧KL t H3 H4∧∀ y∈ms.take i,∃ ws cs,Found N rs y ws cs)
    ⟨⟨_,rfl⟩,rfl,upd_same,.of k3.lam' (same_new hacc),fun y hy=>by simp at hy⟩ (fun i τ ys H4 _ ⟨_,_,h3,h4,_⟩=>⟨SqL.of (h4.l hD3),h3⟩) ?_ ?_⟩
   ·rintro i v τ ys H4 R hi ⟨⟨o,rfl⟩,rfl,h3,h4,fs⟩ hR
    obtain ⟨d,hd,rfl⟩:=ints_get hi
    have dist:=(inMs d).mp (List.mem_of_getElem? hd)
    have dn:=W.dist_nn dist
    have ml:=List.length_filter_le (fun y=>decide (Enough N rs y m)) (ms.take i)
    rw [List.length_take] at ml
    refine ⟨_,rfl,_,rfl,r,N,rs,d,rfl,(k3.trans h4).rows ⟨ps,hr1,hps⟩,W,by omega,dn.1,h4.lam',fun x' p' q' ws cs H5 hx hp hq _ k5 hW o1 o2 F=>?_⟩
    obtain ⟨dx',hx'⟩:=hW.ob
    refine ⟨x',t.C_Wells,dx',_,_,rfl,hx',TT.cl_Wells,TT.n_Wells_wells,wflds_wells _ _,p',_,rfl,.inl (SqL.of hW.ws),_,rfl,_,_,rfl,rfl,_,rfl,?_⟩
    have iff:=F.iff (m:=m) W
    have nx:∀ y∈ms.take (i + 1),∃ ws cs,Found N rs y ws cs:=fun y hy=>by
     rw [List.take_add_one,hd] at hy
     rcases List.mem_append.mp hy with hy | hy
     ·exact fs y hy
     ·have:y=d:=by simpa using hy
      subst this; exact ⟨ws,cs,F⟩
    by_cases c:Enough N rs d m
    ·refine ite_t (by rw [List.length_map]; simpa using iff.mpr c) ?_
     refine ⟨_,rfl,k5.l h3,by rw [List.length_map,sizeLine_eq]; omega,hR _ _ _ ⟨⟨_,rfl⟩,?_,upd_same,(h4.trans k5).put hacc (k5.l h3),nx⟩⟩
     rw [filt_take hd,if_pos (by simpa using c),List.map_append]
     rfl
    ·refine ite_f (by rw [List.length_map]; exact decide_eq_false fun z=>c (iff.mp z)) ?_
     refine hR _ _ _ ⟨⟨_,rfl⟩,?_,k5.l h3,h4.trans k5,nx⟩
     rw [filt_take hd,if_neg (by simpa using c),List.append_nil]
   ·rintro τ ys H4 ⟨⟨o,rfl⟩,rfl,h3,h4,fs⟩
    rw [List.length_map,List.take_length] at h3 fs
    obtain ⟨d0,hd0,hall⟩:=W.outmost N (by omega) (Nat.le_refl _)
    obtain ⟨ws0,cs0,F0⟩:=fs d0 ((inMs d0).mpr hd0)
    have e0:Enough N rs d0 m:=(F0.iff W).mp (by have:=F0.one W h0 fun v hv=>hall v hv.1 hv.2; omega)
    have m0:d0∈ms.filter fun y=>decide (Enough N rs y m):=List.mem_filter.mpr ⟨(inMs d0).mpr hd0,by simpa using e0⟩
    have ne:(ms.filter fun y=>decide (Enough N rs y m))≠[]:=fun z=>by rw [z] at m0; simp at m0
    obtain ⟨g1,g2⟩:=minI_mem ne
    refine ⟨acc,_,rfl,SqL.of h3,ne,?_⟩
    refine k _ H4 ((KL.of L s1).trans (k3.trans h4)) ((inMs _).mp (List.mem_filter.mp g1).1) (by simpa using (List.mem_filter.mp g1).2) fun e he hlt z=>?_
    have:=g2 e (List.mem_filter.mpr ⟨(inMs e).mpr he,by simpa using z⟩)
    omega
end
end WR
namespace WR
open PySem L2
structure SortF (K:PySem.W.Frag) (t:Adr) (C:Addr) (j:Nat):Prop where
 X:XCls K C
 f0:PySem.W.kitOne K (.ref C) (.ref t.C_BadTree)=some (decide (j=0))
 f1:PySem.W.kitOne K (.ref C) (.ref t.C_NoVillage)=some (decide (j=1))
 f2:PySem.W.kitOne K (.ref C) (.ref t.C_NoRoad)=some (decide (j=2))
 f3:PySem.W.kitOne K (.ref C) (.ref t.C_BadNumber)=some (decide (j=3))
 f4:PySem.W.kitOne K (.ref C) (.ref t.C_BadRow)=some false
 v:PySem.W.kitOne K (.ref C) (.type "ValueError")=some true
 r:PySem.W.kitCls K (.ref C) (.ref t.C_RoadError)=some true
 lt:j < 4
def wordS (j:Nat):Str:=(["tree", "village", "road", "number"]:List Str).getD j "wrong"
def sp_sort (K:PySem.W.Frag) (t:Adr):Sp:=fun vs H Q _=>∃ (e C:Addr) (dx:Option Addr) (j:Nat),vs=[.ref e]∧H e=some (excO e C dx)∧SortF K t C j∧∀ H',Same H H'→Q (.str (wordS j)) H'
section
variable {P:Program} {w:World} {K:PySem.W.Frag} {mg:Str→Option Value} {base:Heap} {t:Adr}
theorem sortTree (TT:Txt K mg t):SortF K t t.C_BadTree 0:=⟨TT.X_BadTree,TT.k_BadTree_BadTree,TT.o_BadTree_NoVillage,TT.o_BadTree_NoRoad,TT.o_BadTree_BadNumber,TT.o_BadTree_BadRow,TT.v_BadTree,TT.k_BadTree_RoadError,by decide⟩
theorem sortVillage (TT:Txt K mg t):SortF K t t.C_NoVillage 1:=⟨TT.X_NoVillage,TT.o_NoVillage_BadTree,TT.k_NoVillage_NoVillage,TT.o_NoVillage_NoRoad,TT.o_NoVillage_BadNumber,TT.o_NoVillage_BadRow,TT.v_NoVillage,TT.k_NoVillage_RoadError,by decide⟩
theorem sortRoad (TT:Txt K mg t):SortF K t t.C_NoRoad 2:=⟨TT.X_NoRoad,TT.o_NoRoad_BadTree,TT.o_NoRoad_NoVillage,TT.k_NoRoad_NoRoad,TT.o_NoRoad_BadNumber,TT.o_NoRoad_BadRow,TT.v_NoRoad,TT.k_NoRoad_RoadError,by decide⟩
theorem sortNumber (TT:Txt K mg t):SortF K t t.C_BadNumber 3:=⟨TT.X_BadNumber,TT.o_BadNumber_BadTree,TT.o_BadNumber_NoVillage,TT.o_BadNumber_NoRoad,TT.k_BadNumber_BadNumber,TT.o_BadNumber_BadRow,TT.v_BadNumber,TT.k_BadNumber_RoadError,by decide⟩
theorem okh__law_sort (TT:Txt K mg t):FnOkH P w K mg base 1 t.f__law_sort t.d__law_sort ["_law_error"] (sp_sort K t):=by
 refine TT.F__law_sort.okH sc__law_sort (fun vs H Q E h=>?_) (fun cdv A outer sh H vs Q E hr h=>?_)
 ·obtain ⟨e,C,dx,j,rfl,_⟩:=h
  rfl
 ·obtain ⟨e,C,dx,j,rfl,he,F,k⟩:=h
  refine ⟨_,(pss_cons (ps_set (i:=1) sc__law_sort.nd rfl (Or.inl rfl) (pe_lst (pa_cons (pe_callB (call_isinstXK (K:=K) rfl) rfl TT.z_isinstance WB.bt_isinstance (pa_cons (pv 0) (pa_cons (pe_glob (v:=.ref t.C_BadTree) rfl TT.m_BadTree rfl) pa_nil))) (pa_cons (pe_callB (call_isinstXK (K:=K) rfl) rfl TT.z_isinstance WB.bt_isinstance (pa_cons (pv 0) (pa_cons (pe_glob (v:=.ref t.C_NoVillage) rfl TT.m_NoVillage rfl) pa_nil))) (pa_cons (pe_callB (call_isinstXK (K:=K) rfl) rfl TT.z_isinstance WB.bt_isinstance (pa_cons (pv 0) (pa_cons (pe_glob (v:=.ref t.C_NoRoad) rfl TT.m_NoRoad rfl) pa_nil))) pa_nil))))) (pss_cons (ps_set (i:=1) sc__law_sort.nd rfl (Or.inl rfl) (pe_op op_cat (pv 1) (pe_lst (pa_cons (pe_callB (call_isinstXK (K:=K) rfl) rfl TT.z_isinstance WB.bt_isinstance (pa_cons (pv 0) (pa_cons (pe_glob (v:=.ref t.C_BadNumber) rfl TT.m_BadNumber rfl) pa_nil))) (pa_cons (pe_callB (call_isinstXK (K:=K) rfl) rfl TT.z_isinstance WB.bt_isinstance (pa_cons (pv 0) (pa_cons (pe_glob (v:=.ref t.C_BadRow) rfl TT.m_BadRow rfl) pa_nil))) pa_nil))))) (pss_cons (ps_if (PW.pt (pw_or (pt_cmpR op_ne (pe_bm PySem.F.plainAttrs_list PySem.F.slot_list_count PySem.F.type_list_count mt_countT (pv 1) (pa_consC pe_bl pa_nil)) pe_int (nomark _)) (pw_or1 (pt_not (pt_val (pe_callB (call_isinstXTK (K:=K) rfl) rfl TT.z_isinstance WB.bt_isinstance (pa_cons (pv 0) (pa_cons (pe_bltn (v:=.ty "ValueError") rfl TT.z_ValueError WB.bt_ValueError rfl) pa_nil)))))))) (pss_one (ps_ret pe_str)) pss_nil) (pss_one (ps_ret (pe_ix (ix_listK (K:=K) rfl) (pe_lst (pa_consC pe_str (pa_consC pe_str (pa_consC pe_str (pa_consC pe_str (pa_consC pe_str pa_nil)))))) (pe_bm PySem.F.plainAttrs_list PySem.F.slot_list_index PySem.F.type_list_index mt_indexT (pv 1) (pa_consC pe_bl pa_nil)) (fun _ _=>rfl))))))),?_⟩
  refine ⟨_,rfl,e,C,dx,_,_,rfl,he,F.X,F.f0,_,rfl,e,C,dx,_,_,rfl,he,F.X,F.f1,_,rfl,e,C,dx,_,_,rfl,he,F.X,F.f2,by show 3≤sizeLine; decide,fun a1 h1=>?_⟩
  have s1:Same H (upd H a1 (.lst [.bl (decide (j=0)),.bl (decide (j=1)),.bl (decide (j=2))])):=same_new h1
  have l1:upd H a1 (.lst [.bl (decide (j=0)),.bl (decide (j=1)),.bl (decide (j=2))]) a1=some (.lst [.bl (decide (j=0)),.bl (decide (j=1)),.bl (decide (j=2))]):=upd_same
  generalize upd H a1 (.lst [.bl (decide (j=0)),.bl (decide (j=1)),.bl (decide (j=2))])=H1 at s1 l1
  have he1:=s1 _ _ he
  refine ⟨_,rfl,_,rfl,e,C,dx,_,_,rfl,he1,F.X,F.f3,_,rfl,e,C,dx,_,_,rfl,he1,F.X,F.f4,by show 2≤sizeLine; decide,fun a2 h2=>?_⟩
  have s2:Same H1 (upd H1 a2 (.lst [.bl (decide (j=3)),.bl false])):=same_new h2
  have l2:upd H1 a2 (.lst [.bl (decide (j=3)),.bl false]) a2=some (.lst [.bl (decide (j=3)),.bl false]):=upd_same
  generalize upd H1 a2 (.lst [.bl (decide (j=3)),.bl false])=H2 at s2 l2
  refine ⟨a1,a2,_,_,rfl,rfl,s2 _ _ l1,l2,by show 5≤sizeLine; decide,fun a3 h3=>?_⟩
  have s3:Same H (upd H2 a3 (.lst (([decide (j=0),decide (j=1),decide (j=2),decide (j=3),false]:List Bool).map V.bl))):=(s1.trans s2).trans (same_new h3)
  have l3:upd H2 a3 (.lst (([decide (j=0),decide (j=1),decide (j=2),decide (j=3),false]:List Bool).map V.bl)) a3=some (.lst (([decide (j=0),decide (j=1),decide (j=2),decide (j=3),false]:List Bool).map V.bl)):=upd_same
  show tSeq _ _ _ _ (upd H2 a3 (.lst (([decide (j=0),decide (j=1),decide (j=2),decide (j=3),false]:List Bool).map V.bl)))
  generalize upd H2 a3 (.lst (([decide (j=0),decide (j=1),decide (j=2),decide (j=3),false]:List Bool).map V.bl))=H3 at s3 l3
  have he3:=s3 _ _ he
  have j4:j=0∨j=1∨j=2∨j=3:=by have:=F.lt; omega
  have cnt:([decide (j=0),decide (j=1),decide (j=2),decide (j=3),false]:List Bool).countP id=1:=by rcases j4 with rfl | rfl | rfl | rfl <;> rfl
  have at_:([decide (j=0),decide (j=1),decide (j=2),decide (j=3),false]:List Bool)[j]?=some true:=by rcases j4 with rfl | rfl | rfl | rfl <;> rfl
  have bef:∀ m,m < j→([decide (j=0),decide (j=1),decide (j=2),decide (j=3),false]:List Bool)[m]?=some false:=fun m hm=>by
   rcases j4 with rfl | rfl | rfl | rfl
   ·omega
   ·obtain rfl:m=0:=by omega
    rfl
   ·rcases (show m=0∨m=1 by omega) with rfl | rfl <;> rfl
   ·rcases (show m=0∨m=1∨m=2 by omega) with rfl | rfl | rfl <;> rfl
  refine ⟨_,rfl,.inl ⟨rfl,_,SqL.of l3⟩,a3,_,rfl,rfl,SqL.of l3,rfl,_,rfl,ite_f (by rw [cnt]; rfl) ?_⟩
  refine ⟨_,rfl,e,C,dx,_,true,rfl,he3,F.X,F.v,_,rfl,iteF ?_⟩
  refine ⟨by show 5≤sizeLine; decide,fun a4 h4=>?_⟩
  refine ⟨_,rfl,.inl ⟨rfl,_,SqL.of (same_new h4 _ _ l3)⟩,a3,_,j,rfl,rfl,SqL.of (same_new h4 _ _ l3),at_,bef,a4,_,_,.str (wordS j),rfl,rfl,SqL.of upd_same,atI_nat (j:=j) ?_,k _ (s3.trans (same_new h4))⟩
  rcases j4 with rfl | rfl | rfl | rfl <;> rfl
end
end WR
namespace WR
open PySem L2
theorem TreeV.good {H:Hp} {v rv:V} (T:TreeV H v rv true):∃ n p rs,v=.int n∧rv=.ref p∧RoadsAt H p rs∧IsTree n rs:=by
 generalize hb:true=b at T
 cases T with
 | rds R l e=>exact ⟨_,_,_,rfl,rfl,R,e.mp hb.symm⟩
 | _=>cases hb
theorem TreeV.keep {H H':Hp} {v rv:V} {b:Bool} (T:TreeV H v rv b) (s:Same H H'):TreeV H' v rv b:=by
 cases T with
 | nov k e=>exact .nov (k.keep s) e
 | nol k nl =>
  refine .nol (k.keep s) fun a xs e h=>?_
  cases k with
  | tup q=>cases e; rw [s _ _ q] at h; cases h
  | lst q=>exact nl _ _ rfl q
  | _=>cases e
 | bad h hb l e=>exact .bad (s _ _ h) (Paired.mapP hb fun _ _ r=>r.keep s) l e
 | rds R l e=>exact .rds (R.keep s) l e
def treeW (b:Bool):Str:=if b then "" else "tree"
def sp_ltree:Sp:=fun vs H Q _=>∃ (v rv:V) (b:Bool),vs=[v,rv]∧TreeV H v rv b∧∀ H',Same H H'→Q (.str (treeW b)) H'
section
variable {P:Program} {w:World} {K:PySem.W.Frag} {mg:Str→Option Value} {base:Heap} {t:Adr}
theorem ok__law_tree (TT:Txt K mg t):FnOk P w K mg base CX0 7 t.f__law_tree t.d__law_tree ["_law_villages", "_law_roads"] sp_ltree:=by
 refine TT.F__law_tree.ok sc__law_tree (fun vs H Q E h=>?_) (fun cdv A outer sh H vs Q E hr h=>?_)
 ·obtain ⟨v,rv,b,rfl,_⟩:=h
  rfl
 ·obtain ⟨v,rv,b,rfl,T,k⟩:=h
  refine ⟨_,(pss_cons (ps_try (fun cls dx H'=>cls=.ref t.C_BadTree∧dx=none∧Same H H'∧b=false) (i:=2) rfl rfl rfl sc__law_tree.nd rfl rfl rfl TT.m_RoadError TT.X_RoadError (fun pn=>(pss_one (ps_expr (pe_make TT.M_Tree (okx_Tree_init TT) (hr.mono (by decide)) rfl TT.m_Tree TT.b_Tree_init .nil passT (pa_cons (pv 0) (pa_cons (pv 1) pa_nil)))))) (fun a pn=>(pss_one (ps_ret (pe_callH (okh__law_sort TT) ((hr.mono (by decide)).toH _) rfl TT.m__law_sort TT.F__law_sort.kp TT.b__law_sort (pa_cons (pv 2) pa_nil)))))) (pss_one (ps_ret pe_str))),?_⟩
  constructor
  ·refine ⟨_,rfl,_,rfl,fun x dx hx hdx hne=>?_⟩
   have s1:Same H (upd (upd H dx (.own x)) x (.ins t.C_Tree dx [])):=(same_new hdx).trans (same_new (by rw [upd_ne hne.symm]; exact hx))
   cases b with
   | false=>exact .inr ⟨x,dx,v,rv,rfl,upd_same,T.keep s1,fun H2 s2=>⟨rfl,rfl,s1.trans s2,rfl⟩⟩
   | true =>
    obtain ⟨n,p,rs,rfl,rfl,R,I⟩:=T.good
    refine .inl ⟨x,dx,p,n,rs,rfl,upd_same,R.keep s1,I,fun q H2 hq T2 kp=>⟨rfl,?_⟩⟩
    exact k H2 fun c o e=>kp _ _ (s1 _ _ e) (ne_of_none e hx)
  ·rintro cls dx H1 ⟨rfl,rfl,s1,rfl⟩
   refine ⟨t.C_BadTree,rfl,(sortTree TT).r,fun e he=>?_⟩
   exact ⟨_,rfl,e,t.C_BadTree,none,0,rfl,upd_same,sortTree TT,fun H2 s2=>k H2 (s1.trans ((same_new he).trans s2))⟩
end
end WR
namespace WR
open PySem L2
def chainR (m:Nat) (l:Int):List Road:=(List.range m).map fun (k:Nat)=>((k:Int),(k:Int) + 1,l)
theorem chainR_len (m:Nat) (l:Int):(chainR m l).length=m:=by simp [chainR]
theorem chainR_get {m:Nat} {l:Int} {k:Nat} (h:k < m):(chainR m l)[k]?=some ((k:Int),(k:Int) + 1,l):=by
 unfold chainR
 rw [List.getElem?_map,List.getElem?_range h]
 rfl
theorem chainR_succ (m:Nat) (l:Int):chainR (m + 1) l=chainR m l++[((m:Int),(m:Int) + 1,l)]:=by
 unfold chainR
 rw [List.range_succ,List.map_append]
 rfl
theorem chain_tree {m:Nat} {l:Int} (h1:1≤l) (h2:l≤1000000):Tree (m + 1) (chainR m l):=by
 have mem:∀ r∈chainR m l,∃ k:Nat,k < m∧r=((k:Int),(k:Int) + 1,l):=fun r hr=>by
  obtain ⟨k,hk,rfl⟩:=List.mem_map.mp hr
  exact ⟨k,List.mem_range.mp hk,rfl⟩
 refine ⟨⟨fun r hr=>?_,fun r hr=>?_,fun r hr=>?_,fun r hr=>?_⟩,by rw [chainR_len],fun K k0 st v hv=>?_⟩
 ·obtain ⟨k,hk,rfl⟩:=mem r hr
  exact ⟨by show (0:Int)≤k; omega,by show (0:Int)≤(k:Int) + 1; omega⟩
 ·obtain ⟨k,hk,rfl⟩:=mem r hr
  exact ⟨by show (k:Int) < ((m + 1:Nat):Int); omega,by show (k:Int) + 1 < ((m + 1:Nat):Int); omega⟩
 ·obtain ⟨k,hk,rfl⟩:=mem r hr
  show ¬ (k:Int)=(k:Int) + 1
  omega
 ·obtain ⟨k,hk,rfl⟩:=mem r hr
  exact ⟨h1,h2⟩
 ·have go:∀ k:Nat,k≤m→K (k:Int):=fun k=>by
   induction k with
   | zero=>exact fun _=>k0
   | succ k ih=>exact fun hk=>st k _ _ l (ih (by omega)) (.inl (chainR_get (by omega)))
  have:=hv.1
  have:=hv.2
  have:=go v.toNat (by omega)
  rw [show ((v.toNat:Nat):Int)=v by omega] at this
  exact this
end WR
namespace WR
open PySem L2
structure Asks (t:Adr) (H:Hp) (n d:Int) (v:V) (c:Addr):Prop where
 lo:0≤d
 hi:d≤18
 a:d≤9∨d=17→KindV H v∧wholeV v 0 (n - 1)=false∧c=t.C_NoVillage
 b:d=10∨d=11→KindV H v∧wholeV v 0 (n - 2)=false∧c=t.C_NoRoad
 e:d=12→KindV H v∧wholeV v 0 12000000=false∧c=t.C_BadNumber
 f:d=13→KindV H v∧wholeV v 1 12=false∧c=t.C_BadNumber
 g:d=14∨d=15→PeopleV H n v false∧c=t.C_BadNumber
 h:d=16→KindV H v∧wholeV v 1 1000000=false∧c=t.C_BadTree
 i:d=18→c=t.C_BadTree
def spx_ask (t:Adr):Sp:=fun vs H _ E=>∃ (x q:Addr) (n:Int) (rs:List Road) (d:Int) (v:V) (c:Addr),vs=[.ref x,.int d,v]∧TreeAt t.C_Tree H x q n rs∧n=3∧Asks t H n d v c∧∀ H',Same H H'→E (.ref c) none H'
theorem door {d j:Int} (h:decide (V.int d=V.int j)=true):d=j:=by simpa using h
theorem nodoor {d j:Int} (h:¬ decide (V.int d=V.int j)=true):d≠j:=by simpa using h
section
variable {σ:St} {H:Hp} {Q:VK}
theorem rdMk {C:Addr} {sp:Sp} {E:XK} {c:V} {te:TE} {ta:TA} {Qa:List V→Hp→Prop} (h:te σ H fun v H1=>∀ x dx,H1 x=none→H1 dx=none→dx≠x→sp [.ref x,c,v] (upd (upd H1 dx (.own x)) x (.ins C dx [])) (fun r H2=>r=.non∧ta σ H2 fun vs H3=>Qa (.ref x::vs) H3) E) :
  tCons (tMake C sp [] E (tCons (tC c) (tCons te tNil))) ta σ H Qa:=h
theorem rdChain (m:Nat) (l:Int) (hm:m≤100) (k:∀ p H',H p=none→Same H H'→RoadsAt H' p (chainR m l)→Q (.ref p) H') :
  tComp 1 [] (iRng1 (tCons (tC (.int m)) tNil)) (gName 0) tNoIf (tTup (tCons (tVar 0) (tCons (tOp (rI0 fun i j=>V.int (i + j)) (tVar 0) (tC (.int 1))) (tCons (tC (.int l)) tNil)))) σ H Q:=by
 refine ⟨(m:Int),rfl,by omega,by omega,fun acc hacc=>?_⟩
 rw [Int.toNat_natCast]
 refine comp_range (k:=m) (fun j τ ys H2=>(∃ o,τ=[o])∧Reps H2 ys ((chainR j l).map roadD)∧H2 acc=some (.lst ys)∧Same H H2) ⟨⟨_,rfl⟩,.nil,upd_same,same_new hacc⟩ (fun j τ ys H2 _ ⟨_,_,h3,_⟩=>h3) ?_ ?_
 ·rintro j τ ys H2 R hj ⟨⟨o,rfl⟩,hys,h3,h4⟩ hR
  have hly:=hys.length
  rw [List.length_map,chainR_len] at hly
  have e0:(0 + (j:Int))=j:=by omega
  refine noifN ?_
  refine ⟨_,rfl,_,rfl,_,_,rfl,rfl,by show 3≤sizeLine; decide,fun tp htp=>?_⟩
  rw [e0]
  have hat:upd H2 tp (.tup [.int j,.int ((j:Int) + 1),.int l]) acc=some (.lst ys):=same_new htp _ _ h3
  refine ⟨hat,by rw [sizeLine_eq]; omega,hR _ _ _ ⟨⟨_,rfl⟩,?_,upd_same,same_upd (h4.trans (same_new htp)) hacc⟩⟩
  have hfz:∀ c ws,upd H2 tp (.tup [.int j,.int ((j:Int) + 1),.int l]) c=some (.tup ws)→upd (upd H2 tp (.tup [.int j,.int ((j:Int) + 1),.int l])) acc (.lst (ys++[.ref tp])) c=some (.tup ws):=fun c ws e=>by
   rw [upd_ne (ne_of e hat (by intro z; cases z))]; exact e
  rw [chainR_succ,List.map_append]
  exact Reps.append ((hys.keep (same_new htp)).froz hfz (frozs_roads _)) (.cons (roadD_mk (hfz _ _ upd_same)) .nil)
 ·rintro τ ys H2 ⟨⟨o,rfl⟩,hys,h3,h4⟩
  exact k acc H2 hacc h4 ⟨ys,h3,hys⟩
end
section
variable {P:Program} {w:World} {K:PySem.W.Frag} {mg:Str→Option Value} {base:Heap} {t:Adr}
theorem okx__law_ask (TT:Txt K mg t) (LB:LamB base mg t):FnOk P w K mg base (CXE P w base) 8 t.f__law_ask t.d__law_ask ["_law_tree_here", "_law_door", "_law_thing"] (spx_ask t):=by
 refine TT.F__law_ask.okE sc__law_ask (fun vs H Q E h=>?_) (fun cdv A outer sh H vs Q E hr h=>?_)
 ·obtain ⟨x,q,n,rs,d,v,c,rfl,_⟩:=h
  rfl
 ·obtain ⟨x,q,n,rs,d,v,c,rfl,T,n3,B,k⟩:=h
  refine ⟨_,(pss_one (ps_if (pt_cmpR op_eq (pv 1) pe_int (nomark _)) (pss_one (ps_expr (pe_call (okx_far TT) (hr.mono (by decide)) rfl TT.m_far TT.F_far.kp TT.b_far .nil passE (pa_cons (pv 0) (pa_cons (pv 2) (pa_consC pe_int pa_nil)))))) (pss_one (ps_if (pt_cmpR op_eq (pv 1) pe_int (nomark _)) (pss_one (ps_expr (pe_call (okx_far TT) (hr.mono (by decide)) rfl TT.m_far TT.F_far.kp TT.b_far .nil passE (pa_cons (pv 0) (pa_consC pe_int (pa_cons (pv 2) pa_nil)))))) (pss_one (ps_if (pt_cmpR op_eq (pv 1) pe_int (nomark _)) (pss_one (ps_expr (pe_call (okx_way TT) (hr.mono (by decide)) rfl TT.m_way TT.F_way.kp TT.b_way .nil passE (pa_cons (pv 0) (pa_cons (pv 2) (pa_consC pe_int pa_nil)))))) (pss_one (ps_if (pt_cmpR op_eq (pv 1) pe_int (nomark _)) (pss_one (ps_expr (pe_call (okx_way TT) (hr.mono (by decide)) rfl TT.m_way TT.F_way.kp TT.b_way .nil passE (pa_cons (pv 0) (pa_consC pe_int (pa_cons (pv 2) pa_nil)))))) (pss_one (ps_if (pt_cmpR op_eq (pv 1) pe_int (nomark _)) (pss_one (ps_expr (pe_call (okx_errand TT) (hr.mono (by decide)) rfl TT.m_errand TT.F_errand.kp TT.b_errand .nil passE (pa_cons (pv 0) (pa_cons (pv 2) (pa_consC pe_int pa_nil)))))) (pss_one (ps_if (pt_cmpR op_eq (pv 1) pe_int (nomark _)) (pss_one (ps_expr (pe_call (okx_errand TT) (hr.mono (by decide)) rfl TT.m_errand TT.F_errand.kp TT.b_errand .nil passE (pa_cons (pv 0) (pa_consC pe_int (pa_cons (pv 2) pa_nil)))))) (pss_one (ps_if (pt_cmpR op_eq (pv 1) pe_int (nomark _)) (pss_one (ps_expr (pe_call (okx_long TT) (hr.mono (by decide)) rfl TT.m_long TT.F_long.kp TT.b_long .nil passE (pa_cons (pv 0) (pa_cons (pe_lst (pa_consC pe_int (pa_consC pe_int (pa_cons (pv 2) pa_nil)))) pa_nil))))) (pss_one (ps_if (pt_cmpR op_eq (pv 1) pe_int (nomark _)) (pss_one (ps_expr (pe_call (okx_joined TT) (hr.mono (by decide)) rfl TT.m_joined TT.F_joined.kp TT.b_joined .nil passE (pa_cons (pv 0) (pa_cons (pv 2) (pa_cons (pv 0) (pa_consC pe_int pa_nil))))))) (pss_one (ps_if (pt_cmpR op_eq (pv 1) pe_int (nomark _)) (pss_one (ps_expr (pe_call (okx_moved TT) (hr.mono (by decide)) rfl TT.m_moved TT.F_moved.kp TT.b_moved .nil passE (pa_cons (pv 0) (pa_consC pe_int (pa_cons (pv 2) (pa_consC pe_int pa_nil))))))) (pss_one (ps_if (pt_cmpR op_eq (pv 1) pe_int (nomark _)) (pss_one (ps_expr (pe_call (okx_moved TT) (hr.mono (by decide)) rfl TT.m_moved TT.F_moved.kp TT.b_moved .nil passE (pa_cons (pv 0) (pa_consC pe_int (pa_consC pe_int (pa_cons (pv 2) pa_nil))))))) (pss_one (ps_if (pt_cmpR op_eq (pv 1) pe_int (nomark _)) (pss_one (ps_expr (pe_call (okx_sides TT) (hr.mono (by decide)) rfl TT.m_sides TT.F_sides.kp TT.b_sides .nil passE (pa_cons (pv 0) (pa_cons (pv 2) pa_nil))))) (pss_one (ps_if (pt_cmpR op_eq (pv 1) pe_int (nomark _)) (pss_one (ps_expr (pe_call (okx_moved TT) (hr.mono (by decide)) rfl TT.m_moved TT.F_moved.kp TT.b_moved .nil passE (pa_cons (pv 0) (pa_cons (pv 2) (pa_consC pe_non (pa_consC pe_int pa_nil))))))) (pss_one (ps_if (pt_cmpR op_eq (pv 1) pe_int (nomark _)) (pss_one (ps_expr (pe_call (okx_dug TT LB) (hr.mono (by decide)) rfl TT.m_dug TT.F_dug.kp TT.b_dug .nil passE (pa_cons (pv 0) (pa_cons (pv 2) pa_nil))))) (pss_one (ps_if (pt_cmpR op_eq (pv 1) pe_int (nomark _)) (pss_one (ps_expr (pe_call (okx_least_walk TT LB) (hr.mono (by decide)) rfl TT.m_least_walk TT.F_least_walk.kp TT.b_least_walk .nil passE (pa_cons (pv 0) (pa_cons (pv 2) pa_nil))))) (pss_one (ps_if (pt_cmpR op_eq (pv 1) pe_int (nomark _)) (pss_one (ps_expr (pe_call (okx_walks TT) (hr.mono (by decide)) rfl TT.m_walks TT.F_walks.kp TT.b_walks .nil passE (pa_cons (pv 0) (pa_cons (pv 2) pa_nil))))) (pss_one (ps_if (pt_cmpR op_eq (pv 1) pe_int (nomark _)) (pss_one (ps_expr (pe_call (okx_medians TT) (hr.mono (by decide)) rfl TT.m_medians TT.F_medians.kp TT.b_medians .nil passE (pa_cons (pv 0) (pa_cons (pv 2) pa_nil))))) (pss_one (ps_if (pt_cmpR op_eq (pv 1) pe_int (nomark _)) (pss_one (ps_expr (pe_call (okx_joined TT) (hr.mono (by decide)) rfl TT.m_joined TT.F_joined.kp TT.b_joined .nil passE (pa_cons (pv 0) (pa_consC pe_int (pa_cons (pv 0) (pa_cons (pv 2) pa_nil))))))) (pss_one (ps_if (pt_cmpR op_eq (pv 1) pe_int (nomark _)) (pss_one (ps_expr (pe_call (okx_long TT) (hr.mono (by decide)) rfl TT.m_long TT.F_long.kp TT.b_long .nil passE (pa_cons (pv 0) (pa_cons (pe_lst (pa_cons (pv 2) pa_nil)) pa_nil))))) (pss_one (ps_expr (pe_call (okx_joined TT) (hr.mono (by decide)) rfl TT.m_joined TT.F_joined.kp TT.b_joined .nil passE (pa_cons (pe_make TT.M_Tree (okx_Tree_init TT) (hr.mono (by decide)) rfl TT.m_Tree TT.b_Tree_init .nil passE (pa_consC pe_int (pa_cons (pe_comp rfl (N:=["_law_k"]) (fr:=[]) (compOk (N0:=["_law_tree_here", "_law_door", "_law_thing"]) (N:=["_law_k"]) (fr:=[]) (sc0:=defScope s__law_ask) (n0:=0) rfl ⟨rfl,rfl⟩ (by decide +kernel)) (pi_range1 rfl TT.z_range (pa_consC pe_int pa_nil)) (fun _ _ _ _ _=>⟨(pg_name (i:=0) (show (["_law_k"]:List Str).Nodup by decide +kernel) rfl (Or.inl rfl)),pf_none,(pe_tup (pa_cons (pv 0) (pa_consB (pe_op op_add (pv 0) pe_int) (pa_consC pe_int pa_nil))))⟩)) pa_nil))) (pa_consC pe_int (pa_cons (pv 0) (pa_consC pe_int pa_nil))))))))))))))))))))))))))))))))))))))))))),?_⟩
  have k0:=k H (Same.refl H)
  have w0:wholeV (.int 0) 0 (n - 2)=true:=wholeV_iff.mpr ⟨by omega,by omega⟩
  have wv:wholeV (.int 0) 0 (n - 1)=true:=wholeV_iff.mpr ⟨by omega,by omega⟩
  refine ⟨_,rfl,rfl,_,rfl,ite2 (fun h=>?_) (fun h0=>?_)⟩
  ·obtain ⟨kv,e,rfl⟩:=B.a (.inl (by rw [door h]; decide))
   exact ⟨_,rfl,_,rfl,x,q,n,rs,v,.int 0,rfl,T,kv,.int _,fun z=>tf z e,k0⟩
  refine ⟨_,rfl,rfl,_,rfl,ite2 (fun h=>?_) (fun h1=>?_)⟩
  ·obtain ⟨kv,e,rfl⟩:=B.a (.inl (by rw [door h]; decide))
   exact ⟨_,rfl,_,rfl,x,q,n,rs,.int 0,v,rfl,T,.int _,kv,fun _=>e,k0⟩
  refine ⟨_,rfl,rfl,_,rfl,ite2 (fun h=>?_) (fun h2=>?_)⟩
  ·obtain ⟨kv,e,rfl⟩:=B.a (.inl (by rw [door h]; decide))
   exact ⟨_,rfl,_,rfl,x,q,n,rs,v,.int 0,rfl,T,kv,.int _,fun z=>tf z e,k0⟩
  refine ⟨_,rfl,rfl,_,rfl,ite2 (fun h=>?_) (fun h3=>?_)⟩
  ·obtain ⟨kv,e,rfl⟩:=B.a (.inl (by rw [door h]; decide))
   exact ⟨_,rfl,_,rfl,x,q,n,rs,.int 0,v,rfl,T,.int _,kv,fun _=>e,k0⟩
  refine ⟨_,rfl,rfl,_,rfl,ite2 (fun h=>?_) (fun h4=>?_)⟩
  ·obtain ⟨kv,e,rfl⟩:=B.a (.inl (by rw [door h]; decide))
   exact ⟨_,rfl,_,rfl,x,q,n,rs,v,.int 0,rfl,T,kv,.int _,fun z=>tf z e,k0⟩
  refine ⟨_,rfl,rfl,_,rfl,ite2 (fun h=>?_) (fun h5=>?_)⟩
  ·obtain ⟨kv,e,rfl⟩:=B.a (.inl (by rw [door h]; decide))
   exact ⟨_,rfl,_,rfl,x,q,n,rs,.int 0,v,rfl,T,.int _,kv,fun _=>e,k0⟩
  refine ⟨_,rfl,rfl,_,rfl,ite2 (fun h=>?_) (fun h6=>?_)⟩
  ·obtain ⟨kv,e,rfl⟩:=B.a (.inl (by rw [door h]; decide))
   refine ⟨_,rfl,_,rfl,by show 3≤sizeLine; decide,fun u hu=>?_⟩
   have s1:=same_new (o:=.lst [.int 0,.int 2,v]) hu
   refine ⟨x,q,u,n,rs,_,rfl,T.keep s1,upd_same,fun y hy=>?_,fun _=>k _ s1,fun z=>tf (z v (by simp)) e⟩
   have:y=.int 0∨y=.int 2∨y=v:=by simpa using hy
   rcases this with rfl | rfl | rfl
   ·exact .int _
   ·exact .int _
   ·exact kv.keep s1
  refine ⟨_,rfl,rfl,_,rfl,ite2 (fun h=>?_) (fun h7=>?_)⟩
  ·obtain ⟨kv,e,rfl⟩:=B.a (.inl (by rw [door h]; decide))
   exact ⟨_,rfl,_,rfl,_,rfl,x,q,x,q,n,n,rs,rs,v,.int 0,rfl,T,T,kv,.int _,fun _=>k0,fun z=>tf z e⟩
  refine ⟨_,rfl,rfl,_,rfl,ite2 (fun h=>?_) (fun h8=>?_)⟩
  ·obtain ⟨kv,e,rfl⟩:=B.a (.inl (by rw [door h]; decide))
   exact ⟨_,rfl,_,rfl,x,q,n,rs,.int 0,v,.int 0,rfl,T,.int _,kv,.int _,.inr ⟨w0,fun z=>tf z e,k0⟩⟩
  refine ⟨_,rfl,rfl,_,rfl,ite2 (fun h=>?_) (fun h9=>?_)⟩
  ·obtain ⟨kv,e,rfl⟩:=B.a (.inl (by rw [door h]; decide))
   exact ⟨_,rfl,_,rfl,x,q,n,rs,.int 0,.int 0,v,rfl,T,.int _,.int _,kv,.inr ⟨w0,fun _=>e,k0⟩⟩
  refine ⟨_,rfl,rfl,_,rfl,ite2 (fun h=>?_) (fun h10=>?_)⟩
  ·obtain ⟨kv,e,rfl⟩:=B.b (.inl (door h))
   exact ⟨_,rfl,_,rfl,x,q,n,rs,v,rfl,T,kv,e,k0⟩
  refine ⟨_,rfl,rfl,_,rfl,ite2 (fun h=>?_) (fun h11=>?_)⟩
  ·obtain ⟨kv,e,rfl⟩:=B.b (.inr (door h))
   exact ⟨_,rfl,_,rfl,x,q,n,rs,v,.non,.int 0,rfl,T,kv,.non,.int _,.inl ⟨e,k0⟩⟩
  refine ⟨_,rfl,rfl,_,rfl,ite2 (fun h=>?_) (fun h12=>?_)⟩
  ·obtain ⟨kv,e,rfl⟩:=B.e (door h)
   exact ⟨_,rfl,_,rfl,.inr ⟨x,q,n,rs,v,rfl,T,kv,e,k0⟩⟩
  refine ⟨_,rfl,rfl,_,rfl,ite2 (fun h=>?_) (fun h13=>?_)⟩
  ·obtain ⟨kv,e,rfl⟩:=B.f (door h)
   exact ⟨_,rfl,_,rfl,.inr ⟨x,q,n,rs,v,rfl,T,kv,e,k0⟩⟩
  refine ⟨_,rfl,rfl,_,rfl,ite2 (fun h=>?_) (fun h14=>?_)⟩
  ·obtain ⟨e,rfl⟩:=B.g (.inl (door h))
   exact ⟨_,rfl,_,rfl,.inr ⟨x,q,n,rs,v,rfl,T,e,k⟩⟩
  refine ⟨_,rfl,rfl,_,rfl,ite2 (fun h=>?_) (fun h15=>?_)⟩
  ·obtain ⟨e,rfl⟩:=B.g (.inr (door h))
   exact ⟨_,rfl,_,rfl,x,q,n,rs,v,rfl,T,e,k⟩
  refine ⟨_,rfl,rfl,_,rfl,ite2 (fun h=>?_) (fun h16=>?_)⟩
  ·obtain ⟨kv,e,rfl⟩:=B.h (door h)
   exact ⟨_,rfl,_,rfl,_,rfl,x,q,x,q,n,n,rs,rs,.int 0,v,rfl,T,T,.int _,kv,fun z=>tf wv z,fun _=>⟨.inr e,k⟩⟩
  refine ⟨_,rfl,rfl,_,rfl,ite2 (fun h=>?_) (fun h17=>?_)⟩
  ·obtain ⟨kv,e,rfl⟩:=B.a (.inr (door h))
   refine ⟨_,rfl,_,rfl,by show 1≤sizeLine; decide,fun u hu=>?_⟩
   have s1:=same_new (o:=.lst [v]) hu
   refine ⟨x,q,u,n,rs,_,rfl,T.keep s1,upd_same,fun y hy=>?_,fun _=>k _ s1,fun z=>tf (z v (by simp)) e⟩
   have:y=v:=by simpa using hy
   subst this
   exact kv.keep s1
  have d18:d=18:=by
   have:=nodoor h0; have:=nodoor h1; have:=nodoor h2; have:=nodoor h3; have:=nodoor h4; have:=nodoor h5; have:=nodoor h6; have:=nodoor h7; have:=nodoor h8; have:=nodoor h9; have:=nodoor h10; have:=nodoor h11; have:=nodoor h12; have:=nodoor h13; have:=nodoor h14; have:=nodoor h15; have:=nodoor h16; have:=nodoor h17
   have:=B.lo; have:=B.hi
   omega
  obtain rfl:=B.i d18
  clear h0 h1 h2 h3 h4 h5 h6 h7 h8 h9 h10 h11 h12 h13 h14 h15 h16 h17 d18 B
  unfold tDrop tCall
  refine rdMk (rdChain 9 1 (by decide) fun p H1 hp s1 R=>?_)
  refine fun y dy hy hdy hne=>?_
  have s2:Same H1 (upd (upd H1 dy (.own y)) y (.ins t.C_Tree dy [])):=(same_new hdy).trans (same_new (by rw [upd_ne hne.symm]; exact hy))
  refine .inl ⟨y,dy,p,10,_,rfl,upd_same,R.keep s2,⟨by decide,by decide,chain_tree (m:=9) (by decide) (by decide)⟩,fun yq H2 hyq Ty kp=>⟨rfl,?_⟩⟩
  have s3:Same H H2:=fun b o e=>kp _ _ (s2 _ _ (s1 _ _ e)) (ne_of_none (s1 _ _ e) hy)
  exact ⟨_,rfl,y,yq,x,q,10,n,_,rs,.int 0,.int 1,rfl,Ty,T.keep s3,.int _,.int _,fun z=>tf (wholeV_iff.mpr ⟨by decide,by decide⟩) z,fun _=>⟨.inl (by omega),fun H3 s4=>k H3 (s3.trans s4)⟩⟩
end
end WR
namespace WR
open PySem L2
theorem PeopleV.keep {H H':Hp} {n:Int} {v:V} {b:Bool} (p:PeopleV H n v b) (s:Same H H'):PeopleV H' n v b:=by
 cases p with
 | no k nl =>
  refine .no (k.keep s) fun a xs e h=>?_
  cases k with
  | tup q=>cases e; rw [s _ _ q] at h; cases h
  | lst q=>exact nl _ _ rfl q
  | _=>cases e
 | lst h ks l=>exact .lst (s _ _ h) (fun y hy=>(ks y hy).keep s) l
theorem Asks.keep {t:Adr} {H H':Hp} {n d:Int} {v:V} {c:Addr} (A:Asks t H n d v c) (s:Same H H'):Asks t H' n d v c :=
 ⟨A.lo,A.hi,fun z=>let ⟨k,e⟩:=A.a z; ⟨k.keep s,e⟩,fun z=>let ⟨k,e⟩:=A.b z; ⟨k.keep s,e⟩,fun z=>let ⟨k,e⟩:=A.e z; ⟨k.keep s,e⟩,fun z=>let ⟨k,e⟩:=A.f z; ⟨k.keep s,e⟩,fun z=>let ⟨k,e⟩:=A.g z; ⟨k.keep s,e⟩,fun z=>let ⟨k,e⟩:=A.h z; ⟨k.keep s,e⟩,A.i⟩
def sp_asked (K:PySem.W.Frag) (t:Adr):Sp:=fun vs H Q _=>∃ (x q:Addr) (n:Int) (rs:List Road) (d:Int) (v:V) (c:Addr) (j:Nat),vs=[.ref x,.int d,v]∧TreeAt t.C_Tree H x q n rs∧n=3∧Asks t H n d v c∧SortF K t c j∧∀ H',Same H H'→Q (.str (wordS j)) H'
def sp_all (K:PySem.W.Frag) (t:Adr):Sp:=fun vs H Q _=>∃ (x q a b:Addr) (n:Int) (rs:List Road) (ds:List Int) (ts:List V) (c:Addr) (j:Nat),vs=[.ref x,.ref a,.ref b,.str (wordS j)]∧TreeAt t.C_Tree H x q n rs∧n=3∧H a=some (.lst (ds.map V.int))∧H b=some (.lst ts)∧ts.length≤100 ∧
 (∀ d∈ds,∀ v∈ts,Asks t H n d v c)∧SortF K t c j∧∀ H',Same H H'→Q (.bl true) H'
section
variable {P:Program} {w:World} {K:PySem.W.Frag} {mg:Str→Option Value} {base:Heap} {t:Adr}
theorem ok__law_asked (TT:Txt K mg t) (LB:LamB base mg t):FnOk P w K mg base CX0 9 t.f__law_asked t.d__law_asked ["_law_tree_here", "_law_door", "_law_thing"] (sp_asked K t):=by
 refine TT.F__law_asked.ok sc__law_asked (fun vs H Q E h=>?_) (fun cdv A outer sh H vs Q E hr h=>?_)
 ·obtain ⟨x,q,n,rs,d,v,c,j,rfl,_⟩:=h
  rfl
 ·obtain ⟨x,q,n,rs,d,v,c,j,rfl,T,n3,B,F,k⟩:=h
  refine ⟨_,(pss_cons (ps_try (fun cls dx H'=>cls=.ref c∧dx=none∧Same H H') (i:=3) rfl rfl rfl sc__law_asked.nd rfl rfl rfl TT.m_RoadError TT.X_RoadError (fun pn=>(pss_one (ps_expr (pe_call (okx__law_ask TT LB) (hr.mono (by decide)) rfl TT.m__law_ask TT.F__law_ask.kp TT.b__law_ask .nil passT (pa_cons (pv 0) (pa_cons (pv 1) (pa_cons (pv 2) pa_nil))))))) (fun a pn=>(pss_one (ps_ret (pe_callH (okh__law_sort TT) ((hr.mono (by decide)).toH _) rfl TT.m__law_sort TT.F__law_sort.kp TT.b__law_sort (pa_cons (pv 3) pa_nil)))))) (pss_one (ps_ret pe_str))),?_⟩
  constructor
  ·exact ⟨_,rfl,_,rfl,_,rfl,x,q,n,rs,d,v,c,rfl,T,n3,B,fun H1 s1=>⟨rfl,rfl,s1⟩⟩
  ·rintro cls dx H1 ⟨rfl,rfl,s1⟩
   refine ⟨c,rfl,F.r,fun e he=>?_⟩
   exact ⟨_,rfl,e,c,none,j,rfl,upd_same,F,fun H2 s2=>k H2 (s1.trans ((same_new he).trans s2))⟩
theorem ok__law_all (TT:Txt K mg t) (LB:LamB base mg t):FnOk P w K mg base CX0 10 t.f__law_all t.d__law_all ["_law_tree_here", "_law_doors", "_law_things", "_law_due"] (sp_all K t):=by
 refine TT.F__law_all.ok sc__law_all (fun vs H Q E h=>?_) (fun cdv A outer sh H vs Q E hr h=>?_)
 ·obtain ⟨x,q,a,b,n,rs,ds,ts,c,j,rfl,_⟩:=h
  rfl
 ·obtain ⟨x,q,a,b,n,rs,ds,ts,c,j,rfl,T,n3,ha,hb,hl,B,F,k⟩:=h
  refine ⟨_,(pss_cons (ps_for PassesOwn.never rfl (pi_list (pv 1)) (pg_name (i:=4) sc__law_all.nd rfl (Or.inr rfl)) (pss_one (ps_if (pt_not (pt_val (pe_callB (call_all rfl) rfl TT.z_all WB.bt_all (pa_cons (pe_comp rfl (N:=["_law_thing", "_law_tree_here", "_law_door", "_law_due"]) (fr:=[(1,0),(2,4),(3,3)]) (compOk (N0:=["_law_tree_here", "_law_doors", "_law_things", "_law_due", "_law_door"]) (N:=["_law_thing", "_law_tree_here", "_law_door", "_law_due"]) (fr:=[(1,0),(2,4),(3,3)]) (sc0:=defScope s__law_all) rfl ⟨rfl,rfl⟩ (by decide +kernel)) (pi_list (pv 2)) (fun _ _ _ _ _=>⟨(pg_name (i:=0) (show (["_law_thing", "_law_tree_here", "_law_door", "_law_due"]:List Str).Nodup by decide +kernel) rfl (Or.inl rfl)),pf_none,(pe_cmpR op_eq (pe_call (ok__law_asked TT LB) (hr.mono (by decide)) rfl TT.m__law_asked TT.F__law_asked.kp TT.b__law_asked .nil pass0 (pa_cons (pv 1) (pa_cons (pv 2) (pa_cons (pv 0) pa_nil)))) (pv 3) (nomark _))⟩)) pa_nil)))) (pss_one (ps_ret pe_bl)) pss_nil))) (pss_one (ps_ret pe_bl))),?_⟩
  refine ⟨_,rfl,a,rfl,⟨_,SqL.of ha⟩,for_list (K:=K) (a:=a) (xs:=ds.map V.int) (fun i σ H2=>(∃ v4,σ=[some (.ref x),some (.ref a),some (.ref b),some (.str (wordS j)),v4])∧Same H H2) ⟨⟨none,rfl⟩,Same.refl _⟩ (fun i σ H2 _ ⟨_,e⟩=>SqL.of (e _ _ ha)) ?_ ?_⟩
  ·rintro i z σ H2 hi ⟨⟨v4,rfl⟩,s2⟩
   obtain ⟨d,hd,rfl⟩:=ints_get hi
   have hd:=List.mem_of_getElem? hd
   refine ⟨_,rfl,b,rfl,⟨_,SqL.of (s2 _ _ hb)⟩,fun acc hacc=>comp_list (K:=K) (xs:=ts) (fun i τ ys H3=>(∃ o,τ=[o,some (.ref x),some (.int d),some (.str (wordS j))])∧ys=((ts.take i).map fun _=>true).map V.bl∧H3 acc=some (.lst ys)∧Same H2 H3) ⟨⟨_,rfl⟩,rfl,upd_same,same_new hacc⟩
    (fun i τ ys H3 _ ⟨_,_,h3,h4⟩=>⟨SqL.of (h4 _ _ (s2 _ _ hb)),h3⟩) ?_ ?_⟩
   ·rintro i v τ ys H3 R hi ⟨⟨o,rfl⟩,rfl,h3,h4⟩ hR
    have s3:=s2.trans h4
    refine noifN ?_
    refine ⟨_,rfl,_,rfl,_,rfl,x,q,n,rs,d,v,c,j,rfl,T.keep s3,n3,(B d hd v (List.mem_of_getElem? hi)).keep s3,F,fun H4 s4=>⟨_,rfl,rfl,?_⟩⟩
    have e:decide (V.str (wordS j)=V.str (wordS j))=true:=decide_eq_true rfl
    rw [e]
    refine ⟨s4 _ _ h3,by rw [List.length_map,List.length_map,List.length_take,sizeLine_eq]; omega,hR _ _ _ ⟨⟨_,rfl⟩,?_,upd_same,same_upd (h4.trans s4) hacc⟩⟩
    rw [take_map_next _ hi,List.map_append]
    rfl
   ·rintro τ ys H3 ⟨⟨o,rfl⟩,rfl,h3,h4⟩
    refine ⟨acc,_,rfl,SqL.of h3,_,rfl,ite_f ?_ ⟨⟨_,rfl⟩,s2.trans h4⟩⟩
    have:((List.take ts.length ts).map fun _=>true).all id=true:=by
     rw [List.all_eq_true]
     intro b hb
     obtain ⟨_,_,rfl⟩:=List.mem_map.mp hb
     rfl
    rw [this]; rfl
  ·rintro σ H2 ⟨⟨v4,rfl⟩,s2⟩
   exact k H2 s2
end
end WR
namespace WR
open PySem L2
def MkE (Pv:Hp→V→Prop) (te:TE) (σ:St):Prop:=∀ (H:Hp) (Q:VK),(∀ v H',Same H H'→Pv H' v→Q v H')→te σ H Q
def MkA (Pv:Hp→V→Prop) (n:Nat) (ta:TA) (σ:St):Prop:=∀ (H:Hp) (Q:List V→Hp→Prop),(∀ vs H',Same H H'→(∀ v∈vs,Pv H' v)→vs.length=n→Q vs H')→ta σ H Q
def Mono (Pv:Hp→V→Prop):Prop:=∀ H H' v,Pv H v→Same H H'→Pv H' v
section
variable {Pv:Hp→V→Prop} {σ:St} {te:TE} {ta:TA} {n:Nat}
theorem MkA.nil:MkA Pv 0 tNil σ:=fun H Q k=>k [] H (Same.refl H) (by simp) rfl
theorem MkA.cons (m:Mono Pv) (h1:MkE Pv te σ) (h2:MkA Pv n ta σ):MkA Pv (n + 1) (tCons te ta) σ:=fun H Q k =>
 h1 H _ fun v H1 s1 p=>h2 H1 _ fun vs H2 s2 ps l=>k (v::vs) H2 (s1.trans s2) (fun y hy=>by
  rcases List.mem_cons.mp hy with rfl | hy
  ·exact m _ _ _ p s2
  ·exact ps y hy) (by rw [List.length_cons,l])
theorem MkA.lst (h:MkA Pv n ta σ) (m:Mono Pv) (hn:n≤1000) {H:Hp} {Q:VK} (k:∀ p vs H',H p=none→Same H H'→H' p=some (.lst vs)→(∀ v∈vs,Pv H' v)→vs.length=n→Q (.ref p) H'):tLst ta σ H Q :=
 h H _ fun vs H1 s1 ps l=>⟨by rw [l,sizeLine_eq]; omega,fun p hp=>k p vs _ (s1.free hp) (s1.trans (same_new hp)) upd_same (fun v hv=>m _ _ _ (ps v hv) (same_new hp)) l⟩
theorem MkE.c {v:V} (h:∀ H,Pv H v):MkE Pv (tC v) σ:=fun H Q k=>k v H (Same.refl H) (h H)
theorem MkE.i {i:Int} (e:∀ H (Q:VK),Q (.int i) H→te σ H Q) (h:∀ H,Pv H (.int i)):MkE Pv te σ:=fun H Q k=>e H Q (k _ H (Same.refl H) (h H))
theorem MkE.tup {xs:List V} (e:∀ H (Q:List V→Hp→Prop),Q xs H→ta σ H Q) (hl:xs.length≤1000) (h:∀ H a,H a=some (.tup xs)→Pv H (.ref a)):MkE Pv (tTup ta) σ:=fun H Q k =>
 e H _ ⟨by rw [sizeLine_eq]; omega,fun p hp=>k _ _ (same_new hp) (h _ _ upd_same)⟩
end
def Bad2 (H:Hp) (v:V):Prop:=TreeV H (.int 2) v false
theorem bad2_mono:Mono Bad2:=fun _ _ _ T s=>T.keep s
def NoRd (H:Hp) (v:V):Prop:=RoadV H 2 v false
theorem nord_mono:Mono NoRd:=fun _ _ _ T s=>T.keep s
section
variable {σ:St} {te:TE} {ta:TA} {n:Nat}
theorem bad_roads {H:Hp} {a:Addr} {vs:List V} (h:H a=some (.lst vs)) (hv:∀ v∈vs,NoRd H v) (l:vs.length≤1000) (ne:vs≠[]):Bad2 H (.ref a):=by
 have pr:∀ {vs:List V},(∀ v∈vs,NoRd H v)→Paired (RoadV H 2) vs (vs.map fun _=>false):=fun {vs}=>by
  induction vs with
  | nil=>exact fun _=>.nil
  | cons v vs ih=>exact fun hv=>.cons (hv v (List.mem_cons_self ..)) (ih fun y hy=>hv y (List.mem_cons_of_mem _ hy))
 refine .bad h (pr hv) l (.inr ?_)
 cases vs with
 | nil=>exact absurd rfl ne
 | cons v vs=>rfl
theorem bad_lst (h:MkA NoRd (n + 1) ta σ) (hn:n + 1≤1000):MkE Bad2 (tLst ta) σ:=fun H Q k =>
 h.lst nord_mono hn fun p vs H1 hp s1 h1 hv l=>k _ H1 s1 (bad_roads h1 hv (by omega) fun z=>by rw [z] at l; cases l)
theorem nord3 {x y z:V} (e:∀ H (Q:List V→Hp→Prop),Q [x,y,z] H→ta σ H Q) (kx:∀ H,KindV H x) (ky:∀ H,KindV H y) (kz:∀ H,KindV H z) (b:triB 2 x y z=false):MkE NoRd (tTup ta) σ :=
 .tup e (by simp) fun H a h=>by
  have:=RoadV.tri (n:=2) h (kx H) (ky H) (kz H)
  rw [b] at this
  exact this
end
end WR
namespace WR
open PySem L2
section
variable {σ:St} {te:TE} {ta:TA} {n:Nat} {xs:List V} {m:Int}
theorem bNon:MkE Bad2 (tC .non) σ:=.c fun H=>.nol .non fun a xs e=>(nomatch e)
theorem bNil:MkE Bad2 (tLst tNil) σ:=fun H Q k=>⟨by show 0≤sizeLine; decide,fun p hp=>k _ _ (same_new hp) (.bad (bs:=[]) upd_same .nil (by simp) (.inl (by decide)))⟩
theorem bTup (e:∀ H (Q:List V→Hp→Prop),Q xs H→ta σ H Q) (hl:xs.length≤1000):MkE Bad2 (tTup (tCons (tTup ta) tNil)) σ:=fun H Q k =>
 e H _ ⟨by rw [sizeLine_eq]; omega,fun a ha=>⟨by show 1≤sizeLine; decide,fun p hp=>k _ _ ((same_new ha).trans (same_new hp)) (.nol (.tup upd_same) fun c zs z h=>by cases z; rw [upd_same] at h; cases h)⟩⟩
theorem nTup (e:∀ H (Q:List V→Hp→Prop),Q xs H→ta σ H Q) (hl:xs.length≤1000) (h3:xs.length≠3):MkE NoRd (tTup ta) σ:=.tup e hl fun H a h=>.len h h3
theorem nLst (e:∀ H (Q:List V→Hp→Prop),Q xs H→ta σ H Q) (hl:xs.length≤1000):MkE NoRd (tLst ta) σ:=fun H Q k =>
 e H _ ⟨by rw [sizeLine_eq]; omega,fun p hp=>k _ _ (same_new hp) (.no (.lst upd_same) fun c zs z h=>by cases z; rw [upd_same] at h; cases h)⟩
theorem nInt (i:Int):MkE NoRd (tC (.int i)) σ:=.c fun H=>.no (.int i) fun a xs e=>(nomatch e)
theorem b1 (h:MkE NoRd te σ):MkE Bad2 (tLst (tCons te tNil)) σ:=bad_lst (n:=0) (.cons nord_mono h .nil) (by decide)
theorem bC (x y z:V) (kx:∀ H,KindV H x) (ky:∀ H,KindV H y) (kz:∀ H,KindV H z) (b:triB 2 x y z=false):MkE Bad2 (tLst (tCons (tTup (tCons (tC x) (tCons (tC y) (tCons (tC z) tNil)))) tNil)) σ:=b1 (nord3 (fun _ _ h=>h) kx ky kz b)
theorem nTwo:MkE Bad2 (tLst (tCons (tTup (tCons (tC (.int 0)) (tCons (tC (.int 1)) (tCons (tC (.int 1)) tNil)))) (tCons (tTup (tCons (tC (.int 0)) (tCons (tC (.int 1)) (tCons (tC (.int 1)) tNil)))) tNil))) σ:=fun H Q k =>
 ⟨by show 3≤sizeLine; decide,fun a ha=>⟨by show 3≤sizeLine; decide,fun c hc=>⟨by show 2≤sizeLine; decide,fun p hp=>by
  have s1:=same_new (o:=.tup [.int 0,.int 1,.int 1]) ha
  have s2:=same_new (o:=.tup [.int 0,.int 1,.int 1]) hc
  have s3:=same_new (o:=.lst [.ref a,.ref c]) hp
  exact k _ _ (s1.trans (s2.trans s3)) (.bad upd_same (.cons (.tri (s3 _ _ (s2 _ _ upd_same)) (.int _) (.int _) (.int _)) (.cons (.tri (s3 _ _ upd_same) (.int _) (.int _) (.int _)) .nil)) (by simp) (.inl (by show ¬ ((2:Nat):Int)=2 - 1; decide)))⟩⟩⟩
theorem nIn:MkE NoRd (tTup (tCons (tLst (tCons (tC (.int 0)) tNil)) (tCons (tC (.int 1)) (tCons (tC (.int 1)) tNil)))) σ:=fun H Q k =>
 ⟨by show 1≤sizeLine; decide,fun a ha=>⟨by show 3≤sizeLine; decide,fun p hp=>by
  have s1:=same_new (o:=.lst [.int 0]) ha
  have s2:=same_new (o:=.tup [.ref a,.int 1,.int 1]) hp
  have:=RoadV.tri (n:=2) (H:=upd (upd H a (.lst [.int 0])) p (.tup [.ref a,.int 1,.int 1])) upd_same (.lst (s2 _ _ upd_same)) (.int _) (.int _)
  exact k _ _ (s1.trans s2) this⟩⟩
theorem nPlus (h0:σ[0]?=some (some (.int m))) (hm:0≤m):MkE NoRd (tTup (tCons (tC (.int 0)) (tCons (tOp (rI0 fun i j=>V.int (i + j)) (tC (.int 2)) (tVar 0)) (tCons (tC (.int 1)) tNil)))) σ :=
 nord3 (x:=.int 0) (y:=.int (2 + m)) (z:=.int 1) (fun _ _ h=>⟨_,h0,_,_,rfl,rfl,h⟩) (fun _=>.int _) (fun _=>.int _) (fun _=>.int _) (by
  have:wholeV (.int (2 + m)) 0 (2 - 1)=false:=by show (decide (0≤2 + m)&&decide (2 + m≤2 - 1))=false; simp; omega
  unfold triB; rw [this,Bool.and_false]; rfl)
theorem nMinus (h0:σ[0]?=some (some (.int m))) (hm:0≤m):MkE NoRd (tTup (tCons (tOp (rI0 fun i j=>V.int (i - j)) (tUn (rU fun i=>V.int (-i)) (tC (.int 1))) (tVar 0)) (tCons (tC (.int 1)) (tCons (tC (.int 1)) tNil)))) σ :=
 nord3 (x:=.int (-1 - m)) (y:=.int 1) (z:=.int 1) (fun _ _ h=>⟨_,rfl,_,h0,_,_,rfl,rfl,h⟩) (fun _=>.int _) (fun _=>.int _) (fun _=>.int _) (by
  have:wholeV (.int (-1 - m)) 0 (2 - 1)=false:=by show (decide (0≤-1 - m)&&decide (-1 - m≤2 - 1))=false; simp; omega
  unfold triB; rw [this]; rfl)
theorem nLong (h0:σ[0]?=some (some (.int m))) (hm:0≤m):MkE NoRd (tTup (tCons (tC (.int 0)) (tCons (tC (.int 1)) (tCons (tOp (rI0 fun i j=>V.int (i + j)) (tC (.int 1000001)) (tVar 0)) tNil)))) σ :=
 nord3 (x:=.int 0) (y:=.int 1) (z:=.int (1000001 + m)) (fun _ _ h=>⟨_,h0,_,_,rfl,rfl,h⟩) (fun _=>.int _) (fun _=>.int _) (fun _=>.int _) (by
  have:wholeV (.int (1000001 + m)) 1 1000000=false:=by show (decide (1≤1000001 + m)&&decide (1000001 + m≤1000000))=false; simp; omega
  unfold triB; rw [this,Bool.and_false])
end
end WR
namespace WR
open PySem L2
def r3:List Road:=[(0,1,5),(1,2,7)]
theorem tree3:Tree 3 r3:=by
 refine ⟨⟨by decide,by decide,by decide,by decide⟩,rfl,fun K k0 st v hv=>?_⟩
 have k1:K 1:=st 0 0 1 5 k0 (.inl rfl)
 have k2:K 2:=st 1 1 2 7 k1 (.inl rfl)
 have:=hv.1
 have:=hv.2
 rcases (show v=0∨v=1∨v=2 by omega) with rfl | rfl | rfl
 ·exact k0
 ·exact k1
 ·exact k2
theorem three {v:Int} (h:InV 3 v):v=0∨v=1∨v=2:=by
 have:=h.1
 have:=h.2
 omega
theorem no02 (l:Int):(2,l) ∉ stepsM r3 0:=by
 show (2,l) ∉ [((1:Int),(5:Int))]
 simp
theorem some3 {w:Int} {pre wells callers:List Int} (h:∀ v,InV 3 v→v∈pre) (D:Dug 3 r3 w pre wells callers):wells≠[]:=fun e=>by
 obtain ⟨x,hx,_⟩:=D.cover 0 (h 0 ⟨by decide,by decide⟩)
 rw [e] at hx
 simp at hx
theorem in3 {v:Int} (h:v=0∨v=1∨v=2):InV 3 v:=by
 refine ⟨by omega,?_⟩
 show v < 3
 omega
theorem enough3:Enough 3 r3 0 12:=by
 refine ⟨[0,1,2],[0,1,2],[0,1,2],fun v hv=>by rcases three hv with rfl | rfl | rfl <;> simp,⟨rfl,fun x hx=>in3 (by simpa using hx),fun x hx=>⟨in3 (by simpa using hx),hx⟩,fun i c hc=>?_,fun v hv=>⟨v,hv,?_⟩,?_⟩,by decide⟩
 ·have iv:InV 3 c:=in3 (by simpa using List.mem_of_getElem? hc)
  refine ⟨c,hc,⟨iv,by rw [tree3.far_self iv]; decide,fun u hu h=>?_⟩⟩
  rw [tree3.far_zero iv hu h]
  exact Int.le_refl _
 ·rw [tree3.far_self (in3 (by simpa using hv))]
  decide
 ·have sep:∀ c e,InV 3 c→InV 3 e→c≠e→∀ x,InV 3 x→¬ (far 3 r3 c x≤0∧far 3 r3 e x≤0):=fun c e hc he ne x hx ⟨h1,h2⟩=>ne ((tree3.far_zero hc hx h1).symm.trans (tree3.far_zero he hx h2))
  have i0:InV 3 0:=in3 (by omega)
  have i1:InV 3 1:=in3 (by omega)
  have i2:InV 3 2:=in3 (by omega)
  refine .cons (fun e he=>?_) (.cons (fun e he=>?_) (.cons (fun e he=>?_) .nil))
  ·exact sep _ _ i0 (in3 (by simp at he; omega)) (by simp at he; omega)
  ·exact sep _ _ i1 (in3 (by simp at he; omega)) (by simp at he; omega)
  ·simp at he
theorem dist0:IsDist 3 r3 0:=⟨0,0,in3 (by omega),in3 (by omega),(tree3.far_self (in3 (by omega))).symm⟩
theorem least3 {d:Int} (h:IsDist 3 r3 d) (m:∀ e,IsDist 3 r3 e→e < d→¬ Enough 3 r3 e 12):d=0:=by
 have:=(tree3.dist_nn h).1
 by_cases e:d=0
 ·exact e
 ·exact absurd enough3 (m 0 dist0 (by omega))
theorem sorted3 {ws:List Int} (o:ws.Pairwise (·≤·)) (l:ws.length=3) (h0:0∈ws) (h1:1∈ws) (h2:2∈ws):ws=[0,1,2]:=by
 match ws,l with
 | [a,b,c],_ =>
  simp at h0 h1 h2 o
  have ea:a=0:=by omega
  have eb:b=1:=by omega
  have ec:c=2:=by omega
  rw [ea,eb,ec]
theorem all3 {pre wells callers ws:List Int} (h:∀ v,InV 3 v→v∈pre) (D:Dug 3 r3 0 pre wells callers) (p:ws.Perm wells) (o:ws.Pairwise (·≤·)):ws=[0,1,2]:=by
 have mem:∀ v,InV 3 v→v∈wells:=fun v hv=>by
  obtain ⟨x,hx,e⟩:=D.cover v (h v hv)
  rw [tree3.far_zero hv (D.iv x hx) e] at hx
  exact hx
 have nd:callers.Nodup:=by
  have:=D.apart
  have cv:=D.cv
  clear D
  induction callers with
  | nil=>exact .nil
  | cons c cs ih =>
   obtain ⟨q1,q2⟩:=List.pairwise_cons.mp this
   refine List.nodup_cons.mpr ⟨fun hc=>?_,ih q2 fun x hx=>cv x (List.mem_cons_of_mem _ hx)⟩
   have ic:=(cv c (List.mem_cons_self ..)).1
   have f0:=tree3.far_self ic
   exact q1 c hc c ic ⟨by omega,by omega⟩
 have le1:=nodup_le nd (m:=vil 3) fun x hx=>mem_vil.mpr (D.cv x hx).1
 have le2:=nodup_le (vil_nodup 3) (m:=wells) fun x hx=>mem x (mem_vil.mp hx)
 rw [vil_length] at le1 le2
 have:=D.len
 have:=p.length_eq
 exact sorted3 o (by omega) (p.mem_iff.mpr (mem 0 (in3 (by omega)))) (p.mem_iff.mpr (mem 1 (in3 (by omega)))) (p.mem_iff.mpr (mem 2 (in3 (by omega))))
theorem notree4:¬ Tree 4 [(0,1,1),(1,2,1),(2,0,1)]:=fun W=>by
 have:=W.conn (fun v=>v=0∨v=1∨v=2) (.inl rfl) (fun i x y l _ j=>?_) 3 ⟨by decide,by decide⟩
 ·omega
 ·have hi:=j.lt
  have hi:i < 3:=hi
  rcases (show i=0∨i=1∨i=2 by omega) with rfl | rfl | rfl <;> (unfold Joins at j; simp at j; omega)
theorem due3:dueM 3 r3 [1000000,0,0]=[0,5000000,12000000]:=by decide +kernel
theorem istree3:IsTree 3 r3:=⟨by decide,by decide,tree3⟩
end WR
namespace WR
open PySem L2
def sp_cell_at (K:PySem.W.Frag):Sp:=fun vs H Q _=>∃ (a:Addr) (ns:List Int) (k:Int),vs=[.ref a,.int k]∧SqL K H a (ns.map V.int)∧0≤k∧∀ c,Q (.int c) H
section
variable {P:Program} {w:World} {K:PySem.W.Frag} {mg:Str→Option Value} {base:Heap} {t:Adr}
theorem ok__law_cell_at (TT:Txt K mg t):FnOk P w K mg base CX0 1 t.f__law_cell_at t.d__law_cell_at ["_law_script", "_law_k"] (sp_cell_at K):=by
 refine TT.F__law_cell_at.ok sc__law_cell_at (fun vs H Q E h=>?_) (fun cdv A outer sh H vs Q E hr h=>?_)
 ·obtain ⟨a,ns,k,rfl,_⟩:=h
  rfl
 ·obtain ⟨a,ns,k,rfl,hS,h0,q⟩:=h
  refine ⟨_,(pss_cons (ps_if (pt_cmpR op_lt (pv 1) (pe_callB call_len_seq rfl TT.z_len WB.bt_len (pa_cons (pv 0) pa_nil)) (nomark _)) (pss_one (ps_ret (pe_ix ix_list (pv 0) (pv 1) (fun _ _=>rfl)))) pss_nil) (pss_one (ps_ret pe_int))),?_⟩
  refine ⟨_,rfl,_,rfl,a,_,rfl,.inl hS,_,_,rfl,rfl,_,rfl,ite2 (fun c=>?_) (fun c=>?_)⟩
  ·have c:k < ((ns.map V.int).length:Int):=by simpa using c
   rw [List.length_map] at c
   obtain ⟨j,rfl⟩:=Int.eq_ofNat_of_zero_le h0
   have hj:j < ns.length:=by omega
   refine ⟨_,rfl,_,rfl,a,_,_,.int ns[j],rfl,rfl,hS,atI_nat (j:=j) (by rw [List.getElem?_map,List.getElem?_eq_getElem hj]; rfl),q _⟩
  ·exact q 0
end
end WR
namespace WR
open PySem L2
section
variable {σ:St} {H:Hp} {te:TE} {g:TG} {tb B:TS} {D:Ends} {K:PySem.W.Frag}
theorem rdAsg (h:te σ H fun x H1=>g x σ H1 (B D)):tSeq (tAsg te g) B D σ H:=h
theorem rdForL (h:te σ H fun x H1=>∃ a,x=.ref a∧(∃ xs,SqL K H1 a xs)∧tFor (fun _ H R=>R (Itl K a) H) g tb { D with nx:=B D } σ H1):tSeq (tFor (iList K te) g tb) B D σ H:=h
end
theorem iteqT {b:Bool} {A B:Prop} (h:A) (e:b=true):if b=true then A else B:=by rw [e]; exact iteT h
theorem nee (x:V):(!decide (x=x))=false:=by simp
theorem eee (x:V):decide (x=x)=true:=decide_eq_true rfl
def NoN (H:Hp) (v:V):Prop:=KindV H v∧wholeV v 1 12=false
theorem noN_mono:Mono NoN:=fun _ _ _ T s=>⟨T.1.keep s,T.2⟩
theorem wf {i a b:Int} (h:i < a∨b < i):wholeV (.int i) a b=false:=by
 show (decide (a≤i)&&decide (i≤b))=false
 rw [Bool.and_eq_false_iff]
 rcases h with h | h
 ·exact .inl (decide_eq_false (by omega))
 ·exact .inr (decide_eq_false (by omega))
def sp_trees:Sp:=fun vs H Q _=>∃ (m:Int),vs=[.int m]∧0≤m∧∀ H',Same H H'→Q (.bl true) H'
section
variable {P:Program} {w:World} {K:PySem.W.Frag} {mg:Str→Option Value} {base:Heap} {t:Adr}
theorem ok__law_trees (TT:Txt K mg t):FnOk P w K mg base CX0 8 t.f__law_trees t.d__law_trees ["_law_more"] sp_trees:=by
 refine TT.F__law_trees.okX sc__law_trees (fun vs H Q E h=>?_) (fun cdv A outer sh H vs Q E hr h=>?_)
 ·obtain ⟨m,rfl,_⟩:=h
  rfl
 ·obtain ⟨m,rfl,hm,k⟩:=h
  refine ⟨_,(xss_cons (XS.mk (ps_setC (i:=1) sc__law_trees.nd rfl rfl rfl (N:=["_law_k"]) (fr:=[]) (compOk (N0:=["_law_more", "_law_chain", "_law_villages", "_law_bad"]) (N:=["_law_k"]) (fr:=[]) (sc0:=defScope s__law_trees) (n0:=0) rfl ⟨rfl,rfl⟩ (by decide +kernel)) (pi_range1 rfl TT.z_range (pa_consC pe_int pa_nil)) (fun _ _ _ _ _=>⟨(pg_name (i:=0) (show (["_law_k"]:List Str).Nodup by decide +kernel) rfl (Or.inl rfl)),pf_none,(pe_tup (pa_cons (pv 0) (pa_consB (pe_op op_add (pv 0) pe_int) (pa_consC pe_int pa_nil))))⟩))) (xss_cons (XS.mk (ps_for PassesOwn.never rfl (pi_list (xe_out (xe_lst (xa_consC xe_int (xa_consB (xe_op op_add xe_int (xv 0)) (xa_consB (xe_op op_sub (xe_un un_neg xe_int) (xv 0)) (xa_consC xe_bl (xa_consC xe_str (xa_consC xe_non xa_nil))))))))) (pg_name (i:=2) sc__law_trees.nd rfl (Or.inl rfl)) (pss_one (ps_if (pt_cmpR op_ne (pe_call (ok__law_tree TT) (hr.mono (by decide)) rfl TT.m__law_tree TT.F__law_tree.kp TT.b__law_tree .nil pass0 (pa_cons (pv 2) (pa_cons (pe_lst pa_nil) pa_nil))) pe_str (nomark _)) (pss_one (ps_ret pe_bl)) pss_nil)))) (xss_cons (xs_set (i:=3) sc__law_trees.nd rfl (Or.inl rfl) (xe_lst (xa_consC xe_non (xa_consL (xe_lst xa_nil) (xa_consT (xe_tup (xa_consT (xe_tup (xa_consC xe_int (xa_consC xe_int (xa_consC xe_int xa_nil)))) xa_nil)) (xa_consL (xe_lst (xa_consT (xe_tup (xa_consC xe_int (xa_consC xe_int xa_nil))) xa_nil)) (xa_consL (xe_lst (xa_consL (xe_lst (xa_consC xe_int (xa_consC xe_int (xa_consC xe_int xa_nil)))) xa_nil)) (xa_consL (xe_lst (xa_consT (xe_tup (xa_consC xe_int (xa_consC xe_int (xa_consC xe_int xa_nil)))) xa_nil)) (xa_consL (xe_lst (xa_consT (xe_tup (xa_consC xe_int (xa_consB (xe_op op_add xe_int (xv 0)) (xa_consC xe_int xa_nil)))) xa_nil)) (xa_consL (xe_lst (xa_consT (xe_tup (xa_consB (xe_op op_sub (xe_un un_neg xe_int) (xv 0)) (xa_consC xe_int (xa_consC xe_int xa_nil)))) xa_nil)) xa_nil))))))))) (swaps_lst _ _ _ _ _)) (xss_cons (xs_set (i:=3) sc__law_trees.nd rfl (Or.inl rfl) (xe_op op_cat (xv 3) (xe_lst (xa_consL (xe_lst (xa_consT (xe_tup (xa_consC xe_int (xa_consC xe_int (xa_consC xe_int xa_nil)))) xa_nil)) (xa_consL (xe_lst (xa_consT (xe_tup (xa_consC xe_int (xa_consC xe_int (xa_consB (xe_op op_add xe_int (xv 0)) xa_nil)))) xa_nil)) (xa_consL (xe_lst (xa_consT (xe_tup (xa_consC xe_int (xa_consC xe_int (xa_consC xe_bl xa_nil)))) xa_nil)) (xa_consL (xe_lst (xa_consT (xe_tup (xa_consC xe_int (xa_consC xe_int (xa_consC xe_str xa_nil)))) xa_nil)) (xa_consL (xe_lst (xa_consT (xe_tup (xa_consC xe_int (xa_consC xe_bl (xa_consC xe_int xa_nil)))) xa_nil)) (xa_consL (xe_lst (xa_consT (xe_tup (xa_consC xe_str (xa_consC xe_int (xa_consC xe_int xa_nil)))) xa_nil)) xa_nil)))))))) (swaps_bin _ _ _ _ _ _ _)) (xss_cons (xs_set (i:=3) sc__law_trees.nd rfl (Or.inl rfl) (xe_op op_cat (xv 3) (xe_lst (xa_consL (xe_lst (xa_consT (xe_tup (xa_consC xe_int (xa_consC xe_int (xa_consC xe_int (xa_consC xe_int xa_nil))))) xa_nil)) (xa_consL (xe_lst (xa_consT (xe_tup (xa_consC xe_int (xa_consC xe_int (xa_consC xe_int xa_nil)))) (xa_consT (xe_tup (xa_consC xe_int (xa_consC xe_int (xa_consC xe_int xa_nil)))) xa_nil))) (xa_consL (xe_lst (xa_consT (xe_tup (xa_consL (xe_lst (xa_consC xe_int xa_nil)) (xa_consC xe_int (xa_consC xe_int xa_nil)))) xa_nil)) (xa_consL (xe_lst (xa_consC xe_int xa_nil)) xa_nil)))))) (swaps_bin _ _ _ _ _ _ _)) (xss_cons (XS.mk (ps_if (pt_not (pt_val (pe_callB (call_all rfl) rfl TT.z_all WB.bt_all (pa_cons (pe_comp rfl (N:=["_law_roads"]) (fr:=[]) (compOk (N0:=["_law_more", "_law_chain", "_law_villages", "_law_bad"]) (N:=["_law_roads"]) (fr:=[]) (sc0:=defScope s__law_trees) (n0:=0) rfl ⟨rfl,rfl⟩ (by decide +kernel)) (pi_list (pv 3)) (fun _ _ _ _ _=>⟨(pg_name (i:=0) (show (["_law_roads"]:List Str).Nodup by decide +kernel) rfl (Or.inl rfl)),pf_none,(pe_cmpR op_eq (pe_call (ok__law_tree TT) (hr.mono (by decide)) rfl TT.m__law_tree TT.F__law_tree.kp TT.b__law_tree .nil pass0 (pa_consC pe_int (pa_cons (pv 0) pa_nil))) pe_str (nomark _))⟩)) pa_nil)))) (pss_one (ps_ret pe_bl)) pss_nil)) (xss_cons (XS.mk (ps_if (PW.pt (pw_or (pt_cmpR op_ne (pe_call (ok__law_tree TT) (hr.mono (by decide)) rfl TT.m__law_tree TT.F__law_tree.kp TT.b__law_tree .nil pass0 (pa_consC pe_int (pa_cons (xe_out (xe_lst (xa_consT (xe_tup (xa_consC xe_int (xa_consC xe_int (xa_consC xe_int xa_nil)))) (xa_consT (xe_tup (xa_consC xe_int (xa_consC xe_int (xa_consC xe_int xa_nil)))) (xa_consT (xe_tup (xa_consC xe_int (xa_consC xe_int (xa_consC xe_int xa_nil)))) xa_nil))))) pa_nil))) pe_str (nomark _)) (pw_or1 (pt_cmpR op_ne (pe_call (ok__law_tree TT) (hr.mono (by decide)) rfl TT.m__law_tree TT.F__law_tree.kp TT.b__law_tree .nil pass0 (pa_consC pe_int (pa_cons (xe_out (xe_lst (xa_consT (xe_tup (xa_consC xe_int (xa_consC xe_int (xa_consC xe_int xa_nil)))) xa_nil))) pa_nil))) pe_str (nomark _))))) (pss_one (ps_ret pe_bl)) pss_nil)) (xss_one (XS.mk (ps_ret (pe_and (pe_cmpR op_eq (pe_call (ok__law_tree TT) (hr.mono (by decide)) rfl TT.m__law_tree TT.F__law_tree.kp TT.b__law_tree .nil pass0 (pa_consC pe_int (pa_cons (pv 1) pa_nil))) pe_str (nomark _)) (pe_and (pe_cmpR op_eq (pe_call (ok__law_tree TT) (hr.mono (by decide)) rfl TT.m__law_tree TT.F__law_tree.kp TT.b__law_tree .nil pass0 (pa_consC pe_int (pa_cons (pe_lst pa_nil) pa_nil))) pe_str (nomark _)) (pe_one (pe_cmpR op_eq (pe_call (ok__law_tree TT) (hr.mono (by decide)) rfl TT.m__law_tree TT.F__law_tree.kp TT.b__law_tree .nil pass0 (pa_consC pe_int (pa_consB (pe_op op_cat (pv 1) (xe_out (xe_lst (xa_consT (xe_tup (xa_consC xe_int (xa_consC xe_int (xa_consC xe_int xa_nil)))) xa_nil)))) pa_nil))) pe_str (nomark _))))))))))))))),?_⟩
  refine rdAsg (rdChain 11 1000000 (by decide) fun ch H1 hch s1 R1=>?_)
  refine rdForL (MkA.lst (Pv:=NoN) (n:=6) (.cons noN_mono (.c fun H=>⟨.int _,by decide⟩) (.cons noN_mono (.i (i:=13 + m) (fun _ _ h=>⟨_,rfl,_,_,rfl,rfl,h⟩) fun H=>⟨.int _,wf (by omega)⟩) (.cons noN_mono (.i (i:=-1 - m) (fun _ _ h=>⟨_,rfl,_,rfl,_,_,rfl,rfl,h⟩) fun H=>⟨.int _,wf (by omega)⟩) (.cons noN_mono (.c fun H=>⟨.bl _,rfl⟩) (.cons noN_mono (.c fun H=>⟨.str _,rfl⟩) (.cons noN_mono (.c fun H=>⟨.non,rfl⟩) .nil)))))) noN_mono (by decide) fun vl us H2 hvl s2 hv2 hus _=>?_)
  refine ⟨vl,rfl,⟨_,SqL.of hv2⟩,for_list (K:=K) (a:=vl) (xs:=us) (fun i σ H3=>(∃ v2,σ=[some (.int m),some (.ref ch),v2,none])∧Same H2 H3) ⟨⟨none,rfl⟩,Same.refl _⟩ (fun i σ H3 _ ⟨_,e⟩=>SqL.of (e _ _ hv2)) ?_ ?_⟩
  ·rintro i z σ H3 hi ⟨⟨v2,rfl⟩,s3⟩
   obtain ⟨kz,wz⟩:=hus z (List.mem_of_getElem? hi)
   refine ⟨_,rfl,by show 0≤sizeLine; decide,fun em hem=>?_⟩
   have s4:=same_new (o:=.lst []) hem
   refine ⟨z,.ref em,false,rfl,.nov (kz.keep (s3.trans s4)) wz,fun H4 s5=>⟨rfl,_,rfl,ite_f (nee _) ⟨⟨_,rfl⟩,s3.trans (s4.trans s5)⟩⟩⟩
  rintro σ H3 ⟨⟨v2,rfl⟩,s3⟩
  have s13:=s1.trans (s2.trans s3)
  refine rdAsg (MkA.lst (Pv:=Bad2) (n:=8) (.cons bad2_mono bNon (.cons bad2_mono bNil (.cons bad2_mono (bTup (xs:=[.int 0,.int 1,.int 1]) (fun _ _ h=>h) (by simp)) (.cons bad2_mono (b1 (nTup (xs:=[.int 0,.int 1]) (fun _ _ h=>h) (by simp) (by decide))) (.cons bad2_mono (b1 (nLst (xs:=[.int 0,.int 1,.int 1]) (fun _ _ h=>h) (by simp))) (.cons bad2_mono (bC _ _ _ (fun _=>.int _) (fun _=>.int _) (fun _=>.int _) (by decide)) (.cons bad2_mono (b1 (nPlus rfl hm)) (.cons bad2_mono (b1 (nMinus rfl hm)) .nil)))))))) bad2_mono (by decide) fun b1' us1 H4 hb1 s4 hl4 hu1 n1=>?_)
  refine rdAsg ⟨_,rfl,MkA.lst (Pv:=Bad2) (n:=6) (.cons bad2_mono (bC _ _ _ (fun _=>.int _) (fun _=>.int _) (fun _=>.int _) (by decide)) (.cons bad2_mono (b1 (nLong rfl hm)) (.cons bad2_mono (bC _ _ _ (fun _=>.int _) (fun _=>.int _) (fun _=>.bl _) (by decide)) (.cons bad2_mono (bC _ _ _ (fun _=>.int _) (fun _=>.int _) (fun _=>.str _) rfl) (.cons bad2_mono (bC _ _ _ (fun _=>.int _) (fun _=>.bl _) (fun _=>.int _) (by decide)) (.cons bad2_mono (bC _ _ _ (fun _=>.str _) (fun _=>.int _) (fun _=>.int _) rfl) .nil)))))) bad2_mono (by decide) fun b2' us2 H5 hb2 s5 hl5 hu2 n2=>?_⟩
  refine ⟨b1',b2',us1,us2,rfl,rfl,s5 _ _ hl4,hl5,by rw [n1,n2,sizeLine_eq]; omega,fun b3' hb3=>?_⟩
  have s6:=same_new (o:=.lst (us1++us2)) hb3
  have l6:upd H5 b3' (.lst (us1++us2)) b3'=some (.lst (us1++us2)):=upd_same
  have u6:∀ v∈us1++us2,Bad2 (upd H5 b3' (.lst (us1++us2))) v:=fun v hv=>by
   rcases List.mem_append.mp hv with z | z
   ·exact (hu1 v z).keep (s5.trans s6)
   ·exact (hu2 v z).keep s6
  generalize upd H5 b3' (.lst (us1++us2))=H6 at s6 l6 u6
  refine rdAsg ⟨_,rfl,MkA.lst (Pv:=Bad2) (n:=4) (.cons bad2_mono (b1 (nTup (xs:=[.int 0,.int 1,.int 1,.int 1]) (fun _ _ h=>h) (by simp) (by decide))) (.cons bad2_mono nTwo (.cons bad2_mono (b1 nIn) (.cons bad2_mono (b1 (nInt 5)) .nil)))) bad2_mono (by decide) fun b4' us3 H7 hb4 s7 hl7 hu3 n3=>?_⟩
  refine ⟨b3',b4',_,us3,rfl,rfl,s7 _ _ l6,hl7,by rw [List.length_append,n1,n2,n3,sizeLine_eq]; omega,fun b5' hb5=>?_⟩
  have s8:=same_new (o:=.lst (us1++us2++us3)) hb5
  have l8:upd H7 b5' (.lst (us1++us2++us3)) b5'=some (.lst (us1++us2++us3)):=upd_same
  have u8:∀ v∈us1++us2++us3,Bad2 (upd H7 b5' (.lst (us1++us2++us3))) v:=fun v hv=>by
   rcases List.mem_append.mp hv with z | z
   ·exact (u6 v z).keep (s7.trans s8)
   ·exact (hu3 v z).keep s8
  have ln:(us1++us2++us3).length=18:=by rw [List.length_append,List.length_append,n1,n2,n3]
  generalize upd H7 b5' (.lst (us1++us2++us3))=H8 at s8 l8 u8
  generalize us1++us2++us3=all_ at l8 u8 ln
  have s38:Same H H8:=s13.trans (s4.trans (s5.trans (s6.trans (s7.trans s8))))
  have R8:RoadsAt H8 ch (chainR 11 1000000):=R1.keep (s2.trans (s3.trans (s4.trans (s5.trans (s6.trans (s7.trans s8))))))
  clear hu1 hu2 hu3 u6 l6 hl4 hl5 hl7 s4 s5 s6 s7 s8 hb1 hb2 hb3 hb4 hb5 n1 n2 n3 hus hv2 s13 s3 s2 s1 R1
  refine ⟨_,rfl,b5',rfl,⟨_,SqL.of l8⟩,fun acc hacc=>comp_list (K:=K) (xs:=all_) (fun i τ ys H9=>(∃ o,τ=[o])∧ys=((all_.take i).map fun _=>true).map V.bl∧H9 acc=some (.lst ys)∧Same H8 H9) ⟨⟨_,rfl⟩,rfl,upd_same,same_new hacc⟩
   (fun i τ ys H9 _ ⟨_,_,h3,h4⟩=>⟨SqL.of (h4 _ _ l8),h3⟩) ?_ ?_⟩
  ·rintro i v τ ys H9 R hi ⟨⟨o,rfl⟩,rfl,h3,h4⟩ hR
   refine noifN ?_
   refine ⟨_,rfl,.int 2,v,false,rfl,(u8 v (List.mem_of_getElem? hi)).keep h4,fun H10 s10=>⟨rfl,?_⟩⟩
   have e:decide (V.str (treeW false)=V.str (Str.ofString "tree"))=true:=decide_eq_true rfl
   rw [e]
   refine ⟨s10 _ _ h3,by rw [List.length_map,List.length_map,List.length_take,sizeLine_eq]; omega,hR _ _ _ ⟨⟨_,rfl⟩,?_,upd_same,same_upd (h4.trans s10) hacc⟩⟩
   rw [take_map_next _ hi,List.map_append]
   rfl
  rintro τ ys H9 ⟨⟨o,rfl⟩,rfl,h3,s9⟩
  have at9:((List.take all_.length all_).map fun _=>true).all id=true:=by
   rw [List.all_eq_true]
   intro b hb
   obtain ⟨_,_,rfl⟩:=List.mem_map.mp hb
   rfl
  refine ⟨acc,_,rfl,SqL.of h3,_,rfl,ite_f (by rw [at9]; rfl) ?_⟩
  have s09:=s38.trans s9
  have R9:=R8.keep s9
  clear at9 h3 s9 s38 R8 u8 ln l8 hacc
  refine ⟨by show 3≤sizeLine; decide,fun a1 g1=>⟨by show 3≤sizeLine; decide,fun a2 g2=>⟨by show 3≤sizeLine; decide,fun a3 g3=>⟨by show 3≤sizeLine; decide,fun p gp=>?_⟩⟩⟩⟩
  have z1:=same_new (o:=.tup [.int 0,.int 1,.int 1]) g1
  have z2:=same_new (o:=.tup [.int 1,.int 2,.int 1]) g2
  have z3:=same_new (o:=.tup [.int 2,.int 0,.int 1]) g3
  have z4:=same_new (o:=.lst [.ref a1,.ref a2,.ref a3]) gp
  refine ⟨.int 4,.ref p,false,rfl,.rds (rs:=[(0,1,1),(1,2,1),(2,0,1)]) ⟨_,upd_same,.cons (roadD_mk (z4 _ _ (z3 _ _ (z2 _ _ upd_same)))) (.cons (roadD_mk (z4 _ _ (z3 _ _ upd_same))) (.cons (roadD_mk (z4 _ _ upd_same)) .nil))⟩ (by decide) ⟨fun z=>(nomatch z),fun z=>absurd z.2.2 notree4⟩,fun H10 s10=>⟨rfl,_,rfl,ite_f (nee _) ?_⟩⟩
  have s010:=s09.trans (z1.trans (z2.trans (z3.trans (z4.trans s10))))
  have R10:=R9.keep (z1.trans (z2.trans (z3.trans (z4.trans s10))))
  clear z1 z2 z3 z4 s10 g1 g2 g3 gp s09 R9
  refine ⟨by show 3≤sizeLine; decide,fun a1 g1=>⟨by show 1≤sizeLine; decide,fun p gp=>?_⟩⟩
  have z1:=same_new (o:=.tup [.int 0,.int 0,.int 1]) g1
  have z4:=same_new (o:=.lst [.ref a1]) gp
  refine ⟨.int 1,.ref p,false,rfl,.bad upd_same (.cons (.tri (z4 _ _ upd_same) (.int _) (.int _) (.int _)) .nil) (by simp) (.inl (by show ¬ ((1:Nat):Int)=1 - 1; decide)),fun H11 s11=>⟨rfl,_,rfl,ite_f (nee _) ?_⟩⟩
  have s011:=s010.trans (z1.trans (z4.trans s11))
  have R11:=R10.keep (z1.trans (z4.trans s11))
  clear z1 z4 s11 g1 gp s010 R10
  refine ⟨_,rfl,.int 12,.ref ch,true,rfl,.rds R11 (by rw [chainR_len]; decide) ⟨fun _=>⟨by decide,by decide,chain_tree (m:=11) (by decide) (by decide)⟩,fun _=>rfl⟩,fun H12 s12=>⟨rfl,_,rfl,iteqT ?_ (eee _)⟩⟩
  refine ⟨by show 0≤sizeLine; decide,fun em hem=>⟨.int 1,.ref em,true,rfl,.rds (rs:=chainR 0 1) ⟨[],upd_same,.nil⟩ (by decide) ⟨fun _=>⟨by decide,by decide,chain_tree (m:=0) (by decide) (by decide)⟩,fun _=>rfl⟩,fun H13 s13=>⟨rfl,_,rfl,iteqT ?_ (eee _)⟩⟩⟩
  have z13:=(same_new (o:=.lst []) hem).trans s13
  obtain ⟨xs,hxs,rx⟩:=R11.keep (s12.trans z13)
  have lx:=rx.length
  rw [List.length_map,chainR_len] at lx
  refine ⟨_,rfl,by show 3≤sizeLine; decide,fun a1 g1=>⟨by show 1≤sizeLine; decide,fun l1 gl=>?_⟩⟩
  have z1:=same_new (o:=.tup [.int 11,.int 12,.int 1]) g1
  have z2:=same_new (o:=.lst [.ref a1]) gl
  refine ⟨ch,l1,xs,_,rfl,rfl,z2 _ _ (z1 _ _ hxs),upd_same,by rw [lx,sizeLine_eq]; show 12≤16777216; decide,fun p gp=>?_⟩
  refine ⟨.int 13,.ref p,false,rfl,.nov (.int _) (by decide),fun H14 s14=>⟨rfl,?_⟩⟩
  have e:decide (V.str (treeW false)=V.str (Str.ofString "tree"))=true:=decide_eq_true rfl
  rw [e]
  exact k H14 (s011.trans (s12.trans (z13.trans (z1.trans (z2.trans ((same_new gp).trans s14))))))
end
end WR
namespace WR
open PySem L2
theorem depDs_ints (ns:List Int):depDs (ns.map fun i=>Dt.v (.int i))≤8:=by
 have:depDs (ns.map fun i=>Dt.v (.int i))=0:=by
  induction ns with
  | nil=>rfl
  | cons n r ih=>rw [List.map_cons]; unfold depDs depD; rw [ih]; rfl
 omega
theorem Found.some {w:Int} {ws cs:List Int} (F:Found 3 r3 w ws cs):ws≠[]:=fun e=>by
 obtain ⟨pre,wells,callers,h1,_,D,p,_⟩:=F
 rw [e] at p
 exact some3 h1 D p.symm.eq_nil
theorem Found.zero {ws cs:List Int} (F:Found 3 r3 0 ws cs) (o:ws.Pairwise (·≤·)):ws=[0,1,2]:=by
 obtain ⟨pre,wells,callers,h1,_,D,p,_⟩:=F
 exact all3 h1 D p o
section
variable {t:Adr} {H:Hp} {n d:Int} {v:V}
theorem askV (h:d≤9∨d=17) (h0:0≤d) (kv:KindV H v) (e:wholeV v 0 (n - 1)=false):Asks t H n d v t.C_NoVillage :=
 ⟨h0,by omega,fun _=>⟨kv,e,rfl⟩,fun z=>absurd z (by omega),fun z=>absurd z (by omega),fun z=>absurd z (by omega),fun z=>absurd z (by omega),fun z=>absurd z (by omega),fun z=>absurd z (by omega)⟩
theorem askR (h:d=10∨d=11) (kv:KindV H v) (e:wholeV v 0 (n - 2)=false):Asks t H n d v t.C_NoRoad :=
 ⟨by omega,by omega,fun z=>absurd z (by omega),fun _=>⟨kv,e,rfl⟩,fun z=>absurd z (by omega),fun z=>absurd z (by omega),fun z=>absurd z (by omega),fun z=>absurd z (by omega),fun z=>absurd z (by omega)⟩
theorem askD (h:d∈[12]) (kv:KindV H v) (e:wholeV v 0 12000000=false):Asks t H n d v t.C_BadNumber:=by
 have h:d=12:=by simpa using h
 exact ⟨by omega,by omega,fun z=>absurd z (by omega),fun z=>absurd z (by omega),fun _=>⟨kv,e,rfl⟩,fun z=>absurd z (by omega),fun z=>absurd z (by omega),fun z=>absurd z (by omega),fun z=>absurd z (by omega)⟩
theorem askL (h:d∈[13]) (kv:KindV H v) (e:wholeV v 1 12=false):Asks t H n d v t.C_BadNumber:=by
 have h:d=13:=by simpa using h
 exact ⟨by omega,by omega,fun z=>absurd z (by omega),fun z=>absurd z (by omega),fun z=>absurd z (by omega),fun _=>⟨kv,e,rfl⟩,fun z=>absurd z (by omega),fun z=>absurd z (by omega),fun z=>absurd z (by omega)⟩
theorem askP (h:d=14∨d=15) (e:PeopleV H n v false):Asks t H n d v t.C_BadNumber :=
 ⟨by omega,by omega,fun z=>absurd z (by omega),fun z=>absurd z (by omega),fun z=>absurd z (by omega),fun z=>absurd z (by omega),fun _=>⟨e,rfl⟩,fun z=>absurd z (by omega),fun z=>absurd z (by omega)⟩
theorem askT (h:d∈[16]) (kv:KindV H v) (e:wholeV v 1 1000000=false):Asks t H n d v t.C_BadTree:=by
 have h:d=16:=by simpa using h
 exact ⟨by omega,by omega,fun z=>absurd z (by omega),fun z=>absurd z (by omega),fun z=>absurd z (by omega),fun z=>absurd z (by omega),fun z=>absurd z (by omega),fun _=>⟨kv,e,rfl⟩,fun z=>absurd z (by omega)⟩
theorem askN:Asks t H n 18 v t.C_BadTree :=
 ⟨by decide,by decide,fun z=>absurd z (by decide),fun z=>absurd z (by decide),fun z=>absurd z (by decide),fun z=>absurd z (by decide),fun z=>absurd z (by decide),fun z=>absurd z (by decide),fun _=>rfl⟩
end
def NoW (a b:Int) (H:Hp) (v:V):Prop:=KindV H v∧wholeV v a b=false
theorem noW_mono {a b:Int}:Mono (NoW a b):=fun _ _ _ T s=>⟨T.1.keep s,T.2⟩
def NoP (H:Hp) (v:V):Prop:=PeopleV H 3 v false
theorem noP_mono:Mono NoP:=fun _ _ _ T s=>T.keep s
section
variable {σ:St} {te:TE} {ta:TA} {xs:List V} {a b i m:Int}
theorem wI (h:i < a∨b < i) (e:∀ H (Q:VK),Q (.int i) H→te σ H Q):MkE (NoW a b) te σ:=.i e fun H=>⟨.int _,wf h⟩
theorem wMinus (h1:σ[1]?=some (some (.int m))) (hm:0≤m) (ha:0≤a):MkE (NoW a b) (tOp (rI0 fun i j=>V.int (i - j)) (tUn (rU fun i=>V.int (-i)) (tC (.int 1))) (tVar 1)) σ:=wI (i:=-1 - m) (.inl (by omega)) fun _ _ h=>⟨_,rfl,_,h1,_,_,rfl,rfl,h⟩
theorem wPlus {c:Int} (h1:σ[1]?=some (some (.int m))) (hm:0≤m) (hb:b < c):MkE (NoW a b) (tOp (rI0 fun i j=>V.int (i + j)) (tC (.int c)) (tVar 1)) σ:=wI (i:=c + m) (.inr (by omega)) fun _ _ h=>⟨_,h1,_,_,rfl,rfl,h⟩
theorem wB {c:Bool}:MkE (NoW a b) (tC (.bl c)) σ:=.c fun H=>⟨.bl _,rfl⟩
theorem wS {s:Str}:MkE (NoW a b) (tC (.str s)) σ:=.c fun H=>⟨.str _,rfl⟩
theorem wN:MkE (NoW a b) (tC .non) σ:=.c fun H=>⟨.non,rfl⟩
theorem wZ (h:0 < a):MkE (NoW a b) (tC (.int 0)) σ:=.c fun H=>⟨.int _,wf (.inl h)⟩
theorem wL:MkE (NoW a b) (tLst (tCons (tC (.int 0)) tNil)) σ:=fun H Q k=>⟨by show 1≤sizeLine; decide,fun p hp=>k _ _ (same_new hp) ⟨.lst upd_same,rfl⟩⟩
theorem pN:MkE NoP (tC .non) σ:=.c fun H=>.no .non fun a xs e=>(nomatch e)
theorem pT (e:∀ H (Q:List V→Hp→Prop),Q xs H→ta σ H Q) (hl:xs.length≤1000):MkE NoP (tTup ta) σ:=.tup e hl fun H a h=>.no (.tup h) fun c zs z q=>by cases z; rw [h] at q; cases q
theorem pL (e:∀ H (Q:List V→Hp→Prop),Q xs H→ta σ H Q) (hk:∀ H,∀ y∈xs,KindV H y) (hl:xs.length≤1000) (hb:(decide ((xs.length:Int)=3)&&xs.all fun y=>wholeV y 0 1000000)=false):MkE NoP (tLst ta) σ:=fun H Q k =>
 e H _ ⟨by rw [sizeLine_eq]; omega,fun p hp=>k _ _ (same_new hp) (by
  have:=PeopleV.lst (n:=3) (H:=upd H p (.lst xs)) upd_same (hk _) hl
  rw [hb] at this
  exact this)⟩
theorem k3 {x y z:V} (kx:∀ H,KindV H x) (ky:∀ H,KindV H y) (kz:∀ H,KindV H z) (H:Hp):∀ u∈[x,y,z],KindV H u:=fun u hu=>by
 have:u=x∨u=y∨u=z:=by simpa using hu
 rcases this with rfl | rfl | rfl
 ·exact kx H
 ·exact ky H
 ·exact kz H
end
section
variable {K:PySem.W.Frag} {t:Adr} {σ:St} {H:Hp} {td tt:TE} {E:XK} {D:Ends} {u B:TS} {x q:Addr} {ds:List Int} {Pv:Hp→V→Prop} {c:Addr} {ta:TA}
def MkT (Pv:Hp→V→Prop) (tt:TE) (σ:St) (H:Hp):Prop:=∀ H1 (Q:VK),Same H H1→(∀ p vs H',Same H1 H'→H' p=some (.lst vs)→vs.length≤100→(∀ v∈vs,Pv H' v)→Q (.ref p) H')→tt σ H1 Q
def MkD (ds:List Int) (td:TE) (σ:St):Prop:=∀ H1 (Q:VK),(∀ p H',Same H1 H'→H' p=some (.lst (ds.map V.int))→Q (.ref p) H')→td σ H1 Q
theorem MkA.mkT {n:Nat} (h:MkA Pv n ta σ) (m:Mono Pv) (hn:n≤100):MkT Pv (tLst ta) σ H:=fun H1 Q _ k=>h.lst m (by omega) fun p vs H' _ s h hv l=>k p vs H' s h (by omega) hv
theorem stAll (j:Nat) (hx:σ[2]?=some (some (.ref x))) (T:TreeAt t.C_Tree H x q 3 r3) (hd:MkD ds td σ) (ht:MkT Pv tt σ H) (mo:Mono Pv) (as:∀ d∈ds,∀ H v,Pv H v→Asks t H 3 d v c) (F:SortF K t c j) (k:∀ H',Same H H'→B D σ H') :
  tSeq (tIfS (tNot (tB (tCall (sp_all K t) [] E (tCons (tVar 2) (tCons td (tCons tt (tCons (tC (.str (wordS j))) tNil))))))) u tNext) B D σ H:=by
 refine ⟨_,hx,hd H _ fun p H1 s1 h1=>ht H1 _ s1 fun p2 vs H2 s2 h2 l2 hv=>?_⟩
 exact ⟨x,q,p,p2,3,r3,ds,vs,c,j,rfl,T.keep (s1.trans s2),rfl,s2 _ _ h1,h2,l2,fun d hd v hvv=>as d hd H2 v (hv v hvv),F,fun H' s=>⟨_,rfl,iteF (k H' (s1.trans (s2.trans s)))⟩⟩
theorem doors1 {i:Int}:MkD [i] (tLst (tCons (tC (.int i)) tNil)) σ:=fun H1 Q k=>⟨by show 1≤sizeLine; decide,fun p hp=>k p _ (same_new hp) upd_same⟩
theorem doors2 {i j:Int}:MkD [i,j] (tLst (tCons (tC (.int i)) (tCons (tC (.int j)) tNil))) σ:=fun H1 Q k=>⟨by show 2≤sizeLine; decide,fun p hp=>k p _ (same_new hp) upd_same⟩
end
end WR
namespace WR
open PySem L2
section
variable {P:Program} {w:World} {K:PySem.W.Frag} {mg:Str→Option Value} {base:Heap} {t:Adr}
theorem ok_law (TT:Txt K mg t) (LB:LamB base mg t):FnOk P w K mg base CX0 11 t.f_law t.d_law ["_law_script"] (spLaw K t.P_fewest t.P_innermost_near):=by
 refine TT.F_law.okX sc_law (fun vs H Q E h=>?_) (fun cdv A outer sh H vs Q E hr h=>?_)
 ·obtain ⟨a,ns,rfl,_⟩:=h
  rfl
 ·obtain ⟨a,ns,rfl,hS,hlen,hP1,hP2,k⟩:=h
  have hu8:=hu8_of hr
  have hu9:=hu9_of hr
  refine ⟨_,(xss_cons (XS.mk (ps_set (i:=1) sc_law.nd rfl (Or.inl rfl) (pe_op op_mod (pe_call (ok__law_cell_at TT) (hr.mono (by decide)) rfl TT.m__law_cell_at TT.F__law_cell_at.kp TT.b__law_cell_at .nil pass0 (pa_cons (pv 0) (pa_consC pe_int pa_nil))) pe_int))) (xss_cons (XS.mk (ps_set (i:=2) sc_law.nd rfl (Or.inl rfl) (pe_make TT.M_Tree (okx_Tree_init TT) (hr.mono (by decide)) rfl TT.m_Tree TT.b_Tree_init .nil passN (pa_consC pe_int (pa_cons (xe_out (xe_lst (xa_consT (xe_tup (xa_consC xe_int (xa_consC xe_int (xa_consC xe_int xa_nil)))) (xa_consT (xe_tup (xa_consC xe_int (xa_consC xe_int (xa_consC xe_int xa_nil)))) xa_nil)))) pa_nil))))) (xss_cons (XS.mk (ps_if (pt_not (pt_val (pe_call (ok__law_trees TT) (hr.mono (by decide)) rfl TT.m__law_trees TT.F__law_trees.kp TT.b__law_trees .nil pass0 (pa_cons (pv 1) pa_nil)))) (pss_one (ps_ret pe_bl)) pss_nil)) (xss_cons (XS.mk (ps_if (pt_not (pt_val (pe_call (ok__law_all TT LB) (hr.mono (by decide)) rfl TT.m__law_all TT.F__law_all.kp TT.b__law_all .nil pass0 (pa_cons (pv 2) (pa_consB (pe_op op_cat (pe_callTy (call_listR rfl) rfl TT.z_list WB.bt_list (pa_cons (pe_callTy call_range1 rfl TT.z_range WB.bt_range (pa_consC pe_int pa_nil)) pa_nil)) (xe_out (xe_lst (xa_consC xe_int xa_nil)))) (pa_cons (xe_out (xe_lst (xa_consB (xe_op op_add xe_int (xv 1)) (xa_consB (xe_op op_sub (xe_un un_neg xe_int) (xv 1)) (xa_consC xe_bl (xa_consC xe_str (xa_consC xe_non (xa_consL (xe_lst (xa_consC xe_int xa_nil)) xa_nil)))))))) (pa_consC pe_str pa_nil))))))) (pss_one (ps_ret pe_bl)) pss_nil)) (xss_cons (XS.mk (ps_if (pt_not (pt_val (pe_call (ok__law_all TT LB) (hr.mono (by decide)) rfl TT.m__law_all TT.F__law_all.kp TT.b__law_all .nil pass0 (pa_cons (pv 2) (pa_cons (xe_out (xe_lst (xa_consC xe_int (xa_consC xe_int xa_nil)))) (pa_cons (xe_out (xe_lst (xa_consB (xe_op op_add xe_int (xv 1)) (xa_consB (xe_op op_sub (xe_un un_neg xe_int) (xv 1)) (xa_consC xe_bl (xa_consC xe_str (xa_consC xe_non (xa_consL (xe_lst (xa_consC xe_int xa_nil)) xa_nil)))))))) (pa_consC pe_str pa_nil))))))) (pss_one (ps_ret pe_bl)) pss_nil)) (xss_cons (XS.mk (ps_if (pt_not (pt_val (pe_call (ok__law_all TT LB) (hr.mono (by decide)) rfl TT.m__law_all TT.F__law_all.kp TT.b__law_all .nil pass0 (pa_cons (pv 2) (pa_cons (xe_out (xe_lst (xa_consC xe_int xa_nil))) (pa_cons (xe_out (xe_lst (xa_consB (xe_op op_sub (xe_un un_neg xe_int) (xv 1)) (xa_consB (xe_op op_add xe_int (xv 1)) (xa_consC xe_bl (xa_consC xe_str (xa_consC xe_non (xa_consL (xe_lst (xa_consC xe_int xa_nil)) xa_nil)))))))) (pa_consC pe_str pa_nil))))))) (pss_one (ps_ret pe_bl)) pss_nil)) (xss_cons (XS.mk (ps_if (pt_not (pt_val (pe_call (ok__law_all TT LB) (hr.mono (by decide)) rfl TT.m__law_all TT.F__law_all.kp TT.b__law_all .nil pass0 (pa_cons (pv 2) (pa_cons (xe_out (xe_lst (xa_consC xe_int xa_nil))) (pa_cons (xe_out (xe_lst (xa_consC xe_int (xa_consB (xe_op op_add xe_int (xv 1)) (xa_consB (xe_op op_sub (xe_un un_neg xe_int) (xv 1)) (xa_consC xe_bl (xa_consC xe_str (xa_consC xe_non xa_nil)))))))) (pa_consC pe_str pa_nil))))))) (pss_one (ps_ret pe_bl)) pss_nil)) (xss_cons (xs_set (i:=3) sc_law.nd rfl (Or.inl rfl) (xe_lst (xa_consC xe_non (xa_consL (xe_lst xa_nil) (xa_consL (xe_lst (xa_consC xe_int (xa_consC xe_int xa_nil))) (xa_consL (xe_lst (xa_consC xe_int (xa_consC xe_int (xa_consC xe_int (xa_consC xe_int xa_nil))))) (xa_consT (xe_tup (xa_consC xe_int (xa_consC xe_int (xa_consC xe_int xa_nil)))) (xa_consL (xe_lst (xa_consC xe_int (xa_consC xe_int (xa_consB (xe_op op_sub (xe_un un_neg xe_int) (xv 1)) xa_nil)))) (xa_consL (xe_lst (xa_consB (xe_op op_add xe_int (xv 1)) (xa_consC xe_int (xa_consC xe_int xa_nil)))) xa_nil)))))))) (swaps_lst _ _ _ _ _)) (xss_cons (xs_set (i:=3) sc_law.nd rfl (Or.inl rfl) (xe_op op_cat (xv 3) (xe_lst (xa_consL (xe_lst (xa_consC xe_int (xa_consC xe_bl (xa_consC xe_int xa_nil)))) (xa_consL (xe_lst (xa_consC xe_str (xa_consC xe_int (xa_consC xe_int xa_nil)))) xa_nil)))) (swaps_bin _ _ _ _ _ _ _)) (xss_cons (XS.mk (ps_if (pt_not (pt_val (pe_call (ok__law_all TT LB) (hr.mono (by decide)) rfl TT.m__law_all TT.F__law_all.kp TT.b__law_all .nil pass0 (pa_cons (pv 2) (pa_cons (xe_out (xe_lst (xa_consC xe_int (xa_consC xe_int xa_nil)))) (pa_cons (pv 3) (pa_consC pe_str pa_nil))))))) (pss_one (ps_ret pe_bl)) pss_nil)) (xss_cons (XS.mk (ps_if (pt_not (pt_val (pe_call (ok__law_all TT LB) (hr.mono (by decide)) rfl TT.m__law_all TT.F__law_all.kp TT.b__law_all .nil pass0 (pa_cons (pv 2) (pa_cons (xe_out (xe_lst (xa_consC xe_int xa_nil))) (pa_cons (xe_out (xe_lst (xa_consC xe_int (xa_consB (xe_op op_add xe_int (xv 1)) (xa_consB (xe_op op_sub (xe_un un_neg xe_int) (xv 1)) (xa_consC xe_bl (xa_consC xe_str (xa_consC xe_non xa_nil)))))))) (pa_consC pe_str pa_nil))))))) (pss_one (ps_ret pe_bl)) pss_nil)) (xss_cons (XS.mk (ps_if (PW.pt (pw_or (pt_cmpR (op_eqD (k:=8) hu8) (pe_fld (pe_call (okx_dug TT LB) (hr.mono (by decide)) rfl TT.m_dug TT.F_dug.kp TT.b_dug .nil passN (pa_cons (pv 2) (pa_consC pe_int pa_nil))) rfl) (pe_lst pa_nil) (nomark _)) (pw_or1 (pt_cmpR op_ne (pe_call (okx_least_walk TT LB) (hr.mono (by decide)) rfl TT.m_least_walk TT.F_least_walk.kp TT.b_least_walk .nil passN (pa_cons (pv 2) (pa_consC pe_int pa_nil))) pe_int (nomark _))))) (pss_one (ps_ret pe_bl)) pss_nil)) (xss_cons (XS.mk (ps_if (pt_cmpR (op_neL (k:=8) hu9) (pe_call (okx_walks TT) (hr.mono (by decide)) rfl TT.m_walks TT.F_walks.kp TT.b_walks .nil passN (pa_cons (pv 2) (pa_cons (xe_out (xe_lst (xa_consC xe_int (xa_consC xe_int (xa_consC xe_int xa_nil))))) pa_nil))) (xe_out (xe_lst (xa_consC xe_int (xa_consC xe_int (xa_consC xe_int xa_nil))))) (nomark _)) (pss_one (ps_ret pe_bl)) pss_nil)) (xss_cons (XS.mk (ps_if (PW.pt (pw_or (pt_cmpR op_ne (pe_call (ok__law_asked TT LB) (hr.mono (by decide)) rfl TT.m__law_asked TT.F__law_asked.kp TT.b__law_asked .nil pass0 (pa_cons (pv 2) (pa_consC pe_int (pa_consB (pe_op op_add (pv 1) pe_int) pa_nil)))) pe_str (nomark _)) (pw_or1 (pt_cmpR op_ne (pe_call (ok__law_asked TT LB) (hr.mono (by decide)) rfl TT.m__law_asked TT.F__law_asked.kp TT.b__law_asked .nil pass0 (pa_cons (pv 2) (pa_consC pe_int (pa_consC pe_non pa_nil)))) pe_str (nomark _))))) (pss_one (ps_ret pe_bl)) pss_nil)) (xss_one (XS.mk (ps_ret (pe_and (pe_cmp (pc_isN (pe_call (okx_long TT) (hr.mono (by decide)) rfl TT.m_long TT.F_long.kp TT.b_long .nil passN (pa_cons (pv 2) (pa_cons (xe_out (xe_lst (xa_consC xe_int (xa_consC xe_int xa_nil)))) pa_nil))))) (pe_one (pe_cmpR (op_eqD (k:=8) hu8) (pe_fld (pe_call (okx_dug TT LB) (hr.mono (by decide)) rfl TT.m_dug TT.F_dug.kp TT.b_dug .nil passN (pa_cons (pv 2) (pa_consC pe_int pa_nil))) rfl) (xe_out (xe_lst (xa_consC xe_int (xa_consC xe_int (xa_consC xe_int xa_nil))))) (nomark _))))))))))))))))))))),?_⟩
  have L0:Lams t H:=⟨⟨#[],hP1,True.intro,.inl rfl⟩,⟨#[],hP2,True.intro,.inl rfl⟩⟩
  refine ⟨_,rfl,a,ns,0,rfl,hS,by decide,fun c=>⟨_,_,rfl,rfl,(by show (0:Int) < 100000000; decide),?_⟩⟩
  have hm:0≤c % 100000000:=Int.emod_nonneg _ (by decide)
  refine ⟨by show 3≤sizeLine; decide,fun a1 g1=>⟨by show 3≤sizeLine; decide,fun a2 g2=>⟨by show 2≤sizeLine; decide,fun p gp=>?_⟩⟩⟩
  have z1:=same_new (o:=.tup [.int 0,.int 1,.int 5]) g1
  have z2:=same_new (o:=.tup [.int 1,.int 2,.int 7]) g2
  have z3:=same_new (o:=.lst [.ref a1,.ref a2]) gp
  have R:RoadsAt _ p r3:=⟨_,upd_same,.cons (roadD_mk (z3 _ _ (z2 _ _ upd_same))) (.cons (roadD_mk (z3 _ _ upd_same)) .nil)⟩
  refine fun x dx hx hdx hne=>?_
  have s1:=(same_new (o:=.own x) hdx).trans (same_new (o:=.ins t.C_Tree dx []) (by rw [upd_ne hne.symm]; exact hx))
  refine .inl ⟨x,dx,p,3,r3,rfl,upd_same,R.keep s1,istree3,fun q H2 hq T kp=>⟨rfl,?_⟩⟩
  have s2:Same H H2:=fun b o e=>kp _ _ (s1 _ _ (z3 _ _ (z2 _ _ (z1 _ _ e)))) (ne_of_none (z3 _ _ (z2 _ _ (z1 _ _ e))) hx)
  have L2:=L0.same s2
  clear z1 z2 z3 g1 g2 gp s1 kp hq hx hdx hne s2 hP1 hP2 L0 hS hlen
  refine ⟨_,rfl,_,rfl,hm,fun H3 s3=>⟨_,rfl,iteF ?_⟩⟩
  have L3:=L2.same s3
  have T3:=T.keep s3
  clear s3 L2 T
  refine stAll (Pv:=NoW 0 2) (ds:=((List.range 10).map fun (k:Nat)=>(k:Int))++[17]) 1 rfl T3 ?_ (MkA.mkT (n:=6) (.cons noW_mono (wPlus rfl hm (by decide)) (.cons noW_mono (wMinus rfl hm (by decide)) (.cons noW_mono wB (.cons noW_mono wS (.cons noW_mono wN (.cons noW_mono wL .nil)))))) noW_mono (by decide)) noW_mono (fun d hd H v h=>?_) (sortVillage TT) fun H4 s4=>?_
  ·exact fun H1 Q k=>⟨10,rfl,fun rg hrg=>⟨rg,10,rfl,upd_same,by decide,fun l hl=>⟨by show 1≤sizeLine; decide,fun l2 hl2=>⟨l,l2,_,[.int 17],rfl,rfl,same_new hl2 _ _ upd_same,upd_same,by show 11≤sizeLine; decide,fun p hp=>k p _ ((same_new hrg).trans ((same_new hl).trans ((same_new hl2).trans (same_new hp)))) (by rw [List.map_append]; exact upd_same)⟩⟩⟩⟩
  ·have hd':0≤d∧(d≤9∨d=17):=by
    rcases List.mem_append.mp hd with hd | hd
    ·obtain ⟨k,hk,rfl⟩:=List.mem_map.mp hd
     have:=List.mem_range.mp hk
     exact ⟨by omega,.inl (by omega)⟩
    ·have:d=17:=by simpa using hd
     exact ⟨by omega,.inr this⟩
   exact askV hd'.2 hd'.1 h.1 h.2
  have L4:=L3.same s4
  have T4:=T3.keep s4
  clear s4 L3 T3
  refine stAll (Pv:=NoW 0 1) 2 rfl T4 doors2 (MkA.mkT (n:=6) (.cons noW_mono (wPlus rfl hm (by decide)) (.cons noW_mono (wMinus rfl hm (by decide)) (.cons noW_mono wB (.cons noW_mono wS (.cons noW_mono wN (.cons noW_mono wL .nil)))))) noW_mono (by decide)) noW_mono (fun d hd H v h=>askR (by simpa using hd) h.1 h.2) (sortRoad TT) fun H5 s5=>?_
  have L5:=L4.same s5
  have T5:=T4.keep s5
  clear s5 L4 T4
  refine stAll (Pv:=NoW 0 12000000) 3 rfl T5 doors1 (MkA.mkT (n:=6) (.cons noW_mono (wMinus rfl hm (by decide)) (.cons noW_mono (wPlus rfl hm (by decide)) (.cons noW_mono wB (.cons noW_mono wS (.cons noW_mono wN (.cons noW_mono wL .nil)))))) noW_mono (by decide)) noW_mono (fun d hd H v h=>askD hd h.1 h.2) (sortNumber TT) fun H6 s6=>?_
  have L6:=L5.same s6
  have T6:=T5.keep s6
  clear s6 L5 T5
  refine stAll (Pv:=NoW 1 12) 3 rfl T6 doors1 (MkA.mkT (n:=6) (.cons noW_mono (wZ (by decide)) (.cons noW_mono (wPlus rfl hm (by decide)) (.cons noW_mono (wMinus rfl hm (by decide)) (.cons noW_mono wB (.cons noW_mono wS (.cons noW_mono wN .nil)))))) noW_mono (by decide)) noW_mono (fun d hd H v h=>askL hd h.1 h.2) (sortNumber TT) fun H7 s7=>?_
  have L7:=L6.same s7
  have T7:=T6.keep s7
  clear s7 L6 T6
  have kk:∀ (l:List Int) (H:Hp),∀ y∈l.map V.int,KindV H y:=fun l H y hy=>by
   obtain ⟨i,_,rfl⟩:=List.mem_map.mp hy
   exact .int i
  refine rdAsg (MkA.lst (Pv:=NoP) (n:=7) (.cons noP_mono pN (.cons noP_mono (pL (xs:=[]) (fun _ _ h=>h) (kk []) (by decide) (by decide)) (.cons noP_mono (pL (xs:=[.int 1,.int 1]) (fun _ _ h=>h) (kk [1,1]) (by decide) (by decide)) (.cons noP_mono (pL (xs:=[.int 1,.int 1,.int 1,.int 1]) (fun _ _ h=>h) (kk [1,1,1,1]) (by decide) (by decide)) (.cons noP_mono (pT (xs:=[.int 1,.int 1,.int 1]) (fun _ _ h=>h) (by decide))
   (.cons noP_mono (pL (xs:=[.int 1,.int 1,.int (-1 - c % 100000000)]) (fun _ _ h=>⟨_,rfl,_,rfl,_,_,rfl,rfl,h⟩) (kk [1,1,-1 - c % 100000000]) (by simp) ?_) (.cons noP_mono (pL (xs:=[.int (1000001 + c % 100000000),.int 1,.int 1]) (fun _ _ h=>⟨_,rfl,_,_,rfl,rfl,h⟩) (kk [1000001 + c % 100000000,1,1]) (by simp) ?_) .nil))))))) noP_mono (by decide) fun b1 us1 H8 hb1 s8 h8 hu1 n1=>?_)
  ·show (true&&([V.int 1,V.int 1,V.int (-1 - c % 100000000)].all fun y=>wholeV y 0 1000000))=false
   have:wholeV (.int (-1 - c % 100000000)) 0 1000000=false:=wf (.inl (by omega))
   simp only [List.all_cons,List.all_nil,this]
   rfl
  ·show (true&&([V.int (1000001 + c % 100000000),V.int 1,V.int 1].all fun y=>wholeV y 0 1000000))=false
   have:wholeV (.int (1000001 + c % 100000000)) 0 1000000=false:=wf (.inr (by omega))
   simp only [List.all_cons,List.all_nil,this]
   rfl
  refine rdAsg ⟨_,rfl,MkA.lst (Pv:=NoP) (n:=2) (.cons noP_mono (pL (xs:=[.int 1,.bl true,.int 1]) (fun _ _ h=>h) (k3 (fun _=>.int _) (fun _=>.bl _) fun _=>.int _) (by decide) (by rfl)) (.cons noP_mono (pL (xs:=[.str "1",.int 1,.int 1]) (fun _ _ h=>h) (k3 (fun _=>.str _) (fun _=>.int _) fun _=>.int _) (by simp) (by rfl)) .nil)) noP_mono (by decide) fun b2 us2 H9 hb2 s9 h9 hu2 n2=>?_⟩
  refine ⟨b1,b2,us1,us2,rfl,rfl,s9 _ _ h8,h9,by rw [n1,n2,sizeLine_eq]; omega,fun b3 hb3=>?_⟩
  have s10:=same_new (o:=.lst (us1++us2)) hb3
  have l10:upd H9 b3 (.lst (us1++us2)) b3=some (.lst (us1++us2)):=upd_same
  have u10:∀ v∈us1++us2,NoP (upd H9 b3 (.lst (us1++us2))) v:=fun v hv=>by
   rcases List.mem_append.mp hv with z | z
   ·exact (hu1 v z).keep (s9.trans s10)
   ·exact (hu2 v z).keep s10
  have n10:(us1++us2).length≤100:=by rw [List.length_append,n1,n2]; decide
  have T10:=T7.keep (s8.trans (s9.trans s10))
  have L10:=L7.same (s8.trans (s9.trans s10))
  generalize upd H9 b3 (.lst (us1++us2))=H10 at l10 u10 T10 L10
  generalize us1++us2=pe at l10 u10 n10
  clear s8 s9 s10 h8 h9 hu1 hu2 n1 n2 hb1 hb2 hb3 T7 L7
  refine stAll (Pv:=NoP) 3 rfl T10 doors2 (fun H1 Q s k=>⟨_,rfl,k b3 pe H1 (Same.refl _) (s _ _ l10) n10 fun v hv=>(u10 v hv).keep s⟩) noP_mono (fun d hd H v h=>askP (by simpa using hd) h) (sortNumber TT) fun H11 s11=>?_
  have L11:=L10.same s11
  have T11:=T10.keep s11
  clear s11 L10 T10 l10 u10 n10
  refine stAll (Pv:=NoW 1 1000000) 0 rfl T11 doors1 (MkA.mkT (n:=6) (.cons noW_mono (wZ (by decide)) (.cons noW_mono (wPlus rfl hm (by decide)) (.cons noW_mono (wMinus rfl hm (by decide)) (.cons noW_mono wB (.cons noW_mono wS (.cons noW_mono wN .nil)))))) noW_mono (by decide)) noW_mono (fun d hd H v h=>askT hd h.1 h.2) (sortTree TT) fun H12 s12=>?_
  have L12:=L11.same s12
  have T12:=T11.keep s12
  clear s12 L11 T11
  refine ⟨_,rfl,.inl ⟨x,q,3,r3,12000000,rfl,T12,by decide,by decide,L12,fun y yp yq ws cs H13 _ _ _ k13 W o1 o2 F=>?_⟩⟩
  obtain ⟨yd,hy⟩:=W.ob
  refine ⟨y,t.C_Wells,yd,_,_,rfl,hy,TT.cl_Wells,TT.n_Wells_wells,wflds_wells _ _,by show 0≤sizeLine; decide,fun em hem=>?_⟩
  have s14:=same_new (o:=.lst []) hem
  refine ⟨intsD ws,intsD [],rep_ints (s14 _ _ W.ws),rep_ints upd_same,dep_ints _,_,rfl,ite_f (by rw [eq_ints]; exact decide_eq_false (Found.some F)) ?_⟩
  have k14:=k13.same s14
  have T14:=T12.keepL k14
  have L14:=k14.lam'
  generalize upd H13 em (.lst [])=H14 at T14 L14
  clear s14 k14 k13 W hy o1 o2 F T12 L12
  refine ⟨_,rfl,.inl ⟨x,q,3,r3,12,rfl,T14,by decide,by decide,by decide,L14,fun d H15 k15 hd he hmin=>?_⟩⟩
  obtain rfl:=least3 hd hmin
  refine ⟨rfl,_,rfl,ite_f (nee _) ?_⟩
  have T15:=T14.keepL k15
  have L15:=k15.lam'
  clear k15 hd he hmin T14 L14
  refine ⟨_,rfl,by show 3≤sizeLine; decide,fun u hu=>?_⟩
  have s16:=same_new (o:=.lst [.int 1000000,.int 0,.int 0]) hu
  refine .inl ⟨x,q,u,3,r3,[1000000,0,0],rfl,T15.keep s16,upd_same,⟨rfl,by decide⟩,fun p17 H17 hp17 s17 h17=>?_⟩
  rw [show dueM (3:Int).toNat r3 [1000000,0,0]=[0,5000000,12000000] from due3] at h17
  refine ⟨by show 3≤sizeLine; decide,fun b18 hb18=>?_⟩
  have s18:=same_new (o:=.lst [.int 0,.int 5000000,.int 12000000]) hb18
  refine ⟨p17,b18,_,_,_,_,rfl,rfl,.inl ⟨s18 _ _ h17,upd_same⟩,reps_ints _,reps_ints [0,5000000,12000000],depDs_ints _,_,rfl,ite_f (by rw [eqDs_refl]; rfl) ?_⟩
  have T18:=T15.keep (s16.trans (s17.trans s18))
  have L18:=L15.same (s16.trans (s17.trans s18))
  generalize upd H17 b18 (.lst [.int 0,.int 5000000,.int 12000000])=H18 at T18 L18
  clear s16 s17 s18 h17 hp17 hu hb18 T15 L15
  refine ⟨_,rfl,_,rfl,_,_,rfl,rfl,x,q,3,r3,17,.int (c % 100000000 + 3),t.C_NoVillage,1,rfl,T18,rfl,askV (.inr rfl) (by decide) (.int _) (wf (.inr (by omega))),sortVillage TT,fun H19 s19=>⟨rfl,_,rfl,ite_f (nee _) ?_⟩⟩
  refine ⟨_,rfl,x,q,3,r3,18,.non,t.C_BadTree,0,rfl,T18.keep s19,rfl,askN,sortTree TT,fun H20 s20=>⟨rfl,_,rfl,ite_f (nee _) ?_⟩⟩
  have T20:=T18.keep (s19.trans s20)
  have L20:=L18.same (s19.trans s20)
  clear s19 s20 T18 L18
  refine ⟨_,rfl,by show 2≤sizeLine; decide,fun u hu=>?_⟩
  have s21:=same_new (o:=.lst [.int 0,.int 2]) hu
  refine ⟨x,q,u,3,r3,[.int 0,.int 2],rfl,T20.keep s21,upd_same,kk [0,2] _,fun ⟨y,hy,e⟩=>?_,fun _=>⟨0,2,rfl,no02,fun H22 s22=>⟨_,rfl,iteqT ?_ (eee _)⟩⟩⟩
  ·have:y=.int 0∨y=.int 2:=by simpa using hy
   rcases this with rfl | rfl
   ·exact tf (wholeV_iff.mpr ⟨by decide,by decide⟩) e
   ·exact tf (wholeV_iff.mpr ⟨by decide,by decide⟩) e
  refine ⟨_,rfl,.inl ⟨x,q,3,r3,0,rfl,T20.keep (s21.trans s22),by decide,by decide,L20.same (s21.trans s22),fun y yp yq ws cs H13 _ _ _ k13 W o1 o2 F=>?_⟩⟩
  obtain ⟨yd,hy⟩:=W.ob
  refine ⟨y,t.C_Wells,yd,_,_,rfl,hy,TT.cl_Wells,TT.n_Wells_wells,wflds_wells _ _,by show 3≤sizeLine; decide,fun em hem=>?_⟩
  have s14:=same_new (o:=.lst [.int 0,.int 1,.int 2]) hem
  refine ⟨intsD ws,intsD [0,1,2],rep_ints (s14 _ _ W.ws),rep_ints upd_same,dep_ints _,?_⟩
  obtain rfl:=Found.zero F o1
  rw [eqD_refl]
  exact k _
end
end WR
namespace WR
open PySem L2
theorem kitCls_of {K:PySem.W.Frag} {t:Value} {C:Addr} {b:Bool} (h:PySem.W.isClsIn K C=true) (y:PySem.W.typeIn K (.ref C)=some (.type "type")) (e:PySem.W.subIn K t (.ref C)=some b):PySem.W.kitCls K t (.ref C)=some b:=by
 have h:(PySem.W.clsIn K C).isSome=true:=h
 unfold PySem.W.kitCls
 show (if _=true then PySem.W.subIn K t (.ref C) else none)=_
 rw [h,y,if_pos (by rfl)]
 exact e
theorem meta_val:PySem.W.kitMeta "ValueError" = true:=by decide +kernel
theorem kitOne_val {K:PySem.W.Frag} {C:Addr} (e:PySem.W.subIn K (.ref C) (.type "ValueError")=some true):PySem.W.kitOne K (.ref C) (.type "ValueError")=some true:=by
 unfold PySem.W.kitOne
 rw [if_neg (by intro z; cases z)]
 unfold PySem.W.kitCls
 show (if _=true then PySem.W.subIn K (.ref C) (.type "ValueError") else none)=_
 rw [if_pos meta_val]
 exact e
theorem list_len {α:Type} {n:Nat} {l:List α} (h:l.length=n + 1):∃ a r,l=a::r∧r.length=n:=by
 cases l with
 | nil=>cases h
 | cons a r=>exact ⟨a,r,rfl,Nat.succ.inj h⟩
theorem binds1 {K:PySem.W.Frag} {x qual a0:Str} {st:Stmt} {f:Addr} {fd:FuncData} (F:Fun K x qual st f fd) (h:∀ (kV doc pm:Value) (an:Option Addr) (cdv ct u0:Value),bindArgs (PySem.W.fnOf x qual (defArgs st) (defBody st) (defScope st) .none kV doc pm an cdv ct) ⟨[u0],[]⟩=pure [(a0,u0)]):Binds K fd [a0] []:=by
 refine F.binds (ps:=[a0]) fun kV doc pm an cdv ct us hl=>?_
 obtain ⟨u0,r0,rfl,h0⟩:=list_len (n:=0) hl
 obtain rfl:=List.eq_nil_of_length_eq_zero h0
 exact h kV doc pm an cdv ct u0
theorem binds2 {K:PySem.W.Frag} {x qual a0 a1:Str} {st:Stmt} {f:Addr} {fd:FuncData} (F:Fun K x qual st f fd) (h:∀ (kV doc pm:Value) (an:Option Addr) (cdv ct u0 u1:Value),bindArgs (PySem.W.fnOf x qual (defArgs st) (defBody st) (defScope st) .none kV doc pm an cdv ct) ⟨[u0,u1],[]⟩=pure [(a0,u0),(a1,u1)]):Binds K fd [a0,a1] []:=by
 refine F.binds (ps:=[a0,a1]) fun kV doc pm an cdv ct us hl=>?_
 obtain ⟨u0,r0,rfl,h0⟩:=list_len (n:=1) hl
 obtain ⟨u1,r1,rfl,h1⟩:=list_len (n:=0) h0
 obtain rfl:=List.eq_nil_of_length_eq_zero h1
 exact h kV doc pm an cdv ct u0 u1
theorem binds3 {K:PySem.W.Frag} {x qual a0 a1 a2:Str} {st:Stmt} {f:Addr} {fd:FuncData} (F:Fun K x qual st f fd) (h:∀ (kV doc pm:Value) (an:Option Addr) (cdv ct u0 u1 u2:Value),bindArgs (PySem.W.fnOf x qual (defArgs st) (defBody st) (defScope st) .none kV doc pm an cdv ct) ⟨[u0,u1,u2],[]⟩=pure [(a0,u0),(a1,u1),(a2,u2)]):Binds K fd [a0,a1,a2] []:=by
 refine F.binds (ps:=[a0,a1,a2]) fun kV doc pm an cdv ct us hl=>?_
 obtain ⟨u0,r0,rfl,h0⟩:=list_len (n:=2) hl
 obtain ⟨u1,r1,rfl,h1⟩:=list_len (n:=1) h0
 obtain ⟨u2,r2,rfl,h2⟩:=list_len (n:=0) h1
 obtain rfl:=List.eq_nil_of_length_eq_zero h2
 exact h kV doc pm an cdv ct u0 u1 u2
theorem binds4 {K:PySem.W.Frag} {x qual a0 a1 a2 a3:Str} {st:Stmt} {f:Addr} {fd:FuncData} (F:Fun K x qual st f fd) (h:∀ (kV doc pm:Value) (an:Option Addr) (cdv ct u0 u1 u2 u3:Value),bindArgs (PySem.W.fnOf x qual (defArgs st) (defBody st) (defScope st) .none kV doc pm an cdv ct) ⟨[u0,u1,u2,u3],[]⟩=pure [(a0,u0),(a1,u1),(a2,u2),(a3,u3)]):Binds K fd [a0,a1,a2,a3] []:=by
 refine F.binds (ps:=[a0,a1,a2,a3]) fun kV doc pm an cdv ct us hl=>?_
 obtain ⟨u0,r0,rfl,h0⟩:=list_len (n:=3) hl
 obtain ⟨u1,r1,rfl,h1⟩:=list_len (n:=2) h0
 obtain ⟨u2,r2,rfl,h2⟩:=list_len (n:=1) h1
 obtain ⟨u3,r3,rfl,h3⟩:=list_len (n:=0) h2
 obtain rfl:=List.eq_nil_of_length_eq_zero h3
 exact h kV doc pm an cdv ct u0 u1 u2 u3
theorem tabIn_of {K:PySem.W.Frag} {x qual:Str} {f c P:Addr} {oc kV dc pm ct oc2:Value} {od an od2:Option Addr} {sl sl2:Array (Option Value)} {da:Arguments} {db:List Stmt} {ds:Scope} {vs:Array Value}
  (h1:PySem.W.nsIn K mainGlobals x=some (some (.ref f))) (h2:K.lookup f=some ⟨oc,od,.func (PySem.W.fnOf x qual da db ds .none kV dc pm an (.ref c) ct),sl⟩) (h3:K.lookup c=some ⟨oc2,od2,.fields vs,sl2⟩) (h4:vs[11]?=some (.ref P)):PySem.W.tabIn K x=some (c,P):=by
 unfold PySem.W.tabIn
 rw [h1]
 dsimp only
 rw [h2]
 show (match K.lookup c with | some ⟨_,_,.fields vs,_⟩=>(match (vs[11]?:Option Value) with | some (.ref P)=>some (c,P) | _=>none) | _=>none)=_
 rw [h3]
 dsimp only
 rw [h4]
theorem all_mk {l:PySem.W.OpenLaw} {w:World} {K:PySem.W.Frag} {h:Heap} {mg:Str→Option Value} {fa:Addr} (X:K.In h) (G:h.Ns mainGlobals mg) (hfa:mg "law" = some (.ref fa))
  {f_is_number:Addr} {oc_0 kV_0 dc_0 pm_0 cd_0 ct_0:Value} {od_0 an_0:Option Addr} {sl_0:Array (Option Value)}
  {f_is_whole:Addr} {oc_1 kV_1 dc_1 pm_1 cd_1 ct_1:Value} {od_1 an_1:Option Addr} {sl_1:Array (Option Value)}
  {f_is_road:Addr} {oc_2 kV_2 dc_2 pm_2 cd_2 ct_2:Value} {od_2 an_2:Option Addr} {sl_2:Array (Option Value)}
  {f_is_tree:Addr} {oc_3 kV_3 dc_3 pm_3 cd_3 ct_3:Value} {od_3 an_3:Option Addr} {sl_3:Array (Option Value)}
  {f_steps:Addr} {oc_4 kV_4 dc_4 pm_4 cd_4 ct_4:Value} {od_4 an_4:Option Addr} {sl_4:Array (Option Value)}
  {f_reached:Addr} {oc_5 kV_5 dc_5 pm_5 cd_5 ct_5:Value} {od_5 an_5:Option Addr} {sl_5:Array (Option Value)}
  {f_Tree_init:Addr} {oc_6 kV_6 dc_6 pm_6 cd_6 ct_6:Value} {od_6 an_6:Option Addr} {sl_6:Array (Option Value)}
  {f_Tree_roads:Addr} {oc_7 kV_7 dc_7 pm_7 cd_7 ct_7:Value} {od_7 an_7:Option Addr} {sl_7:Array (Option Value)}
  {f_need_village:Addr} {oc_8 kV_8 dc_8 pm_8 cd_8 ct_8:Value} {od_8 an_8:Option Addr} {sl_8:Array (Option Value)}
  {f_need_road:Addr} {oc_9 kV_9 dc_9 pm_9 cd_9 ct_9:Value} {od_9 an_9:Option Addr} {sl_9:Array (Option Value)}
  {f_far:Addr} {oc_10 kV_10 dc_10 pm_10 cd_10 ct_10:Value} {od_10 an_10:Option Addr} {sl_10:Array (Option Value)}
  {f_way:Addr} {oc_11 kV_11 dc_11 pm_11 cd_11 ct_11:Value} {od_11 an_11:Option Addr} {sl_11:Array (Option Value)}
  {f_distances_from:Addr} {oc_12 kV_12 dc_12 pm_12 cd_12 ct_12:Value} {od_12 an_12:Option Addr} {sl_12:Array (Option Value)}
  {f_distances:Addr} {oc_13 kV_13 dc_13 pm_13 cd_13 ct_13:Value} {od_13 an_13:Option Addr} {sl_13:Array (Option Value)}
  {f_sides:Addr} {oc_14 kV_14 dc_14 pm_14 cd_14 ct_14:Value} {od_14 an_14:Option Addr} {sl_14:Array (Option Value)}
  {f_joined:Addr} {oc_15 kV_15 dc_15 pm_15 cd_15 ct_15:Value} {od_15 an_15:Option Addr} {sl_15:Array (Option Value)}
  {f_moved:Addr} {oc_16 kV_16 dc_16 pm_16 cd_16 ct_16:Value} {od_16 an_16:Option Addr} {sl_16:Array (Option Value)}
  {f_errand:Addr} {oc_17 kV_17 dc_17 pm_17 cd_17 ct_17:Value} {od_17 an_17:Option Addr} {sl_17:Array (Option Value)}
  {f_long:Addr} {oc_18 kV_18 dc_18 pm_18 cd_18 ct_18:Value} {od_18 an_18:Option Addr} {sl_18:Array (Option Value)}
  {f_least_places:Addr} {oc_19 kV_19 dc_19 pm_19 cd_19 ct_19:Value} {od_19 an_19:Option Addr} {sl_19:Array (Option Value)}
  {f_need_people:Addr} {oc_20 kV_20 dc_20 pm_20 cd_20 ct_20:Value} {od_20 an_20:Option Addr} {sl_20:Array (Option Value)}
  {f_walked:Addr} {oc_21 kV_21 dc_21 pm_21 cd_21 ct_21:Value} {od_21 an_21:Option Addr} {sl_21:Array (Option Value)}
  {f_walks:Addr} {oc_22 kV_22 dc_22 pm_22 cd_22 ct_22:Value} {od_22 an_22:Option Addr} {sl_22:Array (Option Value)}
  {f_medians:Addr} {oc_23 kV_23 dc_23 pm_23 cd_23 ct_23:Value} {od_23 an_23:Option Addr} {sl_23:Array (Option Value)}
  {f_Wells_init:Addr} {oc_24 kV_24 dc_24 pm_24 cd_24 ct_24:Value} {od_24 an_24:Option Addr} {sl_24:Array (Option Value)}
  {f_how_many_near:Addr} {oc_25 kV_25 dc_25 pm_25 cd_25 ct_25:Value} {od_25 an_25:Option Addr} {sl_25:Array (Option Value)}
  {f_innermost_near:Addr} {oc_26 kV_26 dc_26 pm_26 ct_26:Value} {od_26 an_26:Option Addr} {sl_26:Array (Option Value)}
  {f_fewest:Addr} {oc_27 kV_27 dc_27 pm_27 ct_27:Value} {od_27 an_27:Option Addr} {sl_27:Array (Option Value)}
  {f_dug:Addr} {oc_28 kV_28 dc_28 pm_28 cd_28 ct_28:Value} {od_28 an_28:Option Addr} {sl_28:Array (Option Value)}
  {f_least_walk:Addr} {oc_29 kV_29 dc_29 pm_29 cd_29 ct_29:Value} {od_29 an_29:Option Addr} {sl_29:Array (Option Value)}
  {f__law_cell_at:Addr} {oc_30 kV_30 dc_30 pm_30 cd_30 ct_30:Value} {od_30 an_30:Option Addr} {sl_30:Array (Option Value)}
  {f__law_sort:Addr} {oc_31 kV_31 dc_31 pm_31 cd_31 ct_31:Value} {od_31 an_31:Option Addr} {sl_31:Array (Option Value)}
  {f__law_tree:Addr} {oc_32 kV_32 dc_32 pm_32 cd_32 ct_32:Value} {od_32 an_32:Option Addr} {sl_32:Array (Option Value)}
  {f__law_ask:Addr} {oc_33 kV_33 dc_33 pm_33 cd_33 ct_33:Value} {od_33 an_33:Option Addr} {sl_33:Array (Option Value)}
  {f__law_asked:Addr} {oc_34 kV_34 dc_34 pm_34 cd_34 ct_34:Value} {od_34 an_34:Option Addr} {sl_34:Array (Option Value)}
  {f__law_all:Addr} {oc_35 kV_35 dc_35 pm_35 cd_35 ct_35:Value} {od_35 an_35:Option Addr} {sl_35:Array (Option Value)}
  {f__law_trees:Addr} {oc_36 kV_36 dc_36 pm_36 cd_36 ct_36:Value} {od_36 an_36:Option Addr} {sl_36:Array (Option Value)}
  {f_law:Addr} {oc_37 kV_37 dc_37 pm_37 cd_37 ct_37:Value} {od_37 an_37:Option Addr} {sl_37:Array (Option Value)}
  {C_Tree:Addr}
  {C_Wells:Addr}
  {C_RoadError:Addr}
  {C_BadTree:Addr}
  {C_NoVillage:Addr}
  {C_NoRoad:Addr}
  {C_BadNumber:Addr}
  {C_BadRow:Addr}
  {c_of_fewest P_of_fewest:Addr}
  {c_of_innermost_near P_of_innermost_near:Addr}
  {t_MOST_VILLAGES:Tok}
  {t_MOST_LENGTH:Tok}
  {t_MOST_PEOPLE:Tok}
  {t_MOST_WALK:Tok}
  {t_MOST_WELLS:Tok}
  (aC_Tree:PySem.W.nsIn K mainGlobals "Tree" = some (some (.ref C_Tree)))
  (aC_Wells:PySem.W.nsIn K mainGlobals "Wells" = some (some (.ref C_Wells)))
  (aC_RoadError:PySem.W.nsIn K mainGlobals "RoadError" = some (some (.ref C_RoadError)))
  (aC_BadTree:PySem.W.nsIn K mainGlobals "BadTree" = some (some (.ref C_BadTree)))
  (aC_NoVillage:PySem.W.nsIn K mainGlobals "NoVillage" = some (some (.ref C_NoVillage)))
  (aC_NoRoad:PySem.W.nsIn K mainGlobals "NoRoad" = some (some (.ref C_NoRoad)))
  (aC_BadNumber:PySem.W.nsIn K mainGlobals "BadNumber" = some (some (.ref C_BadNumber)))
  (aC_BadRow:PySem.W.nsIn K mainGlobals "BadRow" = some (some (.ref C_BadRow)))
  (a_is_number:PySem.W.nsIn K mainGlobals "is_number" = some (some (.ref f_is_number)))
  (l_is_number:K.lookup f_is_number=some ⟨oc_0,od_0,.func (PySem.W.fnOf "is_number" "is_number" (defArgs s_is_number) (defBody s_is_number) (defScope s_is_number) .none kV_0 dc_0 pm_0 an_0 cd_0 ct_0),sl_0⟩)
  (c_is_number:PySem.W.codeIn K cd_0 "is_number" = true)
  (k_is_number:PySem.W.keepIn K (.ref f_is_number)=true)
  (a_is_whole:PySem.W.nsIn K mainGlobals "is_whole" = some (some (.ref f_is_whole)))
  (l_is_whole:K.lookup f_is_whole=some ⟨oc_1,od_1,.func (PySem.W.fnOf "is_whole" "is_whole" (defArgs s_is_whole) (defBody s_is_whole) (defScope s_is_whole) .none kV_1 dc_1 pm_1 an_1 cd_1 ct_1),sl_1⟩)
  (c_is_whole:PySem.W.codeIn K cd_1 "is_whole" = true)
  (k_is_whole:PySem.W.keepIn K (.ref f_is_whole)=true)
  (a_is_road:PySem.W.nsIn K mainGlobals "is_road" = some (some (.ref f_is_road)))
  (l_is_road:K.lookup f_is_road=some ⟨oc_2,od_2,.func (PySem.W.fnOf "is_road" "is_road" (defArgs s_is_road) (defBody s_is_road) (defScope s_is_road) .none kV_2 dc_2 pm_2 an_2 cd_2 ct_2),sl_2⟩)
  (c_is_road:PySem.W.codeIn K cd_2 "is_road" = true)
  (k_is_road:PySem.W.keepIn K (.ref f_is_road)=true)
  (a_is_tree:PySem.W.nsIn K mainGlobals "is_tree" = some (some (.ref f_is_tree)))
  (l_is_tree:K.lookup f_is_tree=some ⟨oc_3,od_3,.func (PySem.W.fnOf "is_tree" "is_tree" (defArgs s_is_tree) (defBody s_is_tree) (defScope s_is_tree) .none kV_3 dc_3 pm_3 an_3 cd_3 ct_3),sl_3⟩)
  (c_is_tree:PySem.W.codeIn K cd_3 "is_tree" = true)
  (k_is_tree:PySem.W.keepIn K (.ref f_is_tree)=true)
  (a_steps:PySem.W.nsIn K mainGlobals "steps" = some (some (.ref f_steps)))
  (l_steps:K.lookup f_steps=some ⟨oc_4,od_4,.func (PySem.W.fnOf "steps" "steps" (defArgs s_steps) (defBody s_steps) (defScope s_steps) .none kV_4 dc_4 pm_4 an_4 cd_4 ct_4),sl_4⟩)
  (c_steps:PySem.W.codeIn K cd_4 "steps" = true)
  (k_steps:PySem.W.keepIn K (.ref f_steps)=true)
  (a_reached:PySem.W.nsIn K mainGlobals "reached" = some (some (.ref f_reached)))
  (l_reached:K.lookup f_reached=some ⟨oc_5,od_5,.func (PySem.W.fnOf "reached" "reached" (defArgs s_reached) (defBody s_reached) (defScope s_reached) .none kV_5 dc_5 pm_5 an_5 cd_5 ct_5),sl_5⟩)
  (c_reached:PySem.W.codeIn K cd_5 "reached" = true)
  (k_reached:PySem.W.keepIn K (.ref f_reached)=true)
  (a_Tree_init:PySem.W.findIn K (.ref C_Tree) "__init__" = some (some (.ref f_Tree_init)))
  (i_Tree_init:PySem.W.isFn K (.ref f_Tree_init)=true)
  (l_Tree_init:K.lookup f_Tree_init=some ⟨oc_6,od_6,.func (PySem.W.fnOf "__init__" "Tree.__init__" (defArgs s_Tree_init) (defBody s_Tree_init) (defScope s_Tree_init) .none kV_6 dc_6 pm_6 an_6 cd_6 ct_6),sl_6⟩)
  (c_Tree_init:PySem.W.codeIn K cd_6 "Tree.__init__" = true)
  (k_Tree_init:PySem.W.keepIn K (.ref f_Tree_init)=true)
  (a_Tree_roads:PySem.W.findIn K (.ref C_Tree) "roads" = some (some (.ref f_Tree_roads)))
  (i_Tree_roads:PySem.W.isFn K (.ref f_Tree_roads)=true)
  (l_Tree_roads:K.lookup f_Tree_roads=some ⟨oc_7,od_7,.func (PySem.W.fnOf "roads" "Tree.roads" (defArgs s_Tree_roads) (defBody s_Tree_roads) (defScope s_Tree_roads) .none kV_7 dc_7 pm_7 an_7 cd_7 ct_7),sl_7⟩)
  (c_Tree_roads:PySem.W.codeIn K cd_7 "Tree.roads" = true)
  (k_Tree_roads:PySem.W.keepIn K (.ref f_Tree_roads)=true)
  (a_need_village:PySem.W.nsIn K mainGlobals "need_village" = some (some (.ref f_need_village)))
  (l_need_village:K.lookup f_need_village=some ⟨oc_8,od_8,.func (PySem.W.fnOf "need_village" "need_village" (defArgs s_need_village) (defBody s_need_village) (defScope s_need_village) .none kV_8 dc_8 pm_8 an_8 cd_8 ct_8),sl_8⟩)
  (c_need_village:PySem.W.codeIn K cd_8 "need_village" = true)
  (k_need_village:PySem.W.keepIn K (.ref f_need_village)=true)
  (a_need_road:PySem.W.nsIn K mainGlobals "need_road" = some (some (.ref f_need_road)))
  (l_need_road:K.lookup f_need_road=some ⟨oc_9,od_9,.func (PySem.W.fnOf "need_road" "need_road" (defArgs s_need_road) (defBody s_need_road) (defScope s_need_road) .none kV_9 dc_9 pm_9 an_9 cd_9 ct_9),sl_9⟩)
  (c_need_road:PySem.W.codeIn K cd_9 "need_road" = true)
  (k_need_road:PySem.W.keepIn K (.ref f_need_road)=true)
  (a_far:PySem.W.nsIn K mainGlobals "far" = some (some (.ref f_far)))
  (l_far:K.lookup f_far=some ⟨oc_10,od_10,.func (PySem.W.fnOf "far" "far" (defArgs s_far) (defBody s_far) (defScope s_far) .none kV_10 dc_10 pm_10 an_10 cd_10 ct_10),sl_10⟩)
  (c_far:PySem.W.codeIn K cd_10 "far" = true)
  (k_far:PySem.W.keepIn K (.ref f_far)=true)
  (a_way:PySem.W.nsIn K mainGlobals "way" = some (some (.ref f_way)))
  (l_way:K.lookup f_way=some ⟨oc_11,od_11,.func (PySem.W.fnOf "way" "way" (defArgs s_way) (defBody s_way) (defScope s_way) .none kV_11 dc_11 pm_11 an_11 cd_11 ct_11),sl_11⟩)
  (c_way:PySem.W.codeIn K cd_11 "way" = true)
  (k_way:PySem.W.keepIn K (.ref f_way)=true)
  (a_distances_from:PySem.W.nsIn K mainGlobals "distances_from" = some (some (.ref f_distances_from)))
  (l_distances_from:K.lookup f_distances_from=some ⟨oc_12,od_12,.func (PySem.W.fnOf "distances_from" "distances_from" (defArgs s_distances_from) (defBody s_distances_from) (defScope s_distances_from) .none kV_12 dc_12 pm_12 an_12 cd_12 ct_12),sl_12⟩)
  (c_distances_from:PySem.W.codeIn K cd_12 "distances_from" = true)
  (k_distances_from:PySem.W.keepIn K (.ref f_distances_from)=true)
  (a_distances:PySem.W.nsIn K mainGlobals "distances" = some (some (.ref f_distances)))
  (l_distances:K.lookup f_distances=some ⟨oc_13,od_13,.func (PySem.W.fnOf "distances" "distances" (defArgs s_distances) (defBody s_distances) (defScope s_distances) .none kV_13 dc_13 pm_13 an_13 cd_13 ct_13),sl_13⟩)
  (c_distances:PySem.W.codeIn K cd_13 "distances" = true)
  (k_distances:PySem.W.keepIn K (.ref f_distances)=true)
  (a_sides:PySem.W.nsIn K mainGlobals "sides" = some (some (.ref f_sides)))
  (l_sides:K.lookup f_sides=some ⟨oc_14,od_14,.func (PySem.W.fnOf "sides" "sides" (defArgs s_sides) (defBody s_sides) (defScope s_sides) .none kV_14 dc_14 pm_14 an_14 cd_14 ct_14),sl_14⟩)
  (c_sides:PySem.W.codeIn K cd_14 "sides" = true)
  (k_sides:PySem.W.keepIn K (.ref f_sides)=true)
  (a_joined:PySem.W.nsIn K mainGlobals "joined" = some (some (.ref f_joined)))
  (l_joined:K.lookup f_joined=some ⟨oc_15,od_15,.func (PySem.W.fnOf "joined" "joined" (defArgs s_joined) (defBody s_joined) (defScope s_joined) .none kV_15 dc_15 pm_15 an_15 cd_15 ct_15),sl_15⟩)
  (c_joined:PySem.W.codeIn K cd_15 "joined" = true)
  (k_joined:PySem.W.keepIn K (.ref f_joined)=true)
  (a_moved:PySem.W.nsIn K mainGlobals "moved" = some (some (.ref f_moved)))
  (l_moved:K.lookup f_moved=some ⟨oc_16,od_16,.func (PySem.W.fnOf "moved" "moved" (defArgs s_moved) (defBody s_moved) (defScope s_moved) .none kV_16 dc_16 pm_16 an_16 cd_16 ct_16),sl_16⟩)
  (c_moved:PySem.W.codeIn K cd_16 "moved" = true)
  (k_moved:PySem.W.keepIn K (.ref f_moved)=true)
  (a_errand:PySem.W.nsIn K mainGlobals "errand" = some (some (.ref f_errand)))
  (l_errand:K.lookup f_errand=some ⟨oc_17,od_17,.func (PySem.W.fnOf "errand" "errand" (defArgs s_errand) (defBody s_errand) (defScope s_errand) .none kV_17 dc_17 pm_17 an_17 cd_17 ct_17),sl_17⟩)
  (c_errand:PySem.W.codeIn K cd_17 "errand" = true)
  (k_errand:PySem.W.keepIn K (.ref f_errand)=true)
  (a_long:PySem.W.nsIn K mainGlobals "long" = some (some (.ref f_long)))
  (l_long:K.lookup f_long=some ⟨oc_18,od_18,.func (PySem.W.fnOf "long" "long" (defArgs s_long) (defBody s_long) (defScope s_long) .none kV_18 dc_18 pm_18 an_18 cd_18 ct_18),sl_18⟩)
  (c_long:PySem.W.codeIn K cd_18 "long" = true)
  (k_long:PySem.W.keepIn K (.ref f_long)=true)
  (a_least_places:PySem.W.nsIn K mainGlobals "least_places" = some (some (.ref f_least_places)))
  (l_least_places:K.lookup f_least_places=some ⟨oc_19,od_19,.func (PySem.W.fnOf "least_places" "least_places" (defArgs s_least_places) (defBody s_least_places) (defScope s_least_places) .none kV_19 dc_19 pm_19 an_19 cd_19 ct_19),sl_19⟩)
  (c_least_places:PySem.W.codeIn K cd_19 "least_places" = true)
  (k_least_places:PySem.W.keepIn K (.ref f_least_places)=true)
  (a_need_people:PySem.W.nsIn K mainGlobals "need_people" = some (some (.ref f_need_people)))
  (l_need_people:K.lookup f_need_people=some ⟨oc_20,od_20,.func (PySem.W.fnOf "need_people" "need_people" (defArgs s_need_people) (defBody s_need_people) (defScope s_need_people) .none kV_20 dc_20 pm_20 an_20 cd_20 ct_20),sl_20⟩)
  (c_need_people:PySem.W.codeIn K cd_20 "need_people" = true)
  (k_need_people:PySem.W.keepIn K (.ref f_need_people)=true)
  (a_walked:PySem.W.nsIn K mainGlobals "walked" = some (some (.ref f_walked)))
  (l_walked:K.lookup f_walked=some ⟨oc_21,od_21,.func (PySem.W.fnOf "walked" "walked" (defArgs s_walked) (defBody s_walked) (defScope s_walked) .none kV_21 dc_21 pm_21 an_21 cd_21 ct_21),sl_21⟩)
  (c_walked:PySem.W.codeIn K cd_21 "walked" = true)
  (k_walked:PySem.W.keepIn K (.ref f_walked)=true)
  (a_walks:PySem.W.nsIn K mainGlobals "walks" = some (some (.ref f_walks)))
  (l_walks:K.lookup f_walks=some ⟨oc_22,od_22,.func (PySem.W.fnOf "walks" "walks" (defArgs s_walks) (defBody s_walks) (defScope s_walks) .none kV_22 dc_22 pm_22 an_22 cd_22 ct_22),sl_22⟩)
  (c_walks:PySem.W.codeIn K cd_22 "walks" = true)
  (k_walks:PySem.W.keepIn K (.ref f_walks)=true)
  (a_medians:PySem.W.nsIn K mainGlobals "medians" = some (some (.ref f_medians)))
  (l_medians:K.lookup f_medians=some ⟨oc_23,od_23,.func (PySem.W.fnOf "medians" "medians" (defArgs s_medians) (defBody s_medians) (defScope s_medians) .none kV_23 dc_23 pm_23 an_23 cd_23 ct_23),sl_23⟩)
  (c_medians:PySem.W.codeIn K cd_23 "medians" = true)
  (k_medians:PySem.W.keepIn K (.ref f_medians)=true)
  (a_Wells_init:PySem.W.findIn K (.ref C_Wells) "__init__" = some (some (.ref f_Wells_init)))
  (i_Wells_init:PySem.W.isFn K (.ref f_Wells_init)=true)
  (l_Wells_init:K.lookup f_Wells_init=some ⟨oc_24,od_24,.func (PySem.W.fnOf "__init__" "Wells.__init__" (defArgs s_Wells_init) (defBody s_Wells_init) (defScope s_Wells_init) .none kV_24 dc_24 pm_24 an_24 cd_24 ct_24),sl_24⟩)
  (c_Wells_init:PySem.W.codeIn K cd_24 "Wells.__init__" = true)
  (k_Wells_init:PySem.W.keepIn K (.ref f_Wells_init)=true)
  (a_how_many_near:PySem.W.nsIn K mainGlobals "how_many_near" = some (some (.ref f_how_many_near)))
  (l_how_many_near:K.lookup f_how_many_near=some ⟨oc_25,od_25,.func (PySem.W.fnOf "how_many_near" "how_many_near" (defArgs s_how_many_near) (defBody s_how_many_near) (defScope s_how_many_near) .none kV_25 dc_25 pm_25 an_25 cd_25 ct_25),sl_25⟩)
  (c_how_many_near:PySem.W.codeIn K cd_25 "how_many_near" = true)
  (k_how_many_near:PySem.W.keepIn K (.ref f_how_many_near)=true)
  (a_innermost_near:PySem.W.nsIn K mainGlobals "innermost_near" = some (some (.ref f_innermost_near)))
  (l_innermost_near:K.lookup f_innermost_near=some ⟨oc_26,od_26,.func (PySem.W.fnOf "innermost_near" "innermost_near" (defArgs s_innermost_near) (defBody s_innermost_near) (defScope s_innermost_near) .none kV_26 dc_26 pm_26 an_26 (.ref c_of_innermost_near) ct_26),sl_26⟩)
  (c_innermost_near:PySem.W.codeIn K (.ref c_of_innermost_near) "innermost_near" = true)
  (k_innermost_near:PySem.W.keepIn K (.ref f_innermost_near)=true)
  (a_fewest:PySem.W.nsIn K mainGlobals "fewest" = some (some (.ref f_fewest)))
  (l_fewest:K.lookup f_fewest=some ⟨oc_27,od_27,.func (PySem.W.fnOf "fewest" "fewest" (defArgs s_fewest) (defBody s_fewest) (defScope s_fewest) .none kV_27 dc_27 pm_27 an_27 (.ref c_of_fewest) ct_27),sl_27⟩)
  (c_fewest:PySem.W.codeIn K (.ref c_of_fewest) "fewest" = true)
  (k_fewest:PySem.W.keepIn K (.ref f_fewest)=true)
  (a_dug:PySem.W.nsIn K mainGlobals "dug" = some (some (.ref f_dug)))
  (l_dug:K.lookup f_dug=some ⟨oc_28,od_28,.func (PySem.W.fnOf "dug" "dug" (defArgs s_dug) (defBody s_dug) (defScope s_dug) .none kV_28 dc_28 pm_28 an_28 cd_28 ct_28),sl_28⟩)
  (c_dug:PySem.W.codeIn K cd_28 "dug" = true)
  (k_dug:PySem.W.keepIn K (.ref f_dug)=true)
  (a_least_walk:PySem.W.nsIn K mainGlobals "least_walk" = some (some (.ref f_least_walk)))
  (l_least_walk:K.lookup f_least_walk=some ⟨oc_29,od_29,.func (PySem.W.fnOf "least_walk" "least_walk" (defArgs s_least_walk) (defBody s_least_walk) (defScope s_least_walk) .none kV_29 dc_29 pm_29 an_29 cd_29 ct_29),sl_29⟩)
  (c_least_walk:PySem.W.codeIn K cd_29 "least_walk" = true)
  (k_least_walk:PySem.W.keepIn K (.ref f_least_walk)=true)
  (a__law_cell_at:PySem.W.nsIn K mainGlobals "_law_cell_at" = some (some (.ref f__law_cell_at)))
  (l__law_cell_at:K.lookup f__law_cell_at=some ⟨oc_30,od_30,.func (PySem.W.fnOf "_law_cell_at" "_law_cell_at" (defArgs s__law_cell_at) (defBody s__law_cell_at) (defScope s__law_cell_at) .none kV_30 dc_30 pm_30 an_30 cd_30 ct_30),sl_30⟩)
  (c__law_cell_at:PySem.W.codeIn K cd_30 "_law_cell_at" = true)
  (k__law_cell_at:PySem.W.keepIn K (.ref f__law_cell_at)=true)
  (a__law_sort:PySem.W.nsIn K mainGlobals "_law_sort" = some (some (.ref f__law_sort)))
  (l__law_sort:K.lookup f__law_sort=some ⟨oc_31,od_31,.func (PySem.W.fnOf "_law_sort" "_law_sort" (defArgs s__law_sort) (defBody s__law_sort) (defScope s__law_sort) .none kV_31 dc_31 pm_31 an_31 cd_31 ct_31),sl_31⟩)
  (c__law_sort:PySem.W.codeIn K cd_31 "_law_sort" = true)
  (k__law_sort:PySem.W.keepIn K (.ref f__law_sort)=true)
  (a__law_tree:PySem.W.nsIn K mainGlobals "_law_tree" = some (some (.ref f__law_tree)))
  (l__law_tree:K.lookup f__law_tree=some ⟨oc_32,od_32,.func (PySem.W.fnOf "_law_tree" "_law_tree" (defArgs s__law_tree) (defBody s__law_tree) (defScope s__law_tree) .none kV_32 dc_32 pm_32 an_32 cd_32 ct_32),sl_32⟩)
  (c__law_tree:PySem.W.codeIn K cd_32 "_law_tree" = true)
  (k__law_tree:PySem.W.keepIn K (.ref f__law_tree)=true)
  (a__law_ask:PySem.W.nsIn K mainGlobals "_law_ask" = some (some (.ref f__law_ask)))
  (l__law_ask:K.lookup f__law_ask=some ⟨oc_33,od_33,.func (PySem.W.fnOf "_law_ask" "_law_ask" (defArgs s__law_ask) (defBody s__law_ask) (defScope s__law_ask) .none kV_33 dc_33 pm_33 an_33 cd_33 ct_33),sl_33⟩)
  (c__law_ask:PySem.W.codeIn K cd_33 "_law_ask" = true)
  (k__law_ask:PySem.W.keepIn K (.ref f__law_ask)=true)
  (a__law_asked:PySem.W.nsIn K mainGlobals "_law_asked" = some (some (.ref f__law_asked)))
  (l__law_asked:K.lookup f__law_asked=some ⟨oc_34,od_34,.func (PySem.W.fnOf "_law_asked" "_law_asked" (defArgs s__law_asked) (defBody s__law_asked) (defScope s__law_asked) .none kV_34 dc_34 pm_34 an_34 cd_34 ct_34),sl_34⟩)
  (c__law_asked:PySem.W.codeIn K cd_34 "_law_asked" = true)
  (k__law_asked:PySem.W.keepIn K (.ref f__law_asked)=true)
  (a__law_all:PySem.W.nsIn K mainGlobals "_law_all" = some (some (.ref f__law_all)))
  (l__law_all:K.lookup f__law_all=some ⟨oc_35,od_35,.func (PySem.W.fnOf "_law_all" "_law_all" (defArgs s__law_all) (defBody s__law_all) (defScope s__law_all) .none kV_35 dc_35 pm_35 an_35 cd_35 ct_35),sl_35⟩)
  (c__law_all:PySem.W.codeIn K cd_35 "_law_all" = true)
  (k__law_all:PySem.W.keepIn K (.ref f__law_all)=true)
  (a__law_trees:PySem.W.nsIn K mainGlobals "_law_trees" = some (some (.ref f__law_trees)))
  (l__law_trees:K.lookup f__law_trees=some ⟨oc_36,od_36,.func (PySem.W.fnOf "_law_trees" "_law_trees" (defArgs s__law_trees) (defBody s__law_trees) (defScope s__law_trees) .none kV_36 dc_36 pm_36 an_36 cd_36 ct_36),sl_36⟩)
  (c__law_trees:PySem.W.codeIn K cd_36 "_law_trees" = true)
  (k__law_trees:PySem.W.keepIn K (.ref f__law_trees)=true)
  (a_law:PySem.W.nsIn K mainGlobals "law" = some (some (.ref f_law)))
  (l_law:K.lookup f_law=some ⟨oc_37,od_37,.func (PySem.W.fnOf "law" "law" (defArgs s_law) (defBody s_law) (defScope s_law) .none kV_37 dc_37 pm_37 an_37 cd_37 ct_37),sl_37⟩)
  (c_law:PySem.W.codeIn K cd_37 "law" = true)
  (k_law:PySem.W.keepIn K (.ref f_law)=true)
  (pg_Tree:PySem.W.plainGet K C_Tree Str.empty=true)
  (hd_Tree:PySem.W.hasDictIn K C_Tree=true)
  (po_Tree:PySem.W.plainOver K C_Tree=true)
  (sa_Tree:PySem.W.findIn K (.ref C_Tree) "__setattr__" = some (some (.builtin "object.__setattr__")))
  (mk_Tree:PySem.W.makesIn K C_Tree=true)
  (kc_Tree:PySem.W.keepIn K (.ref C_Tree)=true)
  (nA_Tree_road_list:PySem.W.findIn K (.ref C_Tree) "road_list" = some none)
  (nA_Tree_size:PySem.W.findIn K (.ref C_Tree) "size" = some none)
  (pg_Wells:PySem.W.plainGet K C_Wells Str.empty=true)
  (hd_Wells:PySem.W.hasDictIn K C_Wells=true)
  (po_Wells:PySem.W.plainOver K C_Wells=true)
  (sa_Wells:PySem.W.findIn K (.ref C_Wells) "__setattr__" = some (some (.builtin "object.__setattr__")))
  (mk_Wells:PySem.W.makesIn K C_Wells=true)
  (kc_Wells:PySem.W.keepIn K (.ref C_Wells)=true)
  (nA_Wells_callers:PySem.W.findIn K (.ref C_Wells) "callers" = some none)
  (nA_Wells_wells:PySem.W.findIn K (.ref C_Wells) "wells" = some none)
  (xa_RoadError:PySem.W.findIn K (.ref C_RoadError) "__getattribute__" = some (some (.builtin "BaseException.__getattribute__")))
  (xn_RoadError:PySem.W.findIn K (.ref C_RoadError) "__getattr__" = some none)
  (xc_RoadError:PySem.W.findIn K (.ref C_RoadError) "__class__" = some (some (.builtin "object.__class__")))
  (xb_RoadError:PySem.W.subIn K (.ref C_RoadError) (.type "BaseException")=some true)
  (xo_RoadError:PySem.W.subIn K (.ref C_RoadError) (.type "object")=some true)
  (xl_RoadError:PySem.W.isClsIn K C_RoadError=true)
  (xt_RoadError:PySem.W.typeIn K (.ref C_RoadError)=some (.type "type"))
  (xv_RoadError:PySem.W.subIn K (.ref C_RoadError) (.type "ValueError")=some true)
  (xr_RoadError:PySem.W.excIn K C_RoadError [.type "ValueError",.type "Exception",.type "BaseException",.type "object"] "ValueError.__new__" = true)
  (xk_RoadError_BadTree:PySem.W.subIn K (.ref C_RoadError) (.ref C_BadTree)=some false)
  (xq_RoadError_BadTree:(Value.ref C_RoadError == Value.ref C_BadTree)=false)
  (xk_RoadError_NoVillage:PySem.W.subIn K (.ref C_RoadError) (.ref C_NoVillage)=some false)
  (xq_RoadError_NoVillage:(Value.ref C_RoadError == Value.ref C_NoVillage)=false)
  (xk_RoadError_NoRoad:PySem.W.subIn K (.ref C_RoadError) (.ref C_NoRoad)=some false)
  (xq_RoadError_NoRoad:(Value.ref C_RoadError == Value.ref C_NoRoad)=false)
  (xk_RoadError_BadNumber:PySem.W.subIn K (.ref C_RoadError) (.ref C_BadNumber)=some false)
  (xq_RoadError_BadNumber:(Value.ref C_RoadError == Value.ref C_BadNumber)=false)
  (xa_BadTree:PySem.W.findIn K (.ref C_BadTree) "__getattribute__" = some (some (.builtin "BaseException.__getattribute__")))
  (xn_BadTree:PySem.W.findIn K (.ref C_BadTree) "__getattr__" = some none)
  (xc_BadTree:PySem.W.findIn K (.ref C_BadTree) "__class__" = some (some (.builtin "object.__class__")))
  (xb_BadTree:PySem.W.subIn K (.ref C_BadTree) (.type "BaseException")=some true)
  (xo_BadTree:PySem.W.subIn K (.ref C_BadTree) (.type "object")=some true)
  (xl_BadTree:PySem.W.isClsIn K C_BadTree=true)
  (xt_BadTree:PySem.W.typeIn K (.ref C_BadTree)=some (.type "type"))
  (xv_BadTree:PySem.W.subIn K (.ref C_BadTree) (.type "ValueError")=some true)
  (xr_BadTree:PySem.W.excIn K C_BadTree [.type "ValueError",.type "Exception",.type "BaseException",.type "object"] "ValueError.__new__" = true)
  (xk_BadTree_RoadError:PySem.W.subIn K (.ref C_BadTree) (.ref C_RoadError)=some true)
  (xq_BadTree_RoadError:(Value.ref C_BadTree == Value.ref C_RoadError)=false)
  (xk_BadTree_NoVillage:PySem.W.subIn K (.ref C_BadTree) (.ref C_NoVillage)=some false)
  (xq_BadTree_NoVillage:(Value.ref C_BadTree == Value.ref C_NoVillage)=false)
  (xk_BadTree_NoRoad:PySem.W.subIn K (.ref C_BadTree) (.ref C_NoRoad)=some false)
  (xq_BadTree_NoRoad:(Value.ref C_BadTree == Value.ref C_NoRoad)=false)
  (xk_BadTree_BadNumber:PySem.W.subIn K (.ref C_BadTree) (.ref C_BadNumber)=some false)
  (xq_BadTree_BadNumber:(Value.ref C_BadTree == Value.ref C_BadNumber)=false)
  (xa_NoVillage:PySem.W.findIn K (.ref C_NoVillage) "__getattribute__" = some (some (.builtin "BaseException.__getattribute__")))
  (xn_NoVillage:PySem.W.findIn K (.ref C_NoVillage) "__getattr__" = some none)
  (xc_NoVillage:PySem.W.findIn K (.ref C_NoVillage) "__class__" = some (some (.builtin "object.__class__")))
  (xb_NoVillage:PySem.W.subIn K (.ref C_NoVillage) (.type "BaseException")=some true)
  (xo_NoVillage:PySem.W.subIn K (.ref C_NoVillage) (.type "object")=some true)
  (xl_NoVillage:PySem.W.isClsIn K C_NoVillage=true)
  (xt_NoVillage:PySem.W.typeIn K (.ref C_NoVillage)=some (.type "type"))
  (xv_NoVillage:PySem.W.subIn K (.ref C_NoVillage) (.type "ValueError")=some true)
  (xr_NoVillage:PySem.W.excIn K C_NoVillage [.type "ValueError",.type "Exception",.type "BaseException",.type "object"] "ValueError.__new__" = true)
  (xk_NoVillage_RoadError:PySem.W.subIn K (.ref C_NoVillage) (.ref C_RoadError)=some true)
  (xq_NoVillage_RoadError:(Value.ref C_NoVillage == Value.ref C_RoadError)=false)
  (xk_NoVillage_BadTree:PySem.W.subIn K (.ref C_NoVillage) (.ref C_BadTree)=some false)
  (xq_NoVillage_BadTree:(Value.ref C_NoVillage == Value.ref C_BadTree)=false)
  (xk_NoVillage_NoRoad:PySem.W.subIn K (.ref C_NoVillage) (.ref C_NoRoad)=some false)
  (xq_NoVillage_NoRoad:(Value.ref C_NoVillage == Value.ref C_NoRoad)=false)
  (xk_NoVillage_BadNumber:PySem.W.subIn K (.ref C_NoVillage) (.ref C_BadNumber)=some false)
  (xq_NoVillage_BadNumber:(Value.ref C_NoVillage == Value.ref C_BadNumber)=false)
  (xa_NoRoad:PySem.W.findIn K (.ref C_NoRoad) "__getattribute__" = some (some (.builtin "BaseException.__getattribute__")))
  (xn_NoRoad:PySem.W.findIn K (.ref C_NoRoad) "__getattr__" = some none)
  (xc_NoRoad:PySem.W.findIn K (.ref C_NoRoad) "__class__" = some (some (.builtin "object.__class__")))
  (xb_NoRoad:PySem.W.subIn K (.ref C_NoRoad) (.type "BaseException")=some true)
  (xo_NoRoad:PySem.W.subIn K (.ref C_NoRoad) (.type "object")=some true)
  (xl_NoRoad:PySem.W.isClsIn K C_NoRoad=true)
  (xt_NoRoad:PySem.W.typeIn K (.ref C_NoRoad)=some (.type "type"))
  (xv_NoRoad:PySem.W.subIn K (.ref C_NoRoad) (.type "ValueError")=some true)
  (xr_NoRoad:PySem.W.excIn K C_NoRoad [.type "ValueError",.type "Exception",.type "BaseException",.type "object"] "ValueError.__new__" = true)
  (xk_NoRoad_RoadError:PySem.W.subIn K (.ref C_NoRoad) (.ref C_RoadError)=some true)
  (xq_NoRoad_RoadError:(Value.ref C_NoRoad == Value.ref C_RoadError)=false)
  (xk_NoRoad_BadTree:PySem.W.subIn K (.ref C_NoRoad) (.ref C_BadTree)=some false)
  (xq_NoRoad_BadTree:(Value.ref C_NoRoad == Value.ref C_BadTree)=false)
  (xk_NoRoad_NoVillage:PySem.W.subIn K (.ref C_NoRoad) (.ref C_NoVillage)=some false)
  (xq_NoRoad_NoVillage:(Value.ref C_NoRoad == Value.ref C_NoVillage)=false)
  (xk_NoRoad_BadNumber:PySem.W.subIn K (.ref C_NoRoad) (.ref C_BadNumber)=some false)
  (xq_NoRoad_BadNumber:(Value.ref C_NoRoad == Value.ref C_BadNumber)=false)
  (xa_BadNumber:PySem.W.findIn K (.ref C_BadNumber) "__getattribute__" = some (some (.builtin "BaseException.__getattribute__")))
  (xn_BadNumber:PySem.W.findIn K (.ref C_BadNumber) "__getattr__" = some none)
  (xc_BadNumber:PySem.W.findIn K (.ref C_BadNumber) "__class__" = some (some (.builtin "object.__class__")))
  (xb_BadNumber:PySem.W.subIn K (.ref C_BadNumber) (.type "BaseException")=some true)
  (xo_BadNumber:PySem.W.subIn K (.ref C_BadNumber) (.type "object")=some true)
  (xl_BadNumber:PySem.W.isClsIn K C_BadNumber=true)
  (xt_BadNumber:PySem.W.typeIn K (.ref C_BadNumber)=some (.type "type"))
  (xv_BadNumber:PySem.W.subIn K (.ref C_BadNumber) (.type "ValueError")=some true)
  (xr_BadNumber:PySem.W.excIn K C_BadNumber [.type "ValueError",.type "Exception",.type "BaseException",.type "object"] "ValueError.__new__" = true)
  (xk_BadNumber_RoadError:PySem.W.subIn K (.ref C_BadNumber) (.ref C_RoadError)=some true)
  (xq_BadNumber_RoadError:(Value.ref C_BadNumber == Value.ref C_RoadError)=false)
  (xk_BadNumber_BadTree:PySem.W.subIn K (.ref C_BadNumber) (.ref C_BadTree)=some false)
  (xq_BadNumber_BadTree:(Value.ref C_BadNumber == Value.ref C_BadTree)=false)
  (xk_BadNumber_NoVillage:PySem.W.subIn K (.ref C_BadNumber) (.ref C_NoVillage)=some false)
  (xq_BadNumber_NoVillage:(Value.ref C_BadNumber == Value.ref C_NoVillage)=false)
  (xk_BadNumber_NoRoad:PySem.W.subIn K (.ref C_BadNumber) (.ref C_NoRoad)=some false)
  (xq_BadNumber_NoRoad:(Value.ref C_BadNumber == Value.ref C_NoRoad)=false)
  (z_ValueError:PySem.W.nsIn K mainGlobals "ValueError" = some none)
  (z_all:PySem.W.nsIn K mainGlobals "all" = some none)
  (z_bool:PySem.W.nsIn K mainGlobals "bool" = some none)
  (z_dict:PySem.W.nsIn K mainGlobals "dict" = some none)
  (z_enumerate:PySem.W.nsIn K mainGlobals "enumerate" = some none)
  (z_int:PySem.W.nsIn K mainGlobals "int" = some none)
  (z_isinstance:PySem.W.nsIn K mainGlobals "isinstance" = some none)
  (z_len:PySem.W.nsIn K mainGlobals "len" = some none)
  (z_list:PySem.W.nsIn K mainGlobals "list" = some none)
  (z_min:PySem.W.nsIn K mainGlobals "min" = some none)
  (z_range:PySem.W.nsIn K mainGlobals "range" = some none)
  (z_set:PySem.W.nsIn K mainGlobals "set" = some none)
  (z_sorted:PySem.W.nsIn K mainGlobals "sorted" = some none)
  (z_sum:PySem.W.nsIn K mainGlobals "sum" = some none)
  (z_tuple:PySem.W.nsIn K mainGlobals "tuple" = some none)
  (z_zip:PySem.W.nsIn K mainGlobals "zip" = some none)
  (xl_BadRow:PySem.W.isClsIn K C_BadRow=true)
  (xt_BadRow:PySem.W.typeIn K (.ref C_BadRow)=some (.type "type"))
  (xk_BadTree_BadRow:PySem.W.subIn K (.ref C_BadTree) (.ref C_BadRow)=some false)
  (xq_BadTree_BadRow:(Value.ref C_BadTree == Value.ref C_BadRow)=false)
  (xk_NoVillage_BadRow:PySem.W.subIn K (.ref C_NoVillage) (.ref C_BadRow)=some false)
  (xq_NoVillage_BadRow:(Value.ref C_NoVillage == Value.ref C_BadRow)=false)
  (xk_NoRoad_BadRow:PySem.W.subIn K (.ref C_NoRoad) (.ref C_BadRow)=some false)
  (xq_NoRoad_BadRow:(Value.ref C_NoRoad == Value.ref C_BadRow)=false)
  (xk_BadNumber_BadRow:PySem.W.subIn K (.ref C_BadNumber) (.ref C_BadRow)=some false)
  (xq_BadNumber_BadRow:(Value.ref C_BadNumber == Value.ref C_BadRow)=false)
  (cPn:P_of_fewest≠P_of_innermost_near)
  (g_MOST_VILLAGES:PySem.W.nsIn K mainGlobals "MOST_VILLAGES" = some (some (.int 12 t_MOST_VILLAGES)))
  (g_MOST_LENGTH:PySem.W.nsIn K mainGlobals "MOST_LENGTH" = some (some (.int 1000000 t_MOST_LENGTH)))
  (g_MOST_PEOPLE:PySem.W.nsIn K mainGlobals "MOST_PEOPLE" = some (some (.int 1000000 t_MOST_PEOPLE)))
  (g_MOST_WALK:PySem.W.nsIn K mainGlobals "MOST_WALK" = some (some (.int 12000000 t_MOST_WALK)))
  (g_MOST_WELLS:PySem.W.nsIn K mainGlobals "MOST_WELLS" = some (some (.int 12 t_MOST_WELLS))) :
  ∃ fd:FuncData,(∀ (s:Shared) (v:Value),BindsTo s fd ⟨[v],[]⟩ [("_law_script",v)])∧∀ base:Heap,K.In base→base.Ns mainGlobals mg→Bm base mg→PySem.W.CodeHd base c_of_fewest P_of_fewest→PySem.W.CodeHd base c_of_innermost_near P_of_innermost_near→FnOk l.prog w K mg base CX0 11 fa fd ["_law_script"] (spLaw K P_of_fewest P_of_innermost_near):=by
 have e:=hfa.symm.trans (PySem.W.mg_of X G a_law)
 cases e
 have F_is_number:=fun_mk (st:=s_is_number) l_is_number c_is_number k_is_number
 have b_is_number:Binds K _ ["value"] []:=binds1 F_is_number fun _ _ _ _ _ _ _=>rfl
 have F_is_whole:=fun_mk (st:=s_is_whole) l_is_whole c_is_whole k_is_whole
 have b_is_whole:Binds K _ ["value", "least", "most"] []:=binds3 F_is_whole fun _ _ _ _ _ _ _ _ _=>rfl
 have F_is_road:=fun_mk (st:=s_is_road) l_is_road c_is_road k_is_road
 have b_is_road:Binds K _ ["road", "villages"] []:=binds2 F_is_road fun _ _ _ _ _ _ _ _=>rfl
 have F_is_tree:=fun_mk (st:=s_is_tree) l_is_tree c_is_tree k_is_tree
 have b_is_tree:Binds K _ ["villages", "roads"] []:=binds2 F_is_tree fun _ _ _ _ _ _ _ _=>rfl
 have F_steps:=fun_mk (st:=s_steps) l_steps c_steps k_steps
 have b_steps:Binds K _ ["roads", "village"] []:=binds2 F_steps fun _ _ _ _ _ _ _ _=>rfl
 have F_reached:=fun_mk (st:=s_reached) l_reached c_reached k_reached
 have b_reached:Binds K _ ["roads", "start"] []:=binds2 F_reached fun _ _ _ _ _ _ _ _=>rfl
 have F_Tree_init:=fun_mk (st:=s_Tree_init) l_Tree_init c_Tree_init k_Tree_init
 have b_Tree_init:Binds K _ ["self", "villages", "roads"] []:=binds3 F_Tree_init fun _ _ _ _ _ _ _ _ _=>rfl
 have F_Tree_roads:=fun_mk (st:=s_Tree_roads) l_Tree_roads c_Tree_roads k_Tree_roads
 have b_Tree_roads:Binds K _ ["self"] []:=binds1 F_Tree_roads fun _ _ _ _ _ _ _=>rfl
 have F_need_village:=fun_mk (st:=s_need_village) l_need_village c_need_village k_need_village
 have b_need_village:Binds K _ ["tree", "village"] []:=binds2 F_need_village fun _ _ _ _ _ _ _ _=>rfl
 have F_need_road:=fun_mk (st:=s_need_road) l_need_road c_need_road k_need_road
 have b_need_road:Binds K _ ["tree", "at"] []:=binds2 F_need_road fun _ _ _ _ _ _ _ _=>rfl
 have F_far:=fun_mk (st:=s_far) l_far c_far k_far
 have b_far:Binds K _ ["tree", "one", "other"] []:=binds3 F_far fun _ _ _ _ _ _ _ _ _=>rfl
 have F_way:=fun_mk (st:=s_way) l_way c_way k_way
 have b_way:Binds K _ ["tree", "one", "other"] []:=binds3 F_way fun _ _ _ _ _ _ _ _ _=>rfl
 have F_distances_from:=fun_mk (st:=s_distances_from) l_distances_from c_distances_from k_distances_from
 have b_distances_from:Binds K _ ["tree", "village"] []:=binds2 F_distances_from fun _ _ _ _ _ _ _ _=>rfl
 have F_distances:=fun_mk (st:=s_distances) l_distances c_distances k_distances
 have b_distances:Binds K _ ["tree"] []:=binds1 F_distances fun _ _ _ _ _ _ _=>rfl
 have F_sides:=fun_mk (st:=s_sides) l_sides c_sides k_sides
 have b_sides:Binds K _ ["tree", "at"] []:=binds2 F_sides fun _ _ _ _ _ _ _ _=>rfl
 have F_joined:=fun_mk (st:=s_joined) l_joined c_joined k_joined
 have b_joined:Binds K _ ["tree", "at", "other", "length"] []:=binds4 F_joined fun _ _ _ _ _ _ _ _ _ _=>rfl
 have F_moved:=fun_mk (st:=s_moved) l_moved c_moved k_moved
 have b_moved:Binds K _ ["tree", "at", "one", "other"] []:=binds4 F_moved fun _ _ _ _ _ _ _ _ _ _=>rfl
 have F_errand:=fun_mk (st:=s_errand) l_errand c_errand k_errand
 have b_errand:Binds K _ ["tree", "one", "other"] []:=binds3 F_errand fun _ _ _ _ _ _ _ _ _=>rfl
 have F_long:=fun_mk (st:=s_long) l_long c_long k_long
 have b_long:Binds K _ ["tree", "walk"] []:=binds2 F_long fun _ _ _ _ _ _ _ _=>rfl
 have F_least_places:=fun_mk (st:=s_least_places) l_least_places c_least_places k_least_places
 have b_least_places:Binds K _ ["numbers"] []:=binds1 F_least_places fun _ _ _ _ _ _ _=>rfl
 have F_need_people:=fun_mk (st:=s_need_people) l_need_people c_need_people k_need_people
 have b_need_people:Binds K _ ["tree", "people"] []:=binds2 F_need_people fun _ _ _ _ _ _ _ _=>rfl
 have F_walked:=fun_mk (st:=s_walked) l_walked c_walked k_walked
 have b_walked:Binds K _ ["people", "row"] []:=binds2 F_walked fun _ _ _ _ _ _ _ _=>rfl
 have F_walks:=fun_mk (st:=s_walks) l_walks c_walks k_walks
 have b_walks:Binds K _ ["tree", "people"] []:=binds2 F_walks fun _ _ _ _ _ _ _ _=>rfl
 have F_medians:=fun_mk (st:=s_medians) l_medians c_medians k_medians
 have b_medians:Binds K _ ["tree", "people"] []:=binds2 F_medians fun _ _ _ _ _ _ _ _=>rfl
 have F_Wells_init:=fun_mk (st:=s_Wells_init) l_Wells_init c_Wells_init k_Wells_init
 have b_Wells_init:Binds K _ ["self", "wells", "callers"] []:=binds3 F_Wells_init fun _ _ _ _ _ _ _ _ _=>rfl
 have F_how_many_near:=fun_mk (st:=s_how_many_near) l_how_many_near c_how_many_near k_how_many_near
 have b_how_many_near:Binds K _ ["row", "villages", "walk"] []:=binds3 F_how_many_near fun _ _ _ _ _ _ _ _ _=>rfl
 have F_innermost_near:=fun_mk (st:=s_innermost_near) l_innermost_near c_innermost_near k_innermost_near
 have b_innermost_near:Binds K _ ["row", "inwards", "walk"] []:=binds3 F_innermost_near fun _ _ _ _ _ _ _ _ _=>rfl
 have F_fewest:=fun_mk (st:=s_fewest) l_fewest c_fewest k_fewest
 have b_fewest:Binds K _ ["table", "walk"] []:=binds2 F_fewest fun _ _ _ _ _ _ _ _=>rfl
 have F_dug:=fun_mk (st:=s_dug) l_dug c_dug k_dug
 have b_dug:Binds K _ ["tree", "walk"] []:=binds2 F_dug fun _ _ _ _ _ _ _ _=>rfl
 have F_least_walk:=fun_mk (st:=s_least_walk) l_least_walk c_least_walk k_least_walk
 have b_least_walk:Binds K _ ["tree", "many"] []:=binds2 F_least_walk fun _ _ _ _ _ _ _ _=>rfl
 have F__law_cell_at:=fun_mk (st:=s__law_cell_at) l__law_cell_at c__law_cell_at k__law_cell_at
 have b__law_cell_at:Binds K _ ["_law_script", "_law_k"] []:=binds2 F__law_cell_at fun _ _ _ _ _ _ _ _=>rfl
 have F__law_sort:=fun_mk (st:=s__law_sort) l__law_sort c__law_sort k__law_sort
 have b__law_sort:Binds K _ ["_law_error"] []:=binds1 F__law_sort fun _ _ _ _ _ _ _=>rfl
 have F__law_tree:=fun_mk (st:=s__law_tree) l__law_tree c__law_tree k__law_tree
 have b__law_tree:Binds K _ ["_law_villages", "_law_roads"] []:=binds2 F__law_tree fun _ _ _ _ _ _ _ _=>rfl
 have F__law_ask:=fun_mk (st:=s__law_ask) l__law_ask c__law_ask k__law_ask
 have b__law_ask:Binds K _ ["_law_tree_here", "_law_door", "_law_thing"] []:=binds3 F__law_ask fun _ _ _ _ _ _ _ _ _=>rfl
 have F__law_asked:=fun_mk (st:=s__law_asked) l__law_asked c__law_asked k__law_asked
 have b__law_asked:Binds K _ ["_law_tree_here", "_law_door", "_law_thing"] []:=binds3 F__law_asked fun _ _ _ _ _ _ _ _ _=>rfl
 have F__law_all:=fun_mk (st:=s__law_all) l__law_all c__law_all k__law_all
 have b__law_all:Binds K _ ["_law_tree_here", "_law_doors", "_law_things", "_law_due"] []:=binds4 F__law_all fun _ _ _ _ _ _ _ _ _ _=>rfl
 have F__law_trees:=fun_mk (st:=s__law_trees) l__law_trees c__law_trees k__law_trees
 have b__law_trees:Binds K _ ["_law_more"] []:=binds1 F__law_trees fun _ _ _ _ _ _ _=>rfl
 have F_law:=fun_mk (st:=s_law) l_law c_law k_law
 have b_law:Binds K _ ["_law_script"] []:=binds1 F_law fun _ _ _ _ _ _ _=>rfl
 have TT:Txt K mg { f_is_number:=f_is_number,d_is_number:=_,f_is_whole:=f_is_whole,d_is_whole:=_,f_is_road:=f_is_road,d_is_road:=_,f_is_tree:=f_is_tree,d_is_tree:=_,f_steps:=f_steps,d_steps:=_,f_reached:=f_reached,d_reached:=_,f_Tree_init:=f_Tree_init,d_Tree_init:=_,f_Tree_roads:=f_Tree_roads,d_Tree_roads:=_,f_need_village:=f_need_village,d_need_village:=_,f_need_road:=f_need_road,d_need_road:=_,f_far:=f_far,d_far:=_,f_way:=f_way,d_way:=_,f_distances_from:=f_distances_from,d_distances_from:=_,f_distances:=f_distances,d_distances:=_,f_sides:=f_sides,d_sides:=_,f_joined:=f_joined,d_joined:=_,f_moved:=f_moved,d_moved:=_,f_errand:=f_errand,d_errand:=_,f_long:=f_long,d_long:=_,f_least_places:=f_least_places,d_least_places:=_,f_need_people:=f_need_people,d_need_people:=_,f_walked:=f_walked,d_walked:=_,f_walks:=f_walks,d_walks:=_,f_medians:=f_medians,d_medians:=_,f_Wells_init:=f_Wells_init,d_Wells_init:=_,f_how_many_near:=f_how_many_near,d_how_many_near:=_,f_innermost_near:=f_innermost_near,d_innermost_near:=_,f_fewest:=f_fewest,d_fewest:=_,f_dug:=f_dug,d_dug:=_,f_least_walk:=f_least_walk,d_least_walk:=_,f__law_cell_at:=f__law_cell_at,d__law_cell_at:=_,f__law_sort:=f__law_sort,d__law_sort:=_,f__law_tree:=f__law_tree,d__law_tree:=_,f__law_ask:=f__law_ask,d__law_ask:=_,f__law_asked:=f__law_asked,d__law_asked:=_,f__law_all:=f__law_all,d__law_all:=_,f__law_trees:=f__law_trees,d__law_trees:=_,f_law:=fa,d_law:=_,C_RoadError:=C_RoadError,C_BadTree:=C_BadTree,C_NoVillage:=C_NoVillage,C_NoRoad:=C_NoRoad,C_BadNumber:=C_BadNumber,C_BadRow:=C_BadRow,C_Tree:=C_Tree,C_Answer:=0,C_Wells:=C_Wells,k_MOST_VILLAGES:=t_MOST_VILLAGES,k_MOST_LENGTH:=t_MOST_LENGTH,k_MOST_PEOPLE:=t_MOST_PEOPLE,k_MOST_WALK:=t_MOST_WALK,k_MOST_WELLS:=t_MOST_WELLS,c_fewest:=c_of_fewest,P_fewest:=P_of_fewest,c_innermost_near:=c_of_innermost_near,P_innermost_near:=P_of_innermost_near }:={
  z_ValueError:=PySem.W.mg_none_of X G z_ValueError,
  z_all:=PySem.W.mg_none_of X G z_all,
  z_bool:=PySem.W.mg_none_of X G z_bool,
  z_dict:=PySem.W.mg_none_of X G z_dict,
  z_enumerate:=PySem.W.mg_none_of X G z_enumerate,
  z_int:=PySem.W.mg_none_of X G z_int,
  z_isinstance:=PySem.W.mg_none_of X G z_isinstance,
  z_len:=PySem.W.mg_none_of X G z_len,
  z_list:=PySem.W.mg_none_of X G z_list,
  z_min:=PySem.W.mg_none_of X G z_min,
  z_range:=PySem.W.mg_none_of X G z_range,
  z_set:=PySem.W.mg_none_of X G z_set,
  z_sorted:=PySem.W.mg_none_of X G z_sorted,
  z_sum:=PySem.W.mg_none_of X G z_sum,
  z_tuple:=PySem.W.mg_none_of X G z_tuple,
  z_zip:=PySem.W.mg_none_of X G z_zip,
  g_MOST_VILLAGES:=PySem.W.mg_of X G g_MOST_VILLAGES,
  g_MOST_LENGTH:=PySem.W.mg_of X G g_MOST_LENGTH,
  g_MOST_PEOPLE:=PySem.W.mg_of X G g_MOST_PEOPLE,
  g_MOST_WALK:=PySem.W.mg_of X G g_MOST_WALK,
  g_MOST_WELLS:=PySem.W.mg_of X G g_MOST_WELLS,
  m_BadRow:=PySem.W.mg_of X G aC_BadRow,
  o_BadTree_BadRow:=kitOne_ne xq_BadTree_BadRow (kitCls_of xl_BadRow xt_BadRow xk_BadTree_BadRow),
  o_NoVillage_BadRow:=kitOne_ne xq_NoVillage_BadRow (kitCls_of xl_BadRow xt_BadRow xk_NoVillage_BadRow),
  o_NoRoad_BadRow:=kitOne_ne xq_NoRoad_BadRow (kitCls_of xl_BadRow xt_BadRow xk_NoRoad_BadRow),
  o_BadNumber_BadRow:=kitOne_ne xq_BadNumber_BadRow (kitCls_of xl_BadRow xt_BadRow xk_BadNumber_BadRow),
  cd_fewest:=by unfold codeOf; rw [l_fewest],
  cd_innermost_near:=by unfold codeOf; rw [l_innermost_near],
  cP:=cPn,
  F_is_number:=F_is_number,
  b_is_number:=b_is_number,
  m_is_number:=PySem.W.mg_of X G a_is_number,
  F_is_whole:=F_is_whole,
  b_is_whole:=b_is_whole,
  m_is_whole:=PySem.W.mg_of X G a_is_whole,
  F_is_road:=F_is_road,
  b_is_road:=b_is_road,
  m_is_road:=PySem.W.mg_of X G a_is_road,
  F_is_tree:=F_is_tree,
  b_is_tree:=b_is_tree,
  m_is_tree:=PySem.W.mg_of X G a_is_tree,
  F_steps:=F_steps,
  b_steps:=b_steps,
  m_steps:=PySem.W.mg_of X G a_steps,
  F_reached:=F_reached,
  b_reached:=b_reached,
  m_reached:=PySem.W.mg_of X G a_reached,
  F_Tree_init:=F_Tree_init,
  b_Tree_init:=b_Tree_init,
  M_Tree:=⟨mk_Tree,a_Tree_init,i_Tree_init,kc_Tree⟩,
  F_Tree_roads:=F_Tree_roads,
  b_Tree_roads:=b_Tree_roads,
  M_Tree_roads:=⟨a_Tree_roads,i_Tree_roads,k_Tree_roads⟩,
  F_need_village:=F_need_village,
  b_need_village:=b_need_village,
  m_need_village:=PySem.W.mg_of X G a_need_village,
  F_need_road:=F_need_road,
  b_need_road:=b_need_road,
  m_need_road:=PySem.W.mg_of X G a_need_road,
  F_far:=F_far,
  b_far:=b_far,
  m_far:=PySem.W.mg_of X G a_far,
  F_way:=F_way,
  b_way:=b_way,
  m_way:=PySem.W.mg_of X G a_way,
  F_distances_from:=F_distances_from,
  b_distances_from:=b_distances_from,
  m_distances_from:=PySem.W.mg_of X G a_distances_from,
  F_distances:=F_distances,
  b_distances:=b_distances,
  m_distances:=PySem.W.mg_of X G a_distances,
  F_sides:=F_sides,
  b_sides:=b_sides,
  m_sides:=PySem.W.mg_of X G a_sides,
  F_joined:=F_joined,
  b_joined:=b_joined,
  m_joined:=PySem.W.mg_of X G a_joined,
  F_moved:=F_moved,
  b_moved:=b_moved,
  m_moved:=PySem.W.mg_of X G a_moved,
  F_errand:=F_errand,
  b_errand:=b_errand,
  m_errand:=PySem.W.mg_of X G a_errand,
  F_long:=F_long,
  b_long:=b_long,
  m_long:=PySem.W.mg_of X G a_long,
  F_least_places:=F_least_places,
  b_least_places:=b_least_places,
  m_least_places:=PySem.W.mg_of X G a_least_places,
  F_need_people:=F_need_people,
  b_need_people:=b_need_people,
  m_need_people:=PySem.W.mg_of X G a_need_people,
  F_walked:=F_walked,
  b_walked:=b_walked,
  m_walked:=PySem.W.mg_of X G a_walked,
  F_walks:=F_walks,
  b_walks:=b_walks,
  m_walks:=PySem.W.mg_of X G a_walks,
  F_medians:=F_medians,
  b_medians:=b_medians,
  m_medians:=PySem.W.mg_of X G a_medians,
  F_Wells_init:=F_Wells_init,
  b_Wells_init:=b_Wells_init,
  M_Wells:=⟨mk_Wells,a_Wells_init,i_Wells_init,kc_Wells⟩,
  F_how_many_near:=F_how_many_near,
  b_how_many_near:=b_how_many_near,
  m_how_many_near:=PySem.W.mg_of X G a_how_many_near,
  F_innermost_near:=F_innermost_near,
  b_innermost_near:=b_innermost_near,
  m_innermost_near:=PySem.W.mg_of X G a_innermost_near,
  F_fewest:=F_fewest,
  b_fewest:=b_fewest,
  m_fewest:=PySem.W.mg_of X G a_fewest,
  F_dug:=F_dug,
  b_dug:=b_dug,
  m_dug:=PySem.W.mg_of X G a_dug,
  F_least_walk:=F_least_walk,
  b_least_walk:=b_least_walk,
  m_least_walk:=PySem.W.mg_of X G a_least_walk,
  F__law_cell_at:=F__law_cell_at,
  b__law_cell_at:=b__law_cell_at,
  m__law_cell_at:=PySem.W.mg_of X G a__law_cell_at,
  F__law_sort:=F__law_sort,
  b__law_sort:=b__law_sort,
  m__law_sort:=PySem.W.mg_of X G a__law_sort,
  F__law_tree:=F__law_tree,
  b__law_tree:=b__law_tree,
  m__law_tree:=PySem.W.mg_of X G a__law_tree,
  F__law_ask:=F__law_ask,
  b__law_ask:=b__law_ask,
  m__law_ask:=PySem.W.mg_of X G a__law_ask,
  F__law_asked:=F__law_asked,
  b__law_asked:=b__law_asked,
  m__law_asked:=PySem.W.mg_of X G a__law_asked,
  F__law_all:=F__law_all,
  b__law_all:=b__law_all,
  m__law_all:=PySem.W.mg_of X G a__law_all,
  F__law_trees:=F__law_trees,
  b__law_trees:=b__law_trees,
  m__law_trees:=PySem.W.mg_of X G a__law_trees,
  F_law:=F_law,
  b_law:=b_law,
  m_law:=PySem.W.mg_of X G a_law,
  cl_Tree:=⟨pg_Tree,hd_Tree,po_Tree,sa_Tree⟩,
  m_Tree:=PySem.W.mg_of X G aC_Tree,
  n_Tree_road_list:=nA_Tree_road_list,
  n_Tree_size:=nA_Tree_size,
  cl_Wells:=⟨pg_Wells,hd_Wells,po_Wells,sa_Wells⟩,
  m_Wells:=PySem.W.mg_of X G aC_Wells,
  n_Wells_callers:=nA_Wells_callers,
  n_Wells_wells:=nA_Wells_wells,
  m_RoadError:=PySem.W.mg_of X G aC_RoadError,
  X_RoadError:=⟨xa_RoadError,xn_RoadError,xc_RoadError,xb_RoadError,xo_RoadError,xl_RoadError⟩,
  v_RoadError:=kitOne_val xv_RoadError,
  R_RoadError:=xr_RoadError,
  k_RoadError_RoadError:=kitOne_same _ _,
  k_RoadError_BadTree:=kitCls_of xl_BadTree xt_BadTree xk_RoadError_BadTree,
  o_RoadError_BadTree:=kitOne_ne xq_RoadError_BadTree (kitCls_of xl_BadTree xt_BadTree xk_RoadError_BadTree),
  k_RoadError_NoVillage:=kitCls_of xl_NoVillage xt_NoVillage xk_RoadError_NoVillage,
  o_RoadError_NoVillage:=kitOne_ne xq_RoadError_NoVillage (kitCls_of xl_NoVillage xt_NoVillage xk_RoadError_NoVillage),
  k_RoadError_NoRoad:=kitCls_of xl_NoRoad xt_NoRoad xk_RoadError_NoRoad,
  o_RoadError_NoRoad:=kitOne_ne xq_RoadError_NoRoad (kitCls_of xl_NoRoad xt_NoRoad xk_RoadError_NoRoad),
  k_RoadError_BadNumber:=kitCls_of xl_BadNumber xt_BadNumber xk_RoadError_BadNumber,
  o_RoadError_BadNumber:=kitOne_ne xq_RoadError_BadNumber (kitCls_of xl_BadNumber xt_BadNumber xk_RoadError_BadNumber),
  m_BadTree:=PySem.W.mg_of X G aC_BadTree,
  X_BadTree:=⟨xa_BadTree,xn_BadTree,xc_BadTree,xb_BadTree,xo_BadTree,xl_BadTree⟩,
  v_BadTree:=kitOne_val xv_BadTree,
  R_BadTree:=xr_BadTree,
  k_BadTree_RoadError:=kitCls_of xl_RoadError xt_RoadError xk_BadTree_RoadError,
  o_BadTree_RoadError:=kitOne_ne xq_BadTree_RoadError (kitCls_of xl_RoadError xt_RoadError xk_BadTree_RoadError),
  k_BadTree_BadTree:=kitOne_same _ _,
  k_BadTree_NoVillage:=kitCls_of xl_NoVillage xt_NoVillage xk_BadTree_NoVillage,
  o_BadTree_NoVillage:=kitOne_ne xq_BadTree_NoVillage (kitCls_of xl_NoVillage xt_NoVillage xk_BadTree_NoVillage),
  k_BadTree_NoRoad:=kitCls_of xl_NoRoad xt_NoRoad xk_BadTree_NoRoad,
  o_BadTree_NoRoad:=kitOne_ne xq_BadTree_NoRoad (kitCls_of xl_NoRoad xt_NoRoad xk_BadTree_NoRoad),
  k_BadTree_BadNumber:=kitCls_of xl_BadNumber xt_BadNumber xk_BadTree_BadNumber,
  o_BadTree_BadNumber:=kitOne_ne xq_BadTree_BadNumber (kitCls_of xl_BadNumber xt_BadNumber xk_BadTree_BadNumber),
  m_NoVillage:=PySem.W.mg_of X G aC_NoVillage,
  X_NoVillage:=⟨xa_NoVillage,xn_NoVillage,xc_NoVillage,xb_NoVillage,xo_NoVillage,xl_NoVillage⟩,
  v_NoVillage:=kitOne_val xv_NoVillage,
  R_NoVillage:=xr_NoVillage,
  k_NoVillage_RoadError:=kitCls_of xl_RoadError xt_RoadError xk_NoVillage_RoadError,
  o_NoVillage_RoadError:=kitOne_ne xq_NoVillage_RoadError (kitCls_of xl_RoadError xt_RoadError xk_NoVillage_RoadError),
  k_NoVillage_BadTree:=kitCls_of xl_BadTree xt_BadTree xk_NoVillage_BadTree,
  o_NoVillage_BadTree:=kitOne_ne xq_NoVillage_BadTree (kitCls_of xl_BadTree xt_BadTree xk_NoVillage_BadTree),
  k_NoVillage_NoVillage:=kitOne_same _ _,
  k_NoVillage_NoRoad:=kitCls_of xl_NoRoad xt_NoRoad xk_NoVillage_NoRoad,
  o_NoVillage_NoRoad:=kitOne_ne xq_NoVillage_NoRoad (kitCls_of xl_NoRoad xt_NoRoad xk_NoVillage_NoRoad),
  k_NoVillage_BadNumber:=kitCls_of xl_BadNumber xt_BadNumber xk_NoVillage_BadNumber,
  o_NoVillage_BadNumber:=kitOne_ne xq_NoVillage_BadNumber (kitCls_of xl_BadNumber xt_BadNumber xk_NoVillage_BadNumber),
  m_NoRoad:=PySem.W.mg_of X G aC_NoRoad,
  X_NoRoad:=⟨xa_NoRoad,xn_NoRoad,xc_NoRoad,xb_NoRoad,xo_NoRoad,xl_NoRoad⟩,
  v_NoRoad:=kitOne_val xv_NoRoad,
  R_NoRoad:=xr_NoRoad,
  k_NoRoad_RoadError:=kitCls_of xl_RoadError xt_RoadError xk_NoRoad_RoadError,
  o_NoRoad_RoadError:=kitOne_ne xq_NoRoad_RoadError (kitCls_of xl_RoadError xt_RoadError xk_NoRoad_RoadError),
  k_NoRoad_BadTree:=kitCls_of xl_BadTree xt_BadTree xk_NoRoad_BadTree,
  o_NoRoad_BadTree:=kitOne_ne xq_NoRoad_BadTree (kitCls_of xl_BadTree xt_BadTree xk_NoRoad_BadTree),
  k_NoRoad_NoVillage:=kitCls_of xl_NoVillage xt_NoVillage xk_NoRoad_NoVillage,
  o_NoRoad_NoVillage:=kitOne_ne xq_NoRoad_NoVillage (kitCls_of xl_NoVillage xt_NoVillage xk_NoRoad_NoVillage),
  k_NoRoad_NoRoad:=kitOne_same _ _,
  k_NoRoad_BadNumber:=kitCls_of xl_BadNumber xt_BadNumber xk_NoRoad_BadNumber,
  o_NoRoad_BadNumber:=kitOne_ne xq_NoRoad_BadNumber (kitCls_of xl_BadNumber xt_BadNumber xk_NoRoad_BadNumber),
  m_BadNumber:=PySem.W.mg_of X G aC_BadNumber,
  X_BadNumber:=⟨xa_BadNumber,xn_BadNumber,xc_BadNumber,xb_BadNumber,xo_BadNumber,xl_BadNumber⟩,
  v_BadNumber:=kitOne_val xv_BadNumber,
  R_BadNumber:=xr_BadNumber,
  k_BadNumber_RoadError:=kitCls_of xl_RoadError xt_RoadError xk_BadNumber_RoadError,
  o_BadNumber_RoadError:=kitOne_ne xq_BadNumber_RoadError (kitCls_of xl_RoadError xt_RoadError xk_BadNumber_RoadError),
  k_BadNumber_BadTree:=kitCls_of xl_BadTree xt_BadTree xk_BadNumber_BadTree,
  o_BadNumber_BadTree:=kitOne_ne xq_BadNumber_BadTree (kitCls_of xl_BadTree xt_BadTree xk_BadNumber_BadTree),
  k_BadNumber_NoVillage:=kitCls_of xl_NoVillage xt_NoVillage xk_BadNumber_NoVillage,
  o_BadNumber_NoVillage:=kitOne_ne xq_BadNumber_NoVillage (kitCls_of xl_NoVillage xt_NoVillage xk_BadNumber_NoVillage),
  k_BadNumber_NoRoad:=kitCls_of xl_NoRoad xt_NoRoad xk_BadNumber_NoRoad,
  o_BadNumber_NoRoad:=kitOne_ne xq_BadNumber_NoRoad (kitCls_of xl_NoRoad xt_NoRoad xk_BadNumber_NoRoad),
  k_BadNumber_BadNumber:=kitOne_same _ _ }
 exact ⟨_,fun s v=>.of_eq rfl,fun base _ _ hb h0 h1=>ok_law TT ⟨hb,h0,h1⟩⟩
theorem walk {l:PySem.W.OpenLaw} {q:Program} {loose:List Str} {XP:(Str→Option Value)→Heap→Prop} {YP:World→Heap→Prop} {d:DefRec} {K:Params→PySem.W.Frag} {c1 P1 c2 P2:Addr} (hn:l.most=some 63) (hdf:d.params.defaults=[])
  (hY:∀ (w:World) (h:Heap),YP w h→(K w.params).In h)
  (r1:((PyProof.Rows.recsOf q).find? (fun e=>e.name == ("fewest" : Str))).isSome=true) (r2:((PyProof.Rows.recsOf q).find? (fun e=>e.name == ("innermost_near" : Str))).isSome=true) (t1:∀ w:World,PySem.W.tabIn (K w.params) "fewest" = some (c1,P1)) (t2:∀ w:World,PySem.W.tabIn (K w.params) "innermost_near" = some (c2,P2))
  (n1:∀ w:World,(K w.params).lookup P1=none) (n2:∀ w:World,(K w.params).lookup P2=none)
  (F:∀ (w:World) (mg:Str→Option Value) (fa:Addr) (h:Heap),(K w.params).In h→h.Ns mainGlobals mg→mg d.name=some (.ref fa) →
   ∃ fd:FuncData,(∀ (s:Shared) (u:Value),BindsTo s fd ⟨[u],[]⟩ [("_law_script",u)])∧∀ base:Heap,(K w.params).In base→base.Ns mainGlobals mg→Bm base mg→PySem.W.CodeHd base c1 P1→PySem.W.CodeHd base c2 P2→FnOk l.prog w (K w.params) mg base CX0 11 fa fd ["_law_script"] (spLaw (K w.params) P1 P2)) :
  PySem.W.WalkO q loose XP YP l.row.toRowW d [] (fun f vs=>PySem.call f vs) :=
 L2.walk_ofT (n:=63) (k:=11) (x := "_law_script") (sp:=fun w=>spLaw (K w.params) P1 P2) hn (by decide) hdf ⟨rfl,by decide,by decide⟩ hY r1 r2 t1 t2 n1 n2 F (fun _ _ a ns hl h1 h2 hS=>⟨a,ns,rfl,hS,hl,h1,h2,fun _=>rfl⟩)
end WR
open PySem PySem.W PyProof.Rows
set_option hygiene false
local macro_rules | `(tactic| o_head $H)=>`(tactic| (
 refine holds_open (q:=WR.qv) (loose:=[]) (Xt:=(fun s=>xlAt WR.qv [] s&&recOk (RowW.records (OpenRow.toRowW (OpenLaw.row PySem.Challenge.rw_wellroads_k10_refused))) s)) (XP:=XL WR.qv []) (Yf:=Hook.obs $H) (Ya:=Hook.val $H) (YP:=Hook.says $H) (N:=6566) ?hl (Hook.of $H) (Hook.keeps $H) (fun s e=>xl_of s (Bool.and_eq_true_iff.mp e).1) XL.keeps (by rfl) (by rfl) (by rfl) (fun s e=>recFacts_of (Bool.and_eq_true_iff.mp e).2) (by rfl) (by first | assumption | decide +kernel) (by decide +kernel) ⟨rfl,rfl,rfl,rfl,rfl,by decide +kernel⟩ ?hw ?hc
 case hl=>(show LeftO PySem.Challenge.pw_wellroads_k10_refused WR.qv [] _ _ _ 6566 true; refine WR.left_two (m₀:=11) (ann:=some (.ref 6)) (by kernel_rfl) (by kernel_rfl) (fun s=>by kernel_rfl) (fun P=>by kernel_rfl) (fun w=>by kernel_rfl) WR.headA ?_; intro w os; rw [PySem.W.Fast.te4828769269382284359,PySem.W.Fast.te14364793385576792824]; rw [PySem.W.Fast.te17176156667996222624]; kernel_rfl)))
set_option hygiene true
open PySem PySem.W PyProof.Rows
set_option maxRecDepth 100000 in
set_option maxHeartbeats 0 in
theorem PySem.Challenge.cw_wellroads_k10_refused_holds : PySem.Challenge.rw_wellroads_k10_refused.Holds := by
  w_on; o_law; k_head; (case hw => w_witness2)
  k_fill
  refine' WR.walk (l := PySem.Challenge.rw_wellroads_k10_refused) rfl rfl (fun w h Y => PySem.W.km_in_of Y) ?r1 ?r2 ?t1 ?t2 ?n1 ?n2 ?F
  (case r1 => kernel_rfl)
  (case r2 => kernel_rfl)
  (case t1 => intro w; refine' WR.tabIn_of ?h1 ?h2 ?h3 ?h4; (case h1 => k_is); (case h2 => k_is); (case h3 => k_is); (case h4 => rfl))
  (case t2 => intro w; refine' WR.tabIn_of ?h1 ?h2 ?h3 ?h4; (case h1 => k_is); (case h2 => k_is); (case h3 => k_is); (case h4 => rfl))
  (case n1 => intro w; rfl)
  (case n2 => intro w; rfl)
  case F =>
    intro w mg fa h KX G hmg
    refine' WR.all_mk KX G hmg ?aC_Tree ?aC_Wells ?aC_RoadError ?aC_BadTree ?aC_NoVillage ?aC_NoRoad ?aC_BadNumber ?aC_BadRow ?a_is_number ?l_is_number ?c_is_number ?k_is_number ?a_is_whole ?l_is_whole ?c_is_whole ?k_is_whole ?a_is_road ?l_is_road ?c_is_road ?k_is_road ?a_is_tree ?l_is_tree ?c_is_tree ?k_is_tree ?a_steps ?l_steps ?c_steps ?k_steps ?a_reached ?l_reached ?c_reached ?k_reached ?a_Tree_init ?i_Tree_init ?l_Tree_init ?c_Tree_init ?k_Tree_init ?a_Tree_roads ?i_Tree_roads ?l_Tree_roads ?c_Tree_roads ?k_Tree_roads ?a_need_village ?l_need_village ?c_need_village ?k_need_village ?a_need_road ?l_need_road ?c_need_road ?k_need_road ?a_far ?l_far ?c_far ?k_far ?a_way ?l_way ?c_way ?k_way ?a_distances_from ?l_distances_from ?c_distances_from ?k_distances_from ?a_distances ?l_distances ?c_distances ?k_distances ?a_sides ?l_sides ?c_sides ?k_sides ?a_joined ?l_joined ?c_joined ?k_joined ?a_moved ?l_moved ?c_moved ?k_moved ?a_errand ?l_errand ?c_errand ?k_errand ?a_long ?l_long ?c_long ?k_long ?a_least_places ?l_least_places ?c_least_places ?k_least_places ?a_need_people ?l_need_people ?c_need_people ?k_need_people ?a_walked ?l_walked ?c_walked ?k_walked ?a_walks ?l_walks ?c_walks ?k_walks ?a_medians ?l_medians ?c_medians ?k_medians ?a_Wells_init ?i_Wells_init ?l_Wells_init ?c_Wells_init ?k_Wells_init ?a_how_many_near ?l_how_many_near ?c_how_many_near ?k_how_many_near ?a_innermost_near ?l_innermost_near ?c_innermost_near ?k_innermost_near ?a_fewest ?l_fewest ?c_fewest ?k_fewest ?a_dug ?l_dug ?c_dug ?k_dug ?a_least_walk ?l_least_walk ?c_least_walk ?k_least_walk ?a__law_cell_at ?l__law_cell_at ?c__law_cell_at ?k__law_cell_at ?a__law_sort ?l__law_sort ?c__law_sort ?k__law_sort ?a__law_tree ?l__law_tree ?c__law_tree ?k__law_tree ?a__law_ask ?l__law_ask ?c__law_ask ?k__law_ask ?a__law_asked ?l__law_asked ?c__law_asked ?k__law_asked ?a__law_all ?l__law_all ?c__law_all ?k__law_all ?a__law_trees ?l__law_trees ?c__law_trees ?k__law_trees ?a_law ?l_law ?c_law ?k_law ?pg_Tree ?hd_Tree ?po_Tree ?sa_Tree ?mk_Tree ?kc_Tree ?nA_Tree_road_list ?nA_Tree_size ?pg_Wells ?hd_Wells ?po_Wells ?sa_Wells ?mk_Wells ?kc_Wells ?nA_Wells_callers ?nA_Wells_wells ?xa_RoadError ?xn_RoadError ?xc_RoadError ?xb_RoadError ?xo_RoadError ?xl_RoadError ?xt_RoadError ?xv_RoadError ?xr_RoadError ?xk_RoadError_BadTree ?xq_RoadError_BadTree ?xk_RoadError_NoVillage ?xq_RoadError_NoVillage ?xk_RoadError_NoRoad ?xq_RoadError_NoRoad ?xk_RoadError_BadNumber ?xq_RoadError_BadNumber ?xa_BadTree ?xn_BadTree ?xc_BadTree ?xb_BadTree ?xo_BadTree ?xl_BadTree ?xt_BadTree ?xv_BadTree ?xr_BadTree ?xk_BadTree_RoadError ?xq_BadTree_RoadError ?xk_BadTree_NoVillage ?xq_BadTree_NoVillage ?xk_BadTree_NoRoad ?xq_BadTree_NoRoad ?xk_BadTree_BadNumber ?xq_BadTree_BadNumber ?xa_NoVillage ?xn_NoVillage ?xc_NoVillage ?xb_NoVillage ?xo_NoVillage ?xl_NoVillage ?xt_NoVillage ?xv_NoVillage ?xr_NoVillage ?xk_NoVillage_RoadError ?xq_NoVillage_RoadError ?xk_NoVillage_BadTree ?xq_NoVillage_BadTree ?xk_NoVillage_NoRoad ?xq_NoVillage_NoRoad ?xk_NoVillage_BadNumber ?xq_NoVillage_BadNumber ?xa_NoRoad ?xn_NoRoad ?xc_NoRoad ?xb_NoRoad ?xo_NoRoad ?xl_NoRoad ?xt_NoRoad ?xv_NoRoad ?xr_NoRoad ?xk_NoRoad_RoadError ?xq_NoRoad_RoadError ?xk_NoRoad_BadTree ?xq_NoRoad_BadTree ?xk_NoRoad_NoVillage ?xq_NoRoad_NoVillage ?xk_NoRoad_BadNumber ?xq_NoRoad_BadNumber ?xa_BadNumber ?xn_BadNumber ?xc_BadNumber ?xb_BadNumber ?xo_BadNumber ?xl_BadNumber ?xt_BadNumber ?xv_BadNumber ?xr_BadNumber ?xk_BadNumber_RoadError ?xq_BadNumber_RoadError ?xk_BadNumber_BadTree ?xq_BadNumber_BadTree ?xk_BadNumber_NoVillage ?xq_BadNumber_NoVillage ?xk_BadNumber_NoRoad ?xq_BadNumber_NoRoad ?z_ValueError ?z_all ?z_bool ?z_dict ?z_enumerate ?z_int ?z_isinstance ?z_len ?z_list ?z_min ?z_range ?z_set ?z_sorted ?z_sum ?z_tuple ?z_zip ?xl_BadRow ?xt_BadRow ?xk_BadTree_BadRow ?xq_BadTree_BadRow ?xk_NoVillage_BadRow ?xq_NoVillage_BadRow ?xk_NoRoad_BadRow ?xq_NoRoad_BadRow ?xk_BadNumber_BadRow ?xq_BadNumber_BadRow ?cPn ?g_MOST_VILLAGES ?g_MOST_LENGTH ?g_MOST_PEOPLE ?g_MOST_WALK ?g_MOST_WELLS
    (case aC_Tree => k_is)
    (case aC_Wells => k_is)
    (case aC_RoadError => k_is)
    (case aC_BadTree => k_is)
    (case aC_NoVillage => k_is)
    (case aC_NoRoad => k_is)
    (case aC_BadNumber => k_is)
    (case aC_BadRow => k_is)
    (case a_is_number => k_is)
    (case l_is_number => k_is)
    (case c_is_number => k_is)
    (case k_is_number => k_is)
    (case a_is_whole => k_is)
    (case l_is_whole => k_is)
    (case c_is_whole => k_is)
    (case k_is_whole => k_is)
    (case a_is_road => k_is)
    (case l_is_road => k_is)
    (case c_is_road => k_is)
    (case k_is_road => k_is)
    (case a_is_tree => k_is)
    (case l_is_tree => k_is)
    (case c_is_tree => k_is)
    (case k_is_tree => k_is)
    (case a_steps => k_is)
    (case l_steps => k_is)
    (case c_steps => k_is)
    (case k_steps => k_is)
    (case a_reached => k_is)
    (case l_reached => k_is)
    (case c_reached => k_is)
    (case k_reached => k_is)
    (case a_Tree_init => k_is)
    (case i_Tree_init => k_is)
    (case l_Tree_init => k_is)
    (case c_Tree_init => k_is)
    (case k_Tree_init => k_is)
    (case a_Tree_roads => k_is)
    (case i_Tree_roads => k_is)
    (case l_Tree_roads => k_is)
    (case c_Tree_roads => k_is)
    (case k_Tree_roads => k_is)
    (case a_need_village => k_is)
    (case l_need_village => k_is)
    (case c_need_village => k_is)
    (case k_need_village => k_is)
    (case a_need_road => k_is)
    (case l_need_road => k_is)
    (case c_need_road => k_is)
    (case k_need_road => k_is)
    (case a_far => k_is)
    (case l_far => k_is)
    (case c_far => k_is)
    (case k_far => k_is)
    (case a_way => k_is)
    (case l_way => k_is)
    (case c_way => k_is)
    (case k_way => k_is)
    (case a_distances_from => k_is)
    (case l_distances_from => k_is)
    (case c_distances_from => k_is)
    (case k_distances_from => k_is)
    (case a_distances => k_is)
    (case l_distances => k_is)
    (case c_distances => k_is)
    (case k_distances => k_is)
    (case a_sides => k_is)
    (case l_sides => k_is)
    (case c_sides => k_is)
    (case k_sides => k_is)
    (case a_joined => k_is)
    (case l_joined => k_is)
    (case c_joined => k_is)
    (case k_joined => k_is)
    (case a_moved => k_is)
    (case l_moved => k_is)
    (case c_moved => k_is)
    (case k_moved => k_is)
    (case a_errand => k_is)
    (case l_errand => k_is)
    (case c_errand => k_is)
    (case k_errand => k_is)
    (case a_long => k_is)
    (case l_long => k_is)
    (case c_long => k_is)
    (case k_long => k_is)
    (case a_least_places => k_is)
    (case l_least_places => k_is)
    (case c_least_places => k_is)
    (case k_least_places => k_is)
    (case a_need_people => k_is)
    (case l_need_people => k_is)
    (case c_need_people => k_is)
    (case k_need_people => k_is)
    (case a_walked => k_is)
    (case l_walked => k_is)
    (case c_walked => k_is)
    (case k_walked => k_is)
    (case a_walks => k_is)
    (case l_walks => k_is)
    (case c_walks => k_is)
    (case k_walks => k_is)
    (case a_medians => k_is)
    (case l_medians => k_is)
    (case c_medians => k_is)
    (case k_medians => k_is)
    (case a_Wells_init => k_is)
    (case i_Wells_init => k_is)
    (case l_Wells_init => k_is)
    (case c_Wells_init => k_is)
    (case k_Wells_init => k_is)
    (case a_how_many_near => k_is)
    (case l_how_many_near => k_is)
    (case c_how_many_near => k_is)
    (case k_how_many_near => k_is)
    (case a_innermost_near => k_is)
    (case l_innermost_near => k_is)
    (case c_innermost_near => k_is)
    (case k_innermost_near => k_is)
    (case a_fewest => k_is)
    (case l_fewest => k_is)
    (case c_fewest => k_is)
    (case k_fewest => k_is)
    (case a_dug => k_is)
    (case l_dug => k_is)
    (case c_dug => k_is)
    (case k_dug => k_is)
    (case a_least_walk => k_is)
    (case l_least_walk => k_is)
    (case c_least_walk => k_is)
    (case k_least_walk => k_is)
    (case a__law_cell_at => k_is)
    (case l__law_cell_at => k_is)
    (case c__law_cell_at => k_is)
    (case k__law_cell_at => k_is)
    (case a__law_sort => k_is)
    (case l__law_sort => k_is)
    (case c__law_sort => k_is)
    (case k__law_sort => k_is)
    (case a__law_tree => k_is)
    (case l__law_tree => k_is)
    (case c__law_tree => k_is)
    (case k__law_tree => k_is)
    (case a__law_ask => k_is)
    (case l__law_ask => k_is)
    (case c__law_ask => k_is)
    (case k__law_ask => k_is)
    (case a__law_asked => k_is)
    (case l__law_asked => k_is)
    (case c__law_asked => k_is)
    (case k__law_asked => k_is)
    (case a__law_all => k_is)
    (case l__law_all => k_is)
    (case c__law_all => k_is)
    (case k__law_all => k_is)
    (case a__law_trees => k_is)
    (case l__law_trees => k_is)
    (case c__law_trees => k_is)
    (case k__law_trees => k_is)
    (case a_law => k_is)
    (case l_law => k_is)
    (case c_law => k_is)
    (case k_law => k_is)
    (case pg_Tree => k_is)
    (case hd_Tree => k_is)
    (case po_Tree => k_is)
    (case sa_Tree => k_is)
    (case mk_Tree => k_is)
    (case kc_Tree => k_is)
    (case nA_Tree_road_list => k_is)
    (case nA_Tree_size => k_is)
    (case pg_Wells => k_is)
    (case hd_Wells => k_is)
    (case po_Wells => k_is)
    (case sa_Wells => k_is)
    (case mk_Wells => k_is)
    (case kc_Wells => k_is)
    (case nA_Wells_callers => k_is)
    (case nA_Wells_wells => k_is)
    (case xa_RoadError => k_is)
    (case xn_RoadError => k_is)
    (case xc_RoadError => k_is)
    (case xb_RoadError => k_is)
    (case xo_RoadError => k_is)
    (case xl_RoadError => k_is)
    (case xt_RoadError => k_is)
    (case xv_RoadError => k_is)
    (case xr_RoadError => k_exc)
    (case xk_RoadError_BadTree => k_is)
    (case xq_RoadError_BadTree => rfl)
    (case xk_RoadError_NoVillage => k_is)
    (case xq_RoadError_NoVillage => rfl)
    (case xk_RoadError_NoRoad => k_is)
    (case xq_RoadError_NoRoad => rfl)
    (case xk_RoadError_BadNumber => k_is)
    (case xq_RoadError_BadNumber => rfl)
    (case xa_BadTree => k_is)
    (case xn_BadTree => k_is)
    (case xc_BadTree => k_is)
    (case xb_BadTree => k_is)
    (case xo_BadTree => k_is)
    (case xl_BadTree => k_is)
    (case xt_BadTree => k_is)
    (case xv_BadTree => k_is)
    (case xr_BadTree => k_exc)
    (case xk_BadTree_RoadError => k_is)
    (case xq_BadTree_RoadError => rfl)
    (case xk_BadTree_NoVillage => k_is)
    (case xq_BadTree_NoVillage => rfl)
    (case xk_BadTree_NoRoad => k_is)
    (case xq_BadTree_NoRoad => rfl)
    (case xk_BadTree_BadNumber => k_is)
    (case xq_BadTree_BadNumber => rfl)
    (case xa_NoVillage => k_is)
    (case xn_NoVillage => k_is)
    (case xc_NoVillage => k_is)
    (case xb_NoVillage => k_is)
    (case xo_NoVillage => k_is)
    (case xl_NoVillage => k_is)
    (case xt_NoVillage => k_is)
    (case xv_NoVillage => k_is)
    (case xr_NoVillage => k_exc)
    (case xk_NoVillage_RoadError => k_is)
    (case xq_NoVillage_RoadError => rfl)
    (case xk_NoVillage_BadTree => k_is)
    (case xq_NoVillage_BadTree => rfl)
    (case xk_NoVillage_NoRoad => k_is)
    (case xq_NoVillage_NoRoad => rfl)
    (case xk_NoVillage_BadNumber => k_is)
    (case xq_NoVillage_BadNumber => rfl)
    (case xa_NoRoad => k_is)
    (case xn_NoRoad => k_is)
    (case xc_NoRoad => k_is)
    (case xb_NoRoad => k_is)
    (case xo_NoRoad => k_is)
    (case xl_NoRoad => k_is)
    (case xt_NoRoad => k_is)
    (case xv_NoRoad => k_is)
    (case xr_NoRoad => k_exc)
    (case xk_NoRoad_RoadError => k_is)
    (case xq_NoRoad_RoadError => rfl)
    (case xk_NoRoad_BadTree => k_is)
    (case xq_NoRoad_BadTree => rfl)
    (case xk_NoRoad_NoVillage => k_is)
    (case xq_NoRoad_NoVillage => rfl)
    (case xk_NoRoad_BadNumber => k_is)
    (case xq_NoRoad_BadNumber => rfl)
    (case xa_BadNumber => k_is)
    (case xn_BadNumber => k_is)
    (case xc_BadNumber => k_is)
    (case xb_BadNumber => k_is)
    (case xo_BadNumber => k_is)
    (case xl_BadNumber => k_is)
    (case xt_BadNumber => k_is)
    (case xv_BadNumber => k_is)
    (case xr_BadNumber => k_exc)
    (case xk_BadNumber_RoadError => k_is)
    (case xq_BadNumber_RoadError => rfl)
    (case xk_BadNumber_BadTree => k_is)
    (case xq_BadNumber_BadTree => rfl)
    (case xk_BadNumber_NoVillage => k_is)
    (case xq_BadNumber_NoVillage => rfl)
    (case xk_BadNumber_NoRoad => k_is)
    (case xq_BadNumber_NoRoad => rfl)
    (case z_ValueError => k_is)
    (case z_all => k_is)
    (case z_bool => k_is)
    (case z_dict => k_is)
    (case z_enumerate => k_is)
    (case z_int => k_is)
    (case z_isinstance => k_is)
    (case z_len => k_is)
    (case z_list => k_is)
    (case z_min => k_is)
    (case z_range => k_is)
    (case z_set => k_is)
    (case z_sorted => k_is)
    (case z_sum => k_is)
    (case z_tuple => k_is)
    (case z_zip => k_is)
    (case xl_BadRow => k_is)
    (case xt_BadRow => k_is)
    (case xk_BadTree_BadRow => k_is)
    (case xq_BadTree_BadRow => rfl)
    (case xk_NoVillage_BadRow => k_is)
    (case xq_NoVillage_BadRow => rfl)
    (case xk_NoRoad_BadRow => k_is)
    (case xq_NoRoad_BadRow => rfl)
    (case xk_BadNumber_BadRow => k_is)
    (case xq_BadNumber_BadRow => rfl)
    (case cPn => decide)
    (case g_MOST_VILLAGES => k_is)
    (case g_MOST_LENGTH => k_is)
    (case g_MOST_PEOPLE => k_is)
    (case g_MOST_WALK => k_is)
    (case g_MOST_WELLS => k_is)
